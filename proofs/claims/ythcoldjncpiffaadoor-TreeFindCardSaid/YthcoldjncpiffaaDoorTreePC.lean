/- The program's trees: which stamps may hold, a stamp's node, a parent's nodes. -/
import Derived.Test.YthcoldjncpiffaaDoorTreePA
import Derived.Test.YthcoldjncpiffaaDoorTreePB
import Derived.Test.YthcoldjncpiffaaDoorTreeW
namespace Go.Proofs.YthcoldjncpiffaaDoor.W
set_option linter.unusedVariables false
open Go.RowKit Go.Proofs Arb

/-- 'append(s, x)' of one node, its block told by a number. -/
theorem wpList_append_ndg {ops : Array Oper} {rest : List Oper} {o : Oper} {a : Act} {w : World} {Q : Exit → Act → World → Prop} (hgd : o.guard = none) (s x : Operand)
    (ho : o.op = .call { callee := .builtin .append, args := #[s, x], argTypes := #[25, 25] })
    (base : Nat) (v : Value) (n : Nat) (l : List Nod) (hs : a.eval s = v) (hown : Row w base 37 7 v n (ndsCells l))
    (y : Nod) (cs : Array Value) (hcs : cs = ndArr y) (g : Nat) (hg : g = w.heap.size) (hx : a.eval x = .slice (some ⟨g, 0, none⟩) 1 1)
    (h63 : n ≤ 1000000) (hbase : base ≤ w.heap.size)
    (h : ∀ v' w', Row w' base 37 7 v' (n + 1) (ndsCells (l ++ [y])) → Below base w w' → wpList Tryd.prog ops Q rest (a.put o.dst v') w') :
    wpList Tryd.prog ops Q (o :: rest) a (w.alloc (.cells cs 37)) := by
  subst hg
  exact wpList_append_nd hgd s x ho base v n l hs hown y cs hcs hx h63 hbase h

/-- The two variables of the package: the trash, the root. -/
structure TMet (w : World) : Prop where
  t0 : w.cell? ⟨0, 0, none⟩ = some (.int .i64 0)
  t1 : w.cell? ⟨0, 1, none⟩ = some (.int .i64 1)
  r0 : w.cell? ⟨1, 0, none⟩ = some (.int .i64 0)
  r1 : w.cell? ⟨1, 1, none⟩ = some (.int .i64 0)
theorem TMet.size {w : World} (h : TMet w) : 1 < w.heap.size := World.block_lt_of_cell? w _ h.r0
theorem TMet.below {w w' : World} {B : Nat} (h : TMet w) (hb : Below B w w') (hB : 1 < B) : TMet w' :=
  ⟨(hb.cell (p := ⟨0, 0, none⟩) (by show 0 < B; omega)).trans h.t0, (hb.cell (p := ⟨0, 1, none⟩) (by show 0 < B; omega)).trans h.t1, (hb.cell (p := ⟨1, 0, none⟩) hB).trans h.r0, (hb.cell (p := ⟨1, 1, none⟩) hB).trans h.r1⟩
theorem TMet.on {w w' : World} (h : TMet w) (hb : Below w.heap.size w w') : TMet w' := h.below hb h.size

set_option maxRecDepth 20000 in
set_option maxHeartbeats 4000000 in
theorem pmayHold_any (v : Value) (l : List Nod) (s : St) (w : World) (h : Nods w v l) (hl : l.length ≤ 1000000) (hT : TMet w) :
    Calls Tryd.prog 45 #[v, .agg #[.int .i64 s.count, .int .i64 s.who]] w fun e w' => e = .returned (.bool (mayOf l s)) ∧ Below w.heap.size w w' := by
  obtain ⟨r, hr⟩ : ∃ r, mayOf l s = r := ⟨_, rfl⟩
  rw [hr]
  have hp := fun w h => pplace_any v l s w h hl
  have hb0 : Below w.heap.size w (w.alloc (.cells #[.int .i64 s.count, .int .i64 s.who] 30)) := (Below.refl _ _).alloc (Nat.le_refl _) _
  have ha0 : (w.alloc (.cells #[.int .i64 s.count, .int .i64 s.who] 30)).cell? ⟨w.heap.size, 0, none⟩ = some (.int .i64 s.count) := by rw [cell_of_row _ _ _ _ _ _ (heap_alloc_new w _)]; rfl
  have ha1 : (w.alloc (.cells #[.int .i64 s.count, .int .i64 s.who] 30)).cell? ⟨w.heap.size, 1, none⟩ = some (.int .i64 s.who) := by rw [cell_of_row _ _ _ _ _ _ (heap_alloc_new w _)]; rfl
  have hlt0 : w.heap.size < (w.alloc (.cells #[.int .i64 s.count, .int .i64 s.who] 30)).heap.size := by simp
  have hv1 := h.below hb0
  have hT1 := hT.on hb0
  obtain ⟨-, -, t2, t3⟩ := hT1
  have hq := fun w => eq_st s St.zero w
  obtain ⟨z, hz⟩ : ∃ z, decide (s = St.zero) = z := ⟨_, rfl⟩
  rw [hz] at hq
  simp only [St.zero] at hq
  obtain ⟨W1, hW1⟩ : ∃ W, w.alloc (.cells #[.int .i64 s.count, .int .i64 s.who] 30) = W := ⟨_, rfl⟩
  rw [hW1] at hb0 ha0 ha1 hlt0 hv1
  have HB0 := Go.Lib.hid hb0; have HV1 := Go.Lib.hid hv1; have HW1 := Go.Lib.hid hW1; have HR := Go.Lib.hid hr; have HZ := Go.Lib.hid hz
  clear hb0 hv1 hW1 hr hz hT
  cases z
  · cases hf : findOf l s with
    | none =>
      have ha : atI l s = -1 := by unfold atI; rw [hf]
      simp only [ha] at hp
      have hres : r = false := by rw [← HR.out]; unfold mayOf; rw [hf, HZ.out]; rfl
      subst hres
      have HP := Go.Lib.hid hp
      clear hp h hf ha
      go_enter Tryd.func45, Tryd.ntmps45
      go_wp2_with fail
      rw [HW1.out]
      go_wp2_with fail
      refine (HP.out _ HV1.out).mono ?_; rintro _ w2 ⟨rfl, hb2⟩
      have HB2 := Go.Lib.hid (bstep HB0.out hb2); clear hb2
      go_wp2_with fail
      go_ret
      exact ⟨rfl, HB2.out⟩
    | some n =>
      obtain ⟨k, hk⟩ : ∃ k, atOf l s = k := ⟨_, rfl⟩
      have ha : atI l s = (k : Int) := by unfold atI; rw [hf, ← hk]
      obtain ⟨hg, hlt⟩ := at_get hf
      rw [hk] at hg hlt
      simp only [ha] at hp
      have hres : n.dir = r := by rw [← HR.out]; unfold mayOf; rw [hf, HZ.out]; rfl
      obtain ⟨A, c, rfl, hc⟩ := h.len
      obtain ⟨N, hN⟩ : ∃ N, l.length = N := ⟨_, rfl⟩
      rw [hN] at HV1 hp hlt hc hl
      rw [hN]
      have HP := Go.Lib.hid hp; have HG := Go.Lib.hid hg; have HRES := Go.Lib.hid hres
      clear hp h hf ha hk hg hres hN
      have hki : (k : Int) < (N : Int) := by omega
      go_enter Tryd.func45, Tryd.ntmps45
      go_wp2_with fail
      rw [HW1.out]
      go_wp2_with fail
      refine (HP.out _ HV1.out).mono ?_; rintro _ w2 ⟨rfl, hb2⟩
      obtain ⟨b1, o1, x, rfl, hg1, hx⟩ := (HV1.out.below hb2).at k hlt
      obtain ⟨c0, c1, c2, c3, c4, c5, c6⟩ := nd_cells hx
      obtain rfl : x = n := by have := HG.out; rw [hg1] at this; injection this
      have HB2 := Go.Lib.hid (bstep HB0.out hb2); clear hb2 hx hg1
      go_wp2_with fail
      go_ret
      exact ⟨by rw [HRES.out]; rfl, HB2.out⟩
  · have hres : r = true := by rw [← HR.out]; unfold mayOf; rw [HZ.out]; rfl
    subst hres
    clear hp h
    go_enter Tryd.func45, Tryd.ntmps45
    go_wp2_with fail
    try rw [HW1.out]
    go_wp2_with fail
    go_ret
    exact ⟨rfl, HB0.out⟩

set_option maxRecDepth 20000 in
set_option maxHeartbeats 4000000 in
theorem ptfind_any (v : Value) (l : List Nod) (s : St) (w : World) (h : Nods w v l) (hl : l.length ≤ 1000) (hwf : ∀ n ∈ l, ndWf n) :
    Calls Tryd.prog 19 #[v, .agg #[.int .i64 s.count, .int .i64 s.who]] w fun e w' => e = .returned (.tuple #[ndVal (foundOf l s).1, .bool (foundOf l s).2]) ∧ Below w.heap.size w w' := by
  have hc := fun w h => pplace_any v l s w h (by omega)
  obtain ⟨A, c, rfl, hcc⟩ := h.len
  obtain ⟨W1, hW1⟩ : ∃ W, ((w.alloc (.cells #[.int .i64 s.count, .int .i64 s.who] 30)).alloc (.cells (ndArr Nod.zero) 37)) = W := ⟨_, rfl⟩
  have hb0 : Below w.heap.size w W1 := by rw [← hW1]; exact ((Below.refl _ _).alloc (Nat.le_refl _) _).alloc (by simp) _
  have hst : W1.heap[w.heap.size]? = some (.cells #[.int .i64 s.count, .int .i64 s.who] 30 (0, 0)) := by
    rw [← hW1]
    have h1 := heap_alloc_new w (.cells #[.int .i64 s.count, .int .i64 s.who] 30)
    exact (Below.heap_alloc _ _ _ (Array.getElem?_eq_some_iff.1 h1).1).trans h1
  have ha0 : W1.cell? ⟨w.heap.size, 0, none⟩ = some (.int .i64 s.count) := by rw [cell_of_row _ _ _ _ _ _ hst]; rfl
  have ha1 : W1.cell? ⟨w.heap.size, 1, none⟩ = some (.int .i64 s.who) := by rw [cell_of_row _ _ _ _ _ _ hst]; rfl
  have hres : ∀ w', Below W1.heap.size W1 w' → w'.heap[w.heap.size + 1]? = some (.cells #[.int .i64 0, .int .i64 0, .bool false, .int .i64 0, .int .i64 0, .string ⟨#[]⟩, .string ⟨#[]⟩] 37 (0, 0)) := fun w' hb => by
    have h1 : W1.heap[w.heap.size + 1]? = some (.cells (ndArr Nod.zero) 37 (0, 0)) := by
      rw [← hW1]
      have := heap_alloc_new (w.alloc (.cells #[.int .i64 s.count, .int .i64 s.who] 30)) (.cells (ndArr Nod.zero) 37)
      simpa using this
    exact (hb.block _ (Array.getElem?_eq_some_iff.1 h1).1).trans h1
  unfold ndArr ndCells Nod.zero St.zero at hW1
  have HB0 := Go.Lib.hid hb0; have HRES := Go.Lib.hid hres; have HW1 := Go.Lib.hid hW1; clear hb0 hres hW1 hst
  cases hf : findOf l s with
  | none =>
    have hr : foundOf l s = (Nod.zero, false) := by unfold foundOf; rw [hf]
    have ha : atI l s = -1 := by unfold atI; rw [hf]
    rw [hr]
    simp only [ha] at hc
    have HC := Go.Lib.hid hc; have HV := Go.Lib.hid h
    clear hc h hf hr ha
    go_enter Tryd.func19, Tryd.ntmps19
    go_wp2_with fail
    first | rw [show ((w.alloc (.cells #[.int .i64 s.count, .int .i64 s.who] 30)).alloc (.cells #[.int .i64 0, .int .i64 0, .bool false, .int .i64 0, .int .i64 0, .string ⟨#[]⟩, .string ⟨#[]⟩] 37)) = W1 from HW1.out] | skip
    go_wp2_with fail
    refine (HC.out _ (HV.out.below HB0.out)).mono ?_; rintro e w1 ⟨rfl, hb⟩
    have HH := Go.Lib.hid (HRES.out w1 hb)
    have HB := Go.Lib.hid (bstep HB0.out hb); clear hb
    go_wp2_with (refine wpList_store_row rfl 37 (.tmp 4) (.tmp 12) rfl (w.heap.size + 1) (ndArr Nod.zero) rfl rfl 37 _ (HH.out) (size_nd.trans (by rfl)) (by rfl) (ndArr_one _) ?_)
    exact bodyPost_ret (v := .tuple #[ndVal Nod.zero, .bool false]) (results_cell_slot (p := 4) (q := 5) rfl _ _ (w.heap.size + 1) 37 (ndArr Nod.zero) (0, 0) _ rfl (setRow_heap _ _ _ _ _ _ HH.out) Tryd.underlying37 rfl (size_nd.trans (by rfl)) rfl) rfl ⟨rfl, below_setRow HB.out (by omega) _⟩
  | some n =>
    have hr : foundOf l s = (n, true) := by unfold foundOf; rw [hf]
    obtain ⟨k, hk⟩ : ∃ k, atOf l s = k := ⟨_, rfl⟩
    have ha : atI l s = (k : Int) := by unfold atI; rw [hf, ← hk]
    obtain ⟨hg, hlt⟩ := at_get hf
    rw [hk] at hg hlt
    rw [hr]
    simp only [ha] at hc
    have hfr := fun w => pfreshNode_any n w (hwf n (List.mem_of_getElem? hg))
    have HC := Go.Lib.hid hc; have HV := Go.Lib.hid h; have HG := Go.Lib.hid hg; have HFR := Go.Lib.hid hfr
    clear hc h hf hr ha hk hg hfr
    have hki : (k : Int) < (l.length : Int) := by omega
    go_enter Tryd.func19, Tryd.ntmps19
    go_wp2_with fail
    first | rw [show ((w.alloc (.cells #[.int .i64 s.count, .int .i64 s.who] 30)).alloc (.cells #[.int .i64 0, .int .i64 0, .bool false, .int .i64 0, .int .i64 0, .string ⟨#[]⟩, .string ⟨#[]⟩] 37)) = W1 from HW1.out] | skip
    go_wp2_with fail
    refine (HC.out _ (HV.out.below HB0.out)).mono ?_; rintro e w1 ⟨rfl, hb⟩
    obtain ⟨b1, o1, x, rfl, hg1, hx⟩ := ((HV.out.below HB0.out).below hb).at k hlt
    obtain ⟨c0, c1, c2, c3, c4, c5, c6⟩ := nd_cells hx
    obtain rfl : x = n := by have := HG.out; rw [hg1] at this; injection this
    have HBL := Go.Lib.hid hb; clear hb hx hg1
    go_wp2_with fail
    refine (HFR.out _).mono ?_; rintro e w2 ⟨rfl, hb2⟩
    have hb3 := bstep HBL.out hb2
    have HH := Go.Lib.hid (HRES.out w2 hb3)
    have HB := Go.Lib.hid (bstep HB0.out hb3); clear hb2 hb3
    go_wp2_with (refine wpList_store_row rfl 37 (.tmp 4) (.tmp 17) rfl (w.heap.size + 1) (ndArr x) rfl rfl 37 _ (HH.out) (size_nd.trans (by rfl)) (by rfl) (ndArr_one _) ?_)
    exact bodyPost_ret (v := .tuple #[ndVal x, .bool true]) (results_cell_slot (p := 4) (q := 5) rfl _ _ (w.heap.size + 1) 37 (ndArr x) (0, 0) _ rfl (setRow_heap _ _ _ _ _ _ HH.out) Tryd.underlying37 rfl (size_nd.trans (by rfl)) rfl) rfl ⟨rfl, below_setRow HB.out (by omega) _⟩

set_option maxRecDepth 20000 in
set_option maxHeartbeats 4000000 in
theorem ptchildren_any (v : Value) (l : List Nod) (s : St) (w : World) (h : Nods w v l) (hl : l.length ≤ 1000) (hwf : ∀ n ∈ l, ndWf n) :
    Calls Tryd.prog 24 #[v, .agg #[.int .i64 s.count, .int .i64 s.who]] w fun e w' => ∃ v', e = .returned v' ∧ Nods w' v' (childrenOf l s) ∧ Below w.heap.size w w' := by
  obtain ⟨A, c, rfl, hc⟩ := h.len
  have hcw : ∀ n ∈ childrenOf l s, ndWf n := fun n hn => hwf n (by unfold childrenOf at hn; exact (List.mem_filter.1 hn).1)
  obtain ⟨r, hr⟩ : ∃ r, childrenOf l s = r := ⟨_, rfl⟩
  rw [hr] at hcw ⊢
  obtain ⟨n, hnn⟩ : ∃ n, l.length = n := ⟨_, rfl⟩
  have hrl : r.length ≤ n := by rw [← hr, ← hnn]; exact children_length l s
  rw [hnn] at h hc hl
  rw [hnn]
  have htl : l.take n = l := List.take_of_length_le (by omega)
  have hb0 : Below w.heap.size w (w.alloc (.cells #[.int .i64 s.count, .int .i64 s.who] 30)) := (Below.refl _ _).alloc (Nat.le_refl _) _
  have ha0 : (w.alloc (.cells #[.int .i64 s.count, .int .i64 s.who] 30)).cell? ⟨w.heap.size, 0, none⟩ = some (.int .i64 s.count) := by rw [cell_of_row _ _ _ _ _ _ (heap_alloc_new w _)]; rfl
  have ha1 : (w.alloc (.cells #[.int .i64 s.count, .int .i64 s.who] 30)).cell? ⟨w.heap.size, 1, none⟩ = some (.int .i64 s.who) := by rw [cell_of_row _ _ _ _ _ _ (heap_alloc_new w _)]; rfl
  have hlt0 : w.heap.size < (w.alloc (.cells #[.int .i64 s.count, .int .i64 s.who] 30)).heap.size := by simp
  have hv1 := h.below hb0
  obtain ⟨W1, hW1⟩ : ∃ W, w.alloc (.cells #[.int .i64 s.count, .int .i64 s.who] 30) = W := ⟨_, rfl⟩
  rw [hW1] at hb0 ha0 ha1 hlt0 hv1
  have HB0 := Go.Lib.hid hb0; have HA0 := Go.Lib.hid ha0; have HA1 := Go.Lib.hid ha1; have HV1 := Go.Lib.hid hv1; have HLT := Go.Lib.hid hlt0; have HW1 := Go.Lib.hid hW1; have HR := Go.Lib.hid hr; have HTL := Go.Lib.hid htl; have HCW := Go.Lib.hid hcw
  clear hb0 ha0 ha1 hlt0 hv1 hW1 hr htl h hnn hcw hwf
  go_enter Tryd.func24, Tryd.ntmps24
  go_wp2_with fail
  rw [HW1.out]
  go_loopw [5, 7, 10, 11, 12, 13, 14, 15, 16, 17, 18, 19, 20, 21, 22] (fun vo _ i _ _ _ _ _ _ _ _ _ _ _ _ wr => ∃ k : Nat, k ≤ n ∧ i = .int .i64 (k : Int) ∧ Row wr W1.heap.size 37 7 vo (childrenOf (l.take k) s).length (ndsCells (childrenOf (l.take k) s)) ∧ Below W1.heap.size W1 wr) (fun _ _ i _ _ _ _ _ _ _ _ _ _ _ _ _ => n - (intOf i).toNat)
  case atStart => exact ⟨0, by omega, rfl, Row.nil _ _ _ _, Below.refl _ _⟩
  case round =>
    obtain ⟨k, hk, rfl, hrow, hbw⟩ := hrel
    by_cases hkn : k < n
    · have hkn' : (k : Int) < (n : Int) := by omega
      obtain ⟨b1, o1, x, rfl, hg1, hx⟩ := (HV1.out.below hbw).at k hkn
      obtain ⟨c0, c1, c2, c3, c4, c5, c6⟩ := nd_cells hx
      have hb2 : Below W1.heap.size W1 (wr.alloc (.cells (ndArr x) 37)) := hbw.alloc hbw.size _
      have hnew := NodAt.new wr x 37
      obtain ⟨e0, e1, e2, e3, e4, e5, e6⟩ := nd_cells0 hnew
      have d0 := (hb2.cell (p := ⟨w.heap.size, 0, none⟩) HLT.out).trans HA0.out
      have d1 := (hb2.cell (p := ⟨w.heap.size, 1, none⟩) HLT.out).trans HA1.out
      have hsz2 : W1.heap.size ≤ (wr.alloc (.cells (ndArr x) 37)).heap.size := hb2.size
      have hrow2 := hrow.alloc (.cells (ndArr x) 37)
      unfold ndArr ndCells at e0 e1 e2 e3 e4 e5 e6 d0 d1 hb2 hrow2 hsz2
      have hq := fun w => eq_st x.parent s w
      obtain ⟨q, hqe⟩ : ∃ q, decide (x.parent = s) = q := ⟨_, rfl⟩
      rw [hqe] at hq
      have hnx := children_take l s k x hg1
      have hcl := children_length (l.take k) s
      have htl : (l.take k).length ≤ n := by rw [List.length_take]; omega
      obtain ⟨sk, hsk⟩ : ∃ z, childrenOf (l.take k) s = z := ⟨_, rfl⟩
      rw [hsk] at hrow2 hcl hnx
      obtain ⟨m, hm⟩ : ∃ m, sk.length = m := ⟨_, rfl⟩
      rw [hm] at hrow2 hcl
      have HROW := Go.Lib.hid hrow2; have HBW := Go.Lib.hid hb2; have HM := Go.Lib.hid hm; have HSZ := Go.Lib.hid hsz2
      clear hrow hrow2 hbw hb2 hm hx hsk hg1 hnew hsz2
      cases q
      · rw [if_neg (of_decide_eq_false hqe)] at hnx
        have HNX := Go.Lib.hid hnx; clear hnx hqe
        go_wp2_with fail
        exact ⟨⟨k + 1, by omega, by simp, by rw [HNX.out, HM.out]; exact HROW.out, HBW.out⟩, by simp [intOf]; omega⟩
      · rw [if_pos (of_decide_eq_true hqe)] at hnx
        have HNX := Go.Lib.hid hnx; clear hnx hqe
        go_wp2_with (at_builtin; refine wpList_append_ndg rfl (.tmp 18) (.tmp 20) rfl W1.heap.size u5 m sk rfl HROW.out x _ rfl (wr.heap.size + 1) (by simp) rfl (by omega) HSZ.out ?_; intro v4 W4 hr4 hb4)
        exact ⟨⟨k + 1, by omega, by simp, by rw [HNX.out, List.length_append, HM.out]; exact hr4, HBW.out.trans hb4⟩, by simp [intOf]; omega⟩
    · obtain rfl : k = n := by omega
      rw [HTL.out, HR.out] at hrow
      have hfr := pfresh_any W1.heap.size u5 r wr hrow (by omega) HCW.out
      have HFR := Go.Lib.hid hfr
      have HO := Go.Lib.hid (Nods.of_row hrow); have HBW := Go.Lib.hid hbw
      clear hrow hbw hfr
      go_wp2_with fail
      refine HFR.out.mono ?_; rintro e w5 ⟨rfl, hb5⟩
      have HO5 := Go.Lib.hid (HO.out.below hb5); have HB5 := Go.Lib.hid (bstep HB0.out (bstep HBW.out hb5))
      clear hb5
      go_wp2_with fail
      go_ret
      exact ⟨_, rfl, HO5.out, HB5.out⟩
end Go.Proofs.YthcoldjncpiffaaDoor.W
