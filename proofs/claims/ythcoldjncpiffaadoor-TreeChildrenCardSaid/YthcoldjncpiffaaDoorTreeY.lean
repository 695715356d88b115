/- The reference of trees: Do. -/
import Derived.Test.YthcoldjncpiffaaDoorTreeX
import Derived.Test.YthcoldjncpiffaaDoorClockR0
import Derived.Deep.RegionWith
namespace Go.Proofs.YthcoldjncpiffaaDoor.W
set_option linter.unusedVariables false
open Go.RowKit Go.Proofs Arb

/-- Block g is the node n. -/
def NdB (w : World) (g : Nat) (n : Nod) : Prop := w.heap[g]? = some (.cells (ndArr n) 37 (0, 0))
section
variable {w w' : World} {g : Nat} {n : Nod}
theorem NdB.lt (h : NdB w g n) : g < w.heap.size := (Array.getElem?_eq_some_iff.1 h).1
theorem NdB.under (h : NdB w g n) {B : Nat} (hB : g < B) (hb : Below B w w') : NdB w' g n := (hb.block g hB).trans h
theorem NdB.below (h : NdB w g n) (hb : Below w.heap.size w w') : NdB w' g n := h.under h.lt hb
theorem NdB.at (h : NdB w g n) : NodAt w g 0 n := NodAt.of_block h
theorem NdB.free (h : NdB w g n) (j : Nat) : w.frozen? ⟨g, j, none⟩ = false := frozen_of_row _ _ _ _ _ h
theorem NdB.cells (h : NdB w g n) : w.cell? ⟨g, 2, none⟩ = some (.bool n.dir) ∧ w.cell? ⟨g, 3, none⟩ = some (.int .i64 n.parent.count) ∧ w.cell? ⟨g, 4, none⟩ = some (.int .i64 n.parent.who) ∧ w.cell? ⟨g, 5, none⟩ = some (.string (BS n.name)) ∧ w.cell? ⟨g, 6, none⟩ = some (.string (BS n.manifest)) ∧
    w.frozen? ⟨g, 3, none⟩ = false ∧ w.frozen? ⟨g, 4, none⟩ = false ∧ w.frozen? ⟨g, 5, none⟩ = false ∧ w.frozen? ⟨g, 6, none⟩ = false :=
  ⟨(nd_cells0 h.at).2.2.1, (nd_cells0 h.at).2.2.2.1, (nd_cells0 h.at).2.2.2.2.1, (nd_cells0 h.at).2.2.2.2.2.1, (nd_cells0 h.at).2.2.2.2.2.2, h.free _, h.free _, h.free _, h.free _⟩
theorem NdB.new (w : World) (n : Nod) : NdB (w.alloc (.cells (ndArr n) 37)) w.heap.size n := heap_alloc_new w _
theorem NdB.putParent (h : NdB w g n) (p : St) : NdB ((w.setCell ⟨g, 3, none⟩ (.int .i64 p.count)).setCell ⟨g, 4, none⟩ (.int .i64 p.who)) g { n with parent := p } :=
  heap_setCell_same _ g 4 _ _ (.int .i64 p.who) (heap_setCell_same w g 3 _ _ (.int .i64 p.count) h)
theorem NdB.putTrash (h : NdB w g n) : NdB ((w.setCell ⟨g, 3, none⟩ (.int .i64 0)).setCell ⟨g, 4, none⟩ (.int .i64 1)) g { n with parent := St.trash } := h.putParent St.trash
theorem NdB.putName (h : NdB w g n) (s : List UInt8) : NdB (w.setCell ⟨g, 5, none⟩ (.string (BS s))) g { n with name := s } := heap_setCell_same w g 5 _ _ (.string (BS s)) h
theorem NdB.putManifest (h : NdB w g n) (s : List UInt8) : NdB (w.setCell ⟨g, 6, none⟩ (.string (BS s))) g { n with manifest := s } := heap_setCell_same w g 6 _ _ (.string (BS s)) h
end
theorem set_split {l : List Nod} {i : Nat} (h : i < l.length) (m : Nod) : l.set i m = l.take i ++ [m] ++ l.drop (i + 1) := by
  rw [List.set_eq_take_append_cons_drop, if_pos h]
  simp
theorem set_found {l : List Nod} {s : St} {n : Nod} (h : findOf l s = some n) : l.set (atOf l s) n = l := by
  obtain ⟨h1, h2⟩ := at_get h
  rw [List.getElem?_eq_getElem h2] at h1
  injection h1 with h1
  rw [← h1]
  exact List.set_getElem_self h2
theorem do_none {l : List Nod} {x : Opn} (h : findOf l x.node = none) (hk : x.kind ≠ 1) : doOf l x = l := by unfold doOf; rw [h]; exact if_neg hk
theorem do_made {l : List Nod} {x : Opn} (h : findOf l x.node = none) (hk : x.kind = 1) : doOf l x = insNod l (madeOf l x) := by unfold doOf; rw [h]; exact if_pos hk
theorem do_there {l : List Nod} {x : Opn} {n : Nod} (h : findOf l x.node = some n) (hk : x.kind = 1) : doOf l x = l := by unfold doOf; rw [h]; exact if_pos hk
theorem do_turn {l : List Nod} {x : Opn} {n : Nod} (h : findOf l x.node = some n) (hk : x.kind ≠ 1) : doOf l x = l.set (atOf l x.node) (turnOf l x n) := by unfold doOf; rw [h]; exact if_neg hk

set_option maxRecDepth 20000 in
set_option maxHeartbeats 16000000 in
theorem rturn7_more (v : Value) (l : List Nod) (x : Opn) (n : Nod) (w : World) (h : Nods w v l) (hl : l.length ≤ 10000) (hfd : findOf l x.node = some n) (hk1 : x.kind ≠ 1) (hk2 : x.kind ≠ 2) :
    Calls Tryd.prog 18 #[v, opVal x] w fun e w' => ∃ v', e = .returned v' ∧ Nods w' v' (doOf l x) ∧ Below w.heap.size w w' := by
  have hB : Below w.heap.size w (w.alloc (.cells (opArr x) 32)) := (Below.refl _ _).alloc (Nat.le_refl _) _
  have hop := OpAt.new w x 32
  have hv := h.below hB
  obtain ⟨hgi, hil⟩ := at_get hfd
  have hat := fun w h => rat7_any v l x.node w h (by omega)
  have hati : atI l x.node = (atOf l x.node : Int) := by unfold atI; rw [hfd]
  have hdo := do_turn hfd hk1
  have hself := set_found hfd
  rw [hati] at hat
  obtain ⟨i, hi⟩ : ∃ i, atOf l x.node = i := ⟨_, rfl⟩
  rw [hi] at hgi hil hat hdo hself
  rw [hdo]
  have hbk1 : (x.kind == 1) = false := by simp [hk1]
  have hmay := fun w h => rmay7_any v l x.parent w h (by omega)
  have hchain := fun w h => rchain7_any v l x.parent w h (by omega)
  have hchl := chainOf_length l x.parent
  have hhas := fun w u h => rhas7_any u (chainOf l x.parent) x.node w h (by omega)
  obtain ⟨ch, hch⟩ : ∃ c, chainOf l x.parent = c := ⟨_, rfl⟩
  obtain ⟨mb, hmb⟩ : ∃ b, mayOf l x.parent = b := ⟨_, rfl⟩
  obtain ⟨ib, hib⟩ : ∃ b, decide (x.node ∈ ch) = b := ⟨_, rfl⟩
  obtain ⟨m, hm⟩ : ∃ m, turnOf l x n = m := ⟨_, rfl⟩
  rw [hm]
  unfold turnOf at hm
  rw [hch] at hm hhas hchain
  rw [hib] at hhas
  rw [hmb] at hm hmay
  obtain ⟨A, c, rfl, hc⟩ := h.len
  obtain ⟨N, hN⟩ : ∃ N, l.length = N := ⟨_, rfl⟩
  have hsp := set_split (l := l) (i := i) (by omega) m
  rw [hN] at h hc hv hl hil hat hmay hchain
  rw [hN]
  obtain ⟨b, off, y, rfl, -, -⟩ := h.at i hil
  unfold opVal
  have HVS := Go.Lib.hid (fun (w' : World) (hb : Below w.heap.size w w') => h.below hb)
  obtain ⟨W, hW⟩ : ∃ W, w.alloc (.cells (opArr x) 32) = W := ⟨_, rfl⟩
  rw [hW] at hB hop hv
  unfold opArr opCells at hW ⊢
  have hii : ¬ ((i : Int) < 0) := by omega
  have hiN : (i : Int) < (N : Int) := by omega
  have HAT := Go.Lib.hid hat; have HMAY := Go.Lib.hid hmay; have HCHAIN := Go.Lib.hid hchain; have HHAS := Go.Lib.hid hhas; have HB := Go.Lib.hid hB; have HOP := Go.Lib.hid hop; have HV := Go.Lib.hid hv; have HW := Go.Lib.hid hW; have HM := Go.Lib.hid hm; have HSP := Go.Lib.hid hsp; have HSELF := Go.Lib.hid hself; have HGI := Go.Lib.hid hgi; have HN := Go.Lib.hid hN
  clear hat hmay hchain hhas hB hop hv hW hm hsp hself hgi h hN hfd hati hdo hi hmb hch hchl
  have key : ∀ (w1 : World), Below W.heap.size W w1 → ∃ W2 g, w1.alloc (.cells #[.int .i64 n.id.count, .int .i64 n.id.who, .bool n.dir, .int .i64 n.parent.count, .int .i64 n.parent.who, .string (BS n.name), .string (BS n.manifest)] 37) = W2 ∧ w1.heap.size = g ∧ NdB W2 g n ∧ OpAt W2 w.heap.size 0 x ∧ Nods W2 (.slice (some ⟨b, off, none⟩) N c) l ∧ Below w.heap.size w W2 ∧ w.heap.size < g := fun w1 hb1 => by
    have hx1 := HOP.out.below hb1
    refine ⟨_, _, rfl, rfl, NdB.new w1 n, hx1.below ((Below.refl _ _).alloc (Nat.le_refl _) _), (HV.out.below hb1).below ((Below.refl _ _).alloc (Nat.le_refl _) _), (bstep HB.out hb1).alloc (bstep HB.out hb1).size _, hx1.lt⟩
  have KEY := Go.Lib.hid key; clear key
  by_cases hk3 : x.kind = 3
  · have hb2 : (x.kind == 2) = false := by simp [hk2]
    have hb3 : (x.kind == 3) = true := by simp [hk3]
    have hm2 := HM.out
    rw [if_neg hk2, if_pos hk3] at hm2
    clear hk2 hk3 HM
    go_enter Tryd.func18, Tryd.ntmps18
    go_wp2_with fail
    rw [HW.out]
    obtain ⟨c0, c1, c2, c3, c4, c5, c6, c7, c8, c9, c10⟩ := op_cells0 HOP.out
    go_wp2_with fail
    refine (HAT.out _ HV.out).mono ?_; rintro e w1 ⟨rfl, hb1⟩
    clear c0 c1 c2 c3 c4 c5 c6 c7 c8 c9 c10
    obtain ⟨c0, c1, c2, c3, c4, c5, c6, c7, c8, c9, c10⟩ := op_cells0 (HOP.out.below hb1)
    obtain ⟨bb, oo, nn, he, hg1, hx1⟩ := (HV.out.below hb1).at i hil
    cases he
    rw [HGI.out] at hg1
    cases hg1
    obtain ⟨n0, n1, n2, n3, n4, n5, n6⟩ := nd_cells hx1
    obtain ⟨W2, g, hW2, hgg, hnd2, hop2, hv2, hbl2, hxg⟩ := KEY.out w1 hb1
    obtain ⟨d0, d1, d2, d3, d4, d5, d6, d7, d8, d9, d10⟩ := op_cells0 hop2
    obtain ⟨e1, e3, e4, e5, e6, f3, f4, f5, f6⟩ := hnd2.cells
    have HND2 := Go.Lib.hid hnd2; have HOP2 := Go.Lib.hid hop2; have HV2 := Go.Lib.hid hv2; have HBL2 := Go.Lib.hid hbl2
    clear hnd2 hop2 hv2 hbl2 hb1 hx1
    obtain ⟨d, hd⟩ : ∃ d, n.dir = d := ⟨_, rfl⟩
    rw [hd] at e1
    cases d
    · rw [if_neg (by rw [hd]; simp)] at hm2
      have hndt : NdB (W2.setCell ⟨g, 6, none⟩ (.string (BS x.manifest))) g m := by rw [← hm2]; exact HND2.out.putManifest x.manifest
      have HM2 := Go.Lib.hid hm2; have HD := Go.Lib.hid hd
      clear hm2 hd
      have HNDt := Go.Lib.hid hndt; have HVt := Go.Lib.hid (HV.out.below (Below.refl W.heap.size W)); have HBt := Go.Lib.hid (HBL2.out.setCell (p := ⟨g, 6, none⟩) (Nat.le_of_lt hxg) (.string (BS x.manifest))); have HGt := Go.Lib.hid (Nat.succ_le_of_lt hndt.lt)
      clear hndt
      have hvt : Nods (W2.setCell ⟨g, 6, none⟩ (.string (BS x.manifest))) (.slice (some ⟨b, off, none⟩) N c) l := HVS.out _ HBt.out
      have HVt := Go.Lib.hid hvt; clear hvt
      by_cases hci : c = i + 1
      · subst hci
        go_wp2_with (first
          | (at_builtin; refine wpList_append_nds rfl (.tmp 114) (.tmp 117) rfl (g + 1) (.slice none 0 0) 0 [] rfl (Row.nil _ _ _ _) _ i (l.take i) rfl (HVt.out.rdTake i (by omega)) (by omega) (by omega) HGt.out ?_; intro v6 V6 hr6 hb6; have HND6 := Go.Lib.hid (HNDt.out.under (Nat.lt_succ_self g) hb6); obtain ⟨m0, m1, m2, m3, m4, m5, m6⟩ := nd_cells0 HND6.out.at; have HR6 := Go.Lib.hid hr6; have HB6 := Go.Lib.hid hb6; have HZ6 := Go.Lib.hid (Nat.le_trans HGt.out hb6.size); clear hr6 hb6)
          | (at_builtin; refine wpList_append_nd rfl (.tmp 119) (.tmp 121) rfl (g + 1) v6 (0 + i) ([] ++ l.take i) rfl HR6.out m _ rfl rfl (by omega) HZ6.out ?_; intro v7 V7 hr7 hb7; have HR7 := Go.Lib.hid hr7; have HB7 := Go.Lib.hid (HB6.out.trans hb7); have HZ7 := Go.Lib.hid (Nat.le_trans HZ6.out hb7.size); have HV7 := Go.Lib.hid (HVS.out _ (HBt.out.trans ((HB6.out.trans hb7).mono (by omega)))); clear hr7 hb7)
          | (at_builtin; refine wpList_append_nds rfl (.tmp 123) (.tmp 127) rfl (g + 1) v7 (0 + i + 1) ([] ++ l.take i ++ [m]) rfl HR7.out _ _ (l.drop (i + 1)) rfl (HV7.out.rdDrop (i + 1) (by omega) _ (by intro h9; omega) _ (by omega) _) (by omega) (by omega) HZ7.out ?_; intro v8 V8 hr8 hb8; have HR8 := Go.Lib.hid hr8; have HB8 := Go.Lib.hid (HB7.out.trans hb8); clear hr8 hb8))
        all_goals (
          go_ret
          have hres := Nods.of_row HR8.out
          rw [List.nil_append, ← HSP.out] at hres
          exact ⟨_, rfl, hres, HBt.out.trans (HB8.out.mono (by omega))⟩)
      · go_wp2_with (first
          | (at_builtin; refine wpList_append_nds rfl (.tmp 114) (.tmp 117) rfl (g + 1) (.slice none 0 0) 0 [] rfl (Row.nil _ _ _ _) _ i (l.take i) rfl (HVt.out.rdTake i (by omega)) (by omega) (by omega) HGt.out ?_; intro v6 V6 hr6 hb6; have HND6 := Go.Lib.hid (HNDt.out.under (Nat.lt_succ_self g) hb6); obtain ⟨m0, m1, m2, m3, m4, m5, m6⟩ := nd_cells0 HND6.out.at; have HR6 := Go.Lib.hid hr6; have HB6 := Go.Lib.hid hb6; have HZ6 := Go.Lib.hid (Nat.le_trans HGt.out hb6.size); clear hr6 hb6)
          | (at_builtin; refine wpList_append_nd rfl (.tmp 119) (.tmp 121) rfl (g + 1) v6 (0 + i) ([] ++ l.take i) rfl HR6.out m _ rfl rfl (by omega) HZ6.out ?_; intro v7 V7 hr7 hb7; have HR7 := Go.Lib.hid hr7; have HB7 := Go.Lib.hid (HB6.out.trans hb7); have HZ7 := Go.Lib.hid (Nat.le_trans HZ6.out hb7.size); have HV7 := Go.Lib.hid (HVS.out _ (HBt.out.trans ((HB6.out.trans hb7).mono (by omega)))); clear hr7 hb7)
          | (at_builtin; refine wpList_append_nds rfl (.tmp 123) (.tmp 127) rfl (g + 1) v7 (0 + i + 1) ([] ++ l.take i ++ [m]) rfl HR7.out _ _ (l.drop (i + 1)) rfl (HV7.out.rdDrop (i + 1) (by omega) _ (by intro h9; omega) _ (by omega) _) (by omega) (by omega) HZ7.out ?_; intro v8 V8 hr8 hb8; have HR8 := Go.Lib.hid hr8; have HB8 := Go.Lib.hid (HB7.out.trans hb8); clear hr8 hb8))
        all_goals (
          go_ret
          have hres := Nods.of_row HR8.out
          rw [List.nil_append, ← HSP.out] at hres
          exact ⟨_, rfl, hres, HBt.out.trans (HB8.out.mono (by omega))⟩)
    · rw [if_pos hd] at hm2
      subst hm2
      clear hd
      go_wp2_with fail
      go_ret
      exact ⟨_, rfl, by rw [HSELF.out]; exact HV2.out, HBL2.out⟩
  by_cases hk4 : x.kind = 4
  · have hb2 : (x.kind == 2) = false := by simp [hk2]
    have hb3 : (x.kind == 3) = false := by simp [hk3]
    have hb4 : (x.kind == 4) = true := by simp [hk4]
    have hm2 := HM.out
    rw [if_neg hk2, if_neg hk3, if_pos hk4] at hm2
    have HM2 := Go.Lib.hid hm2
    clear hk2 hk3 hk4 HM hm2
    go_enter Tryd.func18, Tryd.ntmps18
    go_wp2_with fail
    rw [HW.out]
    obtain ⟨c0, c1, c2, c3, c4, c5, c6, c7, c8, c9, c10⟩ := op_cells0 HOP.out
    go_wp2_with fail
    refine (HAT.out _ HV.out).mono ?_; rintro e w1 ⟨rfl, hb1⟩
    clear c0 c1 c2 c3 c4 c5 c6 c7 c8 c9 c10
    obtain ⟨c0, c1, c2, c3, c4, c5, c6, c7, c8, c9, c10⟩ := op_cells0 (HOP.out.below hb1)
    obtain ⟨bb, oo, nn, he, hg1, hx1⟩ := (HV.out.below hb1).at i hil
    cases he
    rw [HGI.out] at hg1
    cases hg1
    obtain ⟨n0, n1, n2, n3, n4, n5, n6⟩ := nd_cells hx1
    obtain ⟨W2, g, hW2, hgg, hnd2, hop2, hv2, hbl2, hxg⟩ := KEY.out w1 hb1
    obtain ⟨d0, d1, d2, d3, d4, d5, d6, d7, d8, d9, d10⟩ := op_cells0 hop2
    obtain ⟨e1, e3, e4, e5, e6, f3, f4, f5, f6⟩ := hnd2.cells
    have HND2 := Go.Lib.hid hnd2; have HOP2 := Go.Lib.hid hop2; have HV2 := Go.Lib.hid hv2; have HBL2 := Go.Lib.hid hbl2
    clear hnd2 hop2 hv2 hbl2 hb1 hx1
    clear e1 e3 e4 e5 e6 f3 f4 f5 f6
    by_cases hci : c = i + 1
    · subst hci
      go_wp2_with (first
        | (go_at_call 34; with_reducible refine (rtrash_any _).mono ?_; rintro e w5 ⟨rfl, hb5⟩; have HND5 := Go.Lib.hid (HND2.out.below hb5); obtain ⟨e1, e3, e4, e5, e6, f3, f4, f5, f6⟩ := HND5.out.cells; have hndt : NdB ((w5.setCell ⟨g, 3, none⟩ (.int .i64 0)).setCell ⟨g, 4, none⟩ (.int .i64 1)) g m := (by rw [← HM2.out]; exact HND5.out.putTrash); have HNDt := Go.Lib.hid hndt; have HB5 := Go.Lib.hid (bstep HBL2.out hb5); have HBt := Go.Lib.hid ((HB5.out.setCell (p := ⟨g, 3, none⟩) (Nat.le_of_lt hxg) (.int .i64 0)).setCell (p := ⟨g, 4, none⟩) (Nat.le_of_lt hxg) (.int .i64 1)); have HVt := Go.Lib.hid (HVS.out _ HBt.out); have HGt := Go.Lib.hid (Nat.succ_le_of_lt hndt.lt); clear hb5 hndt)
        | (at_builtin; refine wpList_append_nds rfl (.tmp 114) (.tmp 117) rfl (g + 1) (.slice none 0 0) 0 [] rfl (Row.nil _ _ _ _) _ i (l.take i) rfl (HVt.out.rdTake i (by omega)) (by omega) (by omega) HGt.out ?_; intro v6 V6 hr6 hb6; have HND6 := Go.Lib.hid (HNDt.out.under (Nat.lt_succ_self g) hb6); obtain ⟨m0, m1, m2, m3, m4, m5, m6⟩ := nd_cells0 HND6.out.at; have HR6 := Go.Lib.hid hr6; have HB6 := Go.Lib.hid hb6; have HZ6 := Go.Lib.hid (Nat.le_trans HGt.out hb6.size); clear hr6 hb6)
        | (at_builtin; refine wpList_append_nd rfl (.tmp 119) (.tmp 121) rfl (g + 1) v6 (0 + i) ([] ++ l.take i) rfl HR6.out m _ rfl rfl (by omega) HZ6.out ?_; intro v7 V7 hr7 hb7; have HR7 := Go.Lib.hid hr7; have HB7 := Go.Lib.hid (HB6.out.trans hb7); have HZ7 := Go.Lib.hid (Nat.le_trans HZ6.out hb7.size); have HV7 := Go.Lib.hid (HVS.out _ (HBt.out.trans ((HB6.out.trans hb7).mono (by omega)))); clear hr7 hb7)
        | (at_builtin; refine wpList_append_nds rfl (.tmp 123) (.tmp 127) rfl (g + 1) v7 (0 + i + 1) ([] ++ l.take i ++ [m]) rfl HR7.out _ _ (l.drop (i + 1)) rfl (HV7.out.rdDrop (i + 1) (by omega) _ (by intro h9; omega) _ (by omega) _) (by omega) (by omega) HZ7.out ?_; intro v8 V8 hr8 hb8; have HR8 := Go.Lib.hid hr8; have HB8 := Go.Lib.hid (HB7.out.trans hb8); clear hr8 hb8))
      all_goals (
        go_ret
        have hres := Nods.of_row HR8.out
        rw [List.nil_append, ← HSP.out] at hres
        exact ⟨_, rfl, hres, HBt.out.trans (HB8.out.mono (by omega))⟩)
    · go_wp2_with (first
        | (go_at_call 34; with_reducible refine (rtrash_any _).mono ?_; rintro e w5 ⟨rfl, hb5⟩; have HND5 := Go.Lib.hid (HND2.out.below hb5); obtain ⟨e1, e3, e4, e5, e6, f3, f4, f5, f6⟩ := HND5.out.cells; have hndt : NdB ((w5.setCell ⟨g, 3, none⟩ (.int .i64 0)).setCell ⟨g, 4, none⟩ (.int .i64 1)) g m := (by rw [← HM2.out]; exact HND5.out.putTrash); have HNDt := Go.Lib.hid hndt; have HB5 := Go.Lib.hid (bstep HBL2.out hb5); have HBt := Go.Lib.hid ((HB5.out.setCell (p := ⟨g, 3, none⟩) (Nat.le_of_lt hxg) (.int .i64 0)).setCell (p := ⟨g, 4, none⟩) (Nat.le_of_lt hxg) (.int .i64 1)); have HVt := Go.Lib.hid (HVS.out _ HBt.out); have HGt := Go.Lib.hid (Nat.succ_le_of_lt hndt.lt); clear hb5 hndt)
        | (at_builtin; refine wpList_append_nds rfl (.tmp 114) (.tmp 117) rfl (g + 1) (.slice none 0 0) 0 [] rfl (Row.nil _ _ _ _) _ i (l.take i) rfl (HVt.out.rdTake i (by omega)) (by omega) (by omega) HGt.out ?_; intro v6 V6 hr6 hb6; have HND6 := Go.Lib.hid (HNDt.out.under (Nat.lt_succ_self g) hb6); obtain ⟨m0, m1, m2, m3, m4, m5, m6⟩ := nd_cells0 HND6.out.at; have HR6 := Go.Lib.hid hr6; have HB6 := Go.Lib.hid hb6; have HZ6 := Go.Lib.hid (Nat.le_trans HGt.out hb6.size); clear hr6 hb6)
        | (at_builtin; refine wpList_append_nd rfl (.tmp 119) (.tmp 121) rfl (g + 1) v6 (0 + i) ([] ++ l.take i) rfl HR6.out m _ rfl rfl (by omega) HZ6.out ?_; intro v7 V7 hr7 hb7; have HR7 := Go.Lib.hid hr7; have HB7 := Go.Lib.hid (HB6.out.trans hb7); have HZ7 := Go.Lib.hid (Nat.le_trans HZ6.out hb7.size); have HV7 := Go.Lib.hid (HVS.out _ (HBt.out.trans ((HB6.out.trans hb7).mono (by omega)))); clear hr7 hb7)
        | (at_builtin; refine wpList_append_nds rfl (.tmp 123) (.tmp 127) rfl (g + 1) v7 (0 + i + 1) ([] ++ l.take i ++ [m]) rfl HR7.out _ _ (l.drop (i + 1)) rfl (HV7.out.rdDrop (i + 1) (by omega) _ (by intro h9; omega) _ (by omega) _) (by omega) (by omega) HZ7.out ?_; intro v8 V8 hr8 hb8; have HR8 := Go.Lib.hid hr8; have HB8 := Go.Lib.hid (HB7.out.trans hb8); clear hr8 hb8))
      all_goals (
        go_ret
        have hres := Nods.of_row HR8.out
        rw [List.nil_append, ← HSP.out] at hres
        exact ⟨_, rfl, hres, HBt.out.trans (HB8.out.mono (by omega))⟩)
  · have hb2 : (x.kind == 2) = false := by simp [hk2]
    have hb3 : (x.kind == 3) = false := by simp [hk3]
    have hb4 : (x.kind == 4) = false := by simp [hk4]
    have hm2 := HM.out
    rw [if_neg hk2, if_neg hk3, if_neg hk4] at hm2
    subst hm2
    clear hk2 hk3 hk4 HM
    go_enter Tryd.func18, Tryd.ntmps18
    go_wp2_with fail
    rw [HW.out]
    obtain ⟨c0, c1, c2, c3, c4, c5, c6, c7, c8, c9, c10⟩ := op_cells0 HOP.out
    go_wp2_with fail
    refine (HAT.out _ HV.out).mono ?_; rintro e w1 ⟨rfl, hb1⟩
    clear c0 c1 c2 c3 c4 c5 c6 c7 c8 c9 c10
    obtain ⟨c0, c1, c2, c3, c4, c5, c6, c7, c8, c9, c10⟩ := op_cells0 (HOP.out.below hb1)
    obtain ⟨bb, oo, nn, he, hg1, hx1⟩ := (HV.out.below hb1).at i hil
    cases he
    rw [HGI.out] at hg1
    cases hg1
    obtain ⟨n0, n1, n2, n3, n4, n5, n6⟩ := nd_cells hx1
    obtain ⟨W2, g, hW2, hgg, hnd2, hop2, hv2, hbl2, hxg⟩ := KEY.out w1 hb1
    obtain ⟨d0, d1, d2, d3, d4, d5, d6, d7, d8, d9, d10⟩ := op_cells0 hop2
    obtain ⟨e1, e3, e4, e5, e6, f3, f4, f5, f6⟩ := hnd2.cells
    have HND2 := Go.Lib.hid hnd2; have HOP2 := Go.Lib.hid hop2; have HV2 := Go.Lib.hid hv2; have HBL2 := Go.Lib.hid hbl2
    clear hnd2 hop2 hv2 hbl2 hb1 hx1
    have HNDt := Go.Lib.hid HND2.out; have HVt := Go.Lib.hid HV2.out; have HBt := Go.Lib.hid HBL2.out; have HGt := Go.Lib.hid (Nat.succ_le_of_lt HND2.out.lt)
    by_cases hci : c = i + 1
    · subst hci
      go_wp2_with (first
        | (at_builtin; refine wpList_append_nds rfl (.tmp 114) (.tmp 117) rfl (g + 1) (.slice none 0 0) 0 [] rfl (Row.nil _ _ _ _) _ i (l.take i) rfl (HVt.out.rdTake i (by omega)) (by omega) (by omega) HGt.out ?_; intro v6 V6 hr6 hb6; have HND6 := Go.Lib.hid (HNDt.out.under (Nat.lt_succ_self g) hb6); obtain ⟨m0, m1, m2, m3, m4, m5, m6⟩ := nd_cells0 HND6.out.at; have HR6 := Go.Lib.hid hr6; have HB6 := Go.Lib.hid hb6; have HZ6 := Go.Lib.hid (Nat.le_trans HGt.out hb6.size); clear hr6 hb6)
        | (at_builtin; refine wpList_append_nd rfl (.tmp 119) (.tmp 121) rfl (g + 1) v6 (0 + i) ([] ++ l.take i) rfl HR6.out n _ rfl rfl (by omega) HZ6.out ?_; intro v7 V7 hr7 hb7; have HR7 := Go.Lib.hid hr7; have HB7 := Go.Lib.hid (HB6.out.trans hb7); have HZ7 := Go.Lib.hid (Nat.le_trans HZ6.out hb7.size); have HV7 := Go.Lib.hid (HVS.out _ (HBt.out.trans ((HB6.out.trans hb7).mono (by omega)))); clear hr7 hb7)
        | (at_builtin; refine wpList_append_nds rfl (.tmp 123) (.tmp 127) rfl (g + 1) v7 (0 + i + 1) ([] ++ l.take i ++ [n]) rfl HR7.out _ _ (l.drop (i + 1)) rfl (HV7.out.rdDrop (i + 1) (by omega) _ (by intro h9; omega) _ (by omega) _) (by omega) (by omega) HZ7.out ?_; intro v8 V8 hr8 hb8; have HR8 := Go.Lib.hid hr8; have HB8 := Go.Lib.hid (HB7.out.trans hb8); clear hr8 hb8))
      all_goals (
        go_ret
        have hres := Nods.of_row HR8.out
        rw [List.nil_append, ← HSP.out] at hres
        exact ⟨_, rfl, hres, HBt.out.trans (HB8.out.mono (by omega))⟩)
    · go_wp2_with (first
        | (at_builtin; refine wpList_append_nds rfl (.tmp 114) (.tmp 117) rfl (g + 1) (.slice none 0 0) 0 [] rfl (Row.nil _ _ _ _) _ i (l.take i) rfl (HVt.out.rdTake i (by omega)) (by omega) (by omega) HGt.out ?_; intro v6 V6 hr6 hb6; have HND6 := Go.Lib.hid (HNDt.out.under (Nat.lt_succ_self g) hb6); obtain ⟨m0, m1, m2, m3, m4, m5, m6⟩ := nd_cells0 HND6.out.at; have HR6 := Go.Lib.hid hr6; have HB6 := Go.Lib.hid hb6; have HZ6 := Go.Lib.hid (Nat.le_trans HGt.out hb6.size); clear hr6 hb6)
        | (at_builtin; refine wpList_append_nd rfl (.tmp 119) (.tmp 121) rfl (g + 1) v6 (0 + i) ([] ++ l.take i) rfl HR6.out n _ rfl rfl (by omega) HZ6.out ?_; intro v7 V7 hr7 hb7; have HR7 := Go.Lib.hid hr7; have HB7 := Go.Lib.hid (HB6.out.trans hb7); have HZ7 := Go.Lib.hid (Nat.le_trans HZ6.out hb7.size); have HV7 := Go.Lib.hid (HVS.out _ (HBt.out.trans ((HB6.out.trans hb7).mono (by omega)))); clear hr7 hb7)
        | (at_builtin; refine wpList_append_nds rfl (.tmp 123) (.tmp 127) rfl (g + 1) v7 (0 + i + 1) ([] ++ l.take i ++ [n]) rfl HR7.out _ _ (l.drop (i + 1)) rfl (HV7.out.rdDrop (i + 1) (by omega) _ (by intro h9; omega) _ (by omega) _) (by omega) (by omega) HZ7.out ?_; intro v8 V8 hr8 hb8; have HR8 := Go.Lib.hid hr8; have HB8 := Go.Lib.hid (HB7.out.trans hb8); clear hr8 hb8))
      all_goals (
        go_ret
        have hres := Nods.of_row HR8.out
        rw [List.nil_append, ← HSP.out] at hres
        exact ⟨_, rfl, hres, HBt.out.trans (HB8.out.mono (by omega))⟩)
end Go.Proofs.YthcoldjncpiffaaDoor.W
