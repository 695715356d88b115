/- The program's trees: Chain. -/
import Derived.Test.YtjeijolblcodpaaDoorTreePC
import Derived.Test.YtjeijolblcodpaaDoorStamps
import Derived.Test.YtjeijolblcodpaaDoorMg3
namespace Go.Proofs.YtjeijolblcodpaaDoor.W
set_option maxRecDepth 20000
set_option linter.unusedVariables false
open Go.RowKit Go.Proofs Arb

/-- 'append(s, x)' of one stamp; what else turns. -/
theorem wpList_append_stg {ops : Array Oper} {rest : List Oper} {o : Oper} {a : Act} {w : World} {Q : Exit → Act → World → Prop} (hgd : o.guard = none) (s x : Operand)
    (ho : o.op = .call { callee := .builtin .append, args := #[s, x], argTypes := #[101, 101] })
    (base : Nat) (v : Value) (n : Nat) (l : List St) (hs : a.eval s = v) (hown : Row w base 33 2 v n (stsCells l))
    (y : St) (cs : Array Value) (hcs : cs = stArr y) (g : Nat) (hg : g = w.heap.size) (hx : a.eval x = .slice (some ⟨g, 0, none⟩) 1 1)
    (h63 : n ≤ 1000000) (hbase : base ≤ w.heap.size)
    (h : ∀ v' w', Row w' base 33 2 v' (n + 1) (stsCells (l ++ [y])) → Below base w w' → (∀ b, b < w.heap.size → v.ownBlock ≠ some b → w'.heap[b]? = w.heap[b]? ∧ v'.ownBlock ≠ some b) → wpList Tryd.prog ops Q rest (a.put o.dst v') w') :
    wpList Tryd.prog ops Q (o :: rest) a (w.alloc (.cells cs 33)) := by
  subst hcs; subst hg
  obtain ⟨i0, hi, hz0, hz1, hz2⟩ := info_parts info_st
  have hrd : Rd (w.alloc (.cells (stArr y) 33)) 2 (.slice (some ⟨w.heap.size, 0, none⟩) 1 1) 1 (stsCells [y]) := by
    have := Rd.new w (stArr y) 33 1 1 2 rfl
    rw [stsCells_one]
    simpa [stArr] using this
  refine wpList_plain hgd fun K hK => ?_
  obtain ⟨v', w', hrun, h2, h3, h4, _⟩ := run_append_row (P := Tryd.prog) base 101 o.type 33 i0 _ 2 16 Tryd.underlying101 hi hz0 hz1 hz2 rfl (by decide) v n _ (hown.alloc (.cells (stArr y) 33)) _ 1 (stsCells [y]) hrd (sts_oneCell _) (by unfold maxLen; omega) (by omega) (by simp; omega)
  unfold Oper.wp execOp
  simp only [ho, resolve, invoke, builtin, Sem.run_bind, Sem.run_pure, Result.andThen_ok, List.map_toArray, List.map_cons, List.map_nil, hs, hx, hrun]
  refine hK _ _ (h v' w' (by rw [stsCells_append]; exact h2) (((Below.refl base w).alloc hbase _).grown h3 (by simp; omega) fun k hk => (hown.lt k hk).1) fun b hb hne => ⟨?_, ?_⟩)
  · rw [h3.block b (by simp; omega) (fun e => hne e.symm)]
    exact Below.heap_alloc _ _ _ hb
  · rcases h4 with h4 | h4
    · rw [h4]; exact hne
    · rw [h4]
      simp
      omega

set_option maxRecDepth 20000 in
set_option maxHeartbeats 8000000 in
theorem ptchain_any (v : Value) (l : List Nod) (s0 : St) (w : World) (h : Nods w v l) (hl : l.length ≤ 1000) (hwf : ∀ n ∈ l, ndWf n) :
    Calls Tryd.prog 76 #[v, .agg #[.int .i64 s0.count, .int .i64 s0.who]] w fun e w' => ∃ v', e = .returned v' ∧ Sts w' v' (chainOf l s0) ∧ Below w.heap.size w w' := by
  have hp := fun s w h => pplace_any v l s w h (by omega)
  obtain ⟨A0, c0', rfl, hlc⟩ := h.len
  obtain ⟨r, hr⟩ : ∃ r, chainOf l s0 = r := ⟨_, rfl⟩
  rw [hr]
  obtain ⟨n, hnn⟩ : ∃ n, l.length = n := ⟨_, rfl⟩
  rw [hnn] at h hl hp hlc
  rw [hnn]
  have hb0 : Below w.heap.size w (w.alloc (.cells #[.int .i64 s0.count, .int .i64 s0.who] 33)) := (Below.refl _ _).alloc (Nat.le_refl _) _
  have hid0 := heap_alloc_new w (.cells #[.int .i64 s0.count, .int .i64 s0.who] 33)
  have hv1 := h.below hb0
  obtain ⟨W0, hW0⟩ : ∃ W, w.alloc (.cells #[.int .i64 s0.count, .int .i64 s0.who] 33) = W := ⟨_, rfl⟩
  rw [hW0] at hb0 hid0 hv1
  have ha0 : W0.cell? ⟨w.heap.size, 0, none⟩ = some (.int .i64 s0.count) := by rw [cell_of_row _ _ _ _ _ _ hid0]; rfl
  have ha1 : W0.cell? ⟨w.heap.size, 1, none⟩ = some (.int .i64 s0.who) := by rw [cell_of_row _ _ _ _ _ _ hid0]; rfl
  have hlt0 : w.heap.size < W0.heap.size := (Array.getElem?_eq_some_iff.1 hid0).1
  cases hf : findOf l s0 with
  | none =>
    have ha : atI l s0 = -1 := by unfold atI; rw [hf]
    have hp0 := hp s0
    rw [ha] at hp0
    have hres : r = [] := by rw [← hr]; unfold chainOf; rw [hnn, chainGo_none hf, if_pos rfl]
    have HP := Go.Lib.hid hp0; have HB0 := Go.Lib.hid hb0; have HV1 := Go.Lib.hid hv1; have HW0 := Go.Lib.hid hW0; have HRES := Go.Lib.hid hres
    clear hp hp0 hb0 hv1 hW0 hres h hf ha hr hnn hid0
    go_enter Tryd.func76, Tryd.ntmps76
    go_wp2_with fail
    rw [HW0.out]
    go_wp2_with fail
    refine (HP.out _ HV1.out).mono ?_; rintro _ w2 ⟨rfl, hb2⟩
    have HB2 := Go.Lib.hid (bstep HB0.out hb2); clear hb2 ha0 ha1
    go_wp2_with fail
    go_ret
    exact ⟨_, rfl, by rw [HRES.out]; exact Sts.nil _, HB2.out⟩
  | some n0 =>
    obtain ⟨i0, hi0⟩ : ∃ i, atOf l s0 = i := ⟨_, rfl⟩
    have ha : atI l s0 = (i0 : Int) := by unfold atI; rw [hf, ← hi0]
    have hp0 := hp s0
    rw [ha] at hp0
    obtain ⟨hmem0, hid⟩ := findOf_some hf
    have hw0 : stWf s0 := by rw [← hid]; exact (hwf n0 hmem0).1
    have hstart : chainOf l s0 = chainGo l (n + 1) [] s0 := by unfold chainOf; rw [hnn]
    have HP := Go.Lib.hid hp; have HP0 := Go.Lib.hid hp0; have HB0 := Go.Lib.hid hb0; have HID0 := Go.Lib.hid hid0; have HW0 := Go.Lib.hid hW0; have HV := Go.Lib.hid h; have HV1 := Go.Lib.hid hv1; have HR := Go.Lib.hid hr; have HN := Go.Lib.hid hnn; have HA := Go.Lib.hid ha; have HF := Go.Lib.hid hf; have HWF := Go.Lib.hid hwf; have HSTART := Go.Lib.hid hstart
    clear hp hp0 hb0 hid0 hW0 hv1 hr hnn h ha hf hwf hid hi0 hmem0 hstart
    go_enter Tryd.func76, Tryd.ntmps76
    go_wp2_with fail
    rw [HW0.out]
    go_wp2_with fail
    refine (HP0.out _ HV1.out).mono ?_; rintro _ w1 ⟨rfl, hb1⟩
    have hid1 := (hb1.block _ hlt0).trans HID0.out
    clear ha0 ha1
    have ha0 : w1.cell? ⟨w.heap.size, 0, none⟩ = some (.int .i64 s0.count) := by rw [cell_of_row _ _ _ _ _ _ hid1]; rfl
    have ha1 : w1.cell? ⟨w.heap.size, 1, none⟩ = some (.int .i64 s0.who) := by rw [cell_of_row _ _ _ _ _ _ hid1]; rfl
    have hlt1 : w.heap.size < w1.heap.size := (Array.getElem?_eq_some_iff.1 hid1).1
    obtain ⟨WA, hWA⟩ : ∃ W, w1.alloc (.cells #[.int .i64 s0.count, .int .i64 s0.who] 33) = W := ⟨_, rfl⟩
    obtain ⟨WM, hWM⟩ : ∃ W, WA.alloc (.map #[] 0) = W := ⟨_, rfl⟩
    have hsa : WA.heap.size = w1.heap.size + 1 := by rw [← hWA]; simp
    have hsm : WM.heap.size = w1.heap.size + 2 := by rw [← hWM]; simp [hsa]
    have hbA : Below w.heap.size w WA := by rw [← hWA]; exact (bstep HB0.out hb1).alloc (bstep HB0.out hb1).size _
    have hbM : Below w.heap.size w WM := by rw [← hWM]; exact hbA.alloc hbA.size _
    have hrA : Row WA (w.heap.size + 1) 33 2 (.slice (some ⟨w1.heap.size, 0, none⟩) 1 1) 1 (stsCells [s0]) := by
      rw [← hWA]
      exact Row.made w1 #[.int .i64 s0.count, .int .i64 s0.who] 33 1 2 (by omega) (by unfold maxLen; omega) rfl
    have hrM : Row WM (w.heap.size + 1) 33 2 (.slice (some ⟨w1.heap.size, 0, none⟩) 1 1) 1 (stsCells [s0]) := by rw [← hWM]; exact hrA.alloc _
    have hmM : StIs WM (w1.heap.size + 1) 0 [] := by
      have := StIs.made WA
      rw [hWM, hsa] at this
      exact this
    have hidA : WA.heap[w.heap.size]? = some (.cells (stArr s0) 33 (0, 0)) := by rw [← hWA]; exact (Below.heap_alloc _ _ _ hlt1).trans hid1
    have hidM : WM.heap[w.heap.size]? = some (.cells (stArr s0) 33 (0, 0)) := by rw [← hWM]; exact (Below.heap_alloc _ _ _ (by omega)).trans hidA
    have a0 : WA.cell? ⟨w.heap.size, 0, none⟩ = some (.int .i64 s0.count) := by rw [cell_of_row _ _ _ _ _ _ hidA]; rfl
    have a1 : WA.cell? ⟨w.heap.size, 1, none⟩ = some (.int .i64 s0.who) := by rw [cell_of_row _ _ _ _ _ _ hidA]; rfl
    have m0 : WM.cell? ⟨w.heap.size, 0, none⟩ = some (.int .i64 s0.count) := by rw [cell_of_row _ _ _ _ _ _ hidM]; rfl
    have m1 : WM.cell? ⟨w.heap.size, 1, none⟩ = some (.int .i64 s0.who) := by rw [cell_of_row _ _ _ _ _ _ hidM]; rfl
    rw [← hWM, ← hWA] at m0 m1
    obtain ⟨g1, hg1⟩ : ∃ g, w1.heap.size = g := ⟨_, rfl⟩
    rw [hg1] at hrM hmM hsm
    have HRM := Go.Lib.hid hrM; have HMM := Go.Lib.hid hmM; have HBM := Go.Lib.hid hbM; have HIDM := Go.Lib.hid hidM; have HSM := Go.Lib.hid hsm
    have hg0 : w.heap.size < g1 := by omega
    have HWM : Hid ((w1.alloc (.cells #[.int .i64 s0.count, .int .i64 s0.who] 33)).alloc (.map #[] 0) = WM) := by rw [hWA]; exact hWM
    clear hrA hrM hmM hbM hbA hidA hidM hsm hsa a0 a1 hb1 hid1 hWA hWM hlt0 hlt1
    have hmm := @run_makeMap Tryd.prog
    go_wp2_with (refine wpList_st_put (w := (w1.alloc (.cells #[.int .i64 s0.count, .int .i64 s0.who] 33)).alloc (.map #[] 0)) (b := g1 + 1) (n := 0) (S := []) (by rw [HWM.out]; exact HMM.out) rfl (.tmp 17) (.tmp 18) (.tmp 19) (.inr rfl) (by rw [← hg1]; rfl) (by unfold maxLen; omega) s0 hw0 rfl rfl ?_; intro W3 hm3 hg3; rw [HWM.out] at hg3)
    have hrow3 := HRM.out.kept hg3 (.inr (by simp [Value.ownBlock]))
    have hid3 := (hg3.block w.heap.size (by have := HSM.out; omega) (by simp; omega)).trans HIDM.out
    have hb3 : Below w.heap.size w W3 := HBM.out.grown hg3 HBM.out.size (fun k hk => by injection hk with hk; omega)
    have HROW3 := Go.Lib.hid hrow3; have HM3 := Go.Lib.hid hm3; have HID3 := Go.Lib.hid hid3; have HB3 := Go.Lib.hid hb3
    have HS3 : Hid (g1 + 1 < W3.heap.size) := by have := hg3.size; have := HSM.out; show g1 + 1 < W3.heap.size; omega
    clear hmm hrow3 hm3 hid3 hb3 hg3 m0 m1 HRM HMM HBM HIDM HSM HWM
    obtain ⟨mb, hmb⟩ : ∃ m, g1 + 1 = m := ⟨_, rfl⟩
    try rw [hg1]
    try rw [hmb]
    rw [hmb] at HM3 HS3
    go_wp2_with fail
    go_loopw [5, 6, 8, 9, 21, 22, 23, 24, 25, 26, 27, 28, 29, 30, 31, 32, 33, 34, 35, 36, 37, 38, 39, 40, 41, 42, 43, 44] (fun va vo _ _ _ _ _ _ _ _ _ _ _ _ _ _ _ _ _ _ _ _ _ _ _ _ _ _ wr => ∃ (k : Nat) (out : List St) (s : St), va = .int .i64 (atI l s) ∧ Row wr (w.heap.size + 1) 33 2 vo (out.length + 1) (stsCells (out ++ [s])) ∧ vo.ownBlock ≠ some mb ∧ StIs wr mb (out.length + 1) (out ++ [s]) ∧ wr.heap[w.heap.size]? = some (.cells (stArr s) 33 (0, 0)) ∧ chainOf l s0 = chainGo l (k + 1) out s ∧ stillOf l out ≤ k ∧ out.length + stillOf l out ≤ n ∧ s ∉ out ∧ (∀ u ∈ out, findOf l u ≠ none) ∧ (out ≠ [] ∨ findOf l s ≠ none) ∧ Below w.heap.size w wr ∧ mb < wr.heap.size) (fun va vo _ _ _ _ _ _ _ _ _ _ _ _ _ _ _ _ _ _ _ _ _ _ _ _ _ _ _ => n + 2 - lenOfV vo)
    case atStart => exact ⟨n, [], s0, by rw [HA.out], HROW3.out, by simp [Value.ownBlock]; omega, HM3.out, HID3.out, HSTART.out, by rw [stillOf_nil, HN.out]; exact Nat.le_refl _, by rw [stillOf_nil, HN.out]; simp, by simp, by simp, .inr (by rw [HF.out]; simp), HB3.out, HS3.out⟩
    case round =>
      obtain ⟨k, out, s, rfl, hrow, hne, hset, hbox, hch, hlk, hol, hso, hin, hop, hbel, hms⟩ := hrel
      obtain ⟨A, c, rfl⟩ := row_form hrow
      cases hfd : findOf l s with
      | none =>
        have ha : atI l s = -1 := by unfold atI; rw [hfd]
        have hres : r = out ++ [s] := by
          rw [← HR.out, hch, chainGo_none hfd, if_neg]
          rcases hop with h | h
          · exact h
          · exact absurd hfd h
        have HRES := Go.Lib.hid hres; have HO := Go.Lib.hid (Sts.of_row hrow); have HB := Go.Lib.hid hbel
        clear hrow hset hbox hch hres hbel hin hop hfd hne hso
        rw [ha]
        clear ha
        go_wp2_with fail
        go_ret
        exact ⟨_, rfl, by rw [HRES.out]; exact HO.out, HB.out⟩
      | some y =>
        obtain ⟨i, hi⟩ : ∃ i, atOf l s = i := ⟨_, rfl⟩
        have ha : atI l s = (i : Int) := by unfold atI; rw [hfd, ← hi]
        obtain ⟨hgy, hlt⟩ := at_get hfd
        rw [hi] at hgy hlt
        rw [HN.out] at hlt
        obtain ⟨hmem, hys⟩ := findOf_some hfd
        have hwp : stWf y.parent := (HWF.out y hmem).2.1
        have hnx := hch
        rw [chainGo_on hfd hso] at hnx
        have hlf := stillOf_on hfd hso
        obtain ⟨j, rfl⟩ : ∃ j, k = j + 1 := ⟨k - 1, by omega⟩
        obtain ⟨b1, o1, x, hA, hgx, hx⟩ := (HV.out.below hbel).at i hlt
        obtain rfl : x = y := by rw [hgx] at hgy; injection hgy
        subst hA
        obtain ⟨c0, c1, c2, c3, c4, c5, c6⟩ := nd_cells hx
        have f0 := frozen_of_row wr w.heap.size 0 _ _ hbox
        have f1 := frozen_of_row wr w.heap.size 1 _ _ hbox
        have a0 : wr.cell? ⟨w.heap.size, 0, none⟩ = some (.int .i64 s.count) := by rw [cell_of_row _ _ _ _ _ _ hbox]; rfl
        have a1 : wr.cell? ⟨w.heap.size, 1, none⟩ = some (.int .i64 s.who) := by rw [cell_of_row _ _ _ _ _ _ hbox]; rfl
        obtain ⟨V, hV⟩ : ∃ V, (wr.setCell ⟨w.heap.size, 0, none⟩ (.int .i64 x.parent.count)).setCell ⟨w.heap.size, 1, none⟩ (.int .i64 x.parent.who) = V := ⟨_, rfl⟩
        have hboxV : V.heap[w.heap.size]? = some (.cells (stArr x.parent) 33 (0, 0)) := by
          rw [← hV]
          exact heap_setCell_same _ w.heap.size 1 _ _ (.int .i64 x.parent.who) (heap_setCell_same wr w.heap.size 0 _ _ (.int .i64 x.parent.count) hbox)
        have hbV : Below w.heap.size w V := by rw [← hV]; exact (hbel.setCell (p := ⟨w.heap.size, 0, none⟩) (Nat.le_refl _) _).setCell (p := ⟨w.heap.size, 1, none⟩) (Nat.le_refl _) _
        have hrV : Row V (w.heap.size + 1) 33 2 (.slice A (out.length + 1) c) (out.length + 1) (stsCells (out ++ [s])) := by rw [← hV]; exact (hrow.other (Nat.lt_succ_self _) 0 _).other (Nat.lt_succ_self _) 1 _
        have hszV : V.heap.size = wr.heap.size := by rw [← hV]; simp
        have hsV : StIs V mb (out.length + 1) (out ++ [s]) := hset.at (by
          rw [← hV, heap_setCell_other _ _ _ _ (by simp; omega), heap_setCell_other _ _ _ _ (by simp; omega)])
        have hlk2 := hsV.look x.parent hwp
        have v0 : V.cell? ⟨w.heap.size, 0, none⟩ = some (.int .i64 x.parent.count) := by rw [cell_of_row _ _ _ _ _ _ hboxV]; rfl
        have v1 : V.cell? ⟨w.heap.size, 1, none⟩ = some (.int .i64 x.parent.who) := by rw [cell_of_row _ _ _ _ _ _ hboxV]; rfl
        have hPn := HP.out x.parent
        have HPN := Go.Lib.hid hPn
        obtain ⟨m, hm⟩ : ∃ m, out.length = m := ⟨_, rfl⟩
        obtain ⟨q, hq⟩ : ∃ q, decide (x.parent ∈ out ++ [s]) = q := ⟨_, rfl⟩
        rw [hq] at hlk2
        rw [hm] at hrV hsV hol
        rw [ha, hm]
        obtain ⟨aa, haa⟩ : ∃ z, atI l x.parent = z := ⟨_, rfl⟩
        rw [haa] at HPN
        have HROW := Go.Lib.hid hrV; have HSET := Go.Lib.hid hsV; have HBOX := Go.Lib.hid hboxV; have HBV := Go.Lib.hid hbV; have HNX := Go.Lib.hid hnx; have HLF := Go.Lib.hid hlf; have HV' := Go.Lib.hid hV; have HM := Go.Lib.hid hm; have HLK := Go.Lib.hid hlk2; have HQ := Go.Lib.hid hq; have HIN := Go.Lib.hid hin; have HFD := Go.Lib.hid hfd; have HAA := Go.Lib.hid haa; have HSZ := Go.Lib.hid hszV; have HNE := Go.Lib.hid hne
        rw [hm] at HNE
        clear hrow hset hbox hch hbel hop hrV hsV hboxV hbV hnx hlf hV hm hlk2 hq hin hfd hgx hgy hx hPn haa hszV hi ha hmem hys hne hso
        have hii : (i : Int) < (n : Int) := by omega
        go_wp2_with fail
        rw [HV'.out]
        clear a0 a1 c0 c1 c2 c3 c4 c5 c6 f0 f1
        have hlook := HLK.out
        have hVl : w.heap.size < V.heap.size := (Array.getElem?_eq_some_iff.1 HBOX.out).1
        have hmV : mb < V.heap.size := by have := HSZ.out; omega
        cases q
        · obtain ⟨VE, hVE⟩ : ∃ W, V.alloc (.cells #[] 116) = W := ⟨_, rfl⟩
          have hsE : VE.heap.size = V.heap.size + 1 := by rw [← hVE]; simp
          have hbE : Below w.heap.size w VE := by rw [← hVE]; exact HBV.out.alloc HBV.out.size _
          have hmE : StIs VE mb (m + 1) (out ++ [s]) := HSET.out.at (by rw [← hVE]; exact Below.heap_alloc _ _ _ hmV)
          have hrE : Row VE (w.heap.size + 1) 33 2 (.slice A (m + 1) c) (m + 1) (stsCells (out ++ [s])) := by rw [← hVE]; exact HROW.out.alloc _
          have hxE : VE.heap[w.heap.size]? = some (.cells (stArr x.parent) 33 (0, 0)) := by rw [← hVE]; exact (Below.heap_alloc _ _ _ hVl).trans HBOX.out
          have e0 : VE.cell? ⟨w.heap.size, 0, none⟩ = some (.int .i64 x.parent.count) := by rw [cell_of_row _ _ _ _ _ _ hxE]; rfl
          have e1 : VE.cell? ⟨w.heap.size, 1, none⟩ = some (.int .i64 x.parent.who) := by rw [cell_of_row _ _ _ _ _ _ hxE]; rfl
          rw [← hVE] at e0 e1
          have HVE := Go.Lib.hid hVE; have HBE := Go.Lib.hid hbE; have HME := Go.Lib.hid hmE; have HRE := Go.Lib.hid hrE; have HXE := Go.Lib.hid hxE; have HSE := Go.Lib.hid hsE
          clear hVE hbE hmE hrE hxE hsE
          go_wp2_with fail
          simp only [hlook]
          clear hlook
          go_wp2_with (first
            | (at_mapUpdate; refine wpList_st_put (w := V.alloc (.cells #[] 116)) (b := mb) (n := m + 1) (S := out ++ [s]) (by rw [HVE.out]; exact HME.out) rfl (.tmp 35) (.tmp 36) (.tmp 37) (.inl rfl) rfl (by unfold maxLen; omega) x.parent hwp rfl rfl ?_; intro V2 hm2 hg2; rw [HVE.out] at hg2; have HM2 := Go.Lib.hid hm2; have HG2 := Go.Lib.hid hg2; clear hm2 hg2 e0 e1; have hx2 := (HG2.out.block w.heap.size (by have := HSE.out; omega) (by simp; omega)).trans HXE.out; have e0 : V2.cell? ⟨w.heap.size, 0, none⟩ = some (.int .i64 x.parent.count) := (by rw [cell_of_row _ _ _ _ _ _ hx2]; rfl); have e1 : V2.cell? ⟨w.heap.size, 1, none⟩ = some (.int .i64 x.parent.who) := (by rw [cell_of_row _ _ _ _ _ _ hx2]; rfl); have HX2 := Go.Lib.hid hx2; clear hx2; have hs2 : VE.heap.size ≤ V2.heap.size := HG2.out.size; have HR2 := Go.Lib.hid (HRE.out.kept HG2.out (.inr HNE.out)); have HB2 := Go.Lib.hid (HBE.out.grown HG2.out HBE.out.size (fun k hk => (by injection hk with hk; omega))))
            | (at_builtin; refine wpList_append_stg rfl (.tmp 38) (.tmp 40) rfl (w.heap.size + 1) (.slice A (m + 1) c) (m + 1) (out ++ [s]) rfl HR2.out x.parent _ rfl V2.heap.size rfl rfl (by omega) (by have := HSE.out; omega) ?_; intro v3 V3 hr3 hb3 hk3; have HR3 := Go.Lib.hid hr3; have HB3 := Go.Lib.hid hb3; have HK3 := Go.Lib.hid hk3; clear hr3 hb3 hk3 e0 e1; have hx3 := (HK3.out w.heap.size (by have := HSE.out; omega) (fun e => by have := (HR2.out.lt _ e).1; omega)).1.trans HX2.out; have e0 : V3.cell? ⟨w.heap.size, 0, none⟩ = some (.int .i64 x.parent.count) := (by rw [cell_of_row _ _ _ _ _ _ hx3]; rfl); have e1 : V3.cell? ⟨w.heap.size, 1, none⟩ = some (.int .i64 x.parent.who) := (by rw [cell_of_row _ _ _ _ _ _ hx3]; rfl); have HX3 := Go.Lib.hid hx3; clear hx3))
          have hkm := HK3.out mb (by have := HSE.out; omega) HNE.out
          have hm3 := HM2.out.at hkm.1
          have hb3 : Below w.heap.size w V3 := HB2.out.trans (HB3.out.mono (Nat.le_succ _))
          have HM3 := Go.Lib.hid hm3; have HB3' := Go.Lib.hid hb3; have HKM := Go.Lib.hid hkm.2
          clear hm3 hb3 hkm
          refine (HPN.out _ (HV.out.below HB3'.out)).mono ?_; rintro _ V4 ⟨rfl, hb4⟩
          have hx4 := (hb4.block _ (Array.getElem?_eq_some_iff.1 HX3.out).1).trans HX3.out
          have HX4 := Go.Lib.hid hx4; have HM4 := Go.Lib.hid (HM3.out.below hb4); have HR4 := Go.Lib.hid (HR3.out.below hb4); have HB4 := Go.Lib.hid (bstep HB3'.out hb4)
          have HS4 := Go.Lib.hid (HM3.out.below hb4).lt
          clear hx4 hb4 e0 e1
          go_wp2_with fail
          have hlen : (out ++ [s]).length = m + 1 := by rw [List.length_append, HM.out]; rfl
          obtain ⟨A4, c4, hv4⟩ := row_form HR4.out
          have hlf := HLF.out
          refine ⟨⟨j, out ++ [s], x.parent, by rw [HAA.out], by rw [hlen]; exact HR4.out, HKM.out, by rw [hlen]; exact HM4.out, HX4.out, HNX.out, by omega, by rw [hlen]; omega, of_decide_eq_false HQ.out, fun u hu => ?_, .inl (by simp), HB4.out, HS4.out⟩, ?_⟩
          · rcases List.mem_append.1 hu with h | h
            · exact HIN.out _ h
            · rw [List.mem_singleton.1 h, HFD.out]; simp
          · rw [hv4]
            simp only [lenOfV]
            omega
        · have hmem : x.parent ∈ out ++ [s] := of_decide_eq_true HQ.out
          have hres : r = out ++ [s] := by
            rw [← HR.out, HNX.out]
            have hpf : findOf l x.parent ≠ none := by
              rcases List.mem_append.1 hmem with h | h
              · exact HIN.out _ h
              · rw [List.mem_singleton.1 h, HFD.out]; simp
            obtain ⟨z, hz⟩ := Option.ne_none_iff_exists'.1 hpf
            exact chainGo_again hz hmem j
          have HRES := Go.Lib.hid hres; have HO := Go.Lib.hid (Sts.of_row HROW.out)
          clear hres hmem
          go_wp2_with fail
          simp only [hlook]
          clear hlook
          go_wp2_with fail
          go_ret
          exact ⟨_, rfl, by rw [HRES.out]; exact HO.out.below ((Below.refl _ _).alloc (Nat.le_refl _) _), HBV.out.alloc HBV.out.size _⟩
end Go.Proofs.YtjeijolblcodpaaDoor.W
