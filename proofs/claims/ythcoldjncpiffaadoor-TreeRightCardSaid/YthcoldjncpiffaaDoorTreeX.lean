/- The reference of trees: Chain. -/
import Derived.Test.YthcoldjncpiffaaDoorTreeW0
namespace Go.Proofs.YthcoldjncpiffaaDoor.W
set_option linter.unusedVariables false
open Go.RowKit Go.Proofs Arb

theorem found_true {l : List Nod} {s : St} {y : Nod} (h : foundOf l s = (y, true)) : findOf l s = some y := by
  unfold foundOf at h
  cases hf : findOf l s with
  | none => rw [hf] at h; injection h with _ h; cases h
  | some n => rw [hf] at h; injection h with h; rw [h]
theorem found_false {l : List Nod} {s : St} {y : Nod} (h : foundOf l s = (y, false)) : findOf l s = none := by
  unfold foundOf at h
  cases hf : findOf l s with
  | none => rfl
  | some n => rw [hf] at h; injection h with _ h; cases h
/-- The two blocks of a chain's loop: the stamp's, the node's. -/
structure ChSt (w : World) (b g : Nat) (s : St) (y : Nod) : Prop where
  id : w.heap[b]? = some (.cells (stArr s) 30 (0, 0))
  nd : w.heap[g]? = some (.cells (ndArr y) 37 (0, 0))
  far : b < g
theorem ChSt.under {w w' : World} {b g : Nat} {s : St} {y : Nod} (h : ChSt w b g s y) {B : Nat} (hB : g < B) (hb : Below B w w') : ChSt w' b g s y := ⟨(hb.block b (by have := h.far; omega)).trans h.id, (hb.block g hB).trans h.nd, h.far⟩
theorem ChSt.lt {w : World} {b g : Nat} {s : St} {y : Nod} (h : ChSt w b g s y) : g < w.heap.size := (Array.getElem?_eq_some_iff.1 h.nd).1
theorem ChSt.cells {w : World} {b g : Nat} {s : St} {y : Nod} (h : ChSt w b g s y) : w.cell? ⟨b, 0, none⟩ = some (.int .i64 s.count) ∧ w.cell? ⟨b, 1, none⟩ = some (.int .i64 s.who) ∧ w.frozen? ⟨b, 0, none⟩ = false ∧ w.frozen? ⟨b, 1, none⟩ = false ∧ w.cell? ⟨g, 3, none⟩ = some (.int .i64 y.parent.count) ∧ w.cell? ⟨g, 4, none⟩ = some (.int .i64 y.parent.who) :=
  ⟨by rw [cell_of_row _ _ _ _ _ _ h.id]; rfl, by rw [cell_of_row _ _ _ _ _ _ h.id]; rfl, frozen_of_row _ _ _ _ _ h.id, frozen_of_row _ _ _ _ _ h.id, by rw [cell_of_row _ _ _ _ _ _ h.nd]; rfl, by rw [cell_of_row _ _ _ _ _ _ h.nd]; rfl⟩
theorem ChSt.put {w : World} {b g : Nat} {s : St} {y : Nod} (h : ChSt w b g s y) (p : St) : ChSt ((w.setCell ⟨b, 0, none⟩ (.int .i64 p.count)).setCell ⟨b, 1, none⟩ (.int .i64 p.who)) b g p y := by
  refine ⟨?_, ?_, h.far⟩
  · exact heap_setCell_same _ b 1 _ _ (.int .i64 p.who) (heap_setCell_same w b 0 _ _ (.int .i64 p.count) h.id)
  · rw [heap_setCell_other _ _ _ _ (by have := h.far; simp; omega), heap_setCell_other _ _ _ _ (by have := h.far; simp; omega)]
    exact h.nd
theorem ChSt.lay {w : World} {b g : Nat} {s : St} {y : Nod} (h : ChSt w b g s y) (z : Nod) : ChSt (w.setRow g (ndArr z)) b g s z :=
  ⟨(setRow_other w g b _ (by have := h.far; omega)).trans h.id, setRow_heap _ _ _ _ _ _ h.nd, h.far⟩

set_option maxRecDepth 20000 in
set_option maxHeartbeats 8000000 in
theorem rchain7_any (v : Value) (l : List Nod) (s0 : St) (w : World) (h : Nods w v l) (hl : l.length ≤ 100000) :
    Calls Tryd.prog 23 #[v, .agg #[.int .i64 s0.count, .int .i64 s0.who]] w fun e w' => ∃ v', e = .returned v' ∧ Sts w' v' (chainOf l s0) ∧ Below w.heap.size w w' := by
  have hf := fun s w y b hy h => rfind7_out v l s w y b hy h (by omega)
  have hv0 := h
  obtain ⟨A0, c0, rfl, -⟩ := h.len
  obtain ⟨r, hr⟩ : ∃ r, chainOf l s0 = r := ⟨_, rfl⟩
  rw [hr]
  obtain ⟨n, hnn⟩ : ∃ n, l.length = n := ⟨_, rfl⟩
  rw [hnn] at h hl hv0 hf
  rw [hnn]
  have hb0 : Below w.heap.size w (w.alloc (.cells #[.int .i64 s0.count, .int .i64 s0.who] 30)) := (Below.refl _ _).alloc (Nat.le_refl _) _
  have hid0 := heap_alloc_new w (.cells #[.int .i64 s0.count, .int .i64 s0.who] 30)
  obtain ⟨W0, hW0⟩ : ∃ W, w.alloc (.cells #[.int .i64 s0.count, .int .i64 s0.who] 30) = W := ⟨_, rfl⟩
  rw [hW0] at hb0 hid0
  have ha0 : W0.cell? ⟨w.heap.size, 0, none⟩ = some (.int .i64 s0.count) := by rw [cell_of_row _ _ _ _ _ _ hid0]; rfl
  have ha1 : W0.cell? ⟨w.heap.size, 1, none⟩ = some (.int .i64 s0.who) := by rw [cell_of_row _ _ _ _ _ _ hid0]; rfl
  obtain ⟨y0, b0, hy0⟩ : ∃ y b, foundOf l s0 = (y, b) := ⟨_, _, rfl⟩
  have hf0 := hf s0 W0 y0 b0 hy0 (h.below hb0)
  have HF := Go.Lib.hid hf; have HF0 := Go.Lib.hid hf0; have HB0 := Go.Lib.hid hb0; have HID0 := Go.Lib.hid hid0; have HW0 := Go.Lib.hid hW0; have HV := Go.Lib.hid hv0; have HR := Go.Lib.hid hr; have HY0 := Go.Lib.hid hy0; have HN := Go.Lib.hid hnn
  clear hf hf0 hb0 hid0 hW0 hv0 hr hy0 h hnn
  go_enter Tryd.func23, Tryd.ntmps23
  go_wp2_with fail
  rw [HW0.out]
  go_wp2_with fail
  refine HF0.out.mono ?_; rintro _ w1 ⟨rfl, hb1⟩
  clear ha0 ha1
  obtain ⟨W2, hW2⟩ : ∃ W, w1.alloc (.cells #[.int .i64 y0.id.count, .int .i64 y0.id.who, .bool y0.dir, .int .i64 y0.parent.count, .int .i64 y0.parent.who, .string (BS y0.name), .string (BS y0.manifest)] 37) = W := ⟨_, rfl⟩
  have hst : ChSt W2 w.heap.size w1.heap.size s0 y0 := by
    have h1 := Array.getElem?_eq_some_iff.1 HID0.out
    have h2 := (hb1.block _ h1.1).trans HID0.out
    have h3 := (Array.getElem?_eq_some_iff.1 h2).1
    rw [← hW2]
    exact ⟨(Below.heap_alloc _ _ _ h3).trans h2, heap_alloc_new w1 _, h3⟩
  have hb2 : Below w.heap.size w W2 := by
    have := bstep HB0.out hb1
    rw [← hW2]; exact this.alloc this.size _
  have HW2 := Go.Lib.hid hW2; have HST := Go.Lib.hid hst; have HB2 := Go.Lib.hid hb2
  clear hW2 hst hb2 hb1
  obtain ⟨g, hg⟩ : ∃ g, w1.heap.size = g := ⟨_, rfl⟩
  go_wp2_with fail
  rw [HW2.out]
  try rw [hg]
  rw [hg] at HST
  have hg2 : g < W2.heap.size := HST.out.lt
  have hstart : chainOf l s0 = chainGo l (n + 1) [] s0 := by unfold chainOf; rw [HN.out]
  have HSTART := Go.Lib.hid hstart
  clear hstart hg HW2 HF0
  go_loopw [5, 7, 14, 15, 16, 17, 18, 19, 20, 21, 22, 23, 24, 25, 26, 27, 28, 29, 30, 31, 32] (fun vo is _ _ _ _ _ _ _ _ _ _ _ _ _ _ _ _ _ _ _ wr => ∃ (k : Nat) (out : List St) (s : St) (y : Nod) (b : Bool), is = .bool b ∧ foundOf l s = (y, b) ∧ Row wr (g + 1) 30 2 vo out.length (stsCells out) ∧ ChSt wr w.heap.size g s y ∧ chainOf l s0 = chainGo l (k + 1) out s ∧ stillOf l out ≤ k ∧ out.length + stillOf l out ≤ n ∧ Below w.heap.size w wr ∧ g < wr.heap.size) (fun vo _ _ _ _ _ _ _ _ _ _ _ _ _ _ _ _ _ _ _ _ _ => n - lenOfV vo)
  case atStart => exact ⟨n, [], s0, y0, b0, rfl, HY0.out, Row.nil _ _ _ _, HST.out, HSTART.out, by rw [stillOf_nil, HN.out]; exact Nat.le_refl _, by rw [stillOf_nil, HN.out]; simp, HB2.out, hg2⟩
  case round =>
    obtain ⟨k, out, s, y, b, rfl, hfd, hrow, hst, hch, hlk, hol, hbel, hgs⟩ := hrel
    obtain ⟨A, c, rfl⟩ := row_form hrow
    obtain ⟨a0, a1, f0, f1, p0, p1⟩ := hst.cells
    have HST := Go.Lib.hid hst; have HROW := Go.Lib.hid hrow; have HBEL := Go.Lib.hid hbel; have HCH := Go.Lib.hid hch; have HFD := Go.Lib.hid hfd
    clear hst hrow hbel hch hfd HB2 HSTART hg2
    cases b
    · have hno := found_false HFD.out
      have hres := HCH.out
      rw [chainGo_none hno, HR.out] at hres
      clear hno
      by_cases ho : out = []
      · subst ho
        rw [if_pos rfl] at hres
        have HRES := Go.Lib.hid hres
        have HO := Go.Lib.hid (Sts.of_row HROW.out)
        clear hres
        simp only [List.length_nil] at *
        go_wp2_with fail
        go_ret
        exact ⟨_, rfl, by rw [HRES.out]; exact HO.out, HBEL.out⟩
      · rw [if_neg ho] at hres
        have hpos : 0 < out.length := List.length_pos_iff.2 ho
        obtain ⟨m, hm⟩ : ∃ m, out.length = m := ⟨_, rfl⟩
        have hrow2 := HROW.out
        rw [hm] at hrow2 hpos hol
        have hpi : (0 : Int) < (m : Int) := by omega
        have HRES := Go.Lib.hid hres; have HR2 := Go.Lib.hid hrow2
        rw [hm]
        clear hres ho hm hrow2
        go_wp2_with (at_builtin; refine wpList_append_st rfl (.tmp 40) (.tmp 42) rfl (g + 1) (.slice A m c) m out rfl HR2.out s _ rfl rfl (by omega) (by omega) ?_; intro v4 W4 hr4 hb4; have HO4 := Go.Lib.hid (Sts.of_row hr4); have HB4 := Go.Lib.hid (HBEL.out.trans (hb4.mono (by have := HST.out.far; omega))); clear hr4 hb4)
        all_goals (
          go_ret
          exact ⟨_, rfl, by rw [HRES.out]; exact HO4.out, HB4.out⟩)
    · have hyes := found_true HFD.out
      have hhas := rhas7_any (.slice A out.length c) out s wr (Sts.of_row HROW.out) (by omega)
      by_cases hin : s ∈ out
      · have hres := HCH.out
        rw [chainGo_again hyes hin, HR.out] at hres
        have hpos : 0 < out.length := List.length_pos_of_mem hin
        rw [decide_eq_true hin] at hhas
        obtain ⟨m, hm⟩ : ∃ m, out.length = m := ⟨_, rfl⟩
        have hrow2 := HROW.out
        rw [hm] at hrow2 hpos hol hhas
        have hpi : (0 : Int) < (m : Int) := by omega
        have HRES := Go.Lib.hid hres; have HO := Go.Lib.hid (Sts.of_row hrow2); have HH := Go.Lib.hid hhas
        rw [hm]
        clear hres hin hm hrow2 hhas hyes
        go_wp2_with (go_at_call 36; with_reducible refine HH.out.mono ?_; rintro e w4 ⟨rfl, hb4⟩; have HO4 := Go.Lib.hid (HO.out.below hb4); have HB4 := Go.Lib.hid (bstep HBEL.out hb4); clear hb4)
        go_ret
        exact ⟨_, rfl, by rw [HRES.out]; exact HO4.out, HB4.out⟩
      · have hnx := HCH.out
        rw [chainGo_on hyes hin] at hnx
        have hlf := stillOf_on hyes hin
        rw [decide_eq_false hin] at hhas
        obtain ⟨m, hm⟩ : ∃ m, out.length = m := ⟨_, rfl⟩
        have hrow2 := HROW.out
        rw [hm] at hrow2 hol hhas
        obtain ⟨j, rfl⟩ : ∃ j, k = j + 1 := ⟨k - 1, by omega⟩
        obtain ⟨y2, b2, hy2⟩ : ∃ z b, foundOf l y.parent = (z, b) := ⟨_, _, rfl⟩
        have HNX := Go.Lib.hid hnx; have HH := Go.Lib.hid hhas; have HLF := Go.Lib.hid hlf; have HY2 := Go.Lib.hid hy2; have HR2 := Go.Lib.hid hrow2; have HM := Go.Lib.hid hm
        rw [hm]
        clear hnx hhas hlf hy2 hrow2 hm hyes hin HCH HFD HROW
        go_wp2_with (first
          | (go_at_call 36; with_reducible refine HH.out.mono ?_; rintro e w4 ⟨rfl, hb4⟩; have HR4 := Go.Lib.hid (HR2.out.below hb4); have HST4 := Go.Lib.hid (HST.out.under HST.out.lt hb4); have HB4 := Go.Lib.hid (bstep HBEL.out hb4); have hgs4 : g < w4.heap.size := Nat.lt_of_lt_of_le hgs hb4.size; clear hb4 a0 a1 f0 f1 p0 p1; obtain ⟨a0, a1, f0, f1, p0, p1⟩ := HST4.out.cells)
          | (at_builtin; refine wpList_append_st rfl (.tmp 21) (.tmp 23) rfl (g + 1) (.slice A m c) m out rfl HR4.out s _ rfl rfl (by omega) (by omega) ?_; intro v5 W5 hr5 hb5; have HR5 := Go.Lib.hid hr5; have HST5 := Go.Lib.hid (HST4.out.under (Nat.lt_succ_self g) hb5); have HB5 := Go.Lib.hid (HB4.out.trans (hb5.mono (by have := HST4.out.far; omega))); clear hr5 hb5 a0 a1 f0 f1 p0 p1; obtain ⟨a0, a1, f0, f1, p0, p1⟩ := HST5.out.cells))
        clear a0 a1 f0 f1 p0 p1
        have hfar := HST5.out.far
        have hst6 := HST5.out.put y.parent
        have hb6 := (HB5.out.setCell (p := ⟨w.heap.size, 0, none⟩) (Nat.le_refl _) (.int .i64 y.parent.count)).setCell (p := ⟨w.heap.size, 1, none⟩) (Nat.le_refl _) (.int .i64 y.parent.who)
        have hr6 := (HR5.out.other (b := w.heap.size) (by omega) 0 (.int .i64 y.parent.count)).other (b := w.heap.size) (by omega) 1 (.int .i64 y.parent.who)
        have hf6 := HF.out y.parent _ y2 b2 HY2.out (HV.out.below hb6)
        obtain ⟨V, hVV⟩ : ∃ V, (W5.setCell ⟨w.heap.size, 0, none⟩ (.int .i64 y.parent.count)).setCell ⟨w.heap.size, 1, none⟩ (.int .i64 y.parent.who) = V := ⟨_, rfl⟩
        rw [hVV] at hst6 hb6 hr6 hf6
        rw [hVV]
        have HF6 := Go.Lib.hid hf6; have HST6 := Go.Lib.hid hst6; have HB6 := Go.Lib.hid hb6; have HR6 := Go.Lib.hid hr6
        clear hst6 hb6 hr6 hf6 hVV
        refine HF6.out.mono ?_; rintro _ w7 ⟨rfl, hb7⟩
        have HST7 := Go.Lib.hid (HST6.out.under HST6.out.lt hb7); have HB7 := Go.Lib.hid (bstep HB6.out hb7); have HR7 := Go.Lib.hid (HR6.out.below hb7)
        clear hb7
        go_wp2_with (refine wpList_store_row rfl 37 (.tmp 6) (.tmp 31) rfl g (ndArr y2) rfl rfl 37 _ HST7.out.nd (size_nd.trans (by rfl)) (by rfl) (ndArr_one _) ?_)
        have hlen : (out ++ [s]).length = m + 1 := by rw [List.length_append, HM.out]; rfl
        have hr8 := HR7.out.otherRow (b := g) (by omega) (ndArr y2)
        obtain ⟨A8, c8, hv8⟩ := row_form hr8
        have hlf := HLF.out
        refine ⟨⟨j, out ++ [s], y.parent, y2, b2, rfl, HY2.out, by rw [hlen]; exact hr8, HST7.out.lay y2, HNX.out, by omega, by rw [hlen]; omega, below_setRow HB7.out (by omega) _, by rw [setRow_size]; exact HST7.out.lt⟩, ?_⟩
        rw [hv8]
        simp only [lenOfV]
        omega
end Go.Proofs.YthcoldjncpiffaaDoor.W
