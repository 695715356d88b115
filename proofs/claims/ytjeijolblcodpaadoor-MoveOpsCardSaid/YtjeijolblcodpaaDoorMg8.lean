/- Parts of the proof that all the laws of this package share, in their order. Each says what is in it. -/
import Derived.Test.YtjeijolblcodpaaDoorMg7
import Derived.Test.YtjeijolblcodpaaDoorMg5
import Derived.Deep.RegionWith
import Derived.Test.YtjeijolblcodpaaDoorMg3

/- The reference of trees: Chain. -/
section
namespace Go.Proofs.YtjeijolblcodpaaDoor.W
set_option maxRecDepth 20000
set_option linter.unusedVariables false
open Go.RowKit Go.Proofs Arb

theorem found_true {l : List Nod} {s : St} {y : Nod} (h : foundOf l s = (y, true)) : findOf l s = some y := by
  unfold foundOf at h
  cases hf : findOf l s with
  | none => rw [hf] at h; injection h with _ h; cases h
  | some n => rw [hf] at h; injection h with h; rw [h]
theorem found_false {l : List Nod} {s : St} {y : Nod} (h : foundOf l s = (y, false)) : findOf l s = none := by
  unfold foundOf at h
  cases hf : findOf l s with
  | none => rfl
  | some n => rw [hf] at h; injection h with _ h; cases h
/-- The two blocks of a chain's loop: the stamp's, the node's. -/
structure ChSt (w : World) (b g : Nat) (s : St) (y : Nod) : Prop where
  id : w.heap[b]? = some (.cells (stArr s) 33 (0, 0))
  nd : w.heap[g]? = some (.cells (ndArr y) 49 (0, 0))
  far : b < g
theorem ChSt.under {w w' : World} {b g : Nat} {s : St} {y : Nod} (h : ChSt w b g s y) {B : Nat} (hB : g < B) (hb : Below B w w') : ChSt w' b g s y := ⟨(hb.block b (by have := h.far; omega)).trans h.id, (hb.block g hB).trans h.nd, h.far⟩
theorem ChSt.lt {w : World} {b g : Nat} {s : St} {y : Nod} (h : ChSt w b g s y) : g < w.heap.size := (Array.getElem?_eq_some_iff.1 h.nd).1
theorem ChSt.cells {w : World} {b g : Nat} {s : St} {y : Nod} (h : ChSt w b g s y) : w.cell? ⟨b, 0, none⟩ = some (.int .i64 s.count) ∧ w.cell? ⟨b, 1, none⟩ = some (.int .i64 s.who) ∧ w.frozen? ⟨b, 0, none⟩ = false ∧ w.frozen? ⟨b, 1, none⟩ = false ∧ w.cell? ⟨g, 3, none⟩ = some (.int .i64 y.parent.count) ∧ w.cell? ⟨g, 4, none⟩ = some (.int .i64 y.parent.who) :=
  ⟨by rw [cell_of_row _ _ _ _ _ _ h.id]; rfl, by rw [cell_of_row _ _ _ _ _ _ h.id]; rfl, frozen_of_row _ _ _ _ _ h.id, frozen_of_row _ _ _ _ _ h.id, by rw [cell_of_row _ _ _ _ _ _ h.nd]; rfl, by rw [cell_of_row _ _ _ _ _ _ h.nd]; rfl⟩
theorem ChSt.put {w : World} {b g : Nat} {s : St} {y : Nod} (h : ChSt w b g s y) (p : St) : ChSt ((w.setCell ⟨b, 0, none⟩ (.int .i64 p.count)).setCell ⟨b, 1, none⟩ (.int .i64 p.who)) b g p y := by
  refine ⟨?_, ?_, h.far⟩
  · exact heap_setCell_same _ b 1 _ _ (.int .i64 p.who) (heap_setCell_same w b 0 _ _ (.int .i64 p.count) h.id)
  · rw [heap_setCell_other _ _ _ _ (by have := h.far; simp; omega), heap_setCell_other _ _ _ _ (by have := h.far; simp; omega)]
    exact h.nd
theorem ChSt.lay {w : World} {b g : Nat} {s : St} {y : Nod} (h : ChSt w b g s y) (z : Nod) : ChSt (w.setRow g (ndArr z)) b g s z :=
  ⟨(setRow_other w g b _ (by have := h.far; omega)).trans h.id, setRow_heap _ _ _ _ _ _ h.nd, h.far⟩

set_option maxRecDepth 20000 in
set_option maxHeartbeats 8000000 in
theorem rchain7_any (v : Value) (l : List Nod) (s0 : St) (w : World) (h : Nods w v l) (hl : l.length ≤ 100000) :
    Calls Tryd.prog 71 #[v, .agg #[.int .i64 s0.count, .int .i64 s0.who]] w fun e w' => ∃ v', e = .returned v' ∧ Sts w' v' (chainOf l s0) ∧ Below w.heap.size w w' := by
  have hf := fun s w y b hy h => rfind7_out v l s w y b hy h (by omega)
  have hv0 := h
  obtain ⟨A0, c0, rfl, -⟩ := h.len
  obtain ⟨r, hr⟩ : ∃ r, chainOf l s0 = r := ⟨_, rfl⟩
  rw [hr]
  obtain ⟨n, hnn⟩ : ∃ n, l.length = n := ⟨_, rfl⟩
  rw [hnn] at h hl hv0 hf
  rw [hnn]
  have hb0 : Below w.heap.size w (w.alloc (.cells #[.int .i64 s0.count, .int .i64 s0.who] 33)) := (Below.refl _ _).alloc (Nat.le_refl _) _
  have hid0 := heap_alloc_new w (.cells #[.int .i64 s0.count, .int .i64 s0.who] 33)
  obtain ⟨W0, hW0⟩ : ∃ W, w.alloc (.cells #[.int .i64 s0.count, .int .i64 s0.who] 33) = W := ⟨_, rfl⟩
  rw [hW0] at hb0 hid0
  have ha0 : W0.cell? ⟨w.heap.size, 0, none⟩ = some (.int .i64 s0.count) := by rw [cell_of_row _ _ _ _ _ _ hid0]; rfl
  have ha1 : W0.cell? ⟨w.heap.size, 1, none⟩ = some (.int .i64 s0.who) := by rw [cell_of_row _ _ _ _ _ _ hid0]; rfl
  obtain ⟨y0, b0, hy0⟩ : ∃ y b, foundOf l s0 = (y, b) := ⟨_, _, rfl⟩
  have hf0 := hf s0 W0 y0 b0 hy0 (h.below hb0)
  have HF := Go.Lib.hid hf; have HF0 := Go.Lib.hid hf0; have HB0 := Go.Lib.hid hb0; have HID0 := Go.Lib.hid hid0; have HW0 := Go.Lib.hid hW0; have HV := Go.Lib.hid hv0; have HR := Go.Lib.hid hr; have HY0 := Go.Lib.hid hy0; have HN := Go.Lib.hid hnn
  clear hf hf0 hb0 hid0 hW0 hv0 hr hy0 h hnn
  go_enter Tryd.func71, Tryd.ntmps71
  go_wp2_with fail
  rw [HW0.out]
  go_wp2_with fail
  refine HF0.out.mono ?_; rintro _ w1 ⟨rfl, hb1⟩
  clear ha0 ha1
  obtain ⟨W2, hW2⟩ : ∃ W, w1.alloc (.cells #[.int .i64 y0.id.count, .int .i64 y0.id.who, .bool y0.dir, .int .i64 y0.parent.count, .int .i64 y0.parent.who, .string (BS y0.name), .string (BS y0.manifest)] 49) = W := ⟨_, rfl⟩
  have hst : ChSt W2 w.heap.size w1.heap.size s0 y0 := by
    have h1 := Array.getElem?_eq_some_iff.1 HID0.out
    have h2 := (hb1.block _ h1.1).trans HID0.out
    have h3 := (Array.getElem?_eq_some_iff.1 h2).1
    rw [← hW2]
    exact ⟨(Below.heap_alloc _ _ _ h3).trans h2, heap_alloc_new w1 _, h3⟩
  have hb2 : Below w.heap.size w W2 := by
    have := bstep HB0.out hb1
    rw [← hW2]; exact this.alloc this.size _
  have HW2 := Go.Lib.hid hW2; have HST := Go.Lib.hid hst; have HB2 := Go.Lib.hid hb2
  clear hW2 hst hb2 hb1
  obtain ⟨g, hg⟩ : ∃ g, w1.heap.size = g := ⟨_, rfl⟩
  go_wp2_with fail
  rw [HW2.out]
  try rw [hg]
  rw [hg] at HST
  have hg2 : g < W2.heap.size := HST.out.lt
  have hstart : chainOf l s0 = chainGo l (n + 1) [] s0 := by unfold chainOf; rw [HN.out]
  have HSTART := Go.Lib.hid hstart
  clear hstart hg HW2 HF0
  go_loopw [5, 7, 14, 15, 16, 17, 18, 19, 20, 21, 22, 23, 24, 25, 26, 27, 28, 29, 30, 31, 32] (fun vo is _ _ _ _ _ _ _ _ _ _ _ _ _ _ _ _ _ _ _ wr => ∃ (k : Nat) (out : List St) (s : St) (y : Nod) (b : Bool), is = .bool b ∧ foundOf l s = (y, b) ∧ Row wr (g + 1) 33 2 vo out.length (stsCells out) ∧ ChSt wr w.heap.size g s y ∧ chainOf l s0 = chainGo l (k + 1) out s ∧ stillOf l out ≤ k ∧ out.length + stillOf l out ≤ n ∧ Below w.heap.size w wr ∧ g < wr.heap.size) (fun vo _ _ _ _ _ _ _ _ _ _ _ _ _ _ _ _ _ _ _ _ _ => n - lenOfV vo)
  case atStart => exact ⟨n, [], s0, y0, b0, rfl, HY0.out, Row.nil _ _ _ _, HST.out, HSTART.out, by rw [stillOf_nil, HN.out]; exact Nat.le_refl _, by rw [stillOf_nil, HN.out]; simp, HB2.out, hg2⟩
  case round =>
    obtain ⟨k, out, s, y, b, rfl, hfd, hrow, hst, hch, hlk, hol, hbel, hgs⟩ := hrel
    obtain ⟨A, c, rfl⟩ := row_form hrow
    obtain ⟨a0, a1, f0, f1, p0, p1⟩ := hst.cells
    have HST := Go.Lib.hid hst; have HROW := Go.Lib.hid hrow; have HBEL := Go.Lib.hid hbel; have HCH := Go.Lib.hid hch; have HFD := Go.Lib.hid hfd
    clear hst hrow hbel hch hfd HB2 HSTART hg2
    cases b
    · have hno := found_false HFD.out
      have hres := HCH.out
      rw [chainGo_none hno, HR.out] at hres
      clear hno
      by_cases ho : out = []
      · subst ho
        rw [if_pos rfl] at hres
        have HRES := Go.Lib.hid hres
        have HO := Go.Lib.hid (Sts.of_row HROW.out)
        clear hres
        simp only [List.length_nil] at *
        go_wp2_with fail
        go_ret
        exact ⟨_, rfl, by rw [HRES.out]; exact HO.out, HBEL.out⟩
      · rw [if_neg ho] at hres
        have hpos : 0 < out.length := List.length_pos_iff.2 ho
        obtain ⟨m, hm⟩ : ∃ m, out.length = m := ⟨_, rfl⟩
        have hrow2 := HROW.out
        rw [hm] at hrow2 hpos hol
        have hpi : (0 : Int) < (m : Int) := by omega
        have HRES := Go.Lib.hid hres; have HR2 := Go.Lib.hid hrow2
        rw [hm]
        clear hres ho hm hrow2
        go_wp2_with (at_builtin; refine wpList_append_st rfl (.tmp 40) (.tmp 42) rfl (g + 1) (.slice A m c) m out rfl HR2.out s _ rfl rfl (by omega) (by omega) ?_; intro v4 W4 hr4 hb4; have HO4 := Go.Lib.hid (Sts.of_row hr4); have HB4 := Go.Lib.hid (HBEL.out.trans (hb4.mono (by have := HST.out.far; omega))); clear hr4 hb4)
        all_goals (
          go_ret
          exact ⟨_, rfl, by rw [HRES.out]; exact HO4.out, HB4.out⟩)
    · have hyes := found_true HFD.out
      have hhas := rhas7_any (.slice A out.length c) out s wr (Sts.of_row HROW.out) (by omega)
      by_cases hin : s ∈ out
      · have hres := HCH.out
        rw [chainGo_again hyes hin, HR.out] at hres
        have hpos : 0 < out.length := List.length_pos_of_mem hin
        rw [decide_eq_true hin] at hhas
        obtain ⟨m, hm⟩ : ∃ m, out.length = m := ⟨_, rfl⟩
        have hrow2 := HROW.out
        rw [hm] at hrow2 hpos hol hhas
        have hpi : (0 : Int) < (m : Int) := by omega
        have HRES := Go.Lib.hid hres; have HO := Go.Lib.hid (Sts.of_row hrow2); have HH := Go.Lib.hid hhas
        rw [hm]
        clear hres hin hm hrow2 hhas hyes
        go_wp2_with (go_at_call 70; with_reducible refine HH.out.mono ?_; rintro e w4 ⟨rfl, hb4⟩; have HO4 := Go.Lib.hid (HO.out.below hb4); have HB4 := Go.Lib.hid (bstep HBEL.out hb4); clear hb4)
        go_ret
        exact ⟨_, rfl, by rw [HRES.out]; exact HO4.out, HB4.out⟩
      · have hnx := HCH.out
        rw [chainGo_on hyes hin] at hnx
        have hlf := stillOf_on hyes hin
        rw [decide_eq_false hin] at hhas
        obtain ⟨m, hm⟩ : ∃ m, out.length = m := ⟨_, rfl⟩
        have hrow2 := HROW.out
        rw [hm] at hrow2 hol hhas
        obtain ⟨j, rfl⟩ : ∃ j, k = j + 1 := ⟨k - 1, by omega⟩
        obtain ⟨y2, b2, hy2⟩ : ∃ z b, foundOf l y.parent = (z, b) := ⟨_, _, rfl⟩
        have HNX := Go.Lib.hid hnx; have HH := Go.Lib.hid hhas; have HLF := Go.Lib.hid hlf; have HY2 := Go.Lib.hid hy2; have HR2 := Go.Lib.hid hrow2; have HM := Go.Lib.hid hm
        rw [hm]
        clear hnx hhas hlf hy2 hrow2 hm hyes hin HCH HFD HROW
        go_wp2_with (first
          | (go_at_call 70; with_reducible refine HH.out.mono ?_; rintro e w4 ⟨rfl, hb4⟩; have HR4 := Go.Lib.hid (HR2.out.below hb4); have HST4 := Go.Lib.hid (HST.out.under HST.out.lt hb4); have HB4 := Go.Lib.hid (bstep HBEL.out hb4); have hgs4 : g < w4.heap.size := Nat.lt_of_lt_of_le hgs hb4.size; clear hb4 a0 a1 f0 f1 p0 p1; obtain ⟨a0, a1, f0, f1, p0, p1⟩ := HST4.out.cells)
          | (at_builtin; refine wpList_append_st rfl (.tmp 21) (.tmp 23) rfl (g + 1) (.slice A m c) m out rfl HR4.out s _ rfl rfl (by omega) (by omega) ?_; intro v5 W5 hr5 hb5; have HR5 := Go.Lib.hid hr5; have HST5 := Go.Lib.hid (HST4.out.under (Nat.lt_succ_self g) hb5); have HB5 := Go.Lib.hid (HB4.out.trans (hb5.mono (by have := HST4.out.far; omega))); clear hr5 hb5 a0 a1 f0 f1 p0 p1; obtain ⟨a0, a1, f0, f1, p0, p1⟩ := HST5.out.cells))
        clear a0 a1 f0 f1 p0 p1
        have hfar := HST5.out.far
        have hst6 := HST5.out.put y.parent
        have hb6 := (HB5.out.setCell (p := ⟨w.heap.size, 0, none⟩) (Nat.le_refl _) (.int .i64 y.parent.count)).setCell (p := ⟨w.heap.size, 1, none⟩) (Nat.le_refl _) (.int .i64 y.parent.who)
        have hr6 := (HR5.out.other (b := w.heap.size) (by omega) 0 (.int .i64 y.parent.count)).other (b := w.heap.size) (by omega) 1 (.int .i64 y.parent.who)
        have hf6 := HF.out y.parent _ y2 b2 HY2.out (HV.out.below hb6)
        obtain ⟨V, hVV⟩ : ∃ V, (W5.setCell ⟨w.heap.size, 0, none⟩ (.int .i64 y.parent.count)).setCell ⟨w.heap.size, 1, none⟩ (.int .i64 y.parent.who) = V := ⟨_, rfl⟩
        rw [hVV] at hst6 hb6 hr6 hf6
        rw [hVV]
        have HF6 := Go.Lib.hid hf6; have HST6 := Go.Lib.hid hst6; have HB6 := Go.Lib.hid hb6; have HR6 := Go.Lib.hid hr6
        clear hst6 hb6 hr6 hf6 hVV
        refine HF6.out.mono ?_; rintro _ w7 ⟨rfl, hb7⟩
        have HST7 := Go.Lib.hid (HST6.out.under HST6.out.lt hb7); have HB7 := Go.Lib.hid (bstep HB6.out hb7); have HR7 := Go.Lib.hid (HR6.out.below hb7)
        clear hb7
        go_wp2_with (refine wpList_store_row rfl 49 (.tmp 6) (.tmp 31) rfl g (ndArr y2) rfl rfl 49 _ HST7.out.nd (size_nd.trans (by rfl)) (by rfl) (ndArr_one _) ?_)
        have hlen : (out ++ [s]).length = m + 1 := by rw [List.length_append, HM.out]; rfl
        have hr8 := HR7.out.otherRow (b := g) (by omega) (ndArr y2)
        obtain ⟨A8, c8, hv8⟩ := row_form hr8
        have hlf := HLF.out
        refine ⟨⟨j, out ++ [s], y.parent, y2, b2, rfl, HY2.out, by rw [hlen]; exact hr8, HST7.out.lay y2, HNX.out, by omega, by rw [hlen]; omega, below_setRow HB7.out (by omega) _, by rw [setRow_size]; exact HST7.out.lt⟩, ?_⟩
        rw [hv8]
        simp only [lenOfV]
        omega
end Go.Proofs.YtjeijolblcodpaaDoor.W
end

/- The reference of trees: Do. -/
section
namespace Go.Proofs.YtjeijolblcodpaaDoor.W
set_option maxRecDepth 20000
set_option linter.unusedVariables false
open Go.RowKit Go.Proofs Arb

/-- Block g is the node n. -/
def NdB (w : World) (g : Nat) (n : Nod) : Prop := w.heap[g]? = some (.cells (ndArr n) 49 (0, 0))
section
variable {w w' : World} {g : Nat} {n : Nod}
theorem NdB.lt (h : NdB w g n) : g < w.heap.size := (Array.getElem?_eq_some_iff.1 h).1
theorem NdB.under (h : NdB w g n) {B : Nat} (hB : g < B) (hb : Below B w w') : NdB w' g n := (hb.block g hB).trans h
theorem NdB.below (h : NdB w g n) (hb : Below w.heap.size w w') : NdB w' g n := h.under h.lt hb
theorem NdB.at (h : NdB w g n) : NodAt w g 0 n := NodAt.of_block h
theorem NdB.free (h : NdB w g n) (j : Nat) : w.frozen? ⟨g, j, none⟩ = false := frozen_of_row _ _ _ _ _ h
theorem NdB.cells (h : NdB w g n) : w.cell? ⟨g, 2, none⟩ = some (.bool n.dir) ∧ w.cell? ⟨g, 3, none⟩ = some (.int .i64 n.parent.count) ∧ w.cell? ⟨g, 4, none⟩ = some (.int .i64 n.parent.who) ∧ w.cell? ⟨g, 5, none⟩ = some (.string (BS n.name)) ∧ w.cell? ⟨g, 6, none⟩ = some (.string (BS n.manifest)) ∧
    w.frozen? ⟨g, 3, none⟩ = false ∧ w.frozen? ⟨g, 4, none⟩ = false ∧ w.frozen? ⟨g, 5, none⟩ = false ∧ w.frozen? ⟨g, 6, none⟩ = false :=
  ⟨(nd_cells0 h.at).2.2.1, (nd_cells0 h.at).2.2.2.1, (nd_cells0 h.at).2.2.2.2.1, (nd_cells0 h.at).2.2.2.2.2.1, (nd_cells0 h.at).2.2.2.2.2.2, h.free _, h.free _, h.free _, h.free _⟩
theorem NdB.new (w : World) (n : Nod) : NdB (w.alloc (.cells (ndArr n) 49)) w.heap.size n := heap_alloc_new w _
theorem NdB.putParent (h : NdB w g n) (p : St) : NdB ((w.setCell ⟨g, 3, none⟩ (.int .i64 p.count)).setCell ⟨g, 4, none⟩ (.int .i64 p.who)) g { n with parent := p } :=
  heap_setCell_same _ g 4 _ _ (.int .i64 p.who) (heap_setCell_same w g 3 _ _ (.int .i64 p.count) h)
theorem NdB.putTrash (h : NdB w g n) : NdB ((w.setCell ⟨g, 3, none⟩ (.int .i64 0)).setCell ⟨g, 4, none⟩ (.int .i64 1)) g { n with parent := St.trash } := h.putParent St.trash
theorem NdB.putName (h : NdB w g n) (s : List UInt8) : NdB (w.setCell ⟨g, 5, none⟩ (.string (BS s))) g { n with name := s } := heap_setCell_same w g 5 _ _ (.string (BS s)) h
theorem NdB.putManifest (h : NdB w g n) (s : List UInt8) : NdB (w.setCell ⟨g, 6, none⟩ (.string (BS s))) g { n with manifest := s } := heap_setCell_same w g 6 _ _ (.string (BS s)) h
end
theorem set_split {l : List Nod} {i : Nat} (h : i < l.length) (m : Nod) : l.set i m = l.take i ++ [m] ++ l.drop (i + 1) := by
  rw [List.set_eq_take_append_cons_drop, if_pos h]
  simp
theorem set_found {l : List Nod} {s : St} {n : Nod} (h : findOf l s = some n) : l.set (atOf l s) n = l := by
  obtain ⟨h1, h2⟩ := at_get h
  rw [List.getElem?_eq_getElem h2] at h1
  injection h1 with h1
  rw [← h1]
  exact List.set_getElem_self h2
theorem do_none {l : List Nod} {x : Opn} (h : findOf l x.node = none) (hk : x.kind ≠ 1) : doOf l x = l := by unfold doOf; rw [h]; exact if_neg hk
theorem do_made {l : List Nod} {x : Opn} (h : findOf l x.node = none) (hk : x.kind = 1) : doOf l x = insNod l (madeOf l x) := by unfold doOf; rw [h]; exact if_pos hk
theorem do_there {l : List Nod} {x : Opn} {n : Nod} (h : findOf l x.node = some n) (hk : x.kind = 1) : doOf l x = l := by unfold doOf; rw [h]; exact if_pos hk
theorem do_turn {l : List Nod} {x : Opn} {n : Nod} (h : findOf l x.node = some n) (hk : x.kind ≠ 1) : doOf l x = l.set (atOf l x.node) (turnOf l x n) := by unfold doOf; rw [h]; exact if_neg hk

set_option maxRecDepth 20000 in
set_option maxHeartbeats 16000000 in
theorem rturn7_more (v : Value) (l : List Nod) (x : Opn) (n : Nod) (w : World) (h : Nods w v l) (hl : l.length ≤ 10000) (hfd : findOf l x.node = some n) (hk1 : x.kind ≠ 1) (hk2 : x.kind ≠ 2) :
    Calls Tryd.prog 47 #[v, opVal x] w fun e w' => ∃ v', e = .returned v' ∧ Nods w' v' (doOf l x) ∧ Below w.heap.size w w' := by
  have hB : Below w.heap.size w (w.alloc (.cells (opArr x) 35)) := (Below.refl _ _).alloc (Nat.le_refl _) _
  have hop := OpAt.new w x 35
  have hv := h.below hB
  obtain ⟨hgi, hil⟩ := at_get hfd
  have hat := fun w h => rat7_any v l x.node w h (by omega)
  have hati : atI l x.node = (atOf l x.node : Int) := by unfold atI; rw [hfd]
  have hdo := do_turn hfd hk1
  have hself := set_found hfd
  rw [hati] at hat
  obtain ⟨i, hi⟩ : ∃ i, atOf l x.node = i := ⟨_, rfl⟩
  rw [hi] at hgi hil hat hdo hself
  rw [hdo]
  have hbk1 : (x.kind == 1) = false := by simp [hk1]
  have hmay := fun w h => rmay7_any v l x.parent w h (by omega)
  have hchain := fun w h => rchain7_any v l x.parent w h (by omega)
  have hchl := chainOf_length l x.parent
  have hhas := fun w u h => rhas7_any u (chainOf l x.parent) x.node w h (by omega)
  obtain ⟨ch, hch⟩ : ∃ c, chainOf l x.parent = c := ⟨_, rfl⟩
  obtain ⟨mb, hmb⟩ : ∃ b, mayOf l x.parent = b := ⟨_, rfl⟩
  obtain ⟨ib, hib⟩ : ∃ b, decide (x.node ∈ ch) = b := ⟨_, rfl⟩
  obtain ⟨m, hm⟩ : ∃ m, turnOf l x n = m := ⟨_, rfl⟩
  rw [hm]
  unfold turnOf at hm
  rw [hch] at hm hhas hchain
  rw [hib] at hhas
  rw [hmb] at hm hmay
  obtain ⟨A, c, rfl, hc⟩ := h.len
  obtain ⟨N, hN⟩ : ∃ N, l.length = N := ⟨_, rfl⟩
  have hsp := set_split (l := l) (i := i) (by omega) m
  rw [hN] at h hc hv hl hil hat hmay hchain
  rw [hN]
  obtain ⟨b, off, y, rfl, -, -⟩ := h.at i hil
  unfold opVal
  have HVS := Go.Lib.hid (fun (w' : World) (hb : Below w.heap.size w w') => h.below hb)
  obtain ⟨W, hW⟩ : ∃ W, w.alloc (.cells (opArr x) 35) = W := ⟨_, rfl⟩
  rw [hW] at hB hop hv
  unfold opArr opCells at hW ⊢
  have hii : ¬ ((i : Int) < 0) := by omega
  have hiN : (i : Int) < (N : Int) := by omega
  have HAT := Go.Lib.hid hat; have HMAY := Go.Lib.hid hmay; have HCHAIN := Go.Lib.hid hchain; have HHAS := Go.Lib.hid hhas; have HB := Go.Lib.hid hB; have HOP := Go.Lib.hid hop; have HV := Go.Lib.hid hv; have HW := Go.Lib.hid hW; have HM := Go.Lib.hid hm; have HSP := Go.Lib.hid hsp; have HSELF := Go.Lib.hid hself; have HGI := Go.Lib.hid hgi; have HN := Go.Lib.hid hN
  clear hat hmay hchain hhas hB hop hv hW hm hsp hself hgi h hN hfd hati hdo hi hmb hch hchl
  have key : ∀ (w1 : World), Below W.heap.size W w1 → ∃ W2 g, w1.alloc (.cells #[.int .i64 n.id.count, .int .i64 n.id.who, .bool n.dir, .int .i64 n.parent.count, .int .i64 n.parent.who, .string (BS n.name), .string (BS n.manifest)] 49) = W2 ∧ w1.heap.size = g ∧ NdB W2 g n ∧ OpAt W2 w.heap.size 0 x ∧ Nods W2 (.slice (some ⟨b, off, none⟩) N c) l ∧ Below w.heap.size w W2 ∧ w.heap.size < g := fun w1 hb1 => by
    have hx1 := HOP.out.below hb1
    refine ⟨_, _, rfl, rfl, NdB.new w1 n, hx1.below ((Below.refl _ _).alloc (Nat.le_refl _) _), (HV.out.below hb1).below ((Below.refl _ _).alloc (Nat.le_refl _) _), (bstep HB.out hb1).alloc (bstep HB.out hb1).size _, hx1.lt⟩
  have KEY := Go.Lib.hid key; clear key
  by_cases hk3 : x.kind = 3
  · have hb2 : (x.kind == 2) = false := by simp [hk2]
    have hb3 : (x.kind == 3) = true := by simp [hk3]
    have hm2 := HM.out
    rw [if_neg hk2, if_pos hk3] at hm2
    clear hk2 hk3 HM
    go_enter Tryd.func47, Tryd.ntmps47
    go_wp2_with fail
    rw [HW.out]
    obtain ⟨c0, c1, c2, c3, c4, c5, c6, c7, c8, c9, c10⟩ := op_cells0 HOP.out
    go_wp2_with fail
    refine (HAT.out _ HV.out).mono ?_; rintro e w1 ⟨rfl, hb1⟩
    clear c0 c1 c2 c3 c4 c5 c6 c7 c8 c9 c10
    obtain ⟨c0, c1, c2, c3, c4, c5, c6, c7, c8, c9, c10⟩ := op_cells0 (HOP.out.below hb1)
    obtain ⟨bb, oo, nn, he, hg1, hx1⟩ := (HV.out.below hb1).at i hil
    cases he
    rw [HGI.out] at hg1
    cases hg1
    obtain ⟨n0, n1, n2, n3, n4, n5, n6⟩ := nd_cells hx1
    obtain ⟨W2, g, hW2, hgg, hnd2, hop2, hv2, hbl2, hxg⟩ := KEY.out w1 hb1
    obtain ⟨d0, d1, d2, d3, d4, d5, d6, d7, d8, d9, d10⟩ := op_cells0 hop2
    obtain ⟨e1, e3, e4, e5, e6, f3, f4, f5, f6⟩ := hnd2.cells
    have HND2 := Go.Lib.hid hnd2; have HOP2 := Go.Lib.hid hop2; have HV2 := Go.Lib.hid hv2; have HBL2 := Go.Lib.hid hbl2
    clear hnd2 hop2 hv2 hbl2 hb1 hx1
    obtain ⟨d, hd⟩ : ∃ d, n.dir = d := ⟨_, rfl⟩
    rw [hd] at e1
    cases d
    · rw [if_neg (by rw [hd]; simp)] at hm2
      have hndt : NdB (W2.setCell ⟨g, 6, none⟩ (.string (BS x.manifest))) g m := by rw [← hm2]; exact HND2.out.putManifest x.manifest
      have HM2 := Go.Lib.hid hm2; have HD := Go.Lib.hid hd
      clear hm2 hd
      have HNDt := Go.Lib.hid hndt; have HVt := Go.Lib.hid (HV.out.below (Below.refl W.heap.size W)); have HBt := Go.Lib.hid (HBL2.out.setCell (p := ⟨g, 6, none⟩) (Nat.le_of_lt hxg) (.string (BS x.manifest))); have HGt := Go.Lib.hid (Nat.succ_le_of_lt hndt.lt)
      clear hndt
      have hvt : Nods (W2.setCell ⟨g, 6, none⟩ (.string (BS x.manifest))) (.slice (some ⟨b, off, none⟩) N c) l := HVS.out _ HBt.out
      have HVt := Go.Lib.hid hvt; clear hvt
      by_cases hci : c = i + 1
      · subst hci
        go_wp2_with (first
          | (at_builtin; refine wpList_append_nds rfl (.tmp 114) (.tmp 117) rfl (g + 1) (.slice none 0 0) 0 [] rfl (Row.nil _ _ _ _) _ i (l.take i) rfl (HVt.out.rdTake i (by omega)) (by omega) (by omega) HGt.out ?_; intro v6 V6 hr6 hb6; have HND6 := Go.Lib.hid (HNDt.out.under (Nat.lt_succ_self g) hb6); obtain ⟨m0, m1, m2, m3, m4, m5, m6⟩ := nd_cells0 HND6.out.at; have HR6 := Go.Lib.hid hr6; have HB6 := Go.Lib.hid hb6; have HZ6 := Go.Lib.hid (Nat.le_trans HGt.out hb6.size); clear hr6 hb6)
          | (at_builtin; refine wpList_append_nd rfl (.tmp 119) (.tmp 121) rfl (g + 1) v6 (0 + i) ([] ++ l.take i) rfl HR6.out m _ rfl rfl (by omega) HZ6.out ?_; intro v7 V7 hr7 hb7; have HR7 := Go.Lib.hid hr7; have HB7 := Go.Lib.hid (HB6.out.trans hb7); have HZ7 := Go.Lib.hid (Nat.le_trans HZ6.out hb7.size); have HV7 := Go.Lib.hid (HVS.out _ (HBt.out.trans ((HB6.out.trans hb7).mono (by omega)))); clear hr7 hb7)
          | (at_builtin; refine wpList_append_nds rfl (.tmp 123) (.tmp 127) rfl (g + 1) v7 (0 + i + 1) ([] ++ l.take i ++ [m]) rfl HR7.out _ _ (l.drop (i + 1)) rfl (HV7.out.rdDrop (i + 1) (by omega) _ (by intro h9; omega) _ (by omega) _) (by omega) (by omega) HZ7.out ?_; intro v8 V8 hr8 hb8; have HR8 := Go.Lib.hid hr8; have HB8 := Go.Lib.hid (HB7.out.trans hb8); clear hr8 hb8))
        all_goals (
          go_ret
          have hres := Nods.of_row HR8.out
          rw [List.nil_append, ← HSP.out] at hres
          exact ⟨_, rfl, hres, HBt.out.trans (HB8.out.mono (by omega))⟩)
      · go_wp2_with (first
          | (at_builtin; refine wpList_append_nds rfl (.tmp 114) (.tmp 117) rfl (g + 1) (.slice none 0 0) 0 [] rfl (Row.nil _ _ _ _) _ i (l.take i) rfl (HVt.out.rdTake i (by omega)) (by omega) (by omega) HGt.out ?_; intro v6 V6 hr6 hb6; have HND6 := Go.Lib.hid (HNDt.out.under (Nat.lt_succ_self g) hb6); obtain ⟨m0, m1, m2, m3, m4, m5, m6⟩ := nd_cells0 HND6.out.at; have HR6 := Go.Lib.hid hr6; have HB6 := Go.Lib.hid hb6; have HZ6 := Go.Lib.hid (Nat.le_trans HGt.out hb6.size); clear hr6 hb6)
          | (at_builtin; refine wpList_append_nd rfl (.tmp 119) (.tmp 121) rfl (g + 1) v6 (0 + i) ([] ++ l.take i) rfl HR6.out m _ rfl rfl (by omega) HZ6.out ?_; intro v7 V7 hr7 hb7; have HR7 := Go.Lib.hid hr7; have HB7 := Go.Lib.hid (HB6.out.trans hb7); have HZ7 := Go.Lib.hid (Nat.le_trans HZ6.out hb7.size); have HV7 := Go.Lib.hid (HVS.out _ (HBt.out.trans ((HB6.out.trans hb7).mono (by omega)))); clear hr7 hb7)
          | (at_builtin; refine wpList_append_nds rfl (.tmp 123) (.tmp 127) rfl (g + 1) v7 (0 + i + 1) ([] ++ l.take i ++ [m]) rfl HR7.out _ _ (l.drop (i + 1)) rfl (HV7.out.rdDrop (i + 1) (by omega) _ (by intro h9; omega) _ (by omega) _) (by omega) (by omega) HZ7.out ?_; intro v8 V8 hr8 hb8; have HR8 := Go.Lib.hid hr8; have HB8 := Go.Lib.hid (HB7.out.trans hb8); clear hr8 hb8))
        all_goals (
          go_ret
          have hres := Nods.of_row HR8.out
          rw [List.nil_append, ← HSP.out] at hres
          exact ⟨_, rfl, hres, HBt.out.trans (HB8.out.mono (by omega))⟩)
    · rw [if_pos hd] at hm2
      subst hm2
      clear hd
      go_wp2_with fail
      go_ret
      exact ⟨_, rfl, by rw [HSELF.out]; exact HV2.out, HBL2.out⟩
  by_cases hk4 : x.kind = 4
  · have hb2 : (x.kind == 2) = false := by simp [hk2]
    have hb3 : (x.kind == 3) = false := by simp [hk3]
    have hb4 : (x.kind == 4) = true := by simp [hk4]
    have hm2 := HM.out
    rw [if_neg hk2, if_neg hk3, if_pos hk4] at hm2
    have HM2 := Go.Lib.hid hm2
    clear hk2 hk3 hk4 HM hm2
    go_enter Tryd.func47, Tryd.ntmps47
    go_wp2_with fail
    rw [HW.out]
    obtain ⟨c0, c1, c2, c3, c4, c5, c6, c7, c8, c9, c10⟩ := op_cells0 HOP.out
    go_wp2_with fail
    refine (HAT.out _ HV.out).mono ?_; rintro e w1 ⟨rfl, hb1⟩
    clear c0 c1 c2 c3 c4 c5 c6 c7 c8 c9 c10
    obtain ⟨c0, c1, c2, c3, c4, c5, c6, c7, c8, c9, c10⟩ := op_cells0 (HOP.out.below hb1)
    obtain ⟨bb, oo, nn, he, hg1, hx1⟩ := (HV.out.below hb1).at i hil
    cases he
    rw [HGI.out] at hg1
    cases hg1
    obtain ⟨n0, n1, n2, n3, n4, n5, n6⟩ := nd_cells hx1
    obtain ⟨W2, g, hW2, hgg, hnd2, hop2, hv2, hbl2, hxg⟩ := KEY.out w1 hb1
    obtain ⟨d0, d1, d2, d3, d4, d5, d6, d7, d8, d9, d10⟩ := op_cells0 hop2
    obtain ⟨e1, e3, e4, e5, e6, f3, f4, f5, f6⟩ := hnd2.cells
    have HND2 := Go.Lib.hid hnd2; have HOP2 := Go.Lib.hid hop2; have HV2 := Go.Lib.hid hv2; have HBL2 := Go.Lib.hid hbl2
    clear hnd2 hop2 hv2 hbl2 hb1 hx1
    clear e1 e3 e4 e5 e6 f3 f4 f5 f6
    by_cases hci : c = i + 1
    · subst hci
      go_wp2_with (first
        | (go_at_call 69; with_reducible refine (rtrash_any _).mono ?_; rintro e w5 ⟨rfl, hb5⟩; have HND5 := Go.Lib.hid (HND2.out.below hb5); obtain ⟨e1, e3, e4, e5, e6, f3, f4, f5, f6⟩ := HND5.out.cells; have hndt : NdB ((w5.setCell ⟨g, 3, none⟩ (.int .i64 0)).setCell ⟨g, 4, none⟩ (.int .i64 1)) g m := (by rw [← HM2.out]; exact HND5.out.putTrash); have HNDt := Go.Lib.hid hndt; have HB5 := Go.Lib.hid (bstep HBL2.out hb5); have HBt := Go.Lib.hid ((HB5.out.setCell (p := ⟨g, 3, none⟩) (Nat.le_of_lt hxg) (.int .i64 0)).setCell (p := ⟨g, 4, none⟩) (Nat.le_of_lt hxg) (.int .i64 1)); have HVt := Go.Lib.hid (HVS.out _ HBt.out); have HGt := Go.Lib.hid (Nat.succ_le_of_lt hndt.lt); clear hb5 hndt)
        | (at_builtin; refine wpList_append_nds rfl (.tmp 114) (.tmp 117) rfl (g + 1) (.slice none 0 0) 0 [] rfl (Row.nil _ _ _ _) _ i (l.take i) rfl (HVt.out.rdTake i (by omega)) (by omega) (by omega) HGt.out ?_; intro v6 V6 hr6 hb6; have HND6 := Go.Lib.hid (HNDt.out.under (Nat.lt_succ_self g) hb6); obtain ⟨m0, m1, m2, m3, m4, m5, m6⟩ := nd_cells0 HND6.out.at; have HR6 := Go.Lib.hid hr6; have HB6 := Go.Lib.hid hb6; have HZ6 := Go.Lib.hid (Nat.le_trans HGt.out hb6.size); clear hr6 hb6)
        | (at_builtin; refine wpList_append_nd rfl (.tmp 119) (.tmp 121) rfl (g + 1) v6 (0 + i) ([] ++ l.take i) rfl HR6.out m _ rfl rfl (by omega) HZ6.out ?_; intro v7 V7 hr7 hb7; have HR7 := Go.Lib.hid hr7; have HB7 := Go.Lib.hid (HB6.out.trans hb7); have HZ7 := Go.Lib.hid (Nat.le_trans HZ6.out hb7.size); have HV7 := Go.Lib.hid (HVS.out _ (HBt.out.trans ((HB6.out.trans hb7).mono (by omega)))); clear hr7 hb7)
        | (at_builtin; refine wpList_append_nds rfl (.tmp 123) (.tmp 127) rfl (g + 1) v7 (0 + i + 1) ([] ++ l.take i ++ [m]) rfl HR7.out _ _ (l.drop (i + 1)) rfl (HV7.out.rdDrop (i + 1) (by omega) _ (by intro h9; omega) _ (by omega) _) (by omega) (by omega) HZ7.out ?_; intro v8 V8 hr8 hb8; have HR8 := Go.Lib.hid hr8; have HB8 := Go.Lib.hid (HB7.out.trans hb8); clear hr8 hb8))
      all_goals (
        go_ret
        have hres := Nods.of_row HR8.out
        rw [List.nil_append, ← HSP.out] at hres
        exact ⟨_, rfl, hres, HBt.out.trans (HB8.out.mono (by omega))⟩)
    · go_wp2_with (first
        | (go_at_call 69; with_reducible refine (rtrash_any _).mono ?_; rintro e w5 ⟨rfl, hb5⟩; have HND5 := Go.Lib.hid (HND2.out.below hb5); obtain ⟨e1, e3, e4, e5, e6, f3, f4, f5, f6⟩ := HND5.out.cells; have hndt : NdB ((w5.setCell ⟨g, 3, none⟩ (.int .i64 0)).setCell ⟨g, 4, none⟩ (.int .i64 1)) g m := (by rw [← HM2.out]; exact HND5.out.putTrash); have HNDt := Go.Lib.hid hndt; have HB5 := Go.Lib.hid (bstep HBL2.out hb5); have HBt := Go.Lib.hid ((HB5.out.setCell (p := ⟨g, 3, none⟩) (Nat.le_of_lt hxg) (.int .i64 0)).setCell (p := ⟨g, 4, none⟩) (Nat.le_of_lt hxg) (.int .i64 1)); have HVt := Go.Lib.hid (HVS.out _ HBt.out); have HGt := Go.Lib.hid (Nat.succ_le_of_lt hndt.lt); clear hb5 hndt)
        | (at_builtin; refine wpList_append_nds rfl (.tmp 114) (.tmp 117) rfl (g + 1) (.slice none 0 0) 0 [] rfl (Row.nil _ _ _ _) _ i (l.take i) rfl (HVt.out.rdTake i (by omega)) (by omega) (by omega) HGt.out ?_; intro v6 V6 hr6 hb6; have HND6 := Go.Lib.hid (HNDt.out.under (Nat.lt_succ_self g) hb6); obtain ⟨m0, m1, m2, m3, m4, m5, m6⟩ := nd_cells0 HND6.out.at; have HR6 := Go.Lib.hid hr6; have HB6 := Go.Lib.hid hb6; have HZ6 := Go.Lib.hid (Nat.le_trans HGt.out hb6.size); clear hr6 hb6)
        | (at_builtin; refine wpList_append_nd rfl (.tmp 119) (.tmp 121) rfl (g + 1) v6 (0 + i) ([] ++ l.take i) rfl HR6.out m _ rfl rfl (by omega) HZ6.out ?_; intro v7 V7 hr7 hb7; have HR7 := Go.Lib.hid hr7; have HB7 := Go.Lib.hid (HB6.out.trans hb7); have HZ7 := Go.Lib.hid (Nat.le_trans HZ6.out hb7.size); have HV7 := Go.Lib.hid (HVS.out _ (HBt.out.trans ((HB6.out.trans hb7).mono (by omega)))); clear hr7 hb7)
        | (at_builtin; refine wpList_append_nds rfl (.tmp 123) (.tmp 127) rfl (g + 1) v7 (0 + i + 1) ([] ++ l.take i ++ [m]) rfl HR7.out _ _ (l.drop (i + 1)) rfl (HV7.out.rdDrop (i + 1) (by omega) _ (by intro h9; omega) _ (by omega) _) (by omega) (by omega) HZ7.out ?_; intro v8 V8 hr8 hb8; have HR8 := Go.Lib.hid hr8; have HB8 := Go.Lib.hid (HB7.out.trans hb8); clear hr8 hb8))
      all_goals (
        go_ret
        have hres := Nods.of_row HR8.out
        rw [List.nil_append, ← HSP.out] at hres
        exact ⟨_, rfl, hres, HBt.out.trans (HB8.out.mono (by omega))⟩)
  · have hb2 : (x.kind == 2) = false := by simp [hk2]
    have hb3 : (x.kind == 3) = false := by simp [hk3]
    have hb4 : (x.kind == 4) = false := by simp [hk4]
    have hm2 := HM.out
    rw [if_neg hk2, if_neg hk3, if_neg hk4] at hm2
    subst hm2
    clear hk2 hk3 hk4 HM
    go_enter Tryd.func47, Tryd.ntmps47
    go_wp2_with fail
    rw [HW.out]
    obtain ⟨c0, c1, c2, c3, c4, c5, c6, c7, c8, c9, c10⟩ := op_cells0 HOP.out
    go_wp2_with fail
    refine (HAT.out _ HV.out).mono ?_; rintro e w1 ⟨rfl, hb1⟩
    clear c0 c1 c2 c3 c4 c5 c6 c7 c8 c9 c10
    obtain ⟨c0, c1, c2, c3, c4, c5, c6, c7, c8, c9, c10⟩ := op_cells0 (HOP.out.below hb1)
    obtain ⟨bb, oo, nn, he, hg1, hx1⟩ := (HV.out.below hb1).at i hil
    cases he
    rw [HGI.out] at hg1
    cases hg1
    obtain ⟨n0, n1, n2, n3, n4, n5, n6⟩ := nd_cells hx1
    obtain ⟨W2, g, hW2, hgg, hnd2, hop2, hv2, hbl2, hxg⟩ := KEY.out w1 hb1
    obtain ⟨d0, d1, d2, d3, d4, d5, d6, d7, d8, d9, d10⟩ := op_cells0 hop2
    obtain ⟨e1, e3, e4, e5, e6, f3, f4, f5, f6⟩ := hnd2.cells
    have HND2 := Go.Lib.hid hnd2; have HOP2 := Go.Lib.hid hop2; have HV2 := Go.Lib.hid hv2; have HBL2 := Go.Lib.hid hbl2
    clear hnd2 hop2 hv2 hbl2 hb1 hx1
    have HNDt := Go.Lib.hid HND2.out; have HVt := Go.Lib.hid HV2.out; have HBt := Go.Lib.hid HBL2.out; have HGt := Go.Lib.hid (Nat.succ_le_of_lt HND2.out.lt)
    by_cases hci : c = i + 1
    · subst hci
      go_wp2_with (first
        | (at_builtin; refine wpList_append_nds rfl (.tmp 114) (.tmp 117) rfl (g + 1) (.slice none 0 0) 0 [] rfl (Row.nil _ _ _ _) _ i (l.take i) rfl (HVt.out.rdTake i (by omega)) (by omega) (by omega) HGt.out ?_; intro v6 V6 hr6 hb6; have HND6 := Go.Lib.hid (HNDt.out.under (Nat.lt_succ_self g) hb6); obtain ⟨m0, m1, m2, m3, m4, m5, m6⟩ := nd_cells0 HND6.out.at; have HR6 := Go.Lib.hid hr6; have HB6 := Go.Lib.hid hb6; have HZ6 := Go.Lib.hid (Nat.le_trans HGt.out hb6.size); clear hr6 hb6)
        | (at_builtin; refine wpList_append_nd rfl (.tmp 119) (.tmp 121) rfl (g + 1) v6 (0 + i) ([] ++ l.take i) rfl HR6.out n _ rfl rfl (by omega) HZ6.out ?_; intro v7 V7 hr7 hb7; have HR7 := Go.Lib.hid hr7; have HB7 := Go.Lib.hid (HB6.out.trans hb7); have HZ7 := Go.Lib.hid (Nat.le_trans HZ6.out hb7.size); have HV7 := Go.Lib.hid (HVS.out _ (HBt.out.trans ((HB6.out.trans hb7).mono (by omega)))); clear hr7 hb7)
        | (at_builtin; refine wpList_append_nds rfl (.tmp 123) (.tmp 127) rfl (g + 1) v7 (0 + i + 1) ([] ++ l.take i ++ [n]) rfl HR7.out _ _ (l.drop (i + 1)) rfl (HV7.out.rdDrop (i + 1) (by omega) _ (by intro h9; omega) _ (by omega) _) (by omega) (by omega) HZ7.out ?_; intro v8 V8 hr8 hb8; have HR8 := Go.Lib.hid hr8; have HB8 := Go.Lib.hid (HB7.out.trans hb8); clear hr8 hb8))
      all_goals (
        go_ret
        have hres := Nods.of_row HR8.out
        rw [List.nil_append, ← HSP.out] at hres
        exact ⟨_, rfl, hres, HBt.out.trans (HB8.out.mono (by omega))⟩)
    · go_wp2_with (first
        | (at_builtin; refine wpList_append_nds rfl (.tmp 114) (.tmp 117) rfl (g + 1) (.slice none 0 0) 0 [] rfl (Row.nil _ _ _ _) _ i (l.take i) rfl (HVt.out.rdTake i (by omega)) (by omega) (by omega) HGt.out ?_; intro v6 V6 hr6 hb6; have HND6 := Go.Lib.hid (HNDt.out.under (Nat.lt_succ_self g) hb6); obtain ⟨m0, m1, m2, m3, m4, m5, m6⟩ := nd_cells0 HND6.out.at; have HR6 := Go.Lib.hid hr6; have HB6 := Go.Lib.hid hb6; have HZ6 := Go.Lib.hid (Nat.le_trans HGt.out hb6.size); clear hr6 hb6)
        | (at_builtin; refine wpList_append_nd rfl (.tmp 119) (.tmp 121) rfl (g + 1) v6 (0 + i) ([] ++ l.take i) rfl HR6.out n _ rfl rfl (by omega) HZ6.out ?_; intro v7 V7 hr7 hb7; have HR7 := Go.Lib.hid hr7; have HB7 := Go.Lib.hid (HB6.out.trans hb7); have HZ7 := Go.Lib.hid (Nat.le_trans HZ6.out hb7.size); have HV7 := Go.Lib.hid (HVS.out _ (HBt.out.trans ((HB6.out.trans hb7).mono (by omega)))); clear hr7 hb7)
        | (at_builtin; refine wpList_append_nds rfl (.tmp 123) (.tmp 127) rfl (g + 1) v7 (0 + i + 1) ([] ++ l.take i ++ [n]) rfl HR7.out _ _ (l.drop (i + 1)) rfl (HV7.out.rdDrop (i + 1) (by omega) _ (by intro h9; omega) _ (by omega) _) (by omega) (by omega) HZ7.out ?_; intro v8 V8 hr8 hb8; have HR8 := Go.Lib.hid hr8; have HB8 := Go.Lib.hid (HB7.out.trans hb8); clear hr8 hb8))
      all_goals (
        go_ret
        have hres := Nods.of_row HR8.out
        rw [List.nil_append, ← HSP.out] at hres
        exact ⟨_, rfl, hres, HBt.out.trans (HB8.out.mono (by omega))⟩)
end Go.Proofs.YtjeijolblcodpaaDoor.W
end

/- The program's states: the node that an operation makes. -/
section
namespace Go.Proofs.YtjeijolblcodpaaDoor.W
set_option maxRecDepth 20000
set_option linter.unusedVariables false
open Go.RowKit Go.Proofs Arb

theorem stWf_zero : stWf St.zero := ⟨rfl, rfl⟩
set_option maxHeartbeats 8000000 in
theorem pmade_any (b : Nat) (v : Value) (mb : Nat) (n : Int) (L : List Nod) (x : Opn) (w : World) (hS : S8 w b v mb n) (hM : NdMap w mb L) (hT : MMet w) (hx : opWf x) :
    Calls Tryd.prog 44 #[.pointer (some ⟨b, 0, none⟩), opVal x] w fun e w' => e = .returned (ndVal (mdeOf L x)) ∧ Below w.heap.size w w' := by
  have h2 : Below w.heap.size w ((w.alloc (.cells #[.int .i64 x.stamp.count, .int .i64 x.stamp.who, .int .i64 x.seq, .int .i64 x.kind, .int .i64 x.node.count, .int .i64 x.node.who, .bool x.dir, .int .i64 x.parent.count, .int .i64 x.parent.who, .string (BS x.name), .string (BS x.manifest)] 35)).alloc (.cells #[.int .i64 0, .int .i64 0, .bool false, .int .i64 0, .int .i64 0, .string ⟨#[]⟩, .string ⟨#[]⟩] 49)) := ((Below.refl _ _).alloc (Nat.le_refl _) _).alloc (by simp) _
  have h3 : Below w.heap.size w (((w.alloc (.cells #[.int .i64 x.stamp.count, .int .i64 x.stamp.who, .int .i64 x.seq, .int .i64 x.kind, .int .i64 x.node.count, .int .i64 x.node.who, .bool x.dir, .int .i64 x.parent.count, .int .i64 x.parent.who, .string (BS x.name), .string (BS x.manifest)] 35)).alloc (.cells #[.int .i64 0, .int .i64 0, .bool false, .int .i64 0, .int .i64 0, .string ⟨#[]⟩, .string ⟨#[]⟩] 49)).alloc (.cells #[.int .i64 x.node.count, .int .i64 x.node.who, .bool x.dir, .int .i64 0, .int .i64 1, .string (BS x.name), .string (BS x.manifest)] 49)) := h2.alloc h2.size _
  have o1 : OpAt (w.alloc (.cells #[.int .i64 x.stamp.count, .int .i64 x.stamp.who, .int .i64 x.seq, .int .i64 x.kind, .int .i64 x.node.count, .int .i64 x.node.who, .bool x.dir, .int .i64 x.parent.count, .int .i64 x.parent.who, .string (BS x.name), .string (BS x.manifest)] 35)) w.heap.size 0 x := OpAt.new w x 35
  have o2 : OpAt ((w.alloc (.cells #[.int .i64 x.stamp.count, .int .i64 x.stamp.who, .int .i64 x.seq, .int .i64 x.kind, .int .i64 x.node.count, .int .i64 x.node.who, .bool x.dir, .int .i64 x.parent.count, .int .i64 x.parent.who, .string (BS x.name), .string (BS x.manifest)] 35)).alloc (.cells #[.int .i64 0, .int .i64 0, .bool false, .int .i64 0, .int .i64 0, .string ⟨#[]⟩, .string ⟨#[]⟩] 49)) w.heap.size 0 x := o1.below ((Below.refl _ _).alloc (Nat.le_refl _) _)
  have o3 : OpAt (((w.alloc (.cells #[.int .i64 x.stamp.count, .int .i64 x.stamp.who, .int .i64 x.seq, .int .i64 x.kind, .int .i64 x.node.count, .int .i64 x.node.who, .bool x.dir, .int .i64 x.parent.count, .int .i64 x.parent.who, .string (BS x.name), .string (BS x.manifest)] 35)).alloc (.cells #[.int .i64 0, .int .i64 0, .bool false, .int .i64 0, .int .i64 0, .string ⟨#[]⟩, .string ⟨#[]⟩] 49)).alloc (.cells #[.int .i64 x.node.count, .int .i64 x.node.who, .bool x.dir, .int .i64 0, .int .i64 1, .string (BS x.name), .string (BS x.manifest)] 49)) w.heap.size 0 x := o2.below ((Below.refl _ _).alloc (Nat.le_refl _) _)
  have z2 : NdB ((w.alloc (.cells #[.int .i64 x.stamp.count, .int .i64 x.stamp.who, .int .i64 x.seq, .int .i64 x.kind, .int .i64 x.node.count, .int .i64 x.node.who, .bool x.dir, .int .i64 x.parent.count, .int .i64 x.parent.who, .string (BS x.name), .string (BS x.manifest)] 35)).alloc (.cells #[.int .i64 0, .int .i64 0, .bool false, .int .i64 0, .int .i64 0, .string ⟨#[]⟩, .string ⟨#[]⟩] 49)) (w.heap.size + 1) Nod.zero := by
    have := NdB.new (w.alloc (.cells #[.int .i64 x.stamp.count, .int .i64 x.stamp.who, .int .i64 x.seq, .int .i64 x.kind, .int .i64 x.node.count, .int .i64 x.node.who, .bool x.dir, .int .i64 x.parent.count, .int .i64 x.parent.who, .string (BS x.name), .string (BS x.manifest)] 35)) Nod.zero
    rw [show (w.alloc (.cells #[.int .i64 x.stamp.count, .int .i64 x.stamp.who, .int .i64 x.seq, .int .i64 x.kind, .int .i64 x.node.count, .int .i64 x.node.who, .bool x.dir, .int .i64 x.parent.count, .int .i64 x.parent.who, .string (BS x.name), .string (BS x.manifest)] 35)).heap.size = w.heap.size + 1 by simp] at this
    exact this
  have z3 : NdB (((w.alloc (.cells #[.int .i64 x.stamp.count, .int .i64 x.stamp.who, .int .i64 x.seq, .int .i64 x.kind, .int .i64 x.node.count, .int .i64 x.node.who, .bool x.dir, .int .i64 x.parent.count, .int .i64 x.parent.who, .string (BS x.name), .string (BS x.manifest)] 35)).alloc (.cells #[.int .i64 0, .int .i64 0, .bool false, .int .i64 0, .int .i64 0, .string ⟨#[]⟩, .string ⟨#[]⟩] 49)).alloc (.cells #[.int .i64 x.node.count, .int .i64 x.node.who, .bool x.dir, .int .i64 0, .int .i64 1, .string (BS x.name), .string (BS x.manifest)] 49)) (w.heap.size + 1) Nod.zero := z2.below ((Below.refl _ _).alloc (Nat.le_refl _) _)
  have y3 : NdB (((w.alloc (.cells #[.int .i64 x.stamp.count, .int .i64 x.stamp.who, .int .i64 x.seq, .int .i64 x.kind, .int .i64 x.node.count, .int .i64 x.node.who, .bool x.dir, .int .i64 x.parent.count, .int .i64 x.parent.who, .string (BS x.name), .string (BS x.manifest)] 35)).alloc (.cells #[.int .i64 0, .int .i64 0, .bool false, .int .i64 0, .int .i64 0, .string ⟨#[]⟩, .string ⟨#[]⟩] 49)).alloc (.cells #[.int .i64 x.node.count, .int .i64 x.node.who, .bool x.dir, .int .i64 0, .int .i64 1, .string (BS x.name), .string (BS x.manifest)] 49)) (w.heap.size + 2) ⟨x.node, x.dir, St.trash, x.name, x.manifest⟩ := by
    have := NdB.new ((w.alloc (.cells #[.int .i64 x.stamp.count, .int .i64 x.stamp.who, .int .i64 x.seq, .int .i64 x.kind, .int .i64 x.node.count, .int .i64 x.node.who, .bool x.dir, .int .i64 x.parent.count, .int .i64 x.parent.who, .string (BS x.name), .string (BS x.manifest)] 35)).alloc (.cells #[.int .i64 0, .int .i64 0, .bool false, .int .i64 0, .int .i64 0, .string ⟨#[]⟩, .string ⟨#[]⟩] 49)) ⟨x.node, x.dir, St.trash, x.name, x.manifest⟩
    rw [show ((w.alloc (.cells #[.int .i64 x.stamp.count, .int .i64 x.stamp.who, .int .i64 x.seq, .int .i64 x.kind, .int .i64 x.node.count, .int .i64 x.node.who, .bool x.dir, .int .i64 x.parent.count, .int .i64 x.parent.who, .string (BS x.name), .string (BS x.manifest)] 35)).alloc (.cells #[.int .i64 0, .int .i64 0, .bool false, .int .i64 0, .int .i64 0, .string ⟨#[]⟩, .string ⟨#[]⟩] 49)).heap.size = w.heap.size + 2 by simp] at this
    exact this
  obtain ⟨t0, t1, -, -⟩ := hT.on h2
  have hc := pmh_any b v mb n L x.parent (((w.alloc (.cells #[.int .i64 x.stamp.count, .int .i64 x.stamp.who, .int .i64 x.seq, .int .i64 x.kind, .int .i64 x.node.count, .int .i64 x.node.who, .bool x.dir, .int .i64 x.parent.count, .int .i64 x.parent.who, .string (BS x.name), .string (BS x.manifest)] 35)).alloc (.cells #[.int .i64 0, .int .i64 0, .bool false, .int .i64 0, .int .i64 0, .string ⟨#[]⟩, .string ⟨#[]⟩] 49)).alloc (.cells #[.int .i64 x.node.count, .int .i64 x.node.who, .bool x.dir, .int .i64 0, .int .i64 1, .string (BS x.name), .string (BS x.manifest)] 49)) (hS.below h3) (hM.below h3) (hT.on h3) hx.2.2.2.2.1
  have hres : mdeOf L x = ⟨x.node, x.dir, if mayOf L x.parent = true then x.parent else St.trash, x.name, x.manifest⟩ := rfl
  rw [hres]
  obtain ⟨q, hq⟩ : ∃ q, mayOf L x.parent = q := ⟨_, rfl⟩
  rw [hq] at hc ⊢
  unfold opVal opArr opCells
  have C1 := Go.Lib.hid hc; have O3 := Go.Lib.hid o3; have Z3 := Go.Lib.hid z3; have Y3 := Go.Lib.hid y3; have H3 := Go.Lib.hid h3
  obtain ⟨-, -, -, -, c4, c5, c6, -, -, c9, c10⟩ := op_cells0 o2
  obtain ⟨-, -, -, -, -, -, -, d7, d8, -, -⟩ := op_cells0 o3
  clear hc o3 z3 y3 h3 h2 o1 o2 z2 hS hM hT hres hq hx
  cases q
  · go_enter Tryd.func44, Tryd.ntmps44
    go_wp2_with fail
    refine C1.out.mono ?_; rintro e w4 ⟨rfl, hb4⟩
    have HND := Go.Lib.hid (Y3.out.below hb4); have HZR := Go.Lib.hid (Z3.out.below hb4); have HBZ := Go.Lib.hid (bstep H3.out hb4)
    clear hb4 c4 c5 c6 c9 c10 d7 d8 t0 t1
    obtain ⟨n0, n1, n2, n3, n4, n5, n6⟩ := nd_cells0 HND.out.at
    go_wp2_with (refine wpList_store_row rfl 49 (.tmp 4) (.tmp 23) rfl (w.heap.size + 1) (ndArr ⟨x.node, x.dir, St.trash, x.name, x.manifest⟩) rfl rfl 49 _ (HZR.out) (size_nd.trans (by rfl)) (by rfl) (ndArr_one _) ?_)
    exact bodyPost_ret (v := ndVal ⟨x.node, x.dir, St.trash, x.name, x.manifest⟩) (results_cell_row rfl _ _ (w.heap.size + 1) 49 (ndArr ⟨x.node, x.dir, St.trash, x.name, x.manifest⟩) (0, 0) _ rfl (setRow_heap _ _ _ _ _ _ HZR.out) Tryd.underlying49 rfl (size_nd.trans (by rfl))) rfl ⟨rfl, below_setRow HBZ.out (by omega) _⟩
  · go_enter Tryd.func44, Tryd.ntmps44
    go_wp2_with fail
    refine C1.out.mono ?_; rintro e w4 ⟨rfl, hb4⟩
    have hnd := Y3.out.below hb4
    obtain ⟨-, e3, e4, -, -, f3, f4, -, -⟩ := hnd.cells
    obtain ⟨-, -, -, -, -, -, -, g7, g8, -, -⟩ := op_cells0 (O3.out.below hb4)
    have HND0 := Go.Lib.hid hnd; have HZ4 := Go.Lib.hid (Z3.out.below hb4); have HB4 := Go.Lib.hid (bstep H3.out hb4)
    clear hb4 hnd c4 c5 c6 c9 c10 d7 d8 t0 t1
    have HND := Go.Lib.hid (HND0.out.putParent x.parent)
    have HZR := Go.Lib.hid (show NdB ((w4.setCell ⟨w.heap.size + 2, 3, none⟩ (.int .i64 x.parent.count)).setCell ⟨w.heap.size + 2, 4, none⟩ (.int .i64 x.parent.who)) (w.heap.size + 1) Nod.zero from (heap_setCell_other _ _ _ _ (by show w.heap.size + 1 ≠ w.heap.size + 2; omega)).trans ((heap_setCell_other _ _ _ _ (by show w.heap.size + 1 ≠ w.heap.size + 2; omega)).trans HZ4.out))
    have HBZ := Go.Lib.hid ((HB4.out.setCell (p := ⟨w.heap.size + 2, 3, none⟩) (by show w.heap.size ≤ w.heap.size + 2; omega) (.int .i64 x.parent.count)).setCell (p := ⟨w.heap.size + 2, 4, none⟩) (by show w.heap.size ≤ w.heap.size + 2; omega) (.int .i64 x.parent.who))
    obtain ⟨n0, n1, n2, n3, n4, n5, n6⟩ := nd_cells0 HND.out.at
    go_wp2_with (refine wpList_store_row rfl 49 (.tmp 4) (.tmp 23) rfl (w.heap.size + 1) (ndArr ⟨x.node, x.dir, x.parent, x.name, x.manifest⟩) rfl rfl 49 _ (HZR.out) (size_nd.trans (by rfl)) (by rfl) (ndArr_one _) ?_)
    exact bodyPost_ret (v := ndVal ⟨x.node, x.dir, x.parent, x.name, x.manifest⟩) (results_cell_row rfl _ _ (w.heap.size + 1) 49 (ndArr ⟨x.node, x.dir, x.parent, x.name, x.manifest⟩) (0, 0) _ rfl (setRow_heap _ _ _ _ _ _ HZR.out) Tryd.underlying49 rfl (size_nd.trans (by rfl))) rfl ⟨rfl, below_setRow HBZ.out (by omega) _⟩
end Go.Proofs.YtjeijolblcodpaaDoor.W
end

/- The program's states: a node behind an operation on it. -/
section
namespace Go.Proofs.YtjeijolblcodpaaDoor.W
set_option maxRecDepth 20000
set_option linter.unusedVariables false
open Go.RowKit Go.Proofs Arb

/-- What a call of 'changed' begins with. -/
structure Chg (w W3 : World) (n : Nod) (x : Opn) : Prop where
  nd : NdB W3 w.heap.size n
  op : OpAt W3 (w.heap.size + 1) 0 x
  zr : NdB W3 (w.heap.size + 2) Nod.zero
  bel : Below w.heap.size w W3
theorem Chg.on {w W W' : World} {n : Nod} {x : Opn} (h : Chg w W n x) (hb : Below W.heap.size W W') : Chg w W' n x :=
  ⟨h.nd.below hb, h.op.below hb, h.zr.below hb, bstep h.bel hb⟩
theorem cell_other {w : World} {b b' j j' : Nat} {u v : Value} (h : w.cell? ⟨b', j', none⟩ = some v) (hne : ¬ b' = b) : (w.setCell ⟨b, j, none⟩ u).cell? ⟨b', j', none⟩ = some v :=
  (World.cell?_of_block (heap_setCell_other _ _ _ _ hne)).trans h
theorem chg_start (w : World) (n : Nod) (x : Opn) : Chg w (((w.alloc (.cells #[.int .i64 n.id.count, .int .i64 n.id.who, .bool n.dir, .int .i64 n.parent.count, .int .i64 n.parent.who, .string (BS n.name), .string (BS n.manifest)] 49)).alloc (.cells #[.int .i64 x.stamp.count, .int .i64 x.stamp.who, .int .i64 x.seq, .int .i64 x.kind, .int .i64 x.node.count, .int .i64 x.node.who, .bool x.dir, .int .i64 x.parent.count, .int .i64 x.parent.who, .string (BS x.name), .string (BS x.manifest)] 35)).alloc (.cells #[.int .i64 0, .int .i64 0, .bool false, .int .i64 0, .int .i64 0, .string ⟨#[]⟩, .string ⟨#[]⟩] 49)) n x := by
  have n1 : NdB (w.alloc (.cells #[.int .i64 n.id.count, .int .i64 n.id.who, .bool n.dir, .int .i64 n.parent.count, .int .i64 n.parent.who, .string (BS n.name), .string (BS n.manifest)] 49)) w.heap.size n := NdB.new w n
  have n2 : NdB ((w.alloc (.cells #[.int .i64 n.id.count, .int .i64 n.id.who, .bool n.dir, .int .i64 n.parent.count, .int .i64 n.parent.who, .string (BS n.name), .string (BS n.manifest)] 49)).alloc (.cells #[.int .i64 x.stamp.count, .int .i64 x.stamp.who, .int .i64 x.seq, .int .i64 x.kind, .int .i64 x.node.count, .int .i64 x.node.who, .bool x.dir, .int .i64 x.parent.count, .int .i64 x.parent.who, .string (BS x.name), .string (BS x.manifest)] 35)) w.heap.size n := n1.below ((Below.refl _ _).alloc (Nat.le_refl _) _)
  have o2 : OpAt ((w.alloc (.cells #[.int .i64 n.id.count, .int .i64 n.id.who, .bool n.dir, .int .i64 n.parent.count, .int .i64 n.parent.who, .string (BS n.name), .string (BS n.manifest)] 49)).alloc (.cells #[.int .i64 x.stamp.count, .int .i64 x.stamp.who, .int .i64 x.seq, .int .i64 x.kind, .int .i64 x.node.count, .int .i64 x.node.who, .bool x.dir, .int .i64 x.parent.count, .int .i64 x.parent.who, .string (BS x.name), .string (BS x.manifest)] 35)) (w.heap.size + 1) 0 x := by
    have := OpAt.new (w.alloc (.cells #[.int .i64 n.id.count, .int .i64 n.id.who, .bool n.dir, .int .i64 n.parent.count, .int .i64 n.parent.who, .string (BS n.name), .string (BS n.manifest)] 49)) x 35
    rw [show (w.alloc (.cells #[.int .i64 n.id.count, .int .i64 n.id.who, .bool n.dir, .int .i64 n.parent.count, .int .i64 n.parent.who, .string (BS n.name), .string (BS n.manifest)] 49)).heap.size = w.heap.size + 1 by simp] at this
    exact this
  refine ⟨n2.below ((Below.refl _ _).alloc (Nat.le_refl _) _), o2.below ((Below.refl _ _).alloc (Nat.le_refl _) _), ?_, (((Below.refl _ _).alloc (Nat.le_refl _) _).alloc (by simp) _).alloc (by simp; omega) _⟩
  have := NdB.new ((w.alloc (.cells #[.int .i64 n.id.count, .int .i64 n.id.who, .bool n.dir, .int .i64 n.parent.count, .int .i64 n.parent.who, .string (BS n.name), .string (BS n.manifest)] 49)).alloc (.cells #[.int .i64 x.stamp.count, .int .i64 x.stamp.who, .int .i64 x.seq, .int .i64 x.kind, .int .i64 x.node.count, .int .i64 x.node.who, .bool x.dir, .int .i64 x.parent.count, .int .i64 x.parent.who, .string (BS x.name), .string (BS x.manifest)] 35)) Nod.zero
  rw [show ((w.alloc (.cells #[.int .i64 n.id.count, .int .i64 n.id.who, .bool n.dir, .int .i64 n.parent.count, .int .i64 n.parent.who, .string (BS n.name), .string (BS n.manifest)] 49)).alloc (.cells #[.int .i64 x.stamp.count, .int .i64 x.stamp.who, .int .i64 x.seq, .int .i64 x.kind, .int .i64 x.node.count, .int .i64 x.node.who, .bool x.dir, .int .i64 x.parent.count, .int .i64 x.parent.who, .string (BS x.name), .string (BS x.manifest)] 35)).heap.size = w.heap.size + 2 by simp] at this
  exact this

set_option maxHeartbeats 8000000 in
/-- A Move. -/
theorem pchanged_move (b : Nat) (v : Value) (mb : Nat) (k : Int) (L : List Nod) (n : Nod) (x : Opn) (w : World) (hS : S8 w b v mb k) (hM : NdMap w mb L) (hl : L.length ≤ 1000000) (hT : MMet w) (hn : ndWf n) (hx : opWf x) (hk : x.kind = 2) :
    Calls Tryd.prog 43 #[.pointer (some ⟨b, 0, none⟩), ndVal n, opVal x] w fun e w' => e = .returned (ndVal (chgOf L x n)) ∧ Below w.heap.size w w' := by
  have h3 := chg_start w n x
  have hc1 := pmh_any b v mb k L x.parent (((w.alloc (.cells #[.int .i64 n.id.count, .int .i64 n.id.who, .bool n.dir, .int .i64 n.parent.count, .int .i64 n.parent.who, .string (BS n.name), .string (BS n.manifest)] 49)).alloc (.cells #[.int .i64 x.stamp.count, .int .i64 x.stamp.who, .int .i64 x.seq, .int .i64 x.kind, .int .i64 x.node.count, .int .i64 x.node.who, .bool x.dir, .int .i64 x.parent.count, .int .i64 x.parent.who, .string (BS x.name), .string (BS x.manifest)] 35)).alloc (.cells #[.int .i64 0, .int .i64 0, .bool false, .int .i64 0, .int .i64 0, .string ⟨#[]⟩, .string ⟨#[]⟩] 49)) (hS.below h3.bel) (hM.below h3.bel) (hT.on h3.bel) hx.2.2.2.2.1
  have hc2 : ∀ W, Below w.heap.size w W → Calls Tryd.prog 56 #[.pointer (some ⟨b, 0, none⟩), .agg #[.int .i64 x.parent.count, .int .i64 x.parent.who], .agg #[.int .i64 n.id.count, .int .i64 n.id.who]] W fun e w' => e = .returned (.bool (ledGo L L.length x.parent n.id)) ∧ Below W.heap.size W w' :=
    fun W hW => pled_any b v mb k L x.parent n.id W (hS.below hW) (hM.below hW) hl hx.2.2.2.2.1 hn.1
  have hres : chgOf L x n = if mayOf L x.parent = true ∧ ledGo L L.length x.parent n.id = false then { n with parent := x.parent, name := x.name } else n := by
    unfold chgOf
    rw [if_pos hk]
  rw [hres]
  obtain ⟨q1, hq1⟩ : ∃ q, mayOf L x.parent = q := ⟨_, rfl⟩
  obtain ⟨q2, hq2⟩ : ∃ q, ledGo L L.length x.parent n.id = q := ⟨_, rfl⟩
  rw [hq1] at hc1 ⊢
  rw [hq2] at hc2 ⊢
  have hbk : (x.kind == 2) = true := by simp [hk]
  have hbk3 : (x.kind == 3) = false := by simp [hk]
  have hbk4 : (x.kind == 4) = false := by simp [hk]
  unfold opVal opArr opCells ndVal ndArr
  rw [show ndCells n = [.int .i64 n.id.count, .int .i64 n.id.who, .bool n.dir, .int .i64 n.parent.count, .int .i64 n.parent.who, .string (BS n.name), .string (BS n.manifest)] from rfl]
  have C1 := Go.Lib.hid hc1; have C2 := Go.Lib.hid hc2; have H3 := Go.Lib.hid h3
  obtain ⟨c0, c1, c2, c3, c4, c5, c6, c7, c8, c9, c10⟩ := op_cells0 h3.op
  clear hc1 hc2 h3 hS hM hT hres hq1 hq2 hx hn hk
  cases q1
  · rw [if_neg (by simp)]
    go_enter Tryd.func43, Tryd.ntmps43
    go_wp2_with fail
    refine C1.out.mono ?_; rintro e w4 ⟨rfl, hb4⟩
    have h4 := H3.out.on hb4
    have HND := Go.Lib.hid h4.nd; have HZR := Go.Lib.hid h4.zr; have HBZ := Go.Lib.hid h4.bel
    clear hb4 h4 c0 c1 c2 c3 c4 c5 c6 c7 c8 c9 c10
    obtain ⟨n0, n1, n2, n3, n4, n5, n6⟩ := nd_cells0 HND.out.at
    go_wp2_with (refine wpList_store_row rfl 49 (.tmp 6) (.tmp 42) rfl (w.heap.size + 2) (ndArr n) rfl rfl 49 _ (HZR.out) (size_nd.trans (by rfl)) (by rfl) (ndArr_one _) ?_)
    exact bodyPost_ret (v := ndVal n) (results_cell_row rfl _ _ (w.heap.size + 2) 49 (ndArr n) (0, 0) _ rfl (setRow_heap _ _ _ _ _ _ HZR.out) Tryd.underlying49 rfl (size_nd.trans (by rfl))) rfl ⟨rfl, below_setRow HBZ.out (by omega) _⟩
  · cases q2
    · rw [if_pos ⟨rfl, rfl⟩]
      go_enter Tryd.func43, Tryd.ntmps43
      go_wp2_with fail
      refine C1.out.mono ?_; rintro e w4 ⟨rfl, hb4⟩
      have h4 := H3.out.on hb4
      have H4 := Go.Lib.hid h4
      clear c0 c1 c2 c3 c4 c5 c6 c7 c8 c9 c10
      obtain ⟨-, -, -, -, -, -, -, c7, c8, -, -⟩ := op_cells0 h4.op
      obtain ⟨n0, n1, -⟩ := nd_cells0 h4.nd.at
      clear hb4 h4
      go_wp2_with fail
      refine (C2.out _ H4.out.bel).mono ?_; rintro e w5 ⟨rfl, hb5⟩
      have h5 := H4.out.on hb5
      have H5 := Go.Lib.hid h5
      clear c7 c8 n0 n1
      obtain ⟨-, -, -, -, -, -, -, c7, c8, c9, -⟩ := op_cells0 h5.op
      obtain ⟨-, e3, e4, e5, -, f3, f4, f5, -⟩ := h5.nd.cells
      clear hb5 h5
      have hgx : ¬ w.heap.size = w.heap.size + 1 := by omega
      have hgx2 : ¬ w.heap.size + 1 = w.heap.size := by omega
      go_wp2_with fail
      go_region_held3 (fun W => W.cell? ⟨w.heap.size + 1, 7, none⟩ = some (.int .i64 x.parent.count) ∧ W.cell? ⟨w.heap.size + 1, 8, none⟩ = some (.int .i64 x.parent.who) ∧ W.cell? ⟨w.heap.size + 1, 9, none⟩ = some (.string (BS x.name))) (first | exact ⟨c7, c8, c9⟩ | exact ⟨cell_other (cell_other c7 hgx2) hgx2, cell_other (cell_other c8 hgx2) hgx2, cell_other (cell_other c9 hgx2) hgx2⟩ | exact ⟨cell_other (cell_other (cell_other c7 hgx2) hgx2) hgx2, cell_other (cell_other (cell_other c8 hgx2) hgx2) hgx2, cell_other (cell_other (cell_other c9 hgx2) hgx2) hgx2⟩) (fail)
      all_goals (
        have HND := Go.Lib.hid ((H5.out.nd.putParent x.parent).putName x.name)
        have HZR := Go.Lib.hid (show NdB (((w5.setCell ⟨w.heap.size, 3, none⟩ (.int .i64 x.parent.count)).setCell ⟨w.heap.size, 4, none⟩ (.int .i64 x.parent.who)).setCell ⟨w.heap.size, 5, none⟩ (.string (BS x.name))).drew (w.heap.size + 2) Nod.zero from ((heap_setCell_other _ _ _ _ (by show w.heap.size + 2 ≠ w.heap.size; omega)).trans ((heap_setCell_other _ _ _ _ (by show w.heap.size + 2 ≠ w.heap.size; omega)).trans (heap_setCell_other _ _ _ _ (by show w.heap.size + 2 ≠ w.heap.size; omega)))).trans H5.out.zr)
        have HBZ := Go.Lib.hid ((((H5.out.bel.setCell (p := ⟨w.heap.size, 3, none⟩) (Nat.le_refl _) (.int .i64 x.parent.count)).setCell (p := ⟨w.heap.size, 4, none⟩) (Nat.le_refl _) (.int .i64 x.parent.who)).setCell (p := ⟨w.heap.size, 5, none⟩) (Nat.le_refl _) (.string (BS x.name))).drew)
        obtain ⟨n0, n1, n2, n3, n4, n5, n6⟩ := nd_cells0 HND.out.at
        go_wp2_with (refine wpList_store_row rfl 49 (.tmp 6) (.tmp 42) rfl (w.heap.size + 2) (ndArr { n with parent := x.parent, name := x.name }) rfl rfl 49 _ (HZR.out) (size_nd.trans (by rfl)) (by rfl) (ndArr_one _) ?_)
        exact bodyPost_ret (v := ndVal { n with parent := x.parent, name := x.name }) (results_cell_row rfl _ _ (w.heap.size + 2) 49 (ndArr { n with parent := x.parent, name := x.name }) (0, 0) _ rfl (setRow_heap _ _ _ _ _ _ HZR.out) Tryd.underlying49 rfl (size_nd.trans (by rfl))) rfl ⟨rfl, below_setRow HBZ.out (by omega) _⟩)
    · rw [if_neg (by simp)]
      go_enter Tryd.func43, Tryd.ntmps43
      go_wp2_with fail
      refine C1.out.mono ?_; rintro e w4 ⟨rfl, hb4⟩
      have h4 := H3.out.on hb4
      have H4 := Go.Lib.hid h4
      clear c0 c1 c2 c3 c4 c5 c6 c7 c8 c9 c10
      obtain ⟨-, -, -, -, -, -, -, c7, c8, -, -⟩ := op_cells0 h4.op
      obtain ⟨n0, n1, -⟩ := nd_cells0 h4.nd.at
      clear hb4 h4
      go_wp2_with fail
      refine (C2.out _ H4.out.bel).mono ?_; rintro e w5 ⟨rfl, hb5⟩
      have h5 := H4.out.on hb5
      have HND := Go.Lib.hid h5.nd; have HZR := Go.Lib.hid h5.zr; have HBZ := Go.Lib.hid h5.bel
      clear hb5 h5 c7 c8 n0 n1
      obtain ⟨n0, n1, n2, n3, n4, n5, n6⟩ := nd_cells0 HND.out.at
      go_wp2_with (refine wpList_store_row rfl 49 (.tmp 6) (.tmp 42) rfl (w.heap.size + 2) (ndArr n) rfl rfl 49 _ (HZR.out) (size_nd.trans (by rfl)) (by rfl) (ndArr_one _) ?_)
      exact bodyPost_ret (v := ndVal n) (results_cell_row rfl _ _ (w.heap.size + 2) 49 (ndArr n) (0, 0) _ rfl (setRow_heap _ _ _ _ _ _ HZR.out) Tryd.underlying49 rfl (size_nd.trans (by rfl))) rfl ⟨rfl, below_setRow HBZ.out (by omega) _⟩

end Go.Proofs.YtjeijolblcodpaaDoor.W
end
