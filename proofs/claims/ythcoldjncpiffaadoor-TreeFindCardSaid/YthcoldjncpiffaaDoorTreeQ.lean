/- Find. -/
import Derived.Test.YthcoldjncpiffaaDoorTreeR
namespace Go.Proofs.YthcoldjncpiffaaDoor.W
set_option linter.unusedVariables false
open Go.RowKit Go.Proofs Arb

set_option maxRecDepth 20000 in
set_option maxHeartbeats 4000000 in
theorem rfind7_any (v : Value) (l : List Nod) (s : St) (w : World) (h : Nods w v l) (hl : l.length ≤ 1000000) :
    Calls Tryd.prog 20 #[v, .agg #[.int .i64 s.count, .int .i64 s.who]] w fun e w' => e = .returned (.tuple #[ndVal (foundOf l s).1, .bool (foundOf l s).2]) ∧ Below w.heap.size w w' := by
  have hc := fun w h => rat7_any v l s w h hl
  obtain ⟨A, c, rfl, hcc⟩ := h.len
  obtain ⟨W1, hW1⟩ : ∃ W, ((w.alloc (.cells #[.int .i64 s.count, .int .i64 s.who] 30)).alloc (.cells (ndArr Nod.zero) 37)) = W := ⟨_, rfl⟩
  have hb0 : Below w.heap.size w W1 := by rw [← hW1]; exact ((Below.refl _ _).alloc (Nat.le_refl _) _).alloc (by simp) _
  have hres : ∀ w', Below W1.heap.size W1 w' → w'.heap[w.heap.size + 1]? = some (.cells #[.int .i64 0, .int .i64 0, .bool false, .int .i64 0, .int .i64 0, .string ⟨#[]⟩, .string ⟨#[]⟩] 37 (0, 0)) := fun w' hb => by
    have h1 : W1.heap[w.heap.size + 1]? = some (.cells (ndArr Nod.zero) 37 (0, 0)) := by
      rw [← hW1]
      have := heap_alloc_new (w.alloc (.cells #[.int .i64 s.count, .int .i64 s.who] 30)) (.cells (ndArr Nod.zero) 37)
      simpa using this
    exact (hb.block _ (Array.getElem?_eq_some_iff.1 h1).1).trans h1
  have HB0 := Go.Lib.hid hb0; have HRES := Go.Lib.hid hres; have HW1 := Go.Lib.hid hW1; clear hb0 hres hW1
  cases hf : findOf l s with
  | none =>
    have hr : foundOf l s = (Nod.zero, false) := by unfold foundOf; rw [hf]
    have ha : atI l s = -1 := by unfold atI; rw [hf]
    rw [hr]
    simp only [ha] at hc
    have HC := Go.Lib.hid hc; have HV := Go.Lib.hid h
    clear hc h hf hr ha
    go_enter Tryd.func20, Tryd.ntmps20
    go_wp2_with fail
    have e := HW1.out; unfold ndArr ndCells Nod.zero St.zero at e; change _ = W1 at e
    first | rw [show ((w.alloc (.cells #[.int .i64 s.count, .int .i64 s.who] 30)).alloc (.cells #[.int .i64 0, .int .i64 0, .bool false, .int .i64 0, .int .i64 0, .string ⟨#[]⟩, .string ⟨#[]⟩] 37)) = W1 from HW1.out] | skip
    refine (HC.out _ (HV.out.below HB0.out)).mono ?_; rintro e w1 ⟨rfl, hb⟩
    have HH := Go.Lib.hid (HRES.out w1 hb)
    have HB := Go.Lib.hid (bstep HB0.out hb); clear hb
    go_wp2_with (refine wpList_store_row rfl 37 (.tmp 4) (.tmp 12) rfl (w.heap.size + 1) (ndArr Nod.zero) rfl rfl 37 _ (HH.out) (size_nd.trans (by rfl)) (by rfl) (ndArr_one _) ?_)
    exact bodyPost_ret (v := .tuple #[ndVal Nod.zero, .bool false]) (results_cell_slot (p := 4) (q := 5) rfl _ _ (w.heap.size + 1) 37 (ndArr Nod.zero) (0, 0) _ rfl (setRow_heap _ _ _ _ _ _ HH.out) Tryd.underlying37 rfl (size_nd.trans (by rfl)) rfl) rfl ⟨rfl, below_setRow HB.out (by omega) _⟩
  | some n =>
    have hr : foundOf l s = (n, true) := by unfold foundOf; rw [hf]
    obtain ⟨k, hk⟩ : ∃ k, atOf l s = k := ⟨_, rfl⟩
    have ha : atI l s = (k : Int) := by unfold atI; rw [hf, ← hk]
    obtain ⟨hg, hlt⟩ := at_get hf
    rw [hk] at hg hlt
    rw [hr]
    simp only [ha] at hc
    have HC := Go.Lib.hid hc; have HV := Go.Lib.hid h; have HG := Go.Lib.hid hg
    clear hc h hf hr ha hk hg
    go_enter Tryd.func20, Tryd.ntmps20
    go_wp2_with fail
    have e := HW1.out; unfold ndArr ndCells Nod.zero St.zero at e; change _ = W1 at e
    first | rw [show ((w.alloc (.cells #[.int .i64 s.count, .int .i64 s.who] 30)).alloc (.cells #[.int .i64 0, .int .i64 0, .bool false, .int .i64 0, .int .i64 0, .string ⟨#[]⟩, .string ⟨#[]⟩] 37)) = W1 from HW1.out] | skip
    refine (HC.out _ (HV.out.below HB0.out)).mono ?_; rintro e w1 ⟨rfl, hb⟩
    have HH := Go.Lib.hid (HRES.out w1 hb)
    obtain ⟨b1, o1, x, rfl, hg1, hx⟩ := ((HV.out.below HB0.out).below hb).at k hlt
    obtain ⟨c0, c1, c2, c3, c4, c5, c6⟩ := nd_cells hx
    obtain rfl : x = n := by have := HG.out; rw [hg1] at this; injection this
    have HB := Go.Lib.hid (bstep HB0.out hb); clear hb hx hg1
    go_wp2_with (refine wpList_store_row rfl 37 (.tmp 4) (.tmp 16) rfl (w.heap.size + 1) (ndArr x) rfl rfl 37 _ (HH.out) (size_nd.trans (by rfl)) (by rfl) (ndArr_one _) ?_)
    exact bodyPost_ret (v := .tuple #[ndVal x, .bool true]) (results_cell_slot (p := 4) (q := 5) rfl _ _ (w.heap.size + 1) 37 (ndArr x) (0, 0) _ rfl (setRow_heap _ _ _ _ _ _ HH.out) Tryd.underlying37 rfl (size_nd.trans (by rfl)) rfl) rfl ⟨rfl, below_setRow HB.out (by omega) _⟩
end Go.Proofs.YthcoldjncpiffaaDoor.W
