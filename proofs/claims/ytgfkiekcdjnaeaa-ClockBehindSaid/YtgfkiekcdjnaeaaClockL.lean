/- The walks of the laws of layer 4. -/
import Derived.Test.YtgfkiekcdjnaeaaClockW
import Derived.Deep.RegionHeld3
namespace Go.Proofs.Ytgfkiekcdjnaeaa.W
set_option linter.unusedVariables false
open Go.RowKit Go.Proofs Arb Go.WideShapes

theorem cell_below {w w' : World} {a : Addr} {u : Value} (hb : Below w.heap.size w w') (h : w.cell? a = some u) : w'.cell? a = some u := (hb.cell (World.block_lt_of_cell? w a h)).trans h

set_option maxRecDepth 20000 in
set_option maxHeartbeats 1000000 in
theorem clockLess_walk (a : St) (_ : stWf a) (b : St) (_ : stWf b) (w : World) :
    Calls Try.prog 11 #[.agg (stCells a).toArray, .agg (stCells b).toArray] w fun e w' => e = .returned (.bool true) ∧ Below w.heap.size w w' := by
  have hp := fun w => pless_any a b w
  have hr := fun w => rless_any a b w
  obtain ⟨x, hx⟩ : ∃ x, a.less b = x := ⟨_, rfl⟩
  rw [hx] at hp hr
  obtain ⟨a1, a2⟩ := a
  obtain ⟨b1, b2⟩ := b
  have hp' : ∀ w, Calls Try.prog 14 #[.agg #[.int .i64 a1, .int .i64 a2], .agg #[.int .i64 b1, .int .i64 b2]] w fun e w' => e = .returned (.bool x) ∧ Below w.heap.size w w' := hp
  have hr' : ∀ w, Calls Try.prog 15 #[.agg #[.int .i64 a1, .int .i64 a2], .agg #[.int .i64 b1, .int .i64 b2]] w fun e w' => e = .returned (.bool x) ∧ Below w.heap.size w w' := hr
  show Calls Try.prog 11 #[.agg #[.int .i64 a1, .int .i64 a2], .agg #[.int .i64 b1, .int .i64 b2]] w _
  have HP := Go.Lib.hid hp'; clear hp' hp
  have HR := Go.Lib.hid hr'; clear hr' hr hx
  go_enter Try.func11, Try.ntmps11
  obtain ⟨W1, hW1⟩ : ∃ W1, (w.alloc (.cells #[.int .i64 a1, .int .i64 a2] 23)).alloc (.cells #[.int .i64 b1, .int .i64 b2] 23) = W1 := ⟨_, rfl⟩
  have hB : Below w.heap.size w W1 := by rw [← hW1]; exact ((Below.refl _ _).alloc (Nat.le_refl _) _).alloc (by simp) _
  have hc : (W1.cell? ⟨w.heap.size, 0, none⟩ = some (.int .i64 a1) ∧ W1.cell? ⟨w.heap.size, 1, none⟩ = some (.int .i64 a2)) ∧ (W1.cell? ⟨w.heap.size + 1, 0, none⟩ = some (.int .i64 b1) ∧ W1.cell? ⟨w.heap.size + 1, 1, none⟩ = some (.int .i64 b2)) := by
    have e1 := heap_alloc_new w (.cells #[.int .i64 a1, .int .i64 a2] 23)
    have e2 := heap_alloc_new (w.alloc (.cells #[.int .i64 a1, .int .i64 a2] 23)) (.cells #[.int .i64 b1, .int .i64 b2] 23)
    rw [World.size_alloc] at e2
    rw [← hW1]
    exact ⟨⟨cell_more (by rw [cell_of_row _ _ _ _ _ _ e1]; rfl), cell_more (by rw [cell_of_row _ _ _ _ _ _ e1]; rfl)⟩, by rw [cell_of_row _ _ _ _ _ _ e2]; rfl, by rw [cell_of_row _ _ _ _ _ _ e2]; rfl⟩
  have HB := Go.Lib.hid hB; clear hB
  have HC := Go.Lib.hid hc; clear hc
  have HW := Go.Lib.hid hW1; clear hW1
  go_wp2_with fail
  rw [HW.out]
  obtain ⟨⟨c0, c1⟩, c2, c3⟩ := HC.out
  go_region_held3 (fun w' => w'.cell? ⟨w.heap.size, 0, none⟩ = some (.int .i64 a1) ∧ w'.cell? ⟨w.heap.size, 1, none⟩ = some (.int .i64 a2) ∧ w'.cell? ⟨w.heap.size + 1, 0, none⟩ = some (.int .i64 b1) ∧ w'.cell? ⟨w.heap.size + 1, 1, none⟩ = some (.int .i64 b2))
    (first | exact ⟨c0, c1, c2, c3⟩ | exact ⟨cell_below HB2.out c0, cell_below HB2.out c1, cell_below HB2.out c2, cell_below HB2.out c3⟩ | exact ⟨cell_below HB3.out (cell_below HB2.out c0), cell_below HB3.out (cell_below HB2.out c1), cell_below HB3.out (cell_below HB2.out c2), cell_below HB3.out (cell_below HB2.out c3)⟩ | exact ⟨cell_below HB4.out (cell_below HB3.out (cell_below HB2.out c0)), cell_below HB4.out (cell_below HB3.out (cell_below HB2.out c1)), cell_below HB4.out (cell_below HB3.out (cell_below HB2.out c2)), cell_below HB4.out (cell_below HB3.out (cell_below HB2.out c3))⟩)
    (first | (go_at_call 14; refine (HP.out W1.drew).mono ?_; rintro e w2 ⟨rfl, hb2⟩; have HB2 := Go.Lib.hid (below_from hb2 rfl rfl rfl rfl : Below W1.heap.size W1 w2); clear hb2) | (go_at_call 15; refine (HR.out w2).mono ?_; rintro e w3 ⟨rfl, hb3⟩; have HB3 := Go.Lib.hid hb3; clear hb3) | (go_at_call 16; refine (awake_any w3).mono ?_; rintro e w4 ⟨rfl, hb4⟩; have HB4 := Go.Lib.hid hb4; clear hb4))
  go_wp2_with fail
  go_ret
  exact ⟨rfl, bstep (bstep (bstep HB.out HB2.out) HB3.out) HB4.out⟩

set_option maxRecDepth 20000 in
set_option maxHeartbeats 2000000 in
theorem clockRight_walk (a : St) (_ : stWf a) (b : St) (_ : stWf b) (w : World) :
    Calls Try.prog 3 #[.agg (stCells a).toArray, .agg (stCells b).toArray] w fun e w' => e = .returned (.bool true) ∧ Below w.heap.size w w' := by
  have hp := fun w => pless_any a b w
  have hr := fun w => rless_any a b w
  have hpr := fun w => pright_any a w
  have hrr := fun w => rright_any a w
  obtain ⟨x, hx⟩ : ∃ x, a.less b = x := ⟨_, rfl⟩
  obtain ⟨y, hy⟩ : ∃ y, a.right = y := ⟨_, rfl⟩
  rw [hx] at hp hr
  rw [hy] at hpr hrr
  obtain ⟨a1, a2⟩ := a
  obtain ⟨b1, b2⟩ := b
  have hp' : ∀ w, Calls Try.prog 14 #[.agg #[.int .i64 a1, .int .i64 a2], .agg #[.int .i64 b1, .int .i64 b2]] w fun e w' => e = .returned (.bool x) ∧ Below w.heap.size w w' := hp
  have hr' : ∀ w, Calls Try.prog 15 #[.agg #[.int .i64 a1, .int .i64 a2], .agg #[.int .i64 b1, .int .i64 b2]] w fun e w' => e = .returned (.bool x) ∧ Below w.heap.size w w' := hr
  have hpr' : ∀ w, Calls Try.prog 12 #[.agg #[.int .i64 a1, .int .i64 a2]] w fun e w' => e = .returned (.int .i64 y) ∧ Below w.heap.size w w' := hpr
  have hrr' : ∀ w, Calls Try.prog 13 #[.agg #[.int .i64 a1, .int .i64 a2]] w fun e w' => e = .returned (.int .i64 y) ∧ Below w.heap.size w w' := hrr
  show Calls Try.prog 3 #[.agg #[.int .i64 a1, .int .i64 a2], .agg #[.int .i64 b1, .int .i64 b2]] w _
  have HP := Go.Lib.hid hp'; clear hp' hp
  have HR := Go.Lib.hid hr'; clear hr' hr hx
  have HPR := Go.Lib.hid hpr'; clear hpr' hpr
  have HRR := Go.Lib.hid hrr'; clear hrr' hrr hy
  go_enter Try.func3, Try.ntmps3
  obtain ⟨W1, hW1⟩ : ∃ W1, (w.alloc (.cells #[.int .i64 a1, .int .i64 a2] 23)).alloc (.cells #[.int .i64 b1, .int .i64 b2] 23) = W1 := ⟨_, rfl⟩
  have hB : Below w.heap.size w W1 := by rw [← hW1]; exact ((Below.refl _ _).alloc (Nat.le_refl _) _).alloc (by simp) _
  have hc : (W1.cell? ⟨w.heap.size, 0, none⟩ = some (.int .i64 a1) ∧ W1.cell? ⟨w.heap.size, 1, none⟩ = some (.int .i64 a2)) ∧ (W1.cell? ⟨w.heap.size + 1, 0, none⟩ = some (.int .i64 b1) ∧ W1.cell? ⟨w.heap.size + 1, 1, none⟩ = some (.int .i64 b2)) := by
    have e1 := heap_alloc_new w (.cells #[.int .i64 a1, .int .i64 a2] 23)
    have e2 := heap_alloc_new (w.alloc (.cells #[.int .i64 a1, .int .i64 a2] 23)) (.cells #[.int .i64 b1, .int .i64 b2] 23)
    rw [World.size_alloc] at e2
    rw [← hW1]
    exact ⟨⟨cell_more (by rw [cell_of_row _ _ _ _ _ _ e1]; rfl), cell_more (by rw [cell_of_row _ _ _ _ _ _ e1]; rfl)⟩, by rw [cell_of_row _ _ _ _ _ _ e2]; rfl, by rw [cell_of_row _ _ _ _ _ _ e2]; rfl⟩
  have HB := Go.Lib.hid hB; clear hB
  have HC := Go.Lib.hid hc; clear hc
  have HW := Go.Lib.hid hW1; clear hW1
  go_wp2_with fail
  rw [HW.out]
  obtain ⟨⟨c0, c1⟩, c2, c3⟩ := HC.out
  go_region_held3 (fun w' => w'.cell? ⟨w.heap.size, 0, none⟩ = some (.int .i64 a1) ∧ w'.cell? ⟨w.heap.size, 1, none⟩ = some (.int .i64 a2) ∧ w'.cell? ⟨w.heap.size + 1, 0, none⟩ = some (.int .i64 b1) ∧ w'.cell? ⟨w.heap.size + 1, 1, none⟩ = some (.int .i64 b2))
    (first | exact ⟨c0, c1, c2, c3⟩)
    (first | (go_at_call 12; refine (HPR.out W1.drew).mono ?_; rintro e w2 ⟨rfl, hb⟩; have HB2 := Go.Lib.hid (below_from hb rfl rfl rfl rfl : Below W1.heap.size W1 w2); clear hb; have c0 := cell_below HB2.out c0; have c1 := cell_below HB2.out c1; have c2 := cell_below HB2.out c2; have c3 := cell_below HB2.out c3) | (go_at_call 13; refine (HRR.out w2).mono ?_; rintro e w3 ⟨rfl, hb⟩; have HB3 := Go.Lib.hid hb; clear hb; have c0 := cell_below HB3.out c0; have c1 := cell_below HB3.out c1; have c2 := cell_below HB3.out c2; have c3 := cell_below HB3.out c3) | (go_at_call 14; refine (HP.out w3).mono ?_; rintro e w4 ⟨rfl, hb⟩; have HB4 := Go.Lib.hid hb; clear hb; have c0 := cell_below HB4.out c0; have c1 := cell_below HB4.out c1; have c2 := cell_below HB4.out c2; have c3 := cell_below HB4.out c3) | (go_at_call 15; refine (HR.out w4).mono ?_; rintro e w5 ⟨rfl, hb⟩; have HB5 := Go.Lib.hid hb; clear hb; have c0 := cell_below HB5.out c0; have c1 := cell_below HB5.out c1; have c2 := cell_below HB5.out c2; have c3 := cell_below HB5.out c3) | (go_at_call 16; refine (awake_any w5).mono ?_; rintro e w6 ⟨rfl, hb⟩; have HB6 := Go.Lib.hid hb; clear hb; have c0 := cell_below HB6.out c0; have c1 := cell_below HB6.out c1; have c2 := cell_below HB6.out c2; have c3 := cell_below HB6.out c3))
  go_wp2_with fail
  go_ret
  exact ⟨rfl, bstep (bstep (bstep (bstep (bstep HB.out HB2.out) HB3.out) HB4.out) HB5.out) HB6.out⟩
end Go.Proofs.Ytgfkiekcdjnaeaa.W
