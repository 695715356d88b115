/- The walk of the law on the order of stamps. -/
import Derived.Test.YtgfkiekcdjnaeaaClockC
import Derived.Test.YtgfkiekcdjnaeaaCalm
namespace Go.Proofs.Ytgfkiekcdjnaeaa.W
set_option linter.unusedVariables false
open Go.RowKit Go.Proofs Arb Go.WideShapes

theorem less_irrefl (a : St) : a.less a = false := by simp [St.less]
theorem less_total (a b : St) (h : a ≠ b) : b.less a = !a.less b := by
  obtain ⟨a1, a2⟩ := a
  obtain ⟨b1, b2⟩ := b
  have h' : ¬ (a1 = b1 ∧ a2 = b2) := fun e => h (by rw [e.1, e.2])
  simp only [St.less]
  rw [← decide_not]
  apply decide_eq_decide.2
  omega
theorem less_trans (a b c : St) (h : a.less b = true) (k : b.less c = true) : a.less c = true := by
  simp only [St.less, decide_eq_true_eq] at *
  omega

set_option maxRecDepth 20000 in
set_option maxHeartbeats 4000000 in
theorem clockOrder_walk (a : St) (_ : stWf a) (b : St) (_ : stWf b) (c : St) (_ : stWf c) (w : World) :
    Calls Try.prog 9 #[.agg (stCells a).toArray, .agg (stCells b).toArray, .agg (stCells c).toArray] w fun e w' => e = .returned (.bool true) ∧ Below w.heap.size w w' := by
  have hab := fun w => pless_any a b w
  have hba := fun w => pless_any b a w
  have hbc := fun w => pless_any b c w
  have hac := fun w => pless_any a c w
  have h1 := less_irrefl a
  have h2 := less_total a b
  have h3 := less_trans a b c
  obtain ⟨x, hx⟩ : ∃ x, a.less b = x := ⟨_, rfl⟩
  obtain ⟨y, hy⟩ : ∃ y, b.less a = y := ⟨_, rfl⟩
  obtain ⟨u, hu⟩ : ∃ u, b.less c = u := ⟨_, rfl⟩
  obtain ⟨v, hv⟩ : ∃ v, a.less c = v := ⟨_, rfl⟩
  rw [hx] at hab h2 h3
  rw [hy] at hba h2
  rw [hu] at hbc h3
  rw [hv] at hac h3
  have hcase : (a = b ∧ x = false ∧ y = false) ∨ (a.count ≠ b.count ∧ y = !x) ∨ (a.count = b.count ∧ a.who ≠ b.who ∧ y = !x) := by
    by_cases e : a = b
    · refine .inl ⟨e, ?_, ?_⟩
      · rw [← hx, ← e, h1]
      · rw [← hy, ← e, h1]
    · have e2 := h2 e
      by_cases e3 : a.count = b.count
      · refine .inr (.inr ⟨e3, fun e4 => e ?_, e2⟩)
        cases a; cases b; simp_all
      · exact .inr (.inl ⟨e3, e2⟩)
  clear hx hy hu hv h1 h2
  obtain ⟨a1, a2⟩ := a
  obtain ⟨b1, b2⟩ := b
  obtain ⟨d1, d2⟩ := c
  have hab' : ∀ w, Calls Try.prog 14 #[.agg #[.int .i64 a1, .int .i64 a2], .agg #[.int .i64 b1, .int .i64 b2]] w fun e w' => e = .returned (.bool x) ∧ Below w.heap.size w w' := hab
  have hba' : ∀ w, Calls Try.prog 14 #[.agg #[.int .i64 b1, .int .i64 b2], .agg #[.int .i64 a1, .int .i64 a2]] w fun e w' => e = .returned (.bool y) ∧ Below w.heap.size w w' := hba
  have hbc' : ∀ w, Calls Try.prog 14 #[.agg #[.int .i64 b1, .int .i64 b2], .agg #[.int .i64 d1, .int .i64 d2]] w fun e w' => e = .returned (.bool u) ∧ Below w.heap.size w w' := hbc
  have hac' : ∀ w, Calls Try.prog 14 #[.agg #[.int .i64 a1, .int .i64 a2], .agg #[.int .i64 d1, .int .i64 d2]] w fun e w' => e = .returned (.bool v) ∧ Below w.heap.size w w' := hac
  show Calls Try.prog 9 #[.agg #[.int .i64 a1, .int .i64 a2], .agg #[.int .i64 b1, .int .i64 b2], .agg #[.int .i64 d1, .int .i64 d2]] w _
  have HAB := Go.Lib.hid hab'; have HBA := Go.Lib.hid hba'; have HBC := Go.Lib.hid hbc'; have HAC := Go.Lib.hid hac'
  clear hab' hba' hbc' hac' hab hba hbc hac
  go_enter Try.func9, Try.ntmps9
  obtain ⟨W1, hW1⟩ : ∃ W1, ((w.alloc (.cells #[.int .i64 a1, .int .i64 a2] 23)).alloc (.cells #[.int .i64 b1, .int .i64 b2] 23)).alloc (.cells #[.int .i64 d1, .int .i64 d2] 23) = W1 := ⟨_, rfl⟩
  have hB : Below w.heap.size w W1 := by rw [← hW1]; exact (((Below.refl _ _).alloc (Nat.le_refl _) _).alloc (by simp) _).alloc (by simp; omega) _
  have hc : (W1.cell? ⟨w.heap.size, 0, none⟩ = some (.int .i64 a1) ∧ W1.cell? ⟨w.heap.size, 1, none⟩ = some (.int .i64 a2)) ∧ (W1.cell? ⟨w.heap.size + 1, 0, none⟩ = some (.int .i64 b1) ∧ W1.cell? ⟨w.heap.size + 1, 1, none⟩ = some (.int .i64 b2)) ∧
      (W1.cell? ⟨w.heap.size + 2, 0, none⟩ = some (.int .i64 d1) ∧ W1.cell? ⟨w.heap.size + 2, 1, none⟩ = some (.int .i64 d2)) := by
    have e1 := heap_alloc_new w (.cells #[.int .i64 a1, .int .i64 a2] 23)
    have e2 := heap_alloc_new (w.alloc (.cells #[.int .i64 a1, .int .i64 a2] 23)) (.cells #[.int .i64 b1, .int .i64 b2] 23)
    have e3 := heap_alloc_new ((w.alloc (.cells #[.int .i64 a1, .int .i64 a2] 23)).alloc (.cells #[.int .i64 b1, .int .i64 b2] 23)) (.cells #[.int .i64 d1, .int .i64 d2] 23)
    rw [World.size_alloc] at e2 e3
    rw [World.size_alloc] at e3
    rw [← hW1]
    exact ⟨⟨cell_more (cell_more (by rw [cell_of_row _ _ _ _ _ _ e1]; rfl)), cell_more (cell_more (by rw [cell_of_row _ _ _ _ _ _ e1]; rfl))⟩, ⟨cell_more (by rw [cell_of_row _ _ _ _ _ _ e2]; rfl), cell_more (by rw [cell_of_row _ _ _ _ _ _ e2]; rfl)⟩,
      by rw [cell_of_row _ _ _ _ _ _ e3]; rfl, by rw [cell_of_row _ _ _ _ _ _ e3]; rfl⟩
  have HB := Go.Lib.hid hB; clear hB
  have HC := Go.Lib.hid hc; clear hc
  have HW := Go.Lib.hid hW1; clear hW1
  have H3 := Go.Lib.hid h3; clear h3
  go_wp2_with fail
  rw [HW.out]
  obtain ⟨⟨c0, c1⟩, ⟨c2, c3⟩, c4, c5⟩ := HC.out
  clear HC HW
  have hl0 := World.block_lt_of_cell? W1 _ c0
  have hl1 := World.block_lt_of_cell? W1 _ c1
  have hl2 := World.block_lt_of_cell? W1 _ c2
  have hl3 := World.block_lt_of_cell? W1 _ c3
  have hl4 := World.block_lt_of_cell? W1 _ c4
  have hl5 := World.block_lt_of_cell? W1 _ c5
  have h3 := H3.out
  rcases hcase with ⟨hE, rfl, rfl⟩ | ⟨hE, rfl⟩ | ⟨hE, hF, rfl⟩
  · cases hE
    all_goals
      have q0 := fun x : BW W1.heap.size W1 => x.cell c0 hl0
      have q1 := fun x : BW W1.heap.size W1 => x.cell c1 hl1
      have q2 := fun x : BW W1.heap.size W1 => x.cell c2 hl2
      have q3 := fun x : BW W1.heap.size W1 => x.cell c3 hl3
      have q4 := fun x : BW W1.heap.size W1 => x.cell c4 hl4
      have q5 := fun x : BW W1.heap.size W1 => x.cell c5 hl5
      have hne := BW.ne W1.heap.size W1
      refine wp_region_calm W1.heap.size W1 (Below.refl _ _) (by kernel_rfl) (by kernel_rfl) ?_
      repeat (go_big_quiet_step (first | (go_at_call 14; with_reducible exact bw_of (Nat.le_refl _) (HAB.out _)) | (go_at_call 14; with_reducible exact bw_of (Nat.le_refl _) (HBA.out _)) | (go_at_call 14; with_reducible exact bw_of (Nat.le_refl _) (HBC.out _)) | (go_at_call 14; with_reducible exact bw_of (Nat.le_refl _) (HAC.out _))))
      refine wpQuiet_nil ?_
      intro _ hw'
      obtain ⟨x9, rfl⟩ := hw'
      cases u <;> cases v <;> first | (simp at h3; done) | (go_wp2_with (first | (go_at_call 14; with_reducible refine (bw_of (Nat.le_refl _) (HAB.out _)).mono ?_; rintro e _ ⟨rfl, x9, rfl⟩) | (go_at_call 14; with_reducible refine (bw_of (Nat.le_refl _) (HBA.out _)).mono ?_; rintro e _ ⟨rfl, x9, rfl⟩) | (go_at_call 14; with_reducible refine (bw_of (Nat.le_refl _) (HBC.out _)).mono ?_; rintro e _ ⟨rfl, x9, rfl⟩) | (go_at_call 14; with_reducible refine (bw_of (Nat.le_refl _) (HAC.out _)).mono ?_; rintro e _ ⟨rfl, x9, rfl⟩) | (go_at_call 16; refine (bw_of (Nat.le_refl _) (awake_any _)).mono ?_; rintro e _ ⟨rfl, x9, rfl⟩)); go_ret; exact ⟨rfl, bstep HB.out x9.2⟩)
  · have hE' : (a1 == b1) = false := by simpa using hE
    clear hE
    cases x
    all_goals
      have q0 := fun x : BW W1.heap.size W1 => x.cell c0 hl0
      have q1 := fun x : BW W1.heap.size W1 => x.cell c1 hl1
      have q2 := fun x : BW W1.heap.size W1 => x.cell c2 hl2
      have q3 := fun x : BW W1.heap.size W1 => x.cell c3 hl3
      have q4 := fun x : BW W1.heap.size W1 => x.cell c4 hl4
      have q5 := fun x : BW W1.heap.size W1 => x.cell c5 hl5
      have hne := BW.ne W1.heap.size W1
      refine wp_region_calm W1.heap.size W1 (Below.refl _ _) (by kernel_rfl) (by kernel_rfl) ?_
      repeat (go_big_quiet_step (first | (go_at_call 14; with_reducible exact bw_of (Nat.le_refl _) (HAB.out _)) | (go_at_call 14; with_reducible exact bw_of (Nat.le_refl _) (HBA.out _)) | (go_at_call 14; with_reducible exact bw_of (Nat.le_refl _) (HBC.out _)) | (go_at_call 14; with_reducible exact bw_of (Nat.le_refl _) (HAC.out _))))
      refine wpQuiet_nil ?_
      intro _ hw'
      obtain ⟨x9, rfl⟩ := hw'
      cases u <;> cases v <;> first | (simp at h3; done) | (go_wp2_with (first | (go_at_call 14; with_reducible refine (bw_of (Nat.le_refl _) (HAB.out _)).mono ?_; rintro e _ ⟨rfl, x9, rfl⟩) | (go_at_call 14; with_reducible refine (bw_of (Nat.le_refl _) (HBA.out _)).mono ?_; rintro e _ ⟨rfl, x9, rfl⟩) | (go_at_call 14; with_reducible refine (bw_of (Nat.le_refl _) (HBC.out _)).mono ?_; rintro e _ ⟨rfl, x9, rfl⟩) | (go_at_call 14; with_reducible refine (bw_of (Nat.le_refl _) (HAC.out _)).mono ?_; rintro e _ ⟨rfl, x9, rfl⟩) | (go_at_call 16; refine (bw_of (Nat.le_refl _) (awake_any _)).mono ?_; rintro e _ ⟨rfl, x9, rfl⟩)); go_ret; exact ⟨rfl, bstep HB.out x9.2⟩)
  · obtain rfl : a1 = b1 := hE
    have hF' : (a2 == b2) = false := by simpa using hF
    clear hF
    cases x
    all_goals
      have q0 := fun x : BW W1.heap.size W1 => x.cell c0 hl0
      have q1 := fun x : BW W1.heap.size W1 => x.cell c1 hl1
      have q2 := fun x : BW W1.heap.size W1 => x.cell c2 hl2
      have q3 := fun x : BW W1.heap.size W1 => x.cell c3 hl3
      have q4 := fun x : BW W1.heap.size W1 => x.cell c4 hl4
      have q5 := fun x : BW W1.heap.size W1 => x.cell c5 hl5
      have hne := BW.ne W1.heap.size W1
      refine wp_region_calm W1.heap.size W1 (Below.refl _ _) (by kernel_rfl) (by kernel_rfl) ?_
      repeat (go_big_quiet_step (first | (go_at_call 14; with_reducible exact bw_of (Nat.le_refl _) (HAB.out _)) | (go_at_call 14; with_reducible exact bw_of (Nat.le_refl _) (HBA.out _)) | (go_at_call 14; with_reducible exact bw_of (Nat.le_refl _) (HBC.out _)) | (go_at_call 14; with_reducible exact bw_of (Nat.le_refl _) (HAC.out _))))
      refine wpQuiet_nil ?_
      intro _ hw'
      obtain ⟨x9, rfl⟩ := hw'
      cases u <;> cases v <;> first | (simp at h3; done) | (go_wp2_with (first | (go_at_call 14; with_reducible refine (bw_of (Nat.le_refl _) (HAB.out _)).mono ?_; rintro e _ ⟨rfl, x9, rfl⟩) | (go_at_call 14; with_reducible refine (bw_of (Nat.le_refl _) (HBA.out _)).mono ?_; rintro e _ ⟨rfl, x9, rfl⟩) | (go_at_call 14; with_reducible refine (bw_of (Nat.le_refl _) (HBC.out _)).mono ?_; rintro e _ ⟨rfl, x9, rfl⟩) | (go_at_call 14; with_reducible refine (bw_of (Nat.le_refl _) (HAC.out _)).mono ?_; rintro e _ ⟨rfl, x9, rfl⟩) | (go_at_call 16; refine (bw_of (Nat.le_refl _) (awake_any _)).mono ?_; rintro e _ ⟨rfl, x9, rfl⟩)); go_ret; exact ⟨rfl, bstep HB.out x9.2⟩)
end Go.Proofs.Ytgfkiekcdjnaeaa.W
