/- The program's stamps: contracts. -/
import Derived.Test.YthcoldjncpiffaaDoorClockI0
namespace Go.Proofs.YthcoldjncpiffaaDoor.W
set_option linter.unusedVariables false
open Go.RowKit Go.Proofs Arb

set_option maxHeartbeats 1000000 in
theorem pdevice_any (p : Int) (w : World) :
    Calls Tryd.prog 44 #[.int .i64 p] w fun e w' => e = .returned (.bool (decide (0 ≤ p ∧ p < 15))) ∧ w = w' := by
  obtain ⟨r, hr⟩ : ∃ r, decide (0 ≤ p ∧ p < 15) = r := ⟨_, rfl⟩
  rw [hr]
  have HR := Go.Lib.hid hr; clear hr
  by_cases h1 : 0 ≤ p
  · by_cases h2 : p < 15
    · go_enter Tryd.func44, Tryd.ntmps44
      go_wp2_with fail
      go_ret
      exact ⟨by rw [← HR.out]; simp [h1, h2], rfl⟩
    · go_enter Tryd.func44, Tryd.ntmps44
      go_wp2_with fail
      go_ret
      exact ⟨by rw [← HR.out]; simp [h2], rfl⟩
  · go_enter Tryd.func44, Tryd.ntmps44
    go_wp2_with fail
    go_ret
    exact ⟨by rw [← HR.out]; simp; omega, rfl⟩

set_option maxRecDepth 20000 in
set_option maxHeartbeats 1000000 in
theorem pright_any (s : St) (w : World) :
    Calls Tryd.prog 39 #[.agg (stCells s).toArray] w fun e w' => e = .returned (.int .i64 s.right) ∧ Below w.heap.size w w' := by
  obtain ⟨a, b⟩ := s
  show Calls Tryd.prog 39 #[.agg #[.int .i64 a, .int .i64 b]] w _
  have hB : Below w.heap.size w (w.alloc (.cells #[.int .i64 a, .int .i64 b] 30)) := (Below.refl _ _).alloc (Nat.le_refl _) _
  obtain ⟨r, hr⟩ : ∃ r, St.right ⟨a, b⟩ = r := ⟨_, rfl⟩
  rw [hr]
  have HB := Go.Lib.hid hB; clear hB
  have HR := Go.Lib.hid hr; clear hr
  by_cases h1 : a < 1
  · go_enter Tryd.func39, Tryd.ntmps39
    go_wp2_with fail
    go_ret
    exact ⟨by rw [← HR.out]; simp [St.right, h1], HB.out⟩
  · by_cases h2 : 1099511627776 < a
    · go_enter Tryd.func39, Tryd.ntmps39
      go_wp2_with fail
      go_ret
      exact ⟨by rw [← HR.out]; simp [St.right, h2], HB.out⟩
    · obtain ⟨d, hd⟩ : ∃ d, decide (0 ≤ b ∧ b < 15) = d := ⟨_, rfl⟩
      have hdv := pdevice_any b
      rw [hd] at hdv
      have HD := Go.Lib.hid hd; clear hd
      have HDV := Go.Lib.hid hdv; clear hdv
      have H1 := Go.Lib.hid h1
      have H2 := Go.Lib.hid h2
      cases d
      · go_enter Tryd.func39, Tryd.ntmps39
        go_wp2_with fail
        refine (HDV.out _).mono ?_; rintro e w1 ⟨rfl, rfl⟩
        go_wp2_with fail
        go_ret
        have := of_decide_eq_false HD.out
        have := H1.out
        have := H2.out
        exact ⟨by rw [← HR.out]; simp [St.right]; omega, HB.out⟩
      · go_enter Tryd.func39, Tryd.ntmps39
        go_wp2_with fail
        refine (HDV.out _).mono ?_; rintro e w1 ⟨rfl, rfl⟩
        go_wp2_with fail
        go_ret
        have := of_decide_eq_true HD.out
        have := H1.out
        have := H2.out
        exact ⟨by rw [← HR.out]; simp [St.right]; omega, HB.out⟩

end Go.Proofs.YthcoldjncpiffaaDoor.W
