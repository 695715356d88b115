/- The reference of stamps: which may be. -/
import Derived.Test.YtjeijolblcodpaaDoorMg5
namespace Go.Proofs.YtjeijolblcodpaaDoor.W
set_option maxRecDepth 20000
set_option linter.unusedVariables false
open Go.RowKit Go.Proofs Arb

set_option maxRecDepth 20000 in
set_option maxHeartbeats 1000000 in
theorem rright_any (s : St) (w : World) :
    Calls Tryd.prog 29 #[.agg (stCells s).toArray] w fun e w' => e = .returned (.int .i64 s.right) ∧ Below w.heap.size w w' := by
  obtain ⟨a, b⟩ := s
  show Calls Tryd.prog 29 #[.agg #[.int .i64 a, .int .i64 b]] w _
  have hB : Below w.heap.size w (w.alloc (.cells #[.int .i64 a, .int .i64 b] 33)) := (Below.refl _ _).alloc (Nat.le_refl _) _
  obtain ⟨r, hr⟩ : ∃ r, St.right ⟨a, b⟩ = r := ⟨_, rfl⟩
  rw [hr]
  have HB := Go.Lib.hid hB; clear hB
  have HR := Go.Lib.hid hr; clear hr
  by_cases h1 : a < 1
  · go_enter Tryd.func29, Tryd.ntmps29
    go_wp2_with fail
    go_ret
    exact ⟨by rw [← HR.out]; simp [St.right, h1], HB.out⟩
  · by_cases h2 : 1099511627776 < a
    · go_enter Tryd.func29, Tryd.ntmps29
      go_wp2_with fail
      go_ret
      exact ⟨by rw [← HR.out]; simp [St.right, h2], HB.out⟩
    · by_cases h3 : b < 0
      · go_enter Tryd.func29, Tryd.ntmps29
        go_wp2_with fail
        go_ret
        exact ⟨by rw [← HR.out]; simp [St.right, h3], HB.out⟩
      · by_cases h4 : 15 ≤ b
        · go_enter Tryd.func29, Tryd.ntmps29
          go_wp2_with fail
          go_ret
          exact ⟨by rw [← HR.out]; simp [St.right, h4], HB.out⟩
        · go_enter Tryd.func29, Tryd.ntmps29
          go_wp2_with fail
          go_ret
          exact ⟨by rw [← HR.out]; simp [St.right]; omega, HB.out⟩
end Go.Proofs.YtjeijolblcodpaaDoor.W
