/- The reference of stamps and vectors: contracts. -/
import Derived.Test.YtmkmahjboocoaaaClockT
import Derived.Test.YtmkmahjboocoaaaOwn
import Derived.WalkSpells
import Derived.WalkLawsBesides
import Derived.Outline
import Derived.Lib.Hide
import Derived.Deep.QuietTactic
import Derived.BigQuiet
namespace Go.Proofs.Ytmkmahjboocoaaa.W
set_option linter.unusedVariables false
open Go.RowKit Go.Proofs Arb

set_option maxRecDepth 20000 in
set_option maxHeartbeats 1000000 in
theorem rright_any (s : St) (w : World) :
    Calls Try.prog 32 #[.agg (stCells s).toArray] w fun e w' => e = .returned (.int .i64 s.right) ∧ Below w.heap.size w w' := by
  obtain ⟨a, b⟩ := s
  show Calls Try.prog 32 #[.agg #[.int .i64 a, .int .i64 b]] w _
  have hB : Below w.heap.size w (w.alloc (.cells #[.int .i64 a, .int .i64 b] 23)) := (Below.refl _ _).alloc (Nat.le_refl _) _
  obtain ⟨r, hr⟩ : ∃ r, St.right ⟨a, b⟩ = r := ⟨_, rfl⟩
  rw [hr]
  have HB := Go.Lib.hid hB; clear hB
  have HR := Go.Lib.hid hr; clear hr
  by_cases h1 : a < 1
  · go_enter Try.func32, Try.ntmps32
    go_wp2_with fail
    go_ret
    exact ⟨by rw [← HR.out]; simp [St.right, h1], HB.out⟩
  · by_cases h2 : 1099511627776 < a
    · go_enter Try.func32, Try.ntmps32
      go_wp2_with fail
      go_ret
      exact ⟨by rw [← HR.out]; simp [St.right, h2], HB.out⟩
    · by_cases h3 : b < 0
      · go_enter Try.func32, Try.ntmps32
        go_wp2_with fail
        go_ret
        exact ⟨by rw [← HR.out]; simp [St.right, h3], HB.out⟩
      · by_cases h4 : 15 ≤ b
        · go_enter Try.func32, Try.ntmps32
          go_wp2_with fail
          go_ret
          exact ⟨by rw [← HR.out]; simp [St.right, h4], HB.out⟩
        · go_enter Try.func32, Try.ntmps32
          go_wp2_with fail
          go_ret
          exact ⟨by rw [← HR.out]; simp [St.right]; omega, HB.out⟩

set_option maxRecDepth 20000 in
set_option maxHeartbeats 1000000 in
theorem rless_any (s t : St) (w : World) :
    Calls Try.prog 54 #[.agg (stCells s).toArray, .agg (stCells t).toArray] w fun e w' => e = .returned (.bool (s.less t)) ∧ Below w.heap.size w w' := by
  obtain ⟨a, b⟩ := s
  obtain ⟨c, d⟩ := t
  show Calls Try.prog 54 #[.agg #[.int .i64 a, .int .i64 b], .agg #[.int .i64 c, .int .i64 d]] w _
  have hB : Below w.heap.size w ((w.alloc (.cells #[.int .i64 a, .int .i64 b] 23)).alloc (.cells #[.int .i64 c, .int .i64 d] 23)) := ((Below.refl _ _).alloc (Nat.le_refl _) _).alloc (by simp) _
  obtain ⟨r, hr⟩ : ∃ r, St.less ⟨a, b⟩ ⟨c, d⟩ = r := ⟨_, rfl⟩
  rw [hr]
  have HB := Go.Lib.hid hB; clear hB
  have HR := Go.Lib.hid hr; clear hr
  by_cases h1 : a < c
  · go_enter Try.func54, Try.ntmps54
    go_wp2_with fail
    go_ret
    exact ⟨by rw [← HR.out]; simp [St.less, h1], HB.out⟩
  · have hd1 : decide (a < c) = false := by simp; omega
    by_cases h2 : a = c
    · have hd2 : (a == c) = true := by simp [h2]
      by_cases h3 : b < d
      · have H2 := Go.Lib.hid h2; clear h2
        go_enter Try.func54, Try.ntmps54
        go_wp2_with fail
        go_ret
        exact ⟨by rw [← HR.out]; simp [St.less, h3, H2.out], HB.out⟩
      · have hd3 : decide (b < d) = false := by simp; omega
        have H2 := Go.Lib.hid h2; clear h2
        go_enter Try.func54, Try.ntmps54
        go_wp2_with fail
        go_ret
        exact ⟨by rw [← HR.out]; simp [St.less, h3, H2.out], HB.out⟩
    · have hd2 : (a == c) = false := by simp [h2]
      go_enter Try.func54, Try.ntmps54
      go_wp2_with fail
      go_ret
      exact ⟨by rw [← HR.out]; simp [St.less, h1, h2], HB.out⟩
end Go.Proofs.Ytmkmahjboocoaaa.W
