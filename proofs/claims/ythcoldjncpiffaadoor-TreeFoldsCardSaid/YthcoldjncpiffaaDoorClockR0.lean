/- The reference of stamps: which one is ahead. -/
import Derived.Test.YthcoldjncpiffaaDoorClockT
import Derived.Test.YthcoldjncpiffaaDoorOwn
import Derived.WalkSpells
import Derived.WalkLawsBesides
import Derived.Outline
import Derived.Lib.Hide
import Derived.Deep.QuietTactic
import Derived.BigQuiet
namespace Go.Proofs.YthcoldjncpiffaaDoor.W
set_option linter.unusedVariables false
open Go.RowKit Go.Proofs Arb

set_option maxRecDepth 20000 in
set_option maxHeartbeats 1000000 in
theorem rless_any (s t : St) (w : World) :
    Calls Tryd.prog 35 #[.agg (stCells s).toArray, .agg (stCells t).toArray] w fun e w' => e = .returned (.bool (s.less t)) ∧ Below w.heap.size w w' := by
  obtain ⟨a, b⟩ := s
  obtain ⟨c, d⟩ := t
  show Calls Tryd.prog 35 #[.agg #[.int .i64 a, .int .i64 b], .agg #[.int .i64 c, .int .i64 d]] w _
  have hB : Below w.heap.size w ((w.alloc (.cells #[.int .i64 a, .int .i64 b] 30)).alloc (.cells #[.int .i64 c, .int .i64 d] 30)) := ((Below.refl _ _).alloc (Nat.le_refl _) _).alloc (by simp) _
  obtain ⟨r, hr⟩ : ∃ r, St.less ⟨a, b⟩ ⟨c, d⟩ = r := ⟨_, rfl⟩
  rw [hr]
  have HB := Go.Lib.hid hB; clear hB
  have HR := Go.Lib.hid hr; clear hr
  by_cases h1 : a < c
  · go_enter Tryd.func35, Tryd.ntmps35
    go_wp2_with fail
    go_ret
    exact ⟨by rw [← HR.out]; simp [St.less, h1], HB.out⟩
  · have hd1 : decide (a < c) = false := by simp; omega
    by_cases h2 : a = c
    · have hd2 : (a == c) = true := by simp [h2]
      by_cases h3 : b < d
      · have H2 := Go.Lib.hid h2; clear h2
        go_enter Tryd.func35, Tryd.ntmps35
        go_wp2_with fail
        go_ret
        exact ⟨by rw [← HR.out]; simp [St.less, h3, H2.out], HB.out⟩
      · have hd3 : decide (b < d) = false := by simp; omega
        have H2 := Go.Lib.hid h2; clear h2
        go_enter Tryd.func35, Tryd.ntmps35
        go_wp2_with fail
        go_ret
        exact ⟨by rw [← HR.out]; simp [St.less, h3, H2.out], HB.out⟩
    · have hd2 : (a == c) = false := by simp [h2]
      go_enter Tryd.func35, Tryd.ntmps35
      go_wp2_with fail
      go_ret
      exact ⟨by rw [← HR.out]; simp [St.less, h1, h2], HB.out⟩
end Go.Proofs.YthcoldjncpiffaaDoor.W
