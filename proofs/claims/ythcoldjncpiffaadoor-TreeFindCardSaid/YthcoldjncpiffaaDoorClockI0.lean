/- The order of stamps, in the program: its contract. -/
import Derived.Test.YthcoldjncpiffaaDoorClockR0
namespace Go.Proofs.YthcoldjncpiffaaDoor.W
set_option linter.unusedVariables false
open Go.RowKit Go.Proofs Arb

set_option maxRecDepth 20000 in
set_option maxHeartbeats 1000000 in
theorem pless_any (s t : St) (w : World) :
    Calls Tryd.prog 40 #[.agg (stCells s).toArray, .agg (stCells t).toArray] w fun e w' => e = .returned (.bool (s.less t)) ∧ Below w.heap.size w w' := by
  obtain ⟨a, b⟩ := s
  obtain ⟨c, d⟩ := t
  show Calls Tryd.prog 40 #[.agg #[.int .i64 a, .int .i64 b], .agg #[.int .i64 c, .int .i64 d]] w _
  have hB : Below w.heap.size w ((w.alloc (.cells #[.int .i64 a, .int .i64 b] 30)).alloc (.cells #[.int .i64 c, .int .i64 d] 30)) := ((Below.refl _ _).alloc (Nat.le_refl _) _).alloc (by simp) _
  obtain ⟨r, hr⟩ : ∃ r, St.less ⟨a, b⟩ ⟨c, d⟩ = r := ⟨_, rfl⟩
  rw [hr]
  have HB := Go.Lib.hid hB; clear hB
  have HR := Go.Lib.hid hr; clear hr
  by_cases h1 : a = c
  · have hd1 : (a != c) = false := by simp [h1]
    by_cases h3 : b < d
    · have hd3 : decide (b < d) = true := by simp; omega
      have H2 := Go.Lib.hid h1; clear h1
      go_enter Tryd.func40, Tryd.ntmps40
      go_wp2_with fail
      go_ret
      exact ⟨by rw [← HR.out]; simp [St.less, h3, H2.out], HB.out⟩
    · have hd3 : decide (b < d) = false := by simp; omega
      have H2 := Go.Lib.hid h1; clear h1
      go_enter Tryd.func40, Tryd.ntmps40
      go_wp2_with fail
      go_ret
      exact ⟨by rw [← HR.out]; simp [St.less, h3, H2.out], HB.out⟩
  · have hd1 : (a != c) = true := by simp [h1]
    by_cases h3 : a < c
    · have hd3 : decide (a < c) = true := by simp; omega
      go_enter Tryd.func40, Tryd.ntmps40
      go_wp2_with fail
      go_ret
      exact ⟨by rw [← HR.out]; simp [St.less, h3], HB.out⟩
    · have hd3 : decide (a < c) = false := by simp; omega
      go_enter Tryd.func40, Tryd.ntmps40
      go_wp2_with fail
      go_ret
      exact ⟨by rw [← HR.out]; simp [St.less, h3, h1], HB.out⟩

end Go.Proofs.YthcoldjncpiffaaDoor.W
