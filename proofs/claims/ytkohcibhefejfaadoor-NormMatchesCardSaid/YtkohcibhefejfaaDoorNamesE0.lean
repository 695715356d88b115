/- Names: where the ending begins. -/
import Derived.Test.YtkohcibhefejfaaDoorNamesR0
namespace Go.Proofs.YtkohcibhefejfaaDoor.W
set_option maxRecDepth 20000
set_option linter.unusedVariables false
open Go.RowKit Go.Proofs Arb

theorem ext_at (l : List UInt8) (k : Nat) (hk : k < l.length) (h0 : 0 < k) (h46 : l[k] = 46) (hn : ∀ j (hj : j < l.length), k < j → l[j] ≠ 46) : ext l = l.drop (k + 1) := by
  have e : l = l.take k ++ 46 :: l.drop (k + 1) := by
    rw [← h46, ← List.drop_eq_getElem_cons hk, List.take_append_drop]
  have hne : l.take k ≠ [] := by intro h; have := congrArg List.length h; rw [List.length_take, List.length_nil] at this; omega
  have hnm : (46 : UInt8) ∉ l.drop (k + 1) := by
    intro hm
    obtain ⟨j, hj, e⟩ := List.getElem_of_mem hm
    rw [List.getElem_drop] at e
    rw [List.length_drop] at hj
    exact hn (k + 1 + j) (by omega) (by omega) e
  have := ext_found (l.take k) (l.drop (k + 1)) hne hnm
  rwa [← e] at this
theorem ext_end (l : List UInt8) (hn : ∀ j (hj : j < l.length), 0 < j → l[j] ≠ 46) : ext l = [] := by
  apply ext_none
  intro hm
  obtain ⟨j, hj, e⟩ := List.getElem_of_mem hm
  rw [List.getElem_tail] at e
  rw [List.length_tail] at hj
  exact hn (j + 1) (by omega) (by omega) e
end Go.Proofs.YtkohcibhefejfaaDoor.W
