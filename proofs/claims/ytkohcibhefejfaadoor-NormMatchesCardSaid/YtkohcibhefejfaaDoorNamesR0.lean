/- Names: the first lemmas of Right, whosever. -/
import Derived.Test.YtkohcibhefejfaaDoorProg
import Derived.Test.YtkohcibhefejfaaDoorChecked
import Derived.Test.YtkohcibhefejfaaDoorNamesU
import Derived.Test.YtkohcibhefejfaaDoorOwn
import Derived.WalkKit
import Derived.Laws.BitsAllLaws
import Derived.WalkSpells
import Derived.WalkLawsBesides
import Derived.Outline
import Derived.Lib.Hide
import Derived.Lib.BufferRead
import Derived.Deep.QuietTactic
import Derived.BigQuiet
import Derived.IntWalk
namespace Go.Proofs.YtkohcibhefejfaaDoor.W
set_option maxRecDepth 20000
set_option linter.unusedVariables false
open Go.RowKit Go.Proofs Arb

theorem right_head {l : List UInt8} (h : nmHead l = false) : nmRight l = 23 := by unfold nmRight nmOk; rw [h]; rfl
theorem right_byte {l : List UInt8} (k : Nat) (hk : k < l.length) (h : okByte l[k] = false) : nmRight l = 23 := by
  unfold nmRight nmOk
  have : l.all okByte = false := by
    rw [List.all_eq_false]
    exact ⟨l[k], List.getElem_mem hk, by rw [h]; simp⟩
  rw [this, Bool.and_false]; rfl
theorem right_good {l : List UInt8} (h : nmHead l = true) (hb : ∀ k (hk : k < l.length), okByte l[k] = true) : nmRight l = 0 := by
  unfold nmRight nmOk
  have : l.all okByte = true := by
    rw [List.all_eq_true]
    intro b hm
    obtain ⟨k, hk, rfl⟩ := List.getElem_of_mem hm
    exact hb k hk
  rw [h, this]; rfl
end Go.Proofs.YtkohcibhefejfaaDoor.W
