/- The listed variables lie as the rows say in a world of their own. -/
import Derived.Test.YtkohcibhefejfaaDoorRows
import Derived.Test.YtkohcibhefejfaaDoorGlobT
import Derived.ProofKit
import Derived.OpenShut
import Derived.Lay
import Derived.LaidOnce
import Derived.SevenTiedAt
namespace Go.Proofs.YtkohcibhefejfaaDoor.W
set_option maxRecDepth 100000
open Go.ChangeShapes Go.WideShapes Go.ChangeAt Go.RowKit Go.Proofs Arb

def laidG : List (String × DataW Unit) := [("unicode/utf8.acceptRanges", Rows.laid_unicode_utf8_acceptRanges), ("unicode/utf8.first", Rows.laid_unicode_utf8_first)]
theorem laidG_met (os : Os) (args : Array Value) : laidMetH Tryd.prog laidG ((World.laidAll Tryd.prog os laidG).forCall (fun _ _ => 0) ⟨#[], args, []⟩).memory := by
  rw [MakeChecks.laidMetH_plain _ _ _ (by kernel_rfl)]
  exact laidMet_laidAll _ (by kernel_rfl) (by kernel_rfl)
end Go.Proofs.YtkohcibhefejfaaDoor.W
