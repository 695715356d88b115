/-
  No cell of these rows narrows 'for every input' (looked for: loops, veiled, ifaces, maps, wideKeys, modest, calm, conditions, laid).
  DERIVED. THE GIVEN ROWS OF THIS SEAT. 9 by the template 'for every input the law returns true; each argument reads behind the call as it read before'; 0 by the template 'total and deterministic' (their statements: YtgfkiekcdjnaeaaTotals.lean).
  GIVEN WITH THE SEED: the statements are not yours to turn. If you find one false, say at which input.
  Laid BY PROGRAM, IN A SANDBOX (cutbox-rows.mjs): the forced cells as the released guide's own fill.sh prints them over the translation f2838c25b2ddee72… (all of the seat's roots in one cut). By AI agents, Wed Nov 11 2026. No macro, syntax, notation, axiom, sorry.
-/
import Derived.Test.YtgfkiekcdjnaeaaChecked
import GoSem.Claim
import GoSem.ClaimJoined
import GoSem.ClaimMapViews
import Derived.JoinedTies
import Derived.KernelRfl
namespace Go.Proofs.Ytgfkiekcdjnaeaa
/- THE CELL 'sum', in the pinned program and in every row, IS THE sha256 OF THE DUMP (.gsa) THAT YtgfkiekcdjnaeaaProg.lean LOADS. Nothing in Lean hashes anything: it is a label: what it is worth is what the hold of that sum in a sandbox is worth. -/
noncomputable def Try.pinned : Pinned := { name := "ytgfkiekcdjnaeaa", sum := "f2838c25b2ddee722dde66bb8079ad3dbc38b7b83fd6259cd303853db5bb8ea8", checked := Try.checked }
namespace Rows
def none {H : Type} : Left H := { results := [], args := [] }

/-- 'arbourlaw04.ClockRight': WHATEVER THE INPUT: true; the input reads as it did. -/
def clockRightSpec : ChangeSpec := { name := "clockRight", fn := fun _ => fun
  | [d1, d2] => { results := [.lit (.bool true)], args := [d1, d2] }
  | _ => none }
def clockRightRow : OpenClaim := { program := "ytgfkiekcdjnaeaa", sum := "f2838c25b2ddee722dde66bb8079ad3dbc38b7b83fd6259cd303853db5bb8ea8", func := "arbour/arbourlaw04.ClockRight", spec := "clockRight", apart := false }
def ClockRightSaid : Prop := clockRightRow.holds Try.pinned (OpenSpec.ofChange clockRightSpec)

/-- ITS FALSE NEIGHBOUR: 'it returns false'. Refute it at one input. -/
def clockRightWrong : ChangeSpec := { name := "clockRight", fn := fun _ => fun
  | [d1, d2] => { results := [.lit (.bool false)], args := [d1, d2] }
  | _ => none }
def ClockRightWrongFalsely : Prop := clockRightRow.holds Try.pinned (OpenSpec.ofChange clockRightWrong)

/-- 'arbourlaw04.ClockNext': WHATEVER THE INPUT: true; the input reads as it did. -/
def clockNextSpec : ChangeSpec := { name := "clockNext", fn := fun _ => fun
  | [d1, d2] => { results := [.lit (.bool true)], args := [d1, d2] }
  | _ => none }
def clockNextRow : OpenClaim := { program := "ytgfkiekcdjnaeaa", sum := "f2838c25b2ddee722dde66bb8079ad3dbc38b7b83fd6259cd303853db5bb8ea8", func := "arbour/arbourlaw04.ClockNext", spec := "clockNext", apart := false }
def ClockNextSaid : Prop := clockNextRow.holds Try.pinned (OpenSpec.ofChange clockNextSpec)

/-- ITS FALSE NEIGHBOUR: 'it returns false'. Refute it at one input. -/
def clockNextWrong : ChangeSpec := { name := "clockNext", fn := fun _ => fun
  | [d1, d2] => { results := [.lit (.bool false)], args := [d1, d2] }
  | _ => none }
def ClockNextWrongFalsely : Prop := clockNextRow.holds Try.pinned (OpenSpec.ofChange clockNextWrong)

/-- 'arbourlaw04.ClockJoins': WHATEVER THE INPUT: true; the input reads as it did. -/
def clockJoinsSpec : ChangeSpec := { name := "clockJoins", fn := fun _ => fun
  | [d] => { results := [.lit (.bool true)], args := [d] }
  | _ => none }
def clockJoinsRow : OpenClaim := { program := "ytgfkiekcdjnaeaa", sum := "f2838c25b2ddee722dde66bb8079ad3dbc38b7b83fd6259cd303853db5bb8ea8", func := "arbour/arbourlaw04.ClockJoins", spec := "clockJoins", apart := false }
def ClockJoinsSaid : Prop := clockJoinsRow.holds Try.pinned (OpenSpec.ofChange clockJoinsSpec)

/-- ITS FALSE NEIGHBOUR: 'it returns false'. Refute it at one input. -/
def clockJoinsWrong : ChangeSpec := { name := "clockJoins", fn := fun _ => fun
  | [d] => { results := [.lit (.bool false)], args := [d] }
  | _ => none }
def ClockJoinsWrongFalsely : Prop := clockJoinsRow.holds Try.pinned (OpenSpec.ofChange clockJoinsWrong)

/-- 'arbourlaw04.ClockMeets': WHATEVER THE INPUT: true; the input reads as it did. -/
def clockMeetsSpec : ChangeSpec := { name := "clockMeets", fn := fun _ => fun
  | [d] => { results := [.lit (.bool true)], args := [d] }
  | _ => none }
def clockMeetsRow : OpenClaim := { program := "ytgfkiekcdjnaeaa", sum := "f2838c25b2ddee722dde66bb8079ad3dbc38b7b83fd6259cd303853db5bb8ea8", func := "arbour/arbourlaw04.ClockMeets", spec := "clockMeets", apart := false }
def ClockMeetsSaid : Prop := clockMeetsRow.holds Try.pinned (OpenSpec.ofChange clockMeetsSpec)

/-- ITS FALSE NEIGHBOUR: 'it returns false'. Refute it at one input. -/
def clockMeetsWrong : ChangeSpec := { name := "clockMeets", fn := fun _ => fun
  | [d] => { results := [.lit (.bool false)], args := [d] }
  | _ => none }
def ClockMeetsWrongFalsely : Prop := clockMeetsRow.holds Try.pinned (OpenSpec.ofChange clockMeetsWrong)

/-- 'arbourlaw04.ClockCovers': WHATEVER THE INPUT: true; the input reads as it did. -/
def clockCoversSpec : ChangeSpec := { name := "clockCovers", fn := fun _ => fun
  | [d1, d2] => { results := [.lit (.bool true)], args := [d1, d2] }
  | _ => none }
def clockCoversRow : OpenClaim := { program := "ytgfkiekcdjnaeaa", sum := "f2838c25b2ddee722dde66bb8079ad3dbc38b7b83fd6259cd303853db5bb8ea8", func := "arbour/arbourlaw04.ClockCovers", spec := "clockCovers", apart := false }
def ClockCoversSaid : Prop := clockCoversRow.holds Try.pinned (OpenSpec.ofChange clockCoversSpec)

/-- ITS FALSE NEIGHBOUR: 'it returns false'. Refute it at one input. -/
def clockCoversWrong : ChangeSpec := { name := "clockCovers", fn := fun _ => fun
  | [d1, d2] => { results := [.lit (.bool false)], args := [d1, d2] }
  | _ => none }
def ClockCoversWrongFalsely : Prop := clockCoversRow.holds Try.pinned (OpenSpec.ofChange clockCoversWrong)

/-- 'arbourlaw04.ClockBehind': WHATEVER THE INPUT: true; the input reads as it did. -/
def clockBehindSpec : ChangeSpec := { name := "clockBehind", fn := fun _ => fun
  | [d1, d2] => { results := [.lit (.bool true)], args := [d1, d2] }
  | _ => none }
def clockBehindRow : OpenClaim := { program := "ytgfkiekcdjnaeaa", sum := "f2838c25b2ddee722dde66bb8079ad3dbc38b7b83fd6259cd303853db5bb8ea8", func := "arbour/arbourlaw04.ClockBehind", spec := "clockBehind", apart := false }
def ClockBehindSaid : Prop := clockBehindRow.holds Try.pinned (OpenSpec.ofChange clockBehindSpec)

/-- ITS FALSE NEIGHBOUR: 'it returns false'. Refute it at one input. -/
def clockBehindWrong : ChangeSpec := { name := "clockBehind", fn := fun _ => fun
  | [d1, d2] => { results := [.lit (.bool false)], args := [d1, d2] }
  | _ => none }
def ClockBehindWrongFalsely : Prop := clockBehindRow.holds Try.pinned (OpenSpec.ofChange clockBehindWrong)

/-- 'arbourlaw04.ClockOrder': WHATEVER THE INPUT: true; the input reads as it did. -/
def clockOrderSpec : ChangeSpec := { name := "clockOrder", fn := fun _ => fun
  | [d1, d2, d3] => { results := [.lit (.bool true)], args := [d1, d2, d3] }
  | _ => none }
def clockOrderRow : OpenClaim := { program := "ytgfkiekcdjnaeaa", sum := "f2838c25b2ddee722dde66bb8079ad3dbc38b7b83fd6259cd303853db5bb8ea8", func := "arbour/arbourlaw04.ClockOrder", spec := "clockOrder", apart := false }
def ClockOrderSaid : Prop := clockOrderRow.holds Try.pinned (OpenSpec.ofChange clockOrderSpec)

/-- ITS FALSE NEIGHBOUR: 'it returns false'. Refute it at one input. -/
def clockOrderWrong : ChangeSpec := { name := "clockOrder", fn := fun _ => fun
  | [d1, d2, d3] => { results := [.lit (.bool false)], args := [d1, d2, d3] }
  | _ => none }
def ClockOrderWrongFalsely : Prop := clockOrderRow.holds Try.pinned (OpenSpec.ofChange clockOrderWrong)

/-- 'arbourlaw04.ClockLattice': WHATEVER THE INPUT: true; the input reads as it did. -/
def clockLatticeSpec : ChangeSpec := { name := "clockLattice", fn := fun _ => fun
  | [d1, d2, d3] => { results := [.lit (.bool true)], args := [d1, d2, d3] }
  | _ => none }
def clockLatticeRow : OpenClaim := { program := "ytgfkiekcdjnaeaa", sum := "f2838c25b2ddee722dde66bb8079ad3dbc38b7b83fd6259cd303853db5bb8ea8", func := "arbour/arbourlaw04.ClockLattice", spec := "clockLattice", apart := false }
def ClockLatticeSaid : Prop := clockLatticeRow.holds Try.pinned (OpenSpec.ofChange clockLatticeSpec)

/-- ITS FALSE NEIGHBOUR: 'it returns false'. Refute it at one input. -/
def clockLatticeWrong : ChangeSpec := { name := "clockLattice", fn := fun _ => fun
  | [d1, d2, d3] => { results := [.lit (.bool false)], args := [d1, d2, d3] }
  | _ => none }
def ClockLatticeWrongFalsely : Prop := clockLatticeRow.holds Try.pinned (OpenSpec.ofChange clockLatticeWrong)

/-- 'arbourlaw04.ClockLess': WHATEVER THE INPUT: true; the input reads as it did. -/
def clockLessSpec : ChangeSpec := { name := "clockLess", fn := fun _ => fun
  | [d1, d2] => { results := [.lit (.bool true)], args := [d1, d2] }
  | _ => none }
def clockLessRow : OpenClaim := { program := "ytgfkiekcdjnaeaa", sum := "f2838c25b2ddee722dde66bb8079ad3dbc38b7b83fd6259cd303853db5bb8ea8", func := "arbour/arbourlaw04.ClockLess", spec := "clockLess", apart := false }
def ClockLessSaid : Prop := clockLessRow.holds Try.pinned (OpenSpec.ofChange clockLessSpec)

/-- ITS FALSE NEIGHBOUR: 'it returns false'. Refute it at one input. -/
def clockLessWrong : ChangeSpec := { name := "clockLess", fn := fun _ => fun
  | [d1, d2] => { results := [.lit (.bool false)], args := [d1, d2] }
  | _ => none }
def ClockLessWrongFalsely : Prop := clockLessRow.holds Try.pinned (OpenSpec.ofChange clockLessWrong)

/- THE SECOND FORM. 'bulk': how many values and letters a reading holds, each counted each time it is reached (what is shared counts as often as it is met; a slice's spare places count too). A statement '..UptoSaid' is the law's where the arguments, and the package variables that the reading takes, are together of bulk at most 1048576: NARROWER than '..Said'. Prove '..Said' where nothing that the law and all that it calls make is longer than what came in: it says more and counts as full. Else prove '..UptoSaid'. A law counts once. -/
mutual
def uptoBulk {H : Type} : DataW H → Nat
  | .lit (.string bytes) => bytes.length + 1
  | .lit _ => 1
  | .nil => 1
  | .ptr d => uptoBulk d + 1
  | .slice elems spare => uptoBulkAll elems + uptoBulkAll spare + 1
  | .agg parts => uptoBulkAll parts + 1
  | .iface _ d => uptoBulk d + 1
  | .map entries => uptoBulkEntries entries + 1
  | .held _ => 1
def uptoBulkAll {H : Type} : List (DataW H) → Nat
  | [] => 0
  | d :: r => uptoBulk d + uptoBulkAll r
def uptoBulkEntries {H : Type} : List (Lit × DataW H) → Nat
  | [] => 0
  | x :: r => uptoBulkEntry x + uptoBulkEntries r
def uptoBulkEntry {H : Type} : Lit × DataW H → Nat
  | (.string bytes, d) => bytes.length + uptoBulk d + 1
  | (_, d) => uptoBulk d + 1
 end
def uptoSmall : (H : Type) → List (DataW H) → Bool := fun _ ds => decide (uptoBulkAll ds ≤ 1048576)
def OpenSpec.upto (s : _root_.Go.ChangeSpec) : _root_.Go.OpenSpec := { _root_.Go.OpenSpec.ofChange s with cond := some uptoSmall }

/-- 'arbourlaw04.ClockRight', WHERE WHAT IT READS IS OF BULK AT MOST 1048576: true; the input reads as it did. -/
def clockRightUptoRow : OpenClaim := { program := "ytgfkiekcdjnaeaa", sum := "f2838c25b2ddee722dde66bb8079ad3dbc38b7b83fd6259cd303853db5bb8ea8", func := "arbour/arbourlaw04.ClockRight", spec := "clockRight", apart := false, narrowed := true }
def ClockRightUptoSaid : Prop := clockRightUptoRow.holds Try.pinned (OpenSpec.upto clockRightSpec)

/-- 'arbourlaw04.ClockNext', WHERE WHAT IT READS IS OF BULK AT MOST 1048576: true; the input reads as it did. -/
def clockNextUptoRow : OpenClaim := { program := "ytgfkiekcdjnaeaa", sum := "f2838c25b2ddee722dde66bb8079ad3dbc38b7b83fd6259cd303853db5bb8ea8", func := "arbour/arbourlaw04.ClockNext", spec := "clockNext", apart := false, narrowed := true }
def ClockNextUptoSaid : Prop := clockNextUptoRow.holds Try.pinned (OpenSpec.upto clockNextSpec)

/-- 'arbourlaw04.ClockJoins', WHERE WHAT IT READS IS OF BULK AT MOST 1048576: true; the input reads as it did. -/
def clockJoinsUptoRow : OpenClaim := { program := "ytgfkiekcdjnaeaa", sum := "f2838c25b2ddee722dde66bb8079ad3dbc38b7b83fd6259cd303853db5bb8ea8", func := "arbour/arbourlaw04.ClockJoins", spec := "clockJoins", apart := false, narrowed := true }
def ClockJoinsUptoSaid : Prop := clockJoinsUptoRow.holds Try.pinned (OpenSpec.upto clockJoinsSpec)

/-- 'arbourlaw04.ClockMeets', WHERE WHAT IT READS IS OF BULK AT MOST 1048576: true; the input reads as it did. -/
def clockMeetsUptoRow : OpenClaim := { program := "ytgfkiekcdjnaeaa", sum := "f2838c25b2ddee722dde66bb8079ad3dbc38b7b83fd6259cd303853db5bb8ea8", func := "arbour/arbourlaw04.ClockMeets", spec := "clockMeets", apart := false, narrowed := true }
def ClockMeetsUptoSaid : Prop := clockMeetsUptoRow.holds Try.pinned (OpenSpec.upto clockMeetsSpec)

/-- 'arbourlaw04.ClockCovers', WHERE WHAT IT READS IS OF BULK AT MOST 1048576: true; the input reads as it did. -/
def clockCoversUptoRow : OpenClaim := { program := "ytgfkiekcdjnaeaa", sum := "f2838c25b2ddee722dde66bb8079ad3dbc38b7b83fd6259cd303853db5bb8ea8", func := "arbour/arbourlaw04.ClockCovers", spec := "clockCovers", apart := false, narrowed := true }
def ClockCoversUptoSaid : Prop := clockCoversUptoRow.holds Try.pinned (OpenSpec.upto clockCoversSpec)

/-- 'arbourlaw04.ClockBehind', WHERE WHAT IT READS IS OF BULK AT MOST 1048576: true; the input reads as it did. -/
def clockBehindUptoRow : OpenClaim := { program := "ytgfkiekcdjnaeaa", sum := "f2838c25b2ddee722dde66bb8079ad3dbc38b7b83fd6259cd303853db5bb8ea8", func := "arbour/arbourlaw04.ClockBehind", spec := "clockBehind", apart := false, narrowed := true }
def ClockBehindUptoSaid : Prop := clockBehindUptoRow.holds Try.pinned (OpenSpec.upto clockBehindSpec)

/-- 'arbourlaw04.ClockOrder', WHERE WHAT IT READS IS OF BULK AT MOST 1048576: true; the input reads as it did. -/
def clockOrderUptoRow : OpenClaim := { program := "ytgfkiekcdjnaeaa", sum := "f2838c25b2ddee722dde66bb8079ad3dbc38b7b83fd6259cd303853db5bb8ea8", func := "arbour/arbourlaw04.ClockOrder", spec := "clockOrder", apart := false, narrowed := true }
def ClockOrderUptoSaid : Prop := clockOrderUptoRow.holds Try.pinned (OpenSpec.upto clockOrderSpec)

/-- 'arbourlaw04.ClockLattice', WHERE WHAT IT READS IS OF BULK AT MOST 1048576: true; the input reads as it did. -/
def clockLatticeUptoRow : OpenClaim := { program := "ytgfkiekcdjnaeaa", sum := "f2838c25b2ddee722dde66bb8079ad3dbc38b7b83fd6259cd303853db5bb8ea8", func := "arbour/arbourlaw04.ClockLattice", spec := "clockLattice", apart := false, narrowed := true }
def ClockLatticeUptoSaid : Prop := clockLatticeUptoRow.holds Try.pinned (OpenSpec.upto clockLatticeSpec)

/-- 'arbourlaw04.ClockLess', WHERE WHAT IT READS IS OF BULK AT MOST 1048576: true; the input reads as it did. -/
def clockLessUptoRow : OpenClaim := { program := "ytgfkiekcdjnaeaa", sum := "f2838c25b2ddee722dde66bb8079ad3dbc38b7b83fd6259cd303853db5bb8ea8", func := "arbour/arbourlaw04.ClockLess", spec := "clockLess", apart := false, narrowed := true }
def ClockLessUptoSaid : Prop := clockLessUptoRow.holds Try.pinned (OpenSpec.upto clockLessSpec)

end Rows
end Go.Proofs.Ytgfkiekcdjnaeaa
