/-
  NARROWER THAN 'FOR EVERY INPUT', by the rows' own cells (each row's printed sentence says how): MovePlays: laid · MoveSame: laid · MoveRedoes: laid · MoveTwice: laid · MoveNil: laid · MoveOps: laid.
  DERIVED. THE GIVEN ROWS OF THIS SEAT. 6 by the template 'for every input the law returns true; each argument reads behind the call as it read before'; 0 by the template 'total and deterministic' (their statements: YtjeijolblcodpaaDoorTotals.lean).
  GIVEN WITH THE SEED: the statements are not yours to turn. If you find one false, say at which input.
  Laid BY PROGRAM, IN A SANDBOX (cutbox-rows.mjs): the forced cells as the released guide's own fill.sh prints them over the translation 5f0e1eb96404a6e9… (all of the seat's roots in one cut). By AI agents, Wed Nov 11 2026. No macro, syntax, notation, axiom, sorry.
-/
import Derived.Test.YtjeijolblcodpaaDoorChecked
import GoSem.Claim
import GoSem.ClaimJoined
import GoSem.ClaimMapViews
import Derived.JoinedTies
import Derived.KernelRfl
namespace Go.Proofs.YtjeijolblcodpaaDoor
/- THE CELL 'sum', in the pinned program and in every row, IS THE sha256 OF THE DUMP (.gsa) THAT YtjeijolblcodpaaDoorProg.lean LOADS. Nothing in Lean hashes anything: it is a label: what it is worth is what the hold of that sum in a sandbox is worth. -/
noncomputable def Tryd.pinned : Pinned := { name := "ytjeijolblcodpaadoor", sum := "5f0e1eb96404a6e9389531426fa7bd4361274273fa04d55b8537bbce81e1e0a5", checked := Tryd.checked }
namespace Rows
def none {H : Type} : Left H := { results := [], args := [] }

/- WHAT THE LISTED PACKAGE-LEVEL VARIABLES READ AS WHEN THE CALL BEGINS. Each datum BY PROGRAM (the guide's laid-datum.mjs) off the statement by which the dump's own 'gosem.cut.vars' lays the variable. In a bare row this is a premise. The card (YtjeijolblcodpaaDoorCards.lean) ties it to the program's text. -/
def laid_arbour_move_root {H : Type} : DataW H := .agg [.lit (.int .i64 0), .lit (.int .i64 0)]
def laid_arbour_move_trash {H : Type} : DataW H := .agg [.lit (.int .i64 0), .lit (.int .i64 1)]
def laid_arbour_tree_root {H : Type} : DataW H := .agg [.lit (.int .i64 0), .lit (.int .i64 0)]
def laid_arbour_tree_trash {H : Type} : DataW H := .agg [.lit (.int .i64 0), .lit (.int .i64 1)]

/-- 'arbourlaw08.MovePlays': WHATEVER THE INPUT: true; the input reads as it did. -/
def movePlaysSpec : ChangeSpec := { name := "movePlays", fn := fun _ => fun
  | [d] => { results := [.lit (.bool true)], args := [d] }
  | _ => none }
def movePlaysRow : OpenClaim := { program := "ytjeijolblcodpaadoor", sum := "5f0e1eb96404a6e9389531426fa7bd4361274273fa04d55b8537bbce81e1e0a5", func := "arbour/arbourlaw08.MovePlays", spec := "movePlays", inPlace := ["slices.overlaps[arbour/move.step]"], unfollowed := true, recurses := true, named := ["arbour/move.trash", "arbour/move.root"], plainKeys := false, apart := false, laid := [("arbour/move.root", laid_arbour_move_root), ("arbour/move.trash", laid_arbour_move_trash)] }
def MovePlaysSaid : Prop := movePlaysRow.holds Tryd.pinned (OpenSpec.ofChange movePlaysSpec)

/-- ITS FALSE NEIGHBOUR: 'it returns false'. Refute it at one input. -/
def movePlaysWrong : ChangeSpec := { name := "movePlays", fn := fun _ => fun
  | [d] => { results := [.lit (.bool false)], args := [d] }
  | _ => none }
def MovePlaysWrongFalsely : Prop := movePlaysRow.holds Tryd.pinned (OpenSpec.ofChange movePlaysWrong)

/-- 'arbourlaw08.MoveSame': WHATEVER THE INPUT: true; the input reads as it did. -/
def moveSameSpec : ChangeSpec := { name := "moveSame", fn := fun _ => fun
  | [d1, d2] => { results := [.lit (.bool true)], args := [d1, d2] }
  | _ => none }
def moveSameRow : OpenClaim := { program := "ytjeijolblcodpaadoor", sum := "5f0e1eb96404a6e9389531426fa7bd4361274273fa04d55b8537bbce81e1e0a5", func := "arbour/arbourlaw08.MoveSame", spec := "moveSame", inPlace := ["slices.overlaps[arbour/move.step]", "slices.overlaps[arbour/api.Node]"], unfollowed := true, recurses := true, named := ["arbour/move.trash", "arbour/move.root", "arbour/tree.trash", "arbour/tree.root"], plainKeys := false, apart := false, laid := [("arbour/move.root", laid_arbour_move_root), ("arbour/move.trash", laid_arbour_move_trash), ("arbour/tree.root", laid_arbour_tree_root), ("arbour/tree.trash", laid_arbour_tree_trash)] }
def MoveSameSaid : Prop := moveSameRow.holds Tryd.pinned (OpenSpec.ofChange moveSameSpec)

/-- ITS FALSE NEIGHBOUR: 'it returns false'. Refute it at one input. -/
def moveSameWrong : ChangeSpec := { name := "moveSame", fn := fun _ => fun
  | [d1, d2] => { results := [.lit (.bool false)], args := [d1, d2] }
  | _ => none }
def MoveSameWrongFalsely : Prop := moveSameRow.holds Tryd.pinned (OpenSpec.ofChange moveSameWrong)

/-- 'arbourlaw08.MoveRedoes': WHATEVER THE INPUT: true; the input reads as it did. -/
def moveRedoesSpec : ChangeSpec := { name := "moveRedoes", fn := fun _ => fun
  | [d] => { results := [.lit (.bool true)], args := [d] }
  | _ => none }
def moveRedoesRow : OpenClaim := { program := "ytjeijolblcodpaadoor", sum := "5f0e1eb96404a6e9389531426fa7bd4361274273fa04d55b8537bbce81e1e0a5", func := "arbour/arbourlaw08.MoveRedoes", spec := "moveRedoes", inPlace := ["slices.overlaps[arbour/move.step]"], unfollowed := true, recurses := true, named := ["arbour/move.trash", "arbour/move.root"], plainKeys := false, apart := false, laid := [("arbour/move.root", laid_arbour_move_root), ("arbour/move.trash", laid_arbour_move_trash)] }
def MoveRedoesSaid : Prop := moveRedoesRow.holds Tryd.pinned (OpenSpec.ofChange moveRedoesSpec)

/-- ITS FALSE NEIGHBOUR: 'it returns false'. Refute it at one input. -/
def moveRedoesWrong : ChangeSpec := { name := "moveRedoes", fn := fun _ => fun
  | [d] => { results := [.lit (.bool false)], args := [d] }
  | _ => none }
def MoveRedoesWrongFalsely : Prop := moveRedoesRow.holds Tryd.pinned (OpenSpec.ofChange moveRedoesWrong)

/-- 'arbourlaw08.MoveTwice': WHATEVER THE INPUT: true; the input reads as it did. -/
def moveTwiceSpec : ChangeSpec := { name := "moveTwice", fn := fun _ => fun
  | [d1, d2] => { results := [.lit (.bool true)], args := [d1, d2] }
  | _ => none }
def moveTwiceRow : OpenClaim := { program := "ytjeijolblcodpaadoor", sum := "5f0e1eb96404a6e9389531426fa7bd4361274273fa04d55b8537bbce81e1e0a5", func := "arbour/arbourlaw08.MoveTwice", spec := "moveTwice", inPlace := ["slices.overlaps[arbour/move.step]"], unfollowed := true, recurses := true, named := ["arbour/move.trash", "arbour/move.root"], plainKeys := false, apart := false, laid := [("arbour/move.root", laid_arbour_move_root), ("arbour/move.trash", laid_arbour_move_trash)] }
def MoveTwiceSaid : Prop := moveTwiceRow.holds Tryd.pinned (OpenSpec.ofChange moveTwiceSpec)

/-- ITS FALSE NEIGHBOUR: 'it returns false'. Refute it at one input. -/
def moveTwiceWrong : ChangeSpec := { name := "moveTwice", fn := fun _ => fun
  | [d1, d2] => { results := [.lit (.bool false)], args := [d1, d2] }
  | _ => none }
def MoveTwiceWrongFalsely : Prop := moveTwiceRow.holds Tryd.pinned (OpenSpec.ofChange moveTwiceWrong)

/-- 'arbourlaw08.MoveNil': WHATEVER THE INPUT: true; the input reads as it did. -/
def moveNilSpec : ChangeSpec := { name := "moveNil", fn := fun _ => fun
  | [d] => { results := [.lit (.bool true)], args := [d] }
  | _ => none }
def moveNilRow : OpenClaim := { program := "ytjeijolblcodpaadoor", sum := "5f0e1eb96404a6e9389531426fa7bd4361274273fa04d55b8537bbce81e1e0a5", func := "arbour/arbourlaw08.MoveNil", spec := "moveNil", inPlace := ["slices.overlaps[arbour/move.step]"], unfollowed := true, recurses := true, named := ["arbour/move.trash", "arbour/move.root"], plainKeys := false, apart := false, laid := [("arbour/move.root", laid_arbour_move_root), ("arbour/move.trash", laid_arbour_move_trash)] }
def MoveNilSaid : Prop := moveNilRow.holds Tryd.pinned (OpenSpec.ofChange moveNilSpec)

/-- ITS FALSE NEIGHBOUR: 'it returns false'. Refute it at one input. -/
def moveNilWrong : ChangeSpec := { name := "moveNil", fn := fun _ => fun
  | [d] => { results := [.lit (.bool false)], args := [d] }
  | _ => none }
def MoveNilWrongFalsely : Prop := moveNilRow.holds Tryd.pinned (OpenSpec.ofChange moveNilWrong)

/-- 'arbourlaw08.MoveOps': WHATEVER THE INPUT: true; the input reads as it did. -/
def moveOpsSpec : ChangeSpec := { name := "moveOps", fn := fun _ => fun
  | [d] => { results := [.lit (.bool true)], args := [d] }
  | _ => none }
def moveOpsRow : OpenClaim := { program := "ytjeijolblcodpaadoor", sum := "5f0e1eb96404a6e9389531426fa7bd4361274273fa04d55b8537bbce81e1e0a5", func := "arbour/arbourlaw08.MoveOps", spec := "moveOps", inPlace := ["slices.overlaps[arbour/move.step]"], unfollowed := true, recurses := true, named := ["arbour/move.trash", "arbour/move.root"], plainKeys := false, apart := false, laid := [("arbour/move.root", laid_arbour_move_root), ("arbour/move.trash", laid_arbour_move_trash)] }
def MoveOpsSaid : Prop := moveOpsRow.holds Tryd.pinned (OpenSpec.ofChange moveOpsSpec)

/-- ITS FALSE NEIGHBOUR: 'it returns false'. Refute it at one input. -/
def moveOpsWrong : ChangeSpec := { name := "moveOps", fn := fun _ => fun
  | [d] => { results := [.lit (.bool false)], args := [d] }
  | _ => none }
def MoveOpsWrongFalsely : Prop := moveOpsRow.holds Tryd.pinned (OpenSpec.ofChange moveOpsWrong)

/- THE SECOND FORM. 'bulk': how many values and letters a reading holds, each counted each time it is reached (what is shared counts as often as it is met; a slice's spare places count too). A statement '..UptoSaid' is the law's where the arguments, and the package variables that the reading takes, are together of bulk at most 1048576: NARROWER than '..Said'. Prove '..Said' where nothing that the law and all that it calls make is longer than what came in: it says more and counts as full. Else prove '..UptoSaid'. A law counts once. -/
mutual
def uptoBulk {H : Type} : DataW H → Nat
  | .lit (.string bytes) => bytes.length + 1
  | .lit _ => 1
  | .nil => 1
  | .ptr d => uptoBulk d + 1
  | .slice elems spare => uptoBulkAll elems + uptoBulkAll spare + 1
  | .agg parts => uptoBulkAll parts + 1
  | .iface _ d => uptoBulk d + 1
  | .map entries => uptoBulkEntries entries + 1
  | .held _ => 1
def uptoBulkAll {H : Type} : List (DataW H) → Nat
  | [] => 0
  | d :: r => uptoBulk d + uptoBulkAll r
def uptoBulkEntries {H : Type} : List (Lit × DataW H) → Nat
  | [] => 0
  | x :: r => uptoBulkEntry x + uptoBulkEntries r
def uptoBulkEntry {H : Type} : Lit × DataW H → Nat
  | (.string bytes, d) => bytes.length + uptoBulk d + 1
  | (_, d) => uptoBulk d + 1
 end
def uptoSmall : (H : Type) → List (DataW H) → Bool := fun _ ds => decide (uptoBulkAll ds ≤ 1048576)
def OpenSpec.upto (s : _root_.Go.ChangeSpec) : _root_.Go.OpenSpec := { _root_.Go.OpenSpec.ofChange s with cond := some uptoSmall }

/-- 'arbourlaw08.MovePlays', WHERE WHAT IT READS IS OF BULK AT MOST 1048576: true; the input reads as it did. -/
def movePlaysUptoRow : OpenClaim := { program := "ytjeijolblcodpaadoor", sum := "5f0e1eb96404a6e9389531426fa7bd4361274273fa04d55b8537bbce81e1e0a5", func := "arbour/arbourlaw08.MovePlays", spec := "movePlays", inPlace := ["slices.overlaps[arbour/move.step]"], unfollowed := true, recurses := true, named := ["arbour/move.trash", "arbour/move.root"], plainKeys := false, apart := false, laid := [("arbour/move.root", laid_arbour_move_root), ("arbour/move.trash", laid_arbour_move_trash)], narrowed := true }
def MovePlaysUptoSaid : Prop := movePlaysUptoRow.holds Tryd.pinned (OpenSpec.upto movePlaysSpec)

/-- 'arbourlaw08.MoveSame', WHERE WHAT IT READS IS OF BULK AT MOST 1048576: true; the input reads as it did. -/
def moveSameUptoRow : OpenClaim := { program := "ytjeijolblcodpaadoor", sum := "5f0e1eb96404a6e9389531426fa7bd4361274273fa04d55b8537bbce81e1e0a5", func := "arbour/arbourlaw08.MoveSame", spec := "moveSame", inPlace := ["slices.overlaps[arbour/move.step]", "slices.overlaps[arbour/api.Node]"], unfollowed := true, recurses := true, named := ["arbour/move.trash", "arbour/move.root", "arbour/tree.trash", "arbour/tree.root"], plainKeys := false, apart := false, laid := [("arbour/move.root", laid_arbour_move_root), ("arbour/move.trash", laid_arbour_move_trash), ("arbour/tree.root", laid_arbour_tree_root), ("arbour/tree.trash", laid_arbour_tree_trash)], narrowed := true }
def MoveSameUptoSaid : Prop := moveSameUptoRow.holds Tryd.pinned (OpenSpec.upto moveSameSpec)

/-- 'arbourlaw08.MoveRedoes', WHERE WHAT IT READS IS OF BULK AT MOST 1048576: true; the input reads as it did. -/
def moveRedoesUptoRow : OpenClaim := { program := "ytjeijolblcodpaadoor", sum := "5f0e1eb96404a6e9389531426fa7bd4361274273fa04d55b8537bbce81e1e0a5", func := "arbour/arbourlaw08.MoveRedoes", spec := "moveRedoes", inPlace := ["slices.overlaps[arbour/move.step]"], unfollowed := true, recurses := true, named := ["arbour/move.trash", "arbour/move.root"], plainKeys := false, apart := false, laid := [("arbour/move.root", laid_arbour_move_root), ("arbour/move.trash", laid_arbour_move_trash)], narrowed := true }
def MoveRedoesUptoSaid : Prop := moveRedoesUptoRow.holds Tryd.pinned (OpenSpec.upto moveRedoesSpec)

/-- 'arbourlaw08.MoveTwice', WHERE WHAT IT READS IS OF BULK AT MOST 1048576: true; the input reads as it did. -/
def moveTwiceUptoRow : OpenClaim := { program := "ytjeijolblcodpaadoor", sum := "5f0e1eb96404a6e9389531426fa7bd4361274273fa04d55b8537bbce81e1e0a5", func := "arbour/arbourlaw08.MoveTwice", spec := "moveTwice", inPlace := ["slices.overlaps[arbour/move.step]"], unfollowed := true, recurses := true, named := ["arbour/move.trash", "arbour/move.root"], plainKeys := false, apart := false, laid := [("arbour/move.root", laid_arbour_move_root), ("arbour/move.trash", laid_arbour_move_trash)], narrowed := true }
def MoveTwiceUptoSaid : Prop := moveTwiceUptoRow.holds Tryd.pinned (OpenSpec.upto moveTwiceSpec)

/-- 'arbourlaw08.MoveNil', WHERE WHAT IT READS IS OF BULK AT MOST 1048576: true; the input reads as it did. -/
def moveNilUptoRow : OpenClaim := { program := "ytjeijolblcodpaadoor", sum := "5f0e1eb96404a6e9389531426fa7bd4361274273fa04d55b8537bbce81e1e0a5", func := "arbour/arbourlaw08.MoveNil", spec := "moveNil", inPlace := ["slices.overlaps[arbour/move.step]"], unfollowed := true, recurses := true, named := ["arbour/move.trash", "arbour/move.root"], plainKeys := false, apart := false, laid := [("arbour/move.root", laid_arbour_move_root), ("arbour/move.trash", laid_arbour_move_trash)], narrowed := true }
def MoveNilUptoSaid : Prop := moveNilUptoRow.holds Tryd.pinned (OpenSpec.upto moveNilSpec)

/-- 'arbourlaw08.MoveOps', WHERE WHAT IT READS IS OF BULK AT MOST 1048576: true; the input reads as it did. -/
def moveOpsUptoRow : OpenClaim := { program := "ytjeijolblcodpaadoor", sum := "5f0e1eb96404a6e9389531426fa7bd4361274273fa04d55b8537bbce81e1e0a5", func := "arbour/arbourlaw08.MoveOps", spec := "moveOps", inPlace := ["slices.overlaps[arbour/move.step]"], unfollowed := true, recurses := true, named := ["arbour/move.trash", "arbour/move.root"], plainKeys := false, apart := false, laid := [("arbour/move.root", laid_arbour_move_root), ("arbour/move.trash", laid_arbour_move_trash)], narrowed := true }
def MoveOpsUptoSaid : Prop := moveOpsUptoRow.holds Tryd.pinned (OpenSpec.upto moveOpsSpec)

end Rows
end Go.Proofs.YtjeijolblcodpaaDoor
