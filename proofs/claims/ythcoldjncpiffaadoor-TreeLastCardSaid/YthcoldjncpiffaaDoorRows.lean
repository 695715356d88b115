/-
  NARROWER THAN 'FOR EVERY INPUT', by the rows' own cells (each row's printed sentence says how): TreeFolds: laid · TreeDoes: laid · TreeChains: laid · TreeRight: laid · TreeStays: laid · TreeLast: laid · TreeFind: laid · TreeChildren: laid.
  DERIVED. THE GIVEN ROWS OF THIS SEAT. 8 by the template 'for every input the law returns true; each argument reads behind the call as it read before'; 0 by the template 'total and deterministic' (their statements: YthcoldjncpiffaaDoorTotals.lean).
  GIVEN WITH THE SEED: the statements are not yours to turn. If you find one false, say at which input.
  Laid BY PROGRAM, IN A SANDBOX (cutbox-rows.mjs): the forced cells as the released guide's own fill.sh prints them over the translation 303dbcc338d0bda3… (all of the seat's roots in one cut). By AI agents, Wed Nov 11 2026. No macro, syntax, notation, axiom, sorry.
-/
import Derived.Test.YthcoldjncpiffaaDoorChecked
import GoSem.Claim
import GoSem.ClaimJoined
import GoSem.ClaimMapViews
import Derived.JoinedTies
import Derived.KernelRfl
namespace Go.Proofs.YthcoldjncpiffaaDoor
/- THE CELL 'sum', in the pinned program and in every row, IS THE sha256 OF THE DUMP (.gsa) THAT YthcoldjncpiffaaDoorProg.lean LOADS. Nothing in Lean hashes anything: it is a label: what it is worth is what the hold of that sum in a sandbox is worth. -/
noncomputable def Tryd.pinned : Pinned := { name := "ythcoldjncpiffaadoor", sum := "303dbcc338d0bda38527e9f164defd575007c8cf4f5c1b93f570852b5c66a047", checked := Tryd.checked }
namespace Rows
def none {H : Type} : Left H := { results := [], args := [] }

/- WHAT THE LISTED PACKAGE-LEVEL VARIABLES READ AS WHEN THE CALL BEGINS. Each datum BY PROGRAM (the guide's laid-datum.mjs) off the statement by which the dump's own 'gosem.cut.vars' lays the variable. In a bare row this is a premise. The card (YthcoldjncpiffaaDoorCards.lean) ties it to the program's text. -/
def laid_arbour_tree_root {H : Type} : DataW H := .agg [.lit (.int .i64 0), .lit (.int .i64 0)]
def laid_arbour_tree_trash {H : Type} : DataW H := .agg [.lit (.int .i64 0), .lit (.int .i64 1)]

/-- 'arbourlaw07.TreeFolds': WHATEVER THE INPUT: true; the input reads as it did. -/
def treeFoldsSpec : ChangeSpec := { name := "treeFolds", fn := fun _ => fun
  | [d] => { results := [.lit (.bool true)], args := [d] }
  | _ => none }
def treeFoldsRow : OpenClaim := { program := "ythcoldjncpiffaadoor", sum := "303dbcc338d0bda38527e9f164defd575007c8cf4f5c1b93f570852b5c66a047", func := "arbour/arbourlaw07.TreeFolds", spec := "treeFolds", inPlace := ["slices.overlaps[arbour/api.Node]"], named := ["arbour/tree.trash", "arbour/tree.root"], plainKeys := false, apart := false, laid := [("arbour/tree.root", laid_arbour_tree_root), ("arbour/tree.trash", laid_arbour_tree_trash)] }
def TreeFoldsSaid : Prop := treeFoldsRow.holds Tryd.pinned (OpenSpec.ofChange treeFoldsSpec)

/-- ITS FALSE NEIGHBOUR: 'it returns false'. Refute it at one input. -/
def treeFoldsWrong : ChangeSpec := { name := "treeFolds", fn := fun _ => fun
  | [d] => { results := [.lit (.bool false)], args := [d] }
  | _ => none }
def TreeFoldsWrongFalsely : Prop := treeFoldsRow.holds Tryd.pinned (OpenSpec.ofChange treeFoldsWrong)

/-- 'arbourlaw07.TreeDoes': WHATEVER THE INPUT: true; the input reads as it did. -/
def treeDoesSpec : ChangeSpec := { name := "treeDoes", fn := fun _ => fun
  | [d1, d2] => { results := [.lit (.bool true)], args := [d1, d2] }
  | _ => none }
def treeDoesRow : OpenClaim := { program := "ythcoldjncpiffaadoor", sum := "303dbcc338d0bda38527e9f164defd575007c8cf4f5c1b93f570852b5c66a047", func := "arbour/arbourlaw07.TreeDoes", spec := "treeDoes", inPlace := ["slices.overlaps[arbour/api.Node]"], named := ["arbour/tree.trash", "arbour/tree.root"], plainKeys := false, apart := false, laid := [("arbour/tree.root", laid_arbour_tree_root), ("arbour/tree.trash", laid_arbour_tree_trash)] }
def TreeDoesSaid : Prop := treeDoesRow.holds Tryd.pinned (OpenSpec.ofChange treeDoesSpec)

/-- ITS FALSE NEIGHBOUR: 'it returns false'. Refute it at one input. -/
def treeDoesWrong : ChangeSpec := { name := "treeDoes", fn := fun _ => fun
  | [d1, d2] => { results := [.lit (.bool false)], args := [d1, d2] }
  | _ => none }
def TreeDoesWrongFalsely : Prop := treeDoesRow.holds Tryd.pinned (OpenSpec.ofChange treeDoesWrong)

/-- 'arbourlaw07.TreeChains': WHATEVER THE INPUT: true; the input reads as it did. -/
def treeChainsSpec : ChangeSpec := { name := "treeChains", fn := fun _ => fun
  | [d1, d2] => { results := [.lit (.bool true)], args := [d1, d2] }
  | _ => none }
def treeChainsRow : OpenClaim := { program := "ythcoldjncpiffaadoor", sum := "303dbcc338d0bda38527e9f164defd575007c8cf4f5c1b93f570852b5c66a047", func := "arbour/arbourlaw07.TreeChains", spec := "treeChains", inPlace := ["slices.overlaps[arbour/api.Node]"], named := ["arbour/tree.trash", "arbour/tree.root"], plainKeys := false, apart := false, laid := [("arbour/tree.root", laid_arbour_tree_root), ("arbour/tree.trash", laid_arbour_tree_trash)] }
def TreeChainsSaid : Prop := treeChainsRow.holds Tryd.pinned (OpenSpec.ofChange treeChainsSpec)

/-- ITS FALSE NEIGHBOUR: 'it returns false'. Refute it at one input. -/
def treeChainsWrong : ChangeSpec := { name := "treeChains", fn := fun _ => fun
  | [d1, d2] => { results := [.lit (.bool false)], args := [d1, d2] }
  | _ => none }
def TreeChainsWrongFalsely : Prop := treeChainsRow.holds Tryd.pinned (OpenSpec.ofChange treeChainsWrong)

/-- 'arbourlaw07.TreeRight': WHATEVER THE INPUT: true; the input reads as it did. -/
def treeRightSpec : ChangeSpec := { name := "treeRight", fn := fun _ => fun
  | [d] => { results := [.lit (.bool true)], args := [d] }
  | _ => none }
def treeRightRow : OpenClaim := { program := "ythcoldjncpiffaadoor", sum := "303dbcc338d0bda38527e9f164defd575007c8cf4f5c1b93f570852b5c66a047", func := "arbour/arbourlaw07.TreeRight", spec := "treeRight", inPlace := ["slices.overlaps[arbour/api.Node]"], named := ["arbour/tree.trash", "arbour/tree.root"], plainKeys := false, apart := false, laid := [("arbour/tree.root", laid_arbour_tree_root), ("arbour/tree.trash", laid_arbour_tree_trash)] }
def TreeRightSaid : Prop := treeRightRow.holds Tryd.pinned (OpenSpec.ofChange treeRightSpec)

/-- ITS FALSE NEIGHBOUR: 'it returns false'. Refute it at one input. -/
def treeRightWrong : ChangeSpec := { name := "treeRight", fn := fun _ => fun
  | [d] => { results := [.lit (.bool false)], args := [d] }
  | _ => none }
def TreeRightWrongFalsely : Prop := treeRightRow.holds Tryd.pinned (OpenSpec.ofChange treeRightWrong)

/-- 'arbourlaw07.TreeStays': WHATEVER THE INPUT: true; the input reads as it did. -/
def treeStaysSpec : ChangeSpec := { name := "treeStays", fn := fun _ => fun
  | [d] => { results := [.lit (.bool true)], args := [d] }
  | _ => none }
def treeStaysRow : OpenClaim := { program := "ythcoldjncpiffaadoor", sum := "303dbcc338d0bda38527e9f164defd575007c8cf4f5c1b93f570852b5c66a047", func := "arbour/arbourlaw07.TreeStays", spec := "treeStays", inPlace := ["slices.overlaps[arbour/api.Node]"], named := ["arbour/tree.trash", "arbour/tree.root"], plainKeys := false, apart := false, laid := [("arbour/tree.root", laid_arbour_tree_root), ("arbour/tree.trash", laid_arbour_tree_trash)] }
def TreeStaysSaid : Prop := treeStaysRow.holds Tryd.pinned (OpenSpec.ofChange treeStaysSpec)

/-- ITS FALSE NEIGHBOUR: 'it returns false'. Refute it at one input. -/
def treeStaysWrong : ChangeSpec := { name := "treeStays", fn := fun _ => fun
  | [d] => { results := [.lit (.bool false)], args := [d] }
  | _ => none }
def TreeStaysWrongFalsely : Prop := treeStaysRow.holds Tryd.pinned (OpenSpec.ofChange treeStaysWrong)

/-- 'arbourlaw07.TreeLast': WHATEVER THE INPUT: true; the input reads as it did. -/
def treeLastSpec : ChangeSpec := { name := "treeLast", fn := fun _ => fun
  | [d1, d2] => { results := [.lit (.bool true)], args := [d1, d2] }
  | _ => none }
def treeLastRow : OpenClaim := { program := "ythcoldjncpiffaadoor", sum := "303dbcc338d0bda38527e9f164defd575007c8cf4f5c1b93f570852b5c66a047", func := "arbour/arbourlaw07.TreeLast", spec := "treeLast", inPlace := ["slices.overlaps[arbour/api.Node]"], named := ["arbour/tree.trash", "arbour/tree.root"], plainKeys := false, apart := false, laid := [("arbour/tree.root", laid_arbour_tree_root), ("arbour/tree.trash", laid_arbour_tree_trash)] }
def TreeLastSaid : Prop := treeLastRow.holds Tryd.pinned (OpenSpec.ofChange treeLastSpec)

/-- ITS FALSE NEIGHBOUR: 'it returns false'. Refute it at one input. -/
def treeLastWrong : ChangeSpec := { name := "treeLast", fn := fun _ => fun
  | [d1, d2] => { results := [.lit (.bool false)], args := [d1, d2] }
  | _ => none }
def TreeLastWrongFalsely : Prop := treeLastRow.holds Tryd.pinned (OpenSpec.ofChange treeLastWrong)

/-- 'arbourlaw07.TreeFind': WHATEVER THE INPUT: true; the input reads as it did. -/
def treeFindSpec : ChangeSpec := { name := "treeFind", fn := fun _ => fun
  | [d1, d2] => { results := [.lit (.bool true)], args := [d1, d2] }
  | _ => none }
def treeFindRow : OpenClaim := { program := "ythcoldjncpiffaadoor", sum := "303dbcc338d0bda38527e9f164defd575007c8cf4f5c1b93f570852b5c66a047", func := "arbour/arbourlaw07.TreeFind", spec := "treeFind", inPlace := ["slices.overlaps[arbour/api.Node]"], named := ["arbour/tree.trash", "arbour/tree.root"], plainKeys := false, apart := false, laid := [("arbour/tree.root", laid_arbour_tree_root), ("arbour/tree.trash", laid_arbour_tree_trash)] }
def TreeFindSaid : Prop := treeFindRow.holds Tryd.pinned (OpenSpec.ofChange treeFindSpec)

/-- ITS FALSE NEIGHBOUR: 'it returns false'. Refute it at one input. -/
def treeFindWrong : ChangeSpec := { name := "treeFind", fn := fun _ => fun
  | [d1, d2] => { results := [.lit (.bool false)], args := [d1, d2] }
  | _ => none }
def TreeFindWrongFalsely : Prop := treeFindRow.holds Tryd.pinned (OpenSpec.ofChange treeFindWrong)

/-- 'arbourlaw07.TreeChildren': WHATEVER THE INPUT: true; the input reads as it did. -/
def treeChildrenSpec : ChangeSpec := { name := "treeChildren", fn := fun _ => fun
  | [d1, d2] => { results := [.lit (.bool true)], args := [d1, d2] }
  | _ => none }
def treeChildrenRow : OpenClaim := { program := "ythcoldjncpiffaadoor", sum := "303dbcc338d0bda38527e9f164defd575007c8cf4f5c1b93f570852b5c66a047", func := "arbour/arbourlaw07.TreeChildren", spec := "treeChildren", inPlace := ["slices.overlaps[arbour/api.Node]"], named := ["arbour/tree.trash", "arbour/tree.root"], plainKeys := false, apart := false, laid := [("arbour/tree.root", laid_arbour_tree_root), ("arbour/tree.trash", laid_arbour_tree_trash)] }
def TreeChildrenSaid : Prop := treeChildrenRow.holds Tryd.pinned (OpenSpec.ofChange treeChildrenSpec)

/-- ITS FALSE NEIGHBOUR: 'it returns false'. Refute it at one input. -/
def treeChildrenWrong : ChangeSpec := { name := "treeChildren", fn := fun _ => fun
  | [d1, d2] => { results := [.lit (.bool false)], args := [d1, d2] }
  | _ => none }
def TreeChildrenWrongFalsely : Prop := treeChildrenRow.holds Tryd.pinned (OpenSpec.ofChange treeChildrenWrong)

/- THE SECOND FORM. 'bulk': how many values and letters a reading holds, each counted each time it is reached (what is shared counts as often as it is met; a slice's spare places count too). A statement '..UptoSaid' is the law's where the arguments, and the package variables that the reading takes, are together of bulk at most 1048576: NARROWER than '..Said'. Prove '..Said' where nothing that the law and all that it calls make is longer than what came in: it says more and counts as full. Else prove '..UptoSaid'. A law counts once. -/
mutual
def uptoBulk {H : Type} : DataW H → Nat
  | .lit (.string bytes) => bytes.length + 1
  | .lit _ => 1
  | .nil => 1
  | .ptr d => uptoBulk d + 1
  | .slice elems spare => uptoBulkAll elems + uptoBulkAll spare + 1
  | .agg parts => uptoBulkAll parts + 1
  | .iface _ d => uptoBulk d + 1
  | .map entries => uptoBulkEntries entries + 1
  | .held _ => 1
def uptoBulkAll {H : Type} : List (DataW H) → Nat
  | [] => 0
  | d :: r => uptoBulk d + uptoBulkAll r
def uptoBulkEntries {H : Type} : List (Lit × DataW H) → Nat
  | [] => 0
  | x :: r => uptoBulkEntry x + uptoBulkEntries r
def uptoBulkEntry {H : Type} : Lit × DataW H → Nat
  | (.string bytes, d) => bytes.length + uptoBulk d + 1
  | (_, d) => uptoBulk d + 1
 end
def uptoSmall : (H : Type) → List (DataW H) → Bool := fun _ ds => decide (uptoBulkAll ds ≤ 1048576)
def OpenSpec.upto (s : _root_.Go.ChangeSpec) : _root_.Go.OpenSpec := { _root_.Go.OpenSpec.ofChange s with cond := some uptoSmall }

/-- 'arbourlaw07.TreeFolds', WHERE WHAT IT READS IS OF BULK AT MOST 1048576: true; the input reads as it did. -/
def treeFoldsUptoRow : OpenClaim := { program := "ythcoldjncpiffaadoor", sum := "303dbcc338d0bda38527e9f164defd575007c8cf4f5c1b93f570852b5c66a047", func := "arbour/arbourlaw07.TreeFolds", spec := "treeFolds", inPlace := ["slices.overlaps[arbour/api.Node]"], named := ["arbour/tree.trash", "arbour/tree.root"], plainKeys := false, apart := false, laid := [("arbour/tree.root", laid_arbour_tree_root), ("arbour/tree.trash", laid_arbour_tree_trash)], narrowed := true }
def TreeFoldsUptoSaid : Prop := treeFoldsUptoRow.holds Tryd.pinned (OpenSpec.upto treeFoldsSpec)

/-- 'arbourlaw07.TreeDoes', WHERE WHAT IT READS IS OF BULK AT MOST 1048576: true; the input reads as it did. -/
def treeDoesUptoRow : OpenClaim := { program := "ythcoldjncpiffaadoor", sum := "303dbcc338d0bda38527e9f164defd575007c8cf4f5c1b93f570852b5c66a047", func := "arbour/arbourlaw07.TreeDoes", spec := "treeDoes", inPlace := ["slices.overlaps[arbour/api.Node]"], named := ["arbour/tree.trash", "arbour/tree.root"], plainKeys := false, apart := false, laid := [("arbour/tree.root", laid_arbour_tree_root), ("arbour/tree.trash", laid_arbour_tree_trash)], narrowed := true }
def TreeDoesUptoSaid : Prop := treeDoesUptoRow.holds Tryd.pinned (OpenSpec.upto treeDoesSpec)

/-- 'arbourlaw07.TreeChains', WHERE WHAT IT READS IS OF BULK AT MOST 1048576: true; the input reads as it did. -/
def treeChainsUptoRow : OpenClaim := { program := "ythcoldjncpiffaadoor", sum := "303dbcc338d0bda38527e9f164defd575007c8cf4f5c1b93f570852b5c66a047", func := "arbour/arbourlaw07.TreeChains", spec := "treeChains", inPlace := ["slices.overlaps[arbour/api.Node]"], named := ["arbour/tree.trash", "arbour/tree.root"], plainKeys := false, apart := false, laid := [("arbour/tree.root", laid_arbour_tree_root), ("arbour/tree.trash", laid_arbour_tree_trash)], narrowed := true }
def TreeChainsUptoSaid : Prop := treeChainsUptoRow.holds Tryd.pinned (OpenSpec.upto treeChainsSpec)

/-- 'arbourlaw07.TreeRight', WHERE WHAT IT READS IS OF BULK AT MOST 1048576: true; the input reads as it did. -/
def treeRightUptoRow : OpenClaim := { program := "ythcoldjncpiffaadoor", sum := "303dbcc338d0bda38527e9f164defd575007c8cf4f5c1b93f570852b5c66a047", func := "arbour/arbourlaw07.TreeRight", spec := "treeRight", inPlace := ["slices.overlaps[arbour/api.Node]"], named := ["arbour/tree.trash", "arbour/tree.root"], plainKeys := false, apart := false, laid := [("arbour/tree.root", laid_arbour_tree_root), ("arbour/tree.trash", laid_arbour_tree_trash)], narrowed := true }
def TreeRightUptoSaid : Prop := treeRightUptoRow.holds Tryd.pinned (OpenSpec.upto treeRightSpec)

/-- 'arbourlaw07.TreeStays', WHERE WHAT IT READS IS OF BULK AT MOST 1048576: true; the input reads as it did. -/
def treeStaysUptoRow : OpenClaim := { program := "ythcoldjncpiffaadoor", sum := "303dbcc338d0bda38527e9f164defd575007c8cf4f5c1b93f570852b5c66a047", func := "arbour/arbourlaw07.TreeStays", spec := "treeStays", inPlace := ["slices.overlaps[arbour/api.Node]"], named := ["arbour/tree.trash", "arbour/tree.root"], plainKeys := false, apart := false, laid := [("arbour/tree.root", laid_arbour_tree_root), ("arbour/tree.trash", laid_arbour_tree_trash)], narrowed := true }
def TreeStaysUptoSaid : Prop := treeStaysUptoRow.holds Tryd.pinned (OpenSpec.upto treeStaysSpec)

/-- 'arbourlaw07.TreeLast', WHERE WHAT IT READS IS OF BULK AT MOST 1048576: true; the input reads as it did. -/
def treeLastUptoRow : OpenClaim := { program := "ythcoldjncpiffaadoor", sum := "303dbcc338d0bda38527e9f164defd575007c8cf4f5c1b93f570852b5c66a047", func := "arbour/arbourlaw07.TreeLast", spec := "treeLast", inPlace := ["slices.overlaps[arbour/api.Node]"], named := ["arbour/tree.trash", "arbour/tree.root"], plainKeys := false, apart := false, laid := [("arbour/tree.root", laid_arbour_tree_root), ("arbour/tree.trash", laid_arbour_tree_trash)], narrowed := true }
def TreeLastUptoSaid : Prop := treeLastUptoRow.holds Tryd.pinned (OpenSpec.upto treeLastSpec)

/-- 'arbourlaw07.TreeFind', WHERE WHAT IT READS IS OF BULK AT MOST 1048576: true; the input reads as it did. -/
def treeFindUptoRow : OpenClaim := { program := "ythcoldjncpiffaadoor", sum := "303dbcc338d0bda38527e9f164defd575007c8cf4f5c1b93f570852b5c66a047", func := "arbour/arbourlaw07.TreeFind", spec := "treeFind", inPlace := ["slices.overlaps[arbour/api.Node]"], named := ["arbour/tree.trash", "arbour/tree.root"], plainKeys := false, apart := false, laid := [("arbour/tree.root", laid_arbour_tree_root), ("arbour/tree.trash", laid_arbour_tree_trash)], narrowed := true }
def TreeFindUptoSaid : Prop := treeFindUptoRow.holds Tryd.pinned (OpenSpec.upto treeFindSpec)

/-- 'arbourlaw07.TreeChildren', WHERE WHAT IT READS IS OF BULK AT MOST 1048576: true; the input reads as it did. -/
def treeChildrenUptoRow : OpenClaim := { program := "ythcoldjncpiffaadoor", sum := "303dbcc338d0bda38527e9f164defd575007c8cf4f5c1b93f570852b5c66a047", func := "arbour/arbourlaw07.TreeChildren", spec := "treeChildren", inPlace := ["slices.overlaps[arbour/api.Node]"], named := ["arbour/tree.trash", "arbour/tree.root"], plainKeys := false, apart := false, laid := [("arbour/tree.root", laid_arbour_tree_root), ("arbour/tree.trash", laid_arbour_tree_trash)], narrowed := true }
def TreeChildrenUptoSaid : Prop := treeChildrenUptoRow.holds Tryd.pinned (OpenSpec.upto treeChildrenSpec)

end Rows
end Go.Proofs.YthcoldjncpiffaaDoor
