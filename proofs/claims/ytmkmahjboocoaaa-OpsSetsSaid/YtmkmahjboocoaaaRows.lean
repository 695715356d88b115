/-
  No cell of these rows narrows 'for every input' (looked for: loops, veiled, ifaces, maps, wideKeys, modest, calm, conditions, laid).
  DERIVED. THE GIVEN ROWS OF THIS SEAT. 9 by the template 'for every input the law returns true; each argument reads behind the call as it read before'; 0 by the template 'total and deterministic' (their statements: YtmkmahjboocoaaaTotals.lean).
  GIVEN WITH THE SEED: the statements are not yours to turn. If you find one false, say at which input.
  Laid BY PROGRAM, IN A SANDBOX (cutbox-rows.mjs): the forced cells as the released guide's own fill.sh prints them over the translation 4be83b3a7a86f33f… (all of the seat's roots in one cut). By AI agents, Wed Nov 11 2026. No macro, syntax, notation, axiom, sorry.
-/
import Derived.Test.YtmkmahjboocoaaaChecked
import GoSem.Claim
import GoSem.ClaimJoined
import GoSem.ClaimMapViews
import Derived.JoinedTies
import Derived.KernelRfl
namespace Go.Proofs.Ytmkmahjboocoaaa
/- THE CELL 'sum', in the pinned program and in every row, IS THE sha256 OF THE DUMP (.gsa) THAT YtmkmahjboocoaaaProg.lean LOADS. Nothing in Lean hashes anything: it is a label: what it is worth is what the hold of that sum in a sandbox is worth. -/
noncomputable def Try.pinned : Pinned := { name := "ytmkmahjboocoaaa", sum := "4be83b3a7a86f33fc58f751fe105269086dafeb2892b5942c26d4d15f1ac1e38", checked := Try.checked }
namespace Rows
def none {H : Type} : Left H := { results := [], args := [] }

/-- 'arbourlaw06.OpsRight': WHATEVER THE INPUT: true; the input reads as it did. -/
def opsRightSpec : ChangeSpec := { name := "opsRight", fn := fun _ => fun
  | [d] => { results := [.lit (.bool true)], args := [d] }
  | _ => none }
def opsRightRow : OpenClaim := { program := "ytmkmahjboocoaaa", sum := "4be83b3a7a86f33fc58f751fe105269086dafeb2892b5942c26d4d15f1ac1e38", func := "arbour/arbourlaw06.OpsRight", spec := "opsRight", plainKeys := false, apart := false }
def OpsRightSaid : Prop := opsRightRow.holds Try.pinned (OpenSpec.ofChange opsRightSpec)

/-- ITS FALSE NEIGHBOUR: 'it returns false'. Refute it at one input. -/
def opsRightWrong : ChangeSpec := { name := "opsRight", fn := fun _ => fun
  | [d] => { results := [.lit (.bool false)], args := [d] }
  | _ => none }
def OpsRightWrongFalsely : Prop := opsRightRow.holds Try.pinned (OpenSpec.ofChange opsRightWrong)

/-- 'arbourlaw06.OpsEncodes': WHATEVER THE INPUT: true; the input reads as it did. -/
def opsEncodesSpec : ChangeSpec := { name := "opsEncodes", fn := fun _ => fun
  | [d] => { results := [.lit (.bool true)], args := [d] }
  | _ => none }
def opsEncodesRow : OpenClaim := { program := "ytmkmahjboocoaaa", sum := "4be83b3a7a86f33fc58f751fe105269086dafeb2892b5942c26d4d15f1ac1e38", func := "arbour/arbourlaw06.OpsEncodes", spec := "opsEncodes", plainKeys := false, apart := false }
def OpsEncodesSaid : Prop := opsEncodesRow.holds Try.pinned (OpenSpec.ofChange opsEncodesSpec)

/-- ITS FALSE NEIGHBOUR: 'it returns false'. Refute it at one input. -/
def opsEncodesWrong : ChangeSpec := { name := "opsEncodes", fn := fun _ => fun
  | [d] => { results := [.lit (.bool false)], args := [d] }
  | _ => none }
def OpsEncodesWrongFalsely : Prop := opsEncodesRow.holds Try.pinned (OpenSpec.ofChange opsEncodesWrong)

/-- 'arbourlaw06.OpsDecodes': WHATEVER THE INPUT: true; the input reads as it did. -/
def opsDecodesSpec : ChangeSpec := { name := "opsDecodes", fn := fun _ => fun
  | [d] => { results := [.lit (.bool true)], args := [d] }
  | _ => none }
def opsDecodesRow : OpenClaim := { program := "ytmkmahjboocoaaa", sum := "4be83b3a7a86f33fc58f751fe105269086dafeb2892b5942c26d4d15f1ac1e38", func := "arbour/arbourlaw06.OpsDecodes", spec := "opsDecodes", plainKeys := false, apart := false }
def OpsDecodesSaid : Prop := opsDecodesRow.holds Try.pinned (OpenSpec.ofChange opsDecodesSpec)

/-- ITS FALSE NEIGHBOUR: 'it returns false'. Refute it at one input. -/
def opsDecodesWrong : ChangeSpec := { name := "opsDecodes", fn := fun _ => fun
  | [d] => { results := [.lit (.bool false)], args := [d] }
  | _ => none }
def OpsDecodesWrongFalsely : Prop := opsDecodesRow.holds Try.pinned (OpenSpec.ofChange opsDecodesWrong)

/-- 'arbourlaw06.OpsAdds': WHATEVER THE INPUT: true; the input reads as it did. -/
def opsAddsSpec : ChangeSpec := { name := "opsAdds", fn := fun _ => fun
  | [d1, d2] => { results := [.lit (.bool true)], args := [d1, d2] }
  | _ => none }
def opsAddsRow : OpenClaim := { program := "ytmkmahjboocoaaa", sum := "4be83b3a7a86f33fc58f751fe105269086dafeb2892b5942c26d4d15f1ac1e38", func := "arbour/arbourlaw06.OpsAdds", spec := "opsAdds", plainKeys := false, apart := false }
def OpsAddsSaid : Prop := opsAddsRow.holds Try.pinned (OpenSpec.ofChange opsAddsSpec)

/-- ITS FALSE NEIGHBOUR: 'it returns false'. Refute it at one input. -/
def opsAddsWrong : ChangeSpec := { name := "opsAdds", fn := fun _ => fun
  | [d1, d2] => { results := [.lit (.bool false)], args := [d1, d2] }
  | _ => none }
def OpsAddsWrongFalsely : Prop := opsAddsRow.holds Try.pinned (OpenSpec.ofChange opsAddsWrong)

/-- 'arbourlaw06.OpsSince': WHATEVER THE INPUT: true; the input reads as it did. -/
def opsSinceSpec : ChangeSpec := { name := "opsSince", fn := fun _ => fun
  | [d1, d2] => { results := [.lit (.bool true)], args := [d1, d2] }
  | _ => none }
def opsSinceRow : OpenClaim := { program := "ytmkmahjboocoaaa", sum := "4be83b3a7a86f33fc58f751fe105269086dafeb2892b5942c26d4d15f1ac1e38", func := "arbour/arbourlaw06.OpsSince", spec := "opsSince", plainKeys := false, apart := false }
def OpsSinceSaid : Prop := opsSinceRow.holds Try.pinned (OpenSpec.ofChange opsSinceSpec)

/-- ITS FALSE NEIGHBOUR: 'it returns false'. Refute it at one input. -/
def opsSinceWrong : ChangeSpec := { name := "opsSince", fn := fun _ => fun
  | [d1, d2] => { results := [.lit (.bool false)], args := [d1, d2] }
  | _ => none }
def OpsSinceWrongFalsely : Prop := opsSinceRow.holds Try.pinned (OpenSpec.ofChange opsSinceWrong)

/-- 'arbourlaw06.OpsBack': WHATEVER THE INPUT: true; the input reads as it did. -/
def opsBackSpec : ChangeSpec := { name := "opsBack", fn := fun _ => fun
  | [d1, d2] => { results := [.lit (.bool true)], args := [d1, d2] }
  | _ => none }
def opsBackRow : OpenClaim := { program := "ytmkmahjboocoaaa", sum := "4be83b3a7a86f33fc58f751fe105269086dafeb2892b5942c26d4d15f1ac1e38", func := "arbour/arbourlaw06.OpsBack", spec := "opsBack", plainKeys := false, apart := false }
def OpsBackSaid : Prop := opsBackRow.holds Try.pinned (OpenSpec.ofChange opsBackSpec)

/-- ITS FALSE NEIGHBOUR: 'it returns false'. Refute it at one input. -/
def opsBackWrong : ChangeSpec := { name := "opsBack", fn := fun _ => fun
  | [d1, d2] => { results := [.lit (.bool false)], args := [d1, d2] }
  | _ => none }
def OpsBackWrongFalsely : Prop := opsBackRow.holds Try.pinned (OpenSpec.ofChange opsBackWrong)

/-- 'arbourlaw06.OpsSets': WHATEVER THE INPUT: true; the input reads as it did. -/
def opsSetsSpec : ChangeSpec := { name := "opsSets", fn := fun _ => fun
  | [d] => { results := [.lit (.bool true)], args := [d] }
  | _ => none }
def opsSetsRow : OpenClaim := { program := "ytmkmahjboocoaaa", sum := "4be83b3a7a86f33fc58f751fe105269086dafeb2892b5942c26d4d15f1ac1e38", func := "arbour/arbourlaw06.OpsSets", spec := "opsSets", plainKeys := false, apart := false }
def OpsSetsSaid : Prop := opsSetsRow.holds Try.pinned (OpenSpec.ofChange opsSetsSpec)

/-- ITS FALSE NEIGHBOUR: 'it returns false'. Refute it at one input. -/
def opsSetsWrong : ChangeSpec := { name := "opsSets", fn := fun _ => fun
  | [d] => { results := [.lit (.bool false)], args := [d] }
  | _ => none }
def OpsSetsWrongFalsely : Prop := opsSetsRow.holds Try.pinned (OpenSpec.ofChange opsSetsWrong)

/-- 'arbourlaw06.OpsOrder': WHATEVER THE INPUT: true; the input reads as it did. -/
def opsOrderSpec : ChangeSpec := { name := "opsOrder", fn := fun _ => fun
  | [d1, d2] => { results := [.lit (.bool true)], args := [d1, d2] }
  | _ => none }
def opsOrderRow : OpenClaim := { program := "ytmkmahjboocoaaa", sum := "4be83b3a7a86f33fc58f751fe105269086dafeb2892b5942c26d4d15f1ac1e38", func := "arbour/arbourlaw06.OpsOrder", spec := "opsOrder", plainKeys := false, apart := false }
def OpsOrderSaid : Prop := opsOrderRow.holds Try.pinned (OpenSpec.ofChange opsOrderSpec)

/-- ITS FALSE NEIGHBOUR: 'it returns false'. Refute it at one input. -/
def opsOrderWrong : ChangeSpec := { name := "opsOrder", fn := fun _ => fun
  | [d1, d2] => { results := [.lit (.bool false)], args := [d1, d2] }
  | _ => none }
def OpsOrderWrongFalsely : Prop := opsOrderRow.holds Try.pinned (OpenSpec.ofChange opsOrderWrong)

/-- 'arbourlaw06.OpsVector': WHATEVER THE INPUT: true; the input reads as it did. -/
def opsVectorSpec : ChangeSpec := { name := "opsVector", fn := fun _ => fun
  | [d] => { results := [.lit (.bool true)], args := [d] }
  | _ => none }
def opsVectorRow : OpenClaim := { program := "ytmkmahjboocoaaa", sum := "4be83b3a7a86f33fc58f751fe105269086dafeb2892b5942c26d4d15f1ac1e38", func := "arbour/arbourlaw06.OpsVector", spec := "opsVector", plainKeys := false, apart := false }
def OpsVectorSaid : Prop := opsVectorRow.holds Try.pinned (OpenSpec.ofChange opsVectorSpec)

/-- ITS FALSE NEIGHBOUR: 'it returns false'. Refute it at one input. -/
def opsVectorWrong : ChangeSpec := { name := "opsVector", fn := fun _ => fun
  | [d] => { results := [.lit (.bool false)], args := [d] }
  | _ => none }
def OpsVectorWrongFalsely : Prop := opsVectorRow.holds Try.pinned (OpenSpec.ofChange opsVectorWrong)

/- THE SECOND FORM. 'bulk': how many values and letters a reading holds, each counted each time it is reached (what is shared counts as often as it is met; a slice's spare places count too). A statement '..UptoSaid' is the law's where the arguments, and the package variables that the reading takes, are together of bulk at most 1048576: NARROWER than '..Said'. Prove '..Said' where nothing that the law and all that it calls make is longer than what came in: it says more and counts as full. Else prove '..UptoSaid'. A law counts once. -/
mutual
def uptoBulk {H : Type} : DataW H → Nat
  | .lit (.string bytes) => bytes.length + 1
  | .lit _ => 1
  | .nil => 1
  | .ptr d => uptoBulk d + 1
  | .slice elems spare => uptoBulkAll elems + uptoBulkAll spare + 1
  | .agg parts => uptoBulkAll parts + 1
  | .iface _ d => uptoBulk d + 1
  | .map entries => uptoBulkEntries entries + 1
  | .held _ => 1
def uptoBulkAll {H : Type} : List (DataW H) → Nat
  | [] => 0
  | d :: r => uptoBulk d + uptoBulkAll r
def uptoBulkEntries {H : Type} : List (Lit × DataW H) → Nat
  | [] => 0
  | x :: r => uptoBulkEntry x + uptoBulkEntries r
def uptoBulkEntry {H : Type} : Lit × DataW H → Nat
  | (.string bytes, d) => bytes.length + uptoBulk d + 1
  | (_, d) => uptoBulk d + 1
 end
def uptoSmall : (H : Type) → List (DataW H) → Bool := fun _ ds => decide (uptoBulkAll ds ≤ 1048576)
def OpenSpec.upto (s : _root_.Go.ChangeSpec) : _root_.Go.OpenSpec := { _root_.Go.OpenSpec.ofChange s with cond := some uptoSmall }

/-- 'arbourlaw06.OpsRight', WHERE WHAT IT READS IS OF BULK AT MOST 1048576: true; the input reads as it did. -/
def opsRightUptoRow : OpenClaim := { program := "ytmkmahjboocoaaa", sum := "4be83b3a7a86f33fc58f751fe105269086dafeb2892b5942c26d4d15f1ac1e38", func := "arbour/arbourlaw06.OpsRight", spec := "opsRight", plainKeys := false, apart := false, narrowed := true }
def OpsRightUptoSaid : Prop := opsRightUptoRow.holds Try.pinned (OpenSpec.upto opsRightSpec)

/-- 'arbourlaw06.OpsEncodes', WHERE WHAT IT READS IS OF BULK AT MOST 1048576: true; the input reads as it did. -/
def opsEncodesUptoRow : OpenClaim := { program := "ytmkmahjboocoaaa", sum := "4be83b3a7a86f33fc58f751fe105269086dafeb2892b5942c26d4d15f1ac1e38", func := "arbour/arbourlaw06.OpsEncodes", spec := "opsEncodes", plainKeys := false, apart := false, narrowed := true }
def OpsEncodesUptoSaid : Prop := opsEncodesUptoRow.holds Try.pinned (OpenSpec.upto opsEncodesSpec)

/-- 'arbourlaw06.OpsDecodes', WHERE WHAT IT READS IS OF BULK AT MOST 1048576: true; the input reads as it did. -/
def opsDecodesUptoRow : OpenClaim := { program := "ytmkmahjboocoaaa", sum := "4be83b3a7a86f33fc58f751fe105269086dafeb2892b5942c26d4d15f1ac1e38", func := "arbour/arbourlaw06.OpsDecodes", spec := "opsDecodes", plainKeys := false, apart := false, narrowed := true }
def OpsDecodesUptoSaid : Prop := opsDecodesUptoRow.holds Try.pinned (OpenSpec.upto opsDecodesSpec)

/-- 'arbourlaw06.OpsAdds', WHERE WHAT IT READS IS OF BULK AT MOST 1048576: true; the input reads as it did. -/
def opsAddsUptoRow : OpenClaim := { program := "ytmkmahjboocoaaa", sum := "4be83b3a7a86f33fc58f751fe105269086dafeb2892b5942c26d4d15f1ac1e38", func := "arbour/arbourlaw06.OpsAdds", spec := "opsAdds", plainKeys := false, apart := false, narrowed := true }
def OpsAddsUptoSaid : Prop := opsAddsUptoRow.holds Try.pinned (OpenSpec.upto opsAddsSpec)

/-- 'arbourlaw06.OpsSince', WHERE WHAT IT READS IS OF BULK AT MOST 1048576: true; the input reads as it did. -/
def opsSinceUptoRow : OpenClaim := { program := "ytmkmahjboocoaaa", sum := "4be83b3a7a86f33fc58f751fe105269086dafeb2892b5942c26d4d15f1ac1e38", func := "arbour/arbourlaw06.OpsSince", spec := "opsSince", plainKeys := false, apart := false, narrowed := true }
def OpsSinceUptoSaid : Prop := opsSinceUptoRow.holds Try.pinned (OpenSpec.upto opsSinceSpec)

/-- 'arbourlaw06.OpsBack', WHERE WHAT IT READS IS OF BULK AT MOST 1048576: true; the input reads as it did. -/
def opsBackUptoRow : OpenClaim := { program := "ytmkmahjboocoaaa", sum := "4be83b3a7a86f33fc58f751fe105269086dafeb2892b5942c26d4d15f1ac1e38", func := "arbour/arbourlaw06.OpsBack", spec := "opsBack", plainKeys := false, apart := false, narrowed := true }
def OpsBackUptoSaid : Prop := opsBackUptoRow.holds Try.pinned (OpenSpec.upto opsBackSpec)

/-- 'arbourlaw06.OpsSets', WHERE WHAT IT READS IS OF BULK AT MOST 1048576: true; the input reads as it did. -/
def opsSetsUptoRow : OpenClaim := { program := "ytmkmahjboocoaaa", sum := "4be83b3a7a86f33fc58f751fe105269086dafeb2892b5942c26d4d15f1ac1e38", func := "arbour/arbourlaw06.OpsSets", spec := "opsSets", plainKeys := false, apart := false, narrowed := true }
def OpsSetsUptoSaid : Prop := opsSetsUptoRow.holds Try.pinned (OpenSpec.upto opsSetsSpec)

/-- 'arbourlaw06.OpsOrder', WHERE WHAT IT READS IS OF BULK AT MOST 1048576: true; the input reads as it did. -/
def opsOrderUptoRow : OpenClaim := { program := "ytmkmahjboocoaaa", sum := "4be83b3a7a86f33fc58f751fe105269086dafeb2892b5942c26d4d15f1ac1e38", func := "arbour/arbourlaw06.OpsOrder", spec := "opsOrder", plainKeys := false, apart := false, narrowed := true }
def OpsOrderUptoSaid : Prop := opsOrderUptoRow.holds Try.pinned (OpenSpec.upto opsOrderSpec)

/-- 'arbourlaw06.OpsVector', WHERE WHAT IT READS IS OF BULK AT MOST 1048576: true; the input reads as it did. -/
def opsVectorUptoRow : OpenClaim := { program := "ytmkmahjboocoaaa", sum := "4be83b3a7a86f33fc58f751fe105269086dafeb2892b5942c26d4d15f1ac1e38", func := "arbour/arbourlaw06.OpsVector", spec := "opsVector", plainKeys := false, apart := false, narrowed := true }
def OpsVectorUptoSaid : Prop := opsVectorUptoRow.holds Try.pinned (OpenSpec.upto opsVectorSpec)

end Rows
end Go.Proofs.Ytmkmahjboocoaaa
