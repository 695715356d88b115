/-
  DERIVED. GIVEN WITH THE SEED: THE CARDS: each row of YtjeijolblcodpaaDoorRows.lean that lists a variable, with what it lists TIED to the program's text (the seventh form; the later family's looks); each row that meets fmt, with fmt's text TOLD by the authors' own Lean function (tested against real Go, not proved from fmt's source: count such statements apart). THE CARD IS WHAT COUNTS. Prove the row's statement (the work); the ties are given (YtjeijolblcodpaaDoorTie.lean); close each card by the builder's one call (the guide's Derived/Test/ToyasCard.lean, 'card_holds'). Laid BY PROGRAM, IN A SANDBOX (cutbox-door.mjs). By AI agents, Wed Nov 11 2026. No macro, syntax, notation, axiom, sorry.
-/
import Derived.Test.YtjeijolblcodpaaDoorRows
import GoSem.ClaimSeven
namespace Go.Proofs.YtjeijolblcodpaaDoor
namespace Rows

/-- THE TIED CARD OF 'arbourlaw08.MovePlays'. -/
def movePlaysCard : Claim7 := { stood := { row := movePlaysRow, standIns := [], harness := (true, "f75d58bf5947f5f1922dc614520d8b0088098f8e99e61a288c8039b26b9d9b80"), looks := false }, kinds := [], alts := [], laidByText := true, laidKinds := [.data, .data], laidTests := true, laidLooks := .later }
def MovePlaysCardSaid : Prop := Claim7.holds Tryd.pinned (.plain (OpenSpec.ofChange movePlaysSpec)) movePlaysCard

/-- THE TIED CARD OF 'arbourlaw08.MoveSame'. -/
def moveSameCard : Claim7 := { stood := { row := moveSameRow, standIns := [], harness := (true, "f75d58bf5947f5f1922dc614520d8b0088098f8e99e61a288c8039b26b9d9b80"), looks := false }, kinds := [], alts := [], laidByText := true, laidKinds := [.data, .data, .data, .data], laidTests := true, laidLooks := .later }
def MoveSameCardSaid : Prop := Claim7.holds Tryd.pinned (.plain (OpenSpec.ofChange moveSameSpec)) moveSameCard

/-- THE TIED CARD OF 'arbourlaw08.MoveRedoes'. -/
def moveRedoesCard : Claim7 := { stood := { row := moveRedoesRow, standIns := [], harness := (true, "f75d58bf5947f5f1922dc614520d8b0088098f8e99e61a288c8039b26b9d9b80"), looks := false }, kinds := [], alts := [], laidByText := true, laidKinds := [.data, .data], laidTests := true, laidLooks := .later }
def MoveRedoesCardSaid : Prop := Claim7.holds Tryd.pinned (.plain (OpenSpec.ofChange moveRedoesSpec)) moveRedoesCard

/-- THE TIED CARD OF 'arbourlaw08.MoveTwice'. -/
def moveTwiceCard : Claim7 := { stood := { row := moveTwiceRow, standIns := [], harness := (true, "f75d58bf5947f5f1922dc614520d8b0088098f8e99e61a288c8039b26b9d9b80"), looks := false }, kinds := [], alts := [], laidByText := true, laidKinds := [.data, .data], laidTests := true, laidLooks := .later }
def MoveTwiceCardSaid : Prop := Claim7.holds Tryd.pinned (.plain (OpenSpec.ofChange moveTwiceSpec)) moveTwiceCard

/-- THE TIED CARD OF 'arbourlaw08.MoveNil'. -/
def moveNilCard : Claim7 := { stood := { row := moveNilRow, standIns := [], harness := (true, "f75d58bf5947f5f1922dc614520d8b0088098f8e99e61a288c8039b26b9d9b80"), looks := false }, kinds := [], alts := [], laidByText := true, laidKinds := [.data, .data], laidTests := true, laidLooks := .later }
def MoveNilCardSaid : Prop := Claim7.holds Tryd.pinned (.plain (OpenSpec.ofChange moveNilSpec)) moveNilCard

/-- THE TIED CARD OF 'arbourlaw08.MoveOps'. -/
def moveOpsCard : Claim7 := { stood := { row := moveOpsRow, standIns := [], harness := (true, "f75d58bf5947f5f1922dc614520d8b0088098f8e99e61a288c8039b26b9d9b80"), looks := false }, kinds := [], alts := [], laidByText := true, laidKinds := [.data, .data], laidTests := true, laidLooks := .later }
def MoveOpsCardSaid : Prop := Claim7.holds Tryd.pinned (.plain (OpenSpec.ofChange moveOpsSpec)) moveOpsCard

/-- THE SECOND FORM's CARD OF 'arbourlaw08.MovePlays'. -/
def movePlaysUptoCard : Claim7 := { stood := { row := movePlaysUptoRow, standIns := [], harness := (true, "f75d58bf5947f5f1922dc614520d8b0088098f8e99e61a288c8039b26b9d9b80"), looks := false }, kinds := [], alts := [], laidByText := true, laidKinds := [.data, .data], laidTests := true, laidLooks := .later }
def MovePlaysUptoCardSaid : Prop := Claim7.holds Tryd.pinned (.plain (OpenSpec.upto movePlaysSpec)) movePlaysUptoCard

/-- THE SECOND FORM's CARD OF 'arbourlaw08.MoveSame'. -/
def moveSameUptoCard : Claim7 := { stood := { row := moveSameUptoRow, standIns := [], harness := (true, "f75d58bf5947f5f1922dc614520d8b0088098f8e99e61a288c8039b26b9d9b80"), looks := false }, kinds := [], alts := [], laidByText := true, laidKinds := [.data, .data, .data, .data], laidTests := true, laidLooks := .later }
def MoveSameUptoCardSaid : Prop := Claim7.holds Tryd.pinned (.plain (OpenSpec.upto moveSameSpec)) moveSameUptoCard

/-- THE SECOND FORM's CARD OF 'arbourlaw08.MoveRedoes'. -/
def moveRedoesUptoCard : Claim7 := { stood := { row := moveRedoesUptoRow, standIns := [], harness := (true, "f75d58bf5947f5f1922dc614520d8b0088098f8e99e61a288c8039b26b9d9b80"), looks := false }, kinds := [], alts := [], laidByText := true, laidKinds := [.data, .data], laidTests := true, laidLooks := .later }
def MoveRedoesUptoCardSaid : Prop := Claim7.holds Tryd.pinned (.plain (OpenSpec.upto moveRedoesSpec)) moveRedoesUptoCard

/-- THE SECOND FORM's CARD OF 'arbourlaw08.MoveTwice'. -/
def moveTwiceUptoCard : Claim7 := { stood := { row := moveTwiceUptoRow, standIns := [], harness := (true, "f75d58bf5947f5f1922dc614520d8b0088098f8e99e61a288c8039b26b9d9b80"), looks := false }, kinds := [], alts := [], laidByText := true, laidKinds := [.data, .data], laidTests := true, laidLooks := .later }
def MoveTwiceUptoCardSaid : Prop := Claim7.holds Tryd.pinned (.plain (OpenSpec.upto moveTwiceSpec)) moveTwiceUptoCard

/-- THE SECOND FORM's CARD OF 'arbourlaw08.MoveNil'. -/
def moveNilUptoCard : Claim7 := { stood := { row := moveNilUptoRow, standIns := [], harness := (true, "f75d58bf5947f5f1922dc614520d8b0088098f8e99e61a288c8039b26b9d9b80"), looks := false }, kinds := [], alts := [], laidByText := true, laidKinds := [.data, .data], laidTests := true, laidLooks := .later }
def MoveNilUptoCardSaid : Prop := Claim7.holds Tryd.pinned (.plain (OpenSpec.upto moveNilSpec)) moveNilUptoCard

/-- THE SECOND FORM's CARD OF 'arbourlaw08.MoveOps'. -/
def moveOpsUptoCard : Claim7 := { stood := { row := moveOpsUptoRow, standIns := [], harness := (true, "f75d58bf5947f5f1922dc614520d8b0088098f8e99e61a288c8039b26b9d9b80"), looks := false }, kinds := [], alts := [], laidByText := true, laidKinds := [.data, .data], laidTests := true, laidLooks := .later }
def MoveOpsUptoCardSaid : Prop := Claim7.holds Tryd.pinned (.plain (OpenSpec.upto moveOpsSpec)) moveOpsUptoCard
end Rows
end Go.Proofs.YtjeijolblcodpaaDoor
