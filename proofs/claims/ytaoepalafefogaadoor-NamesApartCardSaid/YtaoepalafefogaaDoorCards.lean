/-
  DERIVED. GIVEN WITH THE SEED: THE CARDS: each row of YtaoepalafefogaaDoorRows.lean that lists a variable, with what it lists TIED to the program's text (the seventh form; the later family's looks); each row that meets fmt, with fmt's text TOLD by the authors' own Lean function (tested against real Go, not proved from fmt's source: count such statements apart). THE CARD IS WHAT COUNTS. Prove the row's statement (the work); the ties are given (YtaoepalafefogaaDoorTie.lean); close each card by the builder's one call (the guide's Derived/Test/ToyasCard.lean, 'card_holds'). Laid BY PROGRAM, IN A SANDBOX (cutbox-door.mjs). By AI agents, Wed Nov 11 2026. No macro, syntax, notation, axiom, sorry.
-/
import Derived.Test.YtaoepalafefogaaDoorRows
import GoSem.ClaimSeven
namespace Go.Proofs.YtaoepalafefogaaDoor
namespace Rows

/-- THE TIED CARD OF 'arbourlaw05.NamesRight'. -/
def namesRightCard : Claim7 := { stood := { row := namesRightRow, standIns := [], harness := (true, "432b83930feced9d4c8f23daa4199519d868aa382cb737085d206c7cf5297964"), looks := false }, kinds := [], alts := [], laidByText := true, laidKinds := [.data, .data, .data], laidTests := true, laidLooks := .later }
def NamesRightCardSaid : Prop := Claim7.holds Tryd.pinned (.plain (OpenSpec.ofChange namesRightSpec)) namesRightCard

/-- THE TIED CARD OF 'arbourlaw05.NamesExt'. -/
def namesExtCard : Claim7 := { stood := { row := namesExtRow, standIns := [], harness := (true, "432b83930feced9d4c8f23daa4199519d868aa382cb737085d206c7cf5297964"), looks := false }, kinds := [], alts := [], laidByText := true, laidKinds := [.data, .data, .data], laidTests := true, laidLooks := .later }
def NamesExtCardSaid : Prop := Claim7.holds Tryd.pinned (.plain (OpenSpec.ofChange namesExtSpec)) namesExtCard

/-- THE TIED CARD OF 'arbourlaw05.NamesCopy'. -/
def namesCopyCard : Claim7 := { stood := { row := namesCopyRow, standIns := [], harness := (true, "432b83930feced9d4c8f23daa4199519d868aa382cb737085d206c7cf5297964"), looks := false }, kinds := [], alts := [], laidByText := true, laidKinds := [.data, .data, .data], laidTests := true, laidLooks := .later }
def NamesCopyCardSaid : Prop := Claim7.holds Tryd.pinned (.plain (OpenSpec.ofChange namesCopySpec)) namesCopyCard

/-- THE TIED CARD OF 'arbourlaw05.NamesUnique'. -/
def namesUniqueCard : Claim7 := { stood := { row := namesUniqueRow, standIns := [], harness := (true, "432b83930feced9d4c8f23daa4199519d868aa382cb737085d206c7cf5297964"), looks := false }, kinds := [], alts := [], laidByText := true, laidKinds := [.data, .data, .data], laidTests := true, laidLooks := .later }
def NamesUniqueCardSaid : Prop := Claim7.holds Tryd.pinned (.plain (OpenSpec.ofChange namesUniqueSpec)) namesUniqueCard

/-- THE TIED CARD OF 'arbourlaw05.NamesApart'. -/
def namesApartCard : Claim7 := { stood := { row := namesApartRow, standIns := [], harness := (true, "432b83930feced9d4c8f23daa4199519d868aa382cb737085d206c7cf5297964"), looks := false }, kinds := [], alts := [], laidByText := true, laidKinds := [.data, .data, .data], laidTests := true, laidLooks := .later }
def NamesApartCardSaid : Prop := Claim7.holds Tryd.pinned (.plain (OpenSpec.ofChange namesApartSpec)) namesApartCard

/-- THE TIED CARD OF 'arbourlaw05.NamesCopies'. -/
def namesCopiesCard : Claim7 := { stood := { row := namesCopiesRow, standIns := [], harness := (true, "432b83930feced9d4c8f23daa4199519d868aa382cb737085d206c7cf5297964"), looks := false }, kinds := [], alts := [], laidByText := true, laidKinds := [.data, .data, .data], laidTests := true, laidLooks := .later }
def NamesCopiesCardSaid : Prop := Claim7.holds Tryd.pinned (.plain (OpenSpec.ofChange namesCopiesSpec)) namesCopiesCard

/-- THE SECOND FORM's CARD OF 'arbourlaw05.NamesRight'. -/
def namesRightUptoCard : Claim7 := { stood := { row := namesRightUptoRow, standIns := [], harness := (true, "432b83930feced9d4c8f23daa4199519d868aa382cb737085d206c7cf5297964"), looks := false }, kinds := [], alts := [], laidByText := true, laidKinds := [.data, .data, .data], laidTests := true, laidLooks := .later }
def NamesRightUptoCardSaid : Prop := Claim7.holds Tryd.pinned (.plain (OpenSpec.upto namesRightSpec)) namesRightUptoCard

/-- THE SECOND FORM's CARD OF 'arbourlaw05.NamesExt'. -/
def namesExtUptoCard : Claim7 := { stood := { row := namesExtUptoRow, standIns := [], harness := (true, "432b83930feced9d4c8f23daa4199519d868aa382cb737085d206c7cf5297964"), looks := false }, kinds := [], alts := [], laidByText := true, laidKinds := [.data, .data, .data], laidTests := true, laidLooks := .later }
def NamesExtUptoCardSaid : Prop := Claim7.holds Tryd.pinned (.plain (OpenSpec.upto namesExtSpec)) namesExtUptoCard

/-- THE SECOND FORM's CARD OF 'arbourlaw05.NamesCopy'. -/
def namesCopyUptoCard : Claim7 := { stood := { row := namesCopyUptoRow, standIns := [], harness := (true, "432b83930feced9d4c8f23daa4199519d868aa382cb737085d206c7cf5297964"), looks := false }, kinds := [], alts := [], laidByText := true, laidKinds := [.data, .data, .data], laidTests := true, laidLooks := .later }
def NamesCopyUptoCardSaid : Prop := Claim7.holds Tryd.pinned (.plain (OpenSpec.upto namesCopySpec)) namesCopyUptoCard

/-- THE SECOND FORM's CARD OF 'arbourlaw05.NamesUnique'. -/
def namesUniqueUptoCard : Claim7 := { stood := { row := namesUniqueUptoRow, standIns := [], harness := (true, "432b83930feced9d4c8f23daa4199519d868aa382cb737085d206c7cf5297964"), looks := false }, kinds := [], alts := [], laidByText := true, laidKinds := [.data, .data, .data], laidTests := true, laidLooks := .later }
def NamesUniqueUptoCardSaid : Prop := Claim7.holds Tryd.pinned (.plain (OpenSpec.upto namesUniqueSpec)) namesUniqueUptoCard

/-- THE SECOND FORM's CARD OF 'arbourlaw05.NamesApart'. -/
def namesApartUptoCard : Claim7 := { stood := { row := namesApartUptoRow, standIns := [], harness := (true, "432b83930feced9d4c8f23daa4199519d868aa382cb737085d206c7cf5297964"), looks := false }, kinds := [], alts := [], laidByText := true, laidKinds := [.data, .data, .data], laidTests := true, laidLooks := .later }
def NamesApartUptoCardSaid : Prop := Claim7.holds Tryd.pinned (.plain (OpenSpec.upto namesApartSpec)) namesApartUptoCard

/-- THE SECOND FORM's CARD OF 'arbourlaw05.NamesCopies'. -/
def namesCopiesUptoCard : Claim7 := { stood := { row := namesCopiesUptoRow, standIns := [], harness := (true, "432b83930feced9d4c8f23daa4199519d868aa382cb737085d206c7cf5297964"), looks := false }, kinds := [], alts := [], laidByText := true, laidKinds := [.data, .data, .data], laidTests := true, laidLooks := .later }
def NamesCopiesUptoCardSaid : Prop := Claim7.holds Tryd.pinned (.plain (OpenSpec.upto namesCopiesSpec)) namesCopiesUptoCard
end Rows
end Go.Proofs.YtaoepalafefogaaDoor
