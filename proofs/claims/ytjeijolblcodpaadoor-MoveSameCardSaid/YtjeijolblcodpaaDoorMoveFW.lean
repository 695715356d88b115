/- MoveSame: the walk with the program's Fold (the tied seat's; both packages' variables). -/
import Derived.Test.YtjeijolblcodpaaDoorMoveF
import Derived.Test.YtjeijolblcodpaaDoorTreePJ
namespace Go.Proofs.YtjeijolblcodpaaDoor.W
set_option maxRecDepth 20000
set_option linter.unusedVariables false
open Go.RowKit Go.Proofs Arb

theorem moveSame_walk (A : Option Addr) (n c : Nat) (l : List Opn) (w : World) (hs : Sl w 11 A n c (l.map opCells)) (_ : c * 104 ≤ 140737488351232) (hl : ∀ y ∈ l, opWf y) (_ : l.length = n) (A2 : Option Addr) (n2 c2 : Nat) (ys : List Int)
    (hs2 : Sl w 1 A2 n2 c2 (ys.map fun z => [.int .i64 z])) (hc2 : c2 * 8 ≤ 140737488351232) (hyw : ∀ z ∈ ys, (Lit.int .i64 z).wf = true) (hyl : ys.length = n2) (hTM : Met w ∧ TMet w) :
    Calls Tryd.prog 4 #[.slice A n c, .slice A2 n2 c2] w fun e w' => e = .returned (.bool true) ∧ Below w.heap.size w w' :=
  moveSame_go _ l A2 n2 c2 ys w (Opns.of_sl hs) hl hs2 hyw hyl (by have := hs2.2.1; omega) hTM.1 fun V u s hb ho hl hw => ptfold_any u s V ho (by omega) hw (hTM.2.on hb)
end Go.Proofs.YtjeijolblcodpaaDoor.W
