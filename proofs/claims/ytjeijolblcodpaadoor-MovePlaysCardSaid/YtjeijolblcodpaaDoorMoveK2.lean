/- The variables of the packages, out of what the rows list. -/
import Derived.Test.YtjeijolblcodpaaDoorRows
import Derived.Test.YtjeijolblcodpaaDoorMg11
import Derived.ProofKit
import Derived.LaidMore
import Derived.OpenShut
import Derived.ChangeSame
import Derived.Stop.Joined
import Derived.Lib.LaidTab
import Derived.Stop.LaidErr
namespace Go.Proofs.YtjeijolblcodpaaDoor.W
set_option maxRecDepth 20000
open Go.ChangeShapes Go.WideShapes Go.ChangeAt Go.RowKit Go.Proofs Arb

def laidT : List (String × DataW Unit) := [("arbour/move.root", Rows.laid_arbour_move_root), ("arbour/move.trash", Rows.laid_arbour_move_trash)]
theorem gv0 : Tryd.prog.globalNamed "arbour/move.root" = some 2 := by kernel_rfl
theorem tv0 : (Tryd.prog.globals[2]?).map (·.type) = some 33 := by kernel_rfl
theorem gv1 : Tryd.prog.globalNamed "arbour/move.trash" = some 1 := by kernel_rfl
theorem tv1 : (Tryd.prog.globals[1]?).map (·.type) = some 33 := by kernel_rfl

set_option maxRecDepth 100000 in
theorem door_met (os : Os) (args : Array Value) : laidMetH Tryd.prog laidT ((World.doorLaid Tryd.prog 21 os).forCall (fun _ _ => 0) ⟨#[], args, []⟩).memory :=
  laidMetH_of_parts3 (fuel := 8) (laidMet_of_run' 8 (by kernel_rfl) (by kernel_rfl)) (by kernel_rfl) (by kernel_rfl)

theorem stamp_laid {W : World} {n : String} {g : Nat} {a b : Int} {rest : List (String × DataW Unit)} (hg : Tryd.prog.globalNamed n = some g) (ht : (Tryd.prog.globals[g]?).map (·.type) = some 33)
    (h : laidMet Tryd.prog ((n, .agg [.lit (.int .i64 a), .lit (.int .i64 b)]) :: rest) W) : W.cell? ⟨g, 0, none⟩ = some (.int .i64 a) ∧ W.cell? ⟨g, 1, none⟩ = some (.int .i64 b) := by
  obtain ⟨ps, ⟨g0, t0, cs0, f0, p0, q0, hg0, ht0, hv0, hd0, _, _⟩, _, _⟩ := h
  obtain rfl := Option.some.inj (hg.symm.trans hg0)
  obtain rfl := Option.some.inj (ht.symm.trans ht0)
  have c1 : Tryd.prog.cellsOf 3 = 1 := by kernel_rfl
  obtain ⟨y0, y1, m, hx, hl, h0, h1⟩ := trod_struct2 Tryd.underlying33 hd0
  simp only [Prod.mk.injEq, DataW.agg.injEq, List.cons.injEq, and_true] at hx
  simp only [c1] at h0 h1
  obtain ⟨k0, e0, d0, _⟩ := DataW.trod_int Tryd.underlying3 h0
  obtain ⟨k1, e1, d1, _⟩ := DataW.trod_int Tryd.underlying3 h1
  have hk0 : a = k0 := by have := hx.1.1; rw [d0] at this; simpa using this
  have hk1 : b = k1 := by have := hx.1.2; rw [d1] at this; simpa using this
  rw [World.var?_cell hg0 hv0 0, World.var?_cell hg0 hv0 1, ← Array.getElem?_toList, ← Array.getElem?_toList, hk0, hk1]
  constructor
  · have := congrArg (fun l => l[0]?) e0
    simpa [List.getElem?_take, List.getElem?_drop] using this
  · have := congrArg (fun l => l[0]?) e1
    simpa [List.getElem?_take, List.getElem?_drop] using this
theorem met_of_laid {W : World} (h : laidMetH Tryd.prog laidT W) : Met W := by
  rw [MakeChecks.laidMetH_plain _ _ _ (by kernel_rfl)] at h
  obtain ⟨h1, h2⟩ := stamp_laid gv0 tv0 h
  obtain ⟨h3, h4⟩ := stamp_laid gv1 tv1 (laidMet.tail h)
  exact ⟨h3, h4, h1, h2⟩
end Go.Proofs.YtjeijolblcodpaaDoor.W
