/- The constants of package sha, out of what the rows list. -/
import Derived.Test.YtlkcmnpcfldbcaaDoorRows
import Derived.Test.YtlkcmnpcfldbcaaDoorShaL
import Derived.ProofKit
import Derived.LaidMore
import Derived.OpenShut
import Derived.Stop.Joined
namespace Go.Proofs.YtlkcmnpcfldbcaaDoor.W
open Go.ChangeShapes Go.WideShapes Go.ChangeAt Go.RowKit Go.Proofs Arb

def laidK : List (String × DataW Unit) := [("arbour/sha.constants", Rows.laid_arbour_sha_constants)]
theorem gK : Tryd.prog.globalNamed "arbour/sha.constants" = some 0 := by kernel_rfl
theorem tK : (Tryd.prog.globals[0]?).map (·.type) = some 40 := by kernel_rfl
theorem laid_shaK : (Rows.laid_arbour_sha_constants : DataW Unit) = .agg (shaK.map fun (x : Nat) => .lit (.int .u64 (x : Int))) := by kernel_rfl

set_option maxRecDepth 100000 in
theorem door_met (os : Os) (args : Array Value) : laidMetH Tryd.prog laidK ((World.doorLaid Tryd.prog 14 os).forCall (fun _ _ => 0) ⟨#[], args, []⟩).memory :=
  laidMetH_of_parts3 (fuel := 8) (laidMet_of_run' 8 (by kernel_rfl) (by kernel_rfl)) (by kernel_rfl) (by kernel_rfl)

theorem kmet_of_laid {W : World} (h : laidMetH Tryd.prog laidK W) : KMet W := by
  rw [MakeChecks.laidMetH_plain _ _ _ (by kernel_rfl)] at h
  obtain ⟨ps, ⟨g0, t0, cs0, f0, p0, q0, hg0, ht0, hv0, hd0, _, _⟩, _, _⟩ := h
  obtain rfl := Option.some.inj (gK.symm.trans hg0)
  obtain rfl := Option.some.inj (tK.symm.trans ht0)
  rw [laid_shaK] at hd0
  obtain ⟨xs, m1, rfl, hx1, hlen, hn3, hel⟩ := DataW.trod_array Tryd.underlying40 hd0
  have c1 : Tryd.prog.cellsOf 25 = 1 := by kernel_rfl
  simp only [Prod.mk.injEq, DataW.agg.injEq] at hx1
  intro t ht
  have h0 := hel t ht
  rw [c1] at h0
  have hxt : xs[t]? = some (xs[t]'(by omega)) := List.getElem?_eq_getElem (by omega)
  rw [hxt] at h0
  obtain ⟨k, e1, e2, _⟩ := DataW.trod_int Tryd.underlying25 h0
  have hk : k = ((shaK.getD t 0 : Nat) : Int) := by
    have hL : (xs.map (·.1))[t]? = (shaK.map fun (x : Nat) => (DataW.lit (.int .u64 (x : Int)) : DataW Unit))[t]? := by rw [hx1.1]
    have h80 : t < shaK.length := ht
    rw [List.getElem?_map, List.getElem?_map, hxt, List.getElem?_eq_getElem h80] at hL
    simp only [Option.map_some, Option.some.injEq, e2] at hL
    rw [List.getD_eq_getElem?_getD, List.getElem?_eq_getElem h80]
    simpa using hL
  rw [World.var?_cell hg0 hv0 t, ← Array.getElem?_toList, ← hk]
  have := congrArg (fun l => l[0]?) e1
  simpa [List.getElem?_take, List.getElem?_drop] using this
end Go.Proofs.YtlkcmnpcfldbcaaDoor.W
