/- Contracts of package sha's round of the eight numbers. -/
import Derived.Test.YtlkcmnpcfldbcaaDoorShaB
import Derived.Deep.WholeRow
namespace Go.Proofs.YtlkcmnpcfldbcaaDoor.W
set_option linter.unusedVariables false
open Go.RowKit Go.Proofs Arb

theorem rotrZ (x n : Nat) (z : Int) (w : World) (hz : z = (n : Int)) (hx : x < 18446744073709551616) (hn : 0 < n) (hn64 : n < 64) :
    Calls Tryd.prog 30 #[.int .u64 (x : Int), .int .i64 z] w fun e w' => e = .returned (.int .u64 (rotr x n : Int)) ∧ ∃ m, w' = w.drewN m :=
  (rotr_any x n z w hz hx hn hn64).mono fun _ _ ⟨h1, h2⟩ => ⟨h1, 0, by rw [h2]; rfl⟩
theorem below_setRow {B g : Nat} {a w : World} (h : Below B a w) (hg : B ≤ g) (cs : Array Value) : Below B a (w.setRow g cs) :=
  h.trans ⟨rfl, rfl, rfl, by simp, fun k hk => setRow_other w g k cs (by omega)⟩
theorem rx3 (e f g h ad : Nat) (le : e < 18446744073709551616) (lf : f < 18446744073709551616) (lg : g < 18446744073709551616) :
    IntKind.u64.wrap (IntKind.u64.wrap (IntKind.u64.wrap ((h : Int) + bits .xor .u64 (bits .xor .u64 (rotr e 14 : Int) (rotr e 18 : Int)) (rotr e 41 : Int)) +
      bits .xor .u64 (bits .and .u64 (e : Int) (f : Int)) (bits .and .u64 (bits .xor .u64 IntKind.u64.max (e : Int)) (g : Int))) + (ad : Int)) = ((rx e f g h ad 0 : Nat) : Int) := by
  rw [← rx_bits e f g h ad 0 le lf lg]
  generalize IntKind.u64.wrap (IntKind.u64.wrap ((h : Int) + bits .xor .u64 (bits .xor .u64 (rotr e 14 : Int) (rotr e 18 : Int)) (rotr e 41 : Int)) + bits .xor .u64 (bits .and .u64 (e : Int) (f : Int)) (bits .and .u64 (bits .xor .u64 IntKind.u64.max (e : Int)) (g : Int))) = p
  rw [IntKind.wrap_u64, IntKind.wrap_u64]
  omega
theorem info_eight : (Tryd.prog.info? 26).map (fun i => (i.zero, i.size)) = some (some (.agg (cells64 [0, 0, 0, 0, 0, 0, 0, 0])), 8) := by kernel_rfl
theorem zero_eight : ∀ w, (zeroValue 26).run Tryd.prog w = .ok (.agg (cells64 [0, 0, 0, 0, 0, 0, 0, 0])) w := (zero_of_info info_eight).1
theorem size_eight : (Tryd.prog.info? 26).map (·.size) = some 8 := (zero_of_info info_eight).2
theorem cells64_all (l : List Nat) : (cells64 l).all (·.oneCell') = true := by
  rw [Array.all_eq_true]
  intro i hi
  simp only [cells64, List.getElem_toArray, List.getElem_map]
  rfl

set_option maxRecDepth 20000 in
set_option maxHeartbeats 2000000 in
theorem round_any (x0 x1 x2 x3 x4 x5 x6 x7 ad : Nat) (w : World) (l0 : x0 < 18446744073709551616) (l1 : x1 < 18446744073709551616) (l2 : x2 < 18446744073709551616) (l3 : x3 < 18446744073709551616)
    (l4 : x4 < 18446744073709551616) (l5 : x5 < 18446744073709551616) (l6 : x6 < 18446744073709551616) (l7 : x7 < 18446744073709551616) (la : ad < 18446744073709551616) :
    Calls Tryd.prog 22 #[.agg (cells64 [x0, x1, x2, x3, x4, x5, x6, x7]), .int .u64 (ad : Int)] w fun e w' => e = .returned (.agg (cells64 (rnd [x0, x1, x2, x3, x4, x5, x6, x7] ad 0))) ∧ Below w.heap.size w w' := by
  have r0 : (cells64 [x0, x1, x2, x3, x4, x5, x6, x7])[0]? = some (.int .u64 (x0 : Int)) := rfl
  have r1 : (cells64 [x0, x1, x2, x3, x4, x5, x6, x7])[1]? = some (.int .u64 (x1 : Int)) := rfl
  have r2 : (cells64 [x0, x1, x2, x3, x4, x5, x6, x7])[2]? = some (.int .u64 (x2 : Int)) := rfl
  have r3 : (cells64 [x0, x1, x2, x3, x4, x5, x6, x7])[3]? = some (.int .u64 (x3 : Int)) := rfl
  have r4 : (cells64 [x0, x1, x2, x3, x4, x5, x6, x7])[4]? = some (.int .u64 (x4 : Int)) := rfl
  have r5 : (cells64 [x0, x1, x2, x3, x4, x5, x6, x7])[5]? = some (.int .u64 (x5 : Int)) := rfl
  have r6 : (cells64 [x0, x1, x2, x3, x4, x5, x6, x7])[6]? = some (.int .u64 (x6 : Int)) := rfl
  have r7 : (cells64 [x0, x1, x2, x3, x4, x5, x6, x7])[7]? = some (.int .u64 (x7 : Int)) := rfl
  obtain ⟨ar, har⟩ : ∃ ar, cells64 [x0, x1, x2, x3, x4, x5, x6, x7] = ar := ⟨_, rfl⟩
  rw [har] at r0 r1 r2 r3 r4 r5 r6 r7 ⊢
  have HAR := Go.Lib.hid har; clear har
  go_enter Tryd.func22, Tryd.ntmps22
  go_wp2_with fail
  go_quiet ((go_at_call 30; first | exact Calls.quiet_of_same (rotr_any _ 14 _ _ rfl l4 (by omega) (by omega)) | exact Calls.quiet_of_same (rotr_any _ 18 _ _ rfl l4 (by omega) (by omega)) | exact Calls.quiet_of_same (rotr_any _ 41 _ _ rfl l4 (by omega) (by omega))))
  go_wp2_with fail
  go_quiet ((go_at_call 30; first | exact quiet_more (rotrZ _ 28 _ _ rfl l0 (by omega) (by omega)) | exact quiet_more (rotrZ _ 34 _ _ rfl l0 (by omega) (by omega)) | exact quiet_more (rotrZ _ 39 _ _ rfl l0 (by omega) (by omega))))
  rw [rx3 x4 x5 x6 x7 ad l4 l5 l6, ry_bits x0 x1 x2 l0 l1 l2]
  obtain ⟨rX, hrX⟩ : ∃ x, rx x4 x5 x6 x7 ad 0 = x := ⟨_, rfl⟩
  obtain ⟨rY, hrY⟩ : ∃ x, ry x0 x1 x2 = x := ⟨_, rfl⟩
  rw [hrX, hrY]
  have hh : ((w.alloc (.cells ar 26)).alloc (.cells #[.int .u64 0, .int .u64 0, .int .u64 0, .int .u64 0, .int .u64 0, .int .u64 0, .int .u64 0, .int .u64 0] 26)).heap[w.heap.size + 1]? =
      some (.cells #[.int .u64 0, .int .u64 0, .int .u64 0, .int .u64 0, .int .u64 0, .int .u64 0, .int .u64 0, .int .u64 0] 26 (0, 0)) := by
    have := heap_alloc_new (w.alloc (.cells ar 26)) (.cells #[.int .u64 0, .int .u64 0, .int .u64 0, .int .u64 0, .int .u64 0, .int .u64 0, .int .u64 0, .int .u64 0] 26)
    rwa [World.size_alloc] at this
  have hbl : Below w.heap.size w ((w.alloc (.cells ar 26)).alloc (.cells #[.int .u64 0, .int .u64 0, .int .u64 0, .int .u64 0, .int .u64 0, .int .u64 0, .int .u64 0, .int .u64 0] 26)) :=
    ((Below.refl _ w).alloc (Nat.le_refl _) _).alloc (by simp) _
  have hend : cells64 (rnd [x0, x1, x2, x3, x4, x5, x6, x7] ad 0) = #[.int .u64 (IntKind.u64.wrap ((rX : Int) + (rY : Int))), .int .u64 (x0 : Int), .int .u64 (x1 : Int), .int .u64 (x2 : Int), .int .u64 (IntKind.u64.wrap ((x3 : Int) + (rX : Int))), .int .u64 (x4 : Int), .int .u64 (x5 : Int), .int .u64 (x6 : Int)] := by
    rw [← hrX, ← hrY, IntKind.wrap_u64, IntKind.wrap_u64]
    rfl
  have hone := cells64_all (rnd [x0, x1, x2, x3, x4, x5, x6, x7] ad 0)
  have hsiz : (cells64 (rnd [x0, x1, x2, x3, x4, x5, x6, x7] ad 0)).size = 8 := rfl
  obtain ⟨ce, hce⟩ : ∃ ce, cells64 (rnd [x0, x1, x2, x3, x4, x5, x6, x7] ad 0) = ce := ⟨_, rfl⟩
  rw [hce] at hend hone hsiz
  have HH := Go.Lib.hid hh; have HBL := Go.Lib.hid hbl; have HEND := Go.Lib.hid hend; have HONE := Go.Lib.hid hone; have HSIZ := Go.Lib.hid hsiz; have HCE := Go.Lib.hid hce
  clear hh hbl hend hone hsiz hrX hrY hce
  go_wp2_with (refine wpList_store_row rfl 26 (.tmp 4) (.tmp 88) rfl (w.heap.size + 1) ce rfl (by rw [HEND.out]; rfl) 26 _ HH.out (size_eight.trans (by rw [HSIZ.out])) (by rw [HSIZ.out]; rfl) HONE.out ?_)
  refine bodyPost_ret (v := .agg ce) (results_cell_row rfl _ _ (w.heap.size + 1) 26 ce (0, 0) _ rfl (setRow_heap _ _ _ _ _ _ HH.out) Tryd.underlying26 rfl (size_eight.trans (by rw [HSIZ.out]))) rfl ⟨by rw [HCE.out], ?_⟩
  exact below_setRow (below_draws HBL.out _) (by omega) _
end Go.Proofs.YtlkcmnpcfldbcaaDoor.W
