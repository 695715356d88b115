/- sync.Once of package crc's sums: the parts of its slow road, and Do, by the filling of the table. -/
import Derived.Test.YtjicfkdggpinkaaCrcS
import Derived.Defers
import Derived.Laws.Pointers
import Derived.Laws.LoneSync
import Derived.Laws.NewBlocks
import Derived.RegionTactic
import Derived.RegionCalls
import Derived.ChangeAlike
namespace Go.Proofs.Ytjicfkdggpinkaa.W
open Go.RowKit Go.Proofs Arb

theorem disable (w : World) : (callFunc 27 #[]).run Try.prog w = .ok (.value (.tuple #[])) w := run_call_mark0 Try.func27 (by kernel_rfl) (by kernel_rfl) (by kernel_rfl) .disable (by kernel_rfl) w
theorem enable (w : World) : (callFunc 29 #[]).run Try.prog w = .ok (.value (.tuple #[])) w := run_call_mark0 Try.func29 (by kernel_rfl) (by kernel_rfl) (by kernel_rfl) .enable (by kernel_rfl) w
theorem acquire (a : Addr) (w : World) : (callFunc 30 #[.pointer (some a)]).run Try.prog w = .ok (.value (.tuple #[])) w := run_call_marked Try.func30 (by kernel_rfl) (by kernel_rfl) (by kernel_rfl) .acquire (by kernel_rfl) a w
theorem releaseMerge (a : Addr) (w : World) : (callFunc 32 #[.pointer (some a)]).run Try.prog w = .ok (.value (.tuple #[])) w := run_call_marked Try.func32 (by kernel_rfl) (by kernel_rfl) (by kernel_rfl) .releaseMerge (by kernel_rfl) a w

/-- The once's own flag is set, as a call that was put off. -/
theorem store_deferred (a : Addr) (x : Value) (u : FrameMode) (w : World) (hc : w.cell? a = some x) (hz : w.frozen? a = false) :
    CallsD Try.prog 22 #[.pointer (some a), .bool true] u w fun e u' w' => u' = u ∧ (e = .returned (.tuple #[]) ∧ w' = w.drew.setCell a (.int .u32 1)) := by
  have hc' : w.drew.cell? a = some x := by go_simp
  have hz' : w.drew.frozen? a = false := by go_simp
  have hst := run_call_store (P := Try.prog) Try.func25 (by kernel_rfl) (by kernel_rfl) (by kernel_rfl) (by kernel_rfl) (k := .u32) (y := 1) hc' hz'
  go_enter_d Try.func22, Try.ntmps22
  go_wp2
  go_region_calls
  all_goals (go_end0; exact ⟨rfl, rfl⟩)

theorem unlock_deferred (a : Addr) (u : FrameMode) (w : World) (hc : w.cell? a = some (.int .i32 1)) (hz : w.frozen? a = false) :
    CallsD Try.prog 21 #[.pointer (some a)] u w fun e u' w' => u' = u ∧ (e = .returned (.tuple #[]) ∧ w' = w.setCell a (.int .i32 0)) := by
  have hd := disable
  have he := enable
  have hr := releaseMerge
  have hadd := run_call_add (P := Try.prog) Try.func33 (by kernel_rfl) (by kernel_rfl) (by kernel_rfl) .i32 (by kernel_rfl) (y := -1) (s := 0) hc hz (by simp [go_sem]; rfl)
  have hcv := run_convert_to_unsafe (P := Try.prog) (src := 55) (dst := 59) Try.underlying55 Try.underlying59 (by kernel_rfl) hc
  go_enter_d Try.func21, Try.ntmps21
  go_wp2
  go_end0
  go_wp2
  go_end0
  exact ⟨rfl, rfl⟩

theorem lock_free (a : Addr) (w : World) (hc : w.cell? a = some (.int .i32 0)) (hz : w.frozen? a = false) :
    Calls Try.prog 20 #[.pointer (some a)] w fun e w' => e = .returned (.tuple #[]) ∧ w' = w.setCell a (.int .i32 1) := by
  have hd := disable
  have he := enable
  have ha := acquire
  have hcas := run_call_cas_hit (P := Try.prog) Try.func28 (by kernel_rfl) (by kernel_rfl) (by kernel_rfl) .i32 (by kernel_rfl) (y := 1) hc hz
  have hc' : (w.setCell a (.int .i32 1)).cell? a = some (.int .i32 1) := World.cell?_setCell_same w a _ hc
  have hcv := run_convert_to_unsafe (P := Try.prog) (src := 55) (dst := 59) Try.underlying55 Try.underlying59 (by kernel_rfl) hc'
  go_enter Try.func20, Try.ntmps20
  go_wp2
  first | go_end0 | (simp only [Exit.inBlock, Exit.then]; refine bodyPost_ret (results_none rfl _ _ _) rfl ?_) | refine bodyPost_ret (results_none rfl _ _ _) rfl ?_
  go_wp2
  go_end0
  exact ⟨rfl, rfl⟩

/-- Block b is a once, with its flag and its lock's word. -/
def IsOnce (w : World) (b : Nat) (d s : Int) : Prop := w.heap[b]? = some (.cells #[.int .u32 d, .int .i32 s, .int .u32 0] 42 (0, 0))
theorem IsOnce.cell0 {w : World} {b : Nat} {d s : Int} (h : IsOnce w b d s) : w.cell? ⟨b, 0, none⟩ = some (.int .u32 d) := by simp [World.cell?, show w.heap[b]? = _ from h]
theorem IsOnce.cell1 {w : World} {b : Nat} {d s : Int} (h : IsOnce w b d s) : w.cell? ⟨b, 1, none⟩ = some (.int .i32 s) := by simp [World.cell?, show w.heap[b]? = _ from h]
theorem IsOnce.free {w : World} {b : Nat} {d s : Int} (h : IsOnce w b d s) (i : Nat) : w.frozen? ⟨b, i, none⟩ = false := frozen_of_row w b i _ _ h
theorem IsOnce.lt {w : World} {b : Nat} {d s : Int} (h : IsOnce w b d s) : b < w.heap.size := (Array.getElem?_eq_some_iff.1 h).1
theorem IsOnce.kept {w w' : World} {b : Nat} {d s : Int} {row : Option Nat} (h : IsOnce w b d s) (hb : w.grownBy w' row) (hne : some b ≠ row) : IsOnce w' b d s := (hb.block b h.lt hne).trans h
theorem IsOnce.set0 {w : World} {b : Nat} {d s : Int} (d' : Int) (h : IsOnce w b d s) :
    IsOnce (w.setCell ⟨b, 0, none⟩ (.int .u32 d')) b d' s ∧ w.grownBy (w.setCell ⟨b, 0, none⟩ (.int .u32 d')) (some b) :=
  ⟨heap_setCell_same w b 0 _ _ (.int .u32 d') h, rfl, rfl, rfl, by simp [World.setCell], fun _ _ hk => heap_setCell_other _ _ _ _ (fun e => hk (by rw [e]))⟩
theorem IsOnce.set1 {w : World} {b : Nat} {d s : Int} (s' : Int) (h : IsOnce w b d s) :
    IsOnce (w.setCell ⟨b, 1, none⟩ (.int .i32 s')) b d s' ∧ w.grownBy (w.setCell ⟨b, 1, none⟩ (.int .i32 s')) (some b) :=
  ⟨heap_setCell_same w b 1 _ _ (.int .i32 s') h, rfl, rfl, rfl, by simp [World.setCell], fun _ _ hk => heap_setCell_other _ _ _ _ (fun e => hk (by rw [e]))⟩

/-- Block b is the table, or will be. -/
def IsRow (w : World) (b k : Nat) : Prop := w.heap[b]? = some (.cells (rowAt k) 31 (0, 0))
theorem IsRow.lt {w : World} {b k : Nat} (h : IsRow w b k) : b < w.heap.size := (Array.getElem?_eq_some_iff.1 h).1
theorem IsRow.kept {w w' : World} {b k : Nat} {row : Option Nat} (h : IsRow w b k) (hb : w.grownBy w' row) (hne : some b ≠ row) : IsRow w' b k := (hb.block b h.lt hne).trans h
theorem IsRow.cell {w : World} {b k : Nat} (h : IsRow w b k) (j : Nat) (hj : j < k) (hk : k ≤ 256) : w.cell? ⟨b, j, none⟩ = some (.int .u32 (stp 0 j : Int)) := by
  rw [cell_of_row _ _ _ _ _ _ h]; exact rowAt_get k j hj hk

end Go.Proofs.Ytjicfkdggpinkaa.W
