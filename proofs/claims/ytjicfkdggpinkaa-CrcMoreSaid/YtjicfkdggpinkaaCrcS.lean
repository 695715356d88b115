/- Contracts of package crc's step and of the table of the steps. -/
import Derived.Test.YtjicfkdggpinkaaProg
import Derived.Test.YtjicfkdggpinkaaChecked
import Derived.Test.YtjicfkdggpinkaaCrcM
import Derived.Test.YtjicfkdggpinkaaBase
import Derived.Test.YtjicfkdggpinkaaCells
import Derived.WalkKit
import Derived.Laws.BitsAllLaws
import Derived.WalkSpells
import Derived.WalkLawsBesides
import Derived.Outline
import Derived.Lib.Hide
import Derived.Lib.BufferRead
import Derived.Deep.WholeRow
namespace Go.Proofs.Ytjicfkdggpinkaa.W
open Go.RowKit Go.Proofs Arb

theorem half_odd {x : Nat} (h : x % 2 = 1) (hx : x < 4294967296) : bits .xor .u32 ((x / 2 : Nat) : Int) 3988292384 = ((half x : Nat) : Int) := by
  have := u32_xor_nat (x / 2) 3988292384 (by omega) (by omega)
  rw [show half x = x / 2 ^^^ 3988292384 by unfold half; rw [if_pos h]]
  exact this
theorem half_even {x : Nat} (h : ¬ x % 2 = 1) : half x = x / 2 := by unfold half; rw [if_neg h]

set_option maxHeartbeats 1000000 in
theorem step_any (n b : Nat) (w : World) (hn : n < 4294967296) (hb : b < 256) :
    Calls Try.prog 18 #[.int .u32 (n : Int), .int .u8 (b : Int)] w fun e w' => e = .returned (.int .u32 (stp n b : Int)) ∧ w = w' := by
  have hm : n ^^^ b < 4294967296 := xor32_lt hn (by omega)
  have h0 := u32_xor_nat n b hn (by omega)
  have hd : stp n b = halves 8 (n ^^^ b) := rfl
  have H0 := Go.Lib.hid h0; clear h0
  have HD := Go.Lib.hid hd; clear hd
  go_enter Try.func18, Try.ntmps18
  go_wp2_with fail
  go_loop [0, 5, 10] (fun n' _ i => ∃ k : Nat, k ≤ 8 ∧ i = .int .i64 (k : Int) ∧ n' = .int .u32 (halves k (n ^^^ b) : Int)) (fun _ _ i => 8 - (intOf i).toNat)
  case atStart => exact ⟨0, by omega, rfl, congrArg _ H0.out⟩
  case round =>
    obtain ⟨k, hk, rfl, rfl⟩ := hrel
    by_cases h8 : k = 8
    · subst h8
      go_wp2_with fail
      go_ret
      exact ⟨by rw [HD.out]; rfl, rfl⟩
    · have hk8 : k < 8 := by omega
      obtain ⟨x, hx⟩ : ∃ x, halves k (n ^^^ b) = x := ⟨_, rfl⟩
      have hxl : x < 4294967296 := by rw [← hx]; exact halves_lt k hm
      have hs : halves (k + 1) (n ^^^ b) = half x := by rw [halves_snoc, hx]
      rw [hx]
      have HS := Go.Lib.hid hs; clear hs hx
      by_cases ho : x % 2 = 1
      · have e1 := half_odd ho hxl
        have E1 := Go.Lib.hid e1; clear e1
        go_wp2_with fail
        refine ⟨⟨k + 1, by omega, by simp, ?_⟩, by simp [intOf]; omega⟩
        rw [HS.out, ← E1.out]; simp
      · have e1 := half_even ho
        have E1 := Go.Lib.hid e1; clear e1
        go_wp2_with fail
        refine ⟨⟨k + 1, by omega, by simp, ?_⟩, by simp [intOf]; omega⟩
        rw [HS.out, E1.out]; simp

theorem step0_any (b : Nat) (w : World) (hb : b < 256) :
    Calls Try.prog 18 #[.int .u32 0, .int .u8 (b : Int)] w fun e w' => e = .returned (.int .u32 (stp 0 b : Int)) ∧ w = w' := step_any 0 b w (by omega) hb

/-- The table: the first k steps are laid. -/
def rowAt (k : Nat) : Array Value := ((List.range 256).map fun j => if j < k then Value.int .u32 (stp 0 j : Int) else Value.int .u32 0).toArray
theorem rowAt_size (k : Nat) : (rowAt k).size = 256 := by simp [rowAt]
theorem rowAt_one (k : Nat) : (rowAt k).all (·.oneCell') = true := by
  rw [Array.all_eq_true]
  intro i hi
  simp only [rowAt, List.getElem_toArray, List.getElem_map]
  split <;> rfl
theorem rowAt_get (k j : Nat) (hj : j < k) (hk : k ≤ 256) : (rowAt k)[j]? = some (.int .u32 (stp 0 j : Int)) := by
  simp [rowAt, show j < 256 by omega, hj]
theorem rowAt_some (k j : Nat) (hj : j < 256) : ∃ v, (rowAt k)[j]? = some v := ⟨_, Array.getElem?_eq_getElem (by rw [rowAt_size]; exact hj)⟩
theorem rowAt_set (k : Nat) (hk : k < 256) : (rowAt k).setIfInBounds k (.int .u32 (stp 0 k : Int)) = rowAt (k + 1) := by
  apply Array.ext_getElem?
  intro i
  rw [Array.getElem?_setIfInBounds]
  by_cases hi : k = i
  · subst hi
    rw [if_pos rfl, if_pos (by rw [rowAt_size]; exact hk), rowAt_get _ _ (by omega) (by omega)]
  · rw [if_neg hi]
    by_cases h : i < 256
    · simp only [rowAt, List.getElem?_toArray, List.getElem?_map, List.getElem?_range h, Option.map_some]
      have : (i < k) = (i < k + 1) := by apply propext; omega
      simp only [this]
    · rw [Array.getElem?_eq_none (by rw [rowAt_size]; omega), Array.getElem?_eq_none (by rw [rowAt_size]; omega)]
theorem info_steps : (Try.prog.info? 31).map (fun i => (i.zero, i.size)) = some (some (.agg (rowAt 0)), 256) := by kernel_rfl
theorem zero_steps : ∀ w, (zeroValue 31).run Try.prog w = .ok (.agg (rowAt 0)) w := (zero_of_info info_steps).1

theorem below_setRow {B g : Nat} {a w : World} (h : Below B a w) (hg : B ≤ g) (cs : Array Value) : Below B a (w.setRow g cs) :=
  h.trans ⟨rfl, rfl, rfl, by simp, fun k hk => setRow_other w g k cs (by omega)⟩
theorem size_steps : (Try.prog.info? 31).map (·.size) = some 256 := (zero_of_info info_steps).2

set_option maxRecDepth 20000 in
set_option maxHeartbeats 1000000 in
theorem allSteps_any (w : World) :
    Calls Try.prog 15 #[] w fun e w' => e = .returned (.agg (rowAt 256)) ∧ Below w.heap.size w w' := by
  have hz := zero_steps
  go_enter Try.func15, Try.ntmps15
  go_wp2_with fail
  go_loopw [2, 3] (fun _ i wr => ∃ k : Nat, k ≤ 256 ∧ i = .int .i64 (k : Int) ∧ wr = (w.alloc (.cells (rowAt 0) 31)).alloc (.cells (rowAt k) 31)) (fun _ i _ => 256 - (intOf i).toNat)
  case atStart => exact ⟨0, by omega, rfl, rfl⟩
  case round =>
    obtain ⟨k, hk, rfl, rfl⟩ := hrel
    obtain ⟨W1, hW1⟩ : ∃ W1, w.alloc (.cells (rowAt 0) 31) = W1 := ⟨_, rfl⟩
    have hs1 : W1.heap.size = w.heap.size + 1 := by rw [← hW1]; simp
    by_cases h8 : k = 256
    · subst h8
      have hl1 : (W1.alloc (.cells (rowAt 256) 31)).heap[w.heap.size + 1]? = some (.cells (rowAt 256) 31 (0, 0)) := by rw [← hs1]; exact heap_alloc_new _ _
      have hl0 : (W1.alloc (.cells (rowAt 256) 31)).heap[w.heap.size]? = some (.cells (rowAt 0) 31 (0, 0)) := by
        exact (Below.heap_alloc W1 _ _ (by omega)).trans (by rw [← hW1]; exact heap_alloc_new _ _)
      rw [hW1]
      have HL1 := Go.Lib.hid hl1; clear hl1
      have HL0 := Go.Lib.hid hl0; clear hl0
      go_wp2_with (first
        | refine wpList_load_row rfl 31 (.tmp 1) rfl (w.heap.size + 1) rfl 31 (rowAt 256) (0, 0) _ HL1.out Try.underlying31 rfl (size_steps.trans (by rw [rowAt_size])) ?_
        | refine wpList_store_row rfl 31 (.tmp 0) (.tmp 12) rfl w.heap.size (rowAt 256) rfl rfl 31 (rowAt 0) HL0.out (size_steps.trans (by rw [rowAt_size])) (by rw [rowAt_size, rowAt_size]) (rowAt_one 256) ?_)
      refine bodyPost_ret (v := .agg (rowAt 256)) (results_cell_row rfl _ _ w.heap.size 31 (rowAt 256) (0, 0) _ rfl (setRow_heap _ _ _ _ _ _ HL0.out) Try.underlying31 rfl (size_steps.trans (by rw [rowAt_size]))) rfl ⟨rfl, ?_⟩
      exact below_setRow ((hW1 ▸ (Below.refl _ w).alloc (Nat.le_refl _) _ : Below w.heap.size w W1).alloc (by omega) _) (Nat.le_refl _) _
    · have hk8 : k < 256 := by omega
      obtain ⟨v0, hv0⟩ := rowAt_some k k hk8
      have hst := rowAt_set k hk8
      have HST := Go.Lib.hid hst; clear hst
      have hc : (W1.alloc (.cells (rowAt k) 31)).cell? ⟨w.heap.size + 1, k, none⟩ = some v0 := by
        rw [← hs1, cell_of_row _ _ _ _ _ _ (heap_alloc_new W1 _)]; exact hv0
      have hz : (W1.alloc (.cells (rowAt k) 31)).frozen? ⟨w.heap.size + 1, k, none⟩ = false := frozen_of_row _ _ k _ _ (by rw [← hs1]; exact heap_alloc_new W1 _)
      have hu8 : IntKind.u8.wrap (k : Int) = (k : Int) := by rw [IntKind.wrap_u8']; omega
      rw [hW1]
      clear hv0
      go_wp2_with (go_at_call 18; refine (step0_any k _ hk8).mono ?_; rintro e w1 ⟨rfl, rfl⟩)
      exact ⟨⟨k + 1, by omega, by simp, by rw [HST.out]⟩, by simp [intOf]; omega⟩
end Go.Proofs.Ytjicfkdggpinkaa.W
