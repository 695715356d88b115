/- The reference of the digests: a number's bytes. -/
import Derived.Test.YtlkcmnpcfldbcaaDoorShaR
import Derived.Test.YtlkcmnpcfldbcaaDoorOwn
namespace Go.Proofs.YtlkcmnpcfldbcaaDoor.W
open Go.RowKit Go.Proofs Arb

theorem info8 : (Tryd.prog.info? 5).map (fun i => (i.zero, i.size, i.bytes)) = some (some (.int .u8 0), 1, 1) := by kernel_rfl
theorem info64 : (Tryd.prog.info? 25).map (fun i => (i.zero, i.size, i.bytes)) = some (some (.int .u64 0), 1, 8) := by kernel_rfl

theorem be8_length (x : Nat) : (be8 x).length = 8 := by simp [be8]
theorem be8_get (x i : Nat) (h : i < 8) : (be8 x)[i]? = some (UInt8.ofNat (x / 2 ^ (56 - 8 * i))) := by simp [be8, h]
theorem byteCells_append (a b : List UInt8) : Go.Lib.byteCells (a ++ b) = Go.Lib.byteCells a ++ Go.Lib.byteCells b := by simp [Go.Lib.byteCells]
theorem byte_cell (n : Nat) : Go.Lib.byteCells [UInt8.ofNat n] = [.int .u8 ((n : Int) % 256)] := by simp [Go.Lib.byteCells]

/-- Block b holds these numbers. -/
def Is64 (w : World) (b : Nat) (l : List Nat) : Prop := w.heap[b]? = some (.cells (cells64 l) 25 (0, 0))
theorem Is64.lt {w : World} {b : Nat} {l : List Nat} (h : Is64 w b l) : b < w.heap.size := (Array.getElem?_eq_some_iff.1 h).1
theorem cells64_get (l : List Nat) (i : Nat) (h : i < l.length) : (cells64 l)[i]? = some (.int .u64 ((l.getD i 0 : Nat) : Int)) := by
  simp [cells64, List.getD_eq_getElem?_getD, List.getElem?_eq_getElem h]
theorem cells64_one (l : List Nat) : ∀ u ∈ (cells64 l).toList, u.oneCell' = true := by
  intro u hu
  simp only [cells64, List.mem_map] at hu
  obtain ⟨x, _, rfl⟩ := hu
  rfl
theorem Is64.cell {w : World} {b : Nat} {l : List Nat} (h : Is64 w b l) (i : Nat) (hi : i < l.length) : w.cell? ⟨b, i, none⟩ = some (.int .u64 ((l.getD i 0 : Nat) : Int)) := by
  rw [cell_of_row w b i _ _ _ h]; exact cells64_get l i hi
theorem Is64.rd {w : World} {b : Nat} {l : List Nat} (h : Is64 w b l) (n : Nat) (hn : l.length = n) : Rd w 1 (.slice (some ⟨b, 0, none⟩) n n) n (cells64 l).toList := by
  subst hn
  refine ⟨by simp [cells64], .inr ⟨_, _, rfl, fun j u hu => ?_⟩⟩
  rw [Go.Lib.addr_add, Nat.zero_add, cell_of_row w b j _ _ _ h]
  simpa using hu
theorem Is64.free {w : World} {b : Nat} {l : List Nat} (h : Is64 w b l) (i : Nat) : w.frozen? ⟨b, i, none⟩ = false := frozen_of_row w b i _ _ h
theorem Is64.set {w : World} {b : Nat} {l : List Nat} (h : Is64 w b l) (i x : Nat) :
    Is64 (w.setCell ⟨b, i, none⟩ (.int .u64 (x : Int))) b (l.set i x) ∧ w.grownBy (w.setCell ⟨b, i, none⟩ (.int .u64 (x : Int))) (some b) := by
  refine ⟨?_, rfl, rfl, rfl, by simp [World.setCell], fun _ _ hk => heap_setCell_other _ _ _ _ (fun e => hk (by rw [e]))⟩
  have h1 := heap_setCell_same w b i _ _ (.int .u64 (x : Int)) h
  have h2 : (cells64 l).setIfInBounds i (.int .u64 (x : Int)) = cells64 (l.set i x) := by
    apply Array.toList_inj.1
    rw [Array.toList_setIfInBounds]
    simp [cells64, List.map_set]
  rw [h2] at h1
  exact h1
theorem below_draws {B : Nat} {a w : World} (h : Below B a w) (n : Nat) : Below B a (w.drewN n) := ⟨h.os, h.tape, h.output, h.size, h.block⟩
theorem Row.cellAt {w : World} {base : Nat} {e : TypeId} {g n c : Nat} {l : List Nat} (h : Row w base e 1 (.slice (some ⟨g, 0, none⟩) n c) n (cells64 l).toList) (i : Nat) (hi : i < n) :
    w.cell? ⟨g, i, none⟩ = some (.int .u64 ((l.getD i 0 : Nat) : Int)) := by
  obtain ⟨g', c', he, _, _, _, hc, _⟩ := h.open (by omega)
  cases he
  have hl : l.length = n := by have := h.1; simpa [cells64] using this
  refine hc _ _ ?_
  rw [Array.getElem?_toList]
  exact cells64_get l i (by omega)

set_option maxHeartbeats 1000000 in
theorem eight_any (x : Nat) (w : World) :
    Calls Tryd.prog 15 #[.int .u64 (x : Int)] w fun e w' => ∃ v, e = .returned v ∧ Row w' w.heap.size 5 1 v 8 (Go.Lib.byteCells (be8 x)) ∧ Below w.heap.size w w' := by
  obtain ⟨i0, hi, hz0, hz1, hz2⟩ := info_parts info8
  go_enter Tryd.func15, Tryd.ntmps15
  go_wp2_with fail
  go_loopw [3, 4] (fun vo i wr => ∃ k : Nat, k ≤ 8 ∧ i = .int .i64 (k : Int) ∧ Row wr w.heap.size 5 1 vo k (Go.Lib.byteCells ((be8 x).take k)) ∧ Below w.heap.size w wr) (fun _ i _ => 8 - (intOf i).toNat)
  case atStart => exact ⟨0, by omega, rfl, Row.nil _ _ _ _, Below.refl _ _⟩
  case round =>
    obtain ⟨k, hk, rfl, hr, hb⟩ := hrel
    have HR := Go.Lib.hid hr; clear hr
    by_cases h8 : k < 8
    · have hB := hb.size
      have HB := Go.Lib.hid hb; clear hb
      have hbe : Go.Lib.byteCells ((be8 x).take (k + 1)) = Go.Lib.byteCells ((be8 x).take k) ++ [.int .u8 ((x : Int) / 2 ^ (56 - 8 * k) % 256)] := by
        rw [List.take_add_one, be8_get x k h8, byteCells_append]
        simp only [Option.toList_some, byte_cell]
        rw [Int.natCast_ediv, Int.natCast_pow]
        rfl
      have HBE := Go.Lib.hid hbe; clear hbe
      go_wp2_with (at_builtin; refine wpList_append_row1 rfl (.tmp 9) (.tmp 16) _ rfl w.heap.size 5 i0 (.int .u8 0) 1 Tryd.underlying32 hi hz0 hz1 hz2 rfl u3 k _ rfl HR.out (.int .u8 ((x : Int) / 2 ^ (56 - 8 * k) % 256)) 5 rfl rfl (by unfold maxLen; omega) (by omega) hB ?_; intro v1 w1 hr1 hb1)
      rw [← HBE.out] at hr1
      refine ⟨⟨k + 1, by omega, by simp, hr1, HB.out.trans hb1⟩, by simp [intOf]; omega⟩
    · obtain rfl : k = 8 := by omega
      go_wp2_with fail
      go_ret
      have h1 := HR.out
      rw [List.take_of_length_le (by rw [be8_length]; omega)] at h1
      exact ⟨_, rfl, h1, hb⟩
end Go.Proofs.YtlkcmnpcfldbcaaDoor.W
