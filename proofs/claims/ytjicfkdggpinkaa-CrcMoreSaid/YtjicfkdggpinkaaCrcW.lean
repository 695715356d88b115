/- Contracts of package crc's sums. -/
import Derived.Test.YtjicfkdggpinkaaCrcD
namespace Go.Proofs.Ytjicfkdggpinkaa.W
open Go.RowKit Go.Proofs Arb

theorem info_once : (Try.prog.info? 42).map (fun i => (i.zero, i.size)) = some (some (.agg #[.int .u32 0, .int .i32 0, .int .u32 0]), 3) := by kernel_rfl

theorem u32_not (n : Nat) (h : n < 4294967296) : bits .xor .u32 IntKind.u32.max (n : Int) = ((inv32 n : Nat) : Int) := by
  have := u32_xor_nat 4294967295 n (by omega) h
  rw [Nat.xor_comm, xor_ones h] at this
  exact this
theorem low_nat (s : Int) : s % 4294967296 = ((low32 s : Nat) : Int) := by unfold low32; omega
theorem BS_get (l : List UInt8) (i : Nat) (h : i < (BS l).size) : (BS l)[i] = l[i]'(by rw [BS_size] at h; exact h) := rfl

set_option maxRecDepth 20000 in
set_option maxHeartbeats 1600000 in
theorem more_any (s : Int) (l : List UInt8) (w : World) (hl : l.length ≤ 140737488351232) :
    Calls Try.prog 11 #[.int .i64 s, .string (BS l)] w fun e w' => e = .returned (.int .i64 (moreN s l : Int)) ∧ Below w.heap.size w w' := by
  have hz := zero_steps
  have hzo := (zero_of_info info_once).1
  have hmf : ∀ (fn : Fn) (first cap : Array Value) (w : World), (Instr.makeFunc fn first cap).run Try.prog w = .ok (.func fn first cap) w := fun _ _ _ _ => rfl
  have hlow := low_nat s
  have hnot := u32_not (low32 s) (low32_lt s)
  rw [← hlow] at hnot
  have HNOT := Go.Lib.hid hnot; clear hnot
  clear hlow
  have hsz : (BS l).size = l.length := BS_size l
  have HSZ := Go.Lib.hid hsz; clear hsz
  obtain ⟨W2, hW2⟩ : ∃ W2, (w.alloc (.cells (rowAt 0) 31)).alloc (.cells #[.int .u32 0, .int .i32 0, .int .u32 0] 42) = W2 := ⟨_, rfl⟩
  have h2o : IsOnce W2 (w.heap.size + 1) 0 0 := by
    have := heap_alloc_new (w.alloc (.cells (rowAt 0) 31)) (.cells #[.int .u32 0, .int .i32 0, .int .u32 0] 42)
    rw [World.size_alloc] at this
    rw [← hW2]; exact this
  have h2r : IsRow W2 w.heap.size 0 := by
    rw [← hW2]
    exact (Below.heap_alloc _ _ _ (by simp)).trans (heap_alloc_new _ _)
  have h2b : Below w.heap.size w W2 := by
    rw [← hW2]
    exact ((Below.refl _ w).alloc (Nat.le_refl _) _).alloc (by simp) _
  have H2O := Go.Lib.hid h2o; clear h2o
  have H2R := Go.Lib.hid h2r; clear h2r
  have H2B := Go.Lib.hid h2b; clear h2b
  have HW2 := Go.Lib.hid hW2; clear hW2
  obtain ⟨n0, hn0⟩ : ∃ n0, inv32 (low32 s) = n0 := ⟨_, rfl⟩
  have hn0l : n0 < 4294967296 := by rw [← hn0]; exact inv32_lt _
  have hmore : moreN s l = inv32 (runs n0 l) := by unfold moreN; rw [hn0]
  have HM := Go.Lib.hid hmore; clear hmore
  have HN0 := Go.Lib.hid hn0; clear hn0
  go_enter Try.func11, Try.ntmps11
  go_wp2_with fail
  go_loopw [7, 8, 14] (fun n _ i wr => ∃ k : Nat, k ≤ l.length ∧ i = .int .i64 (k : Int) ∧ n = .int .u32 (runs n0 (l.take k) : Int) ∧ Once wr (w.heap.size + 1) w.heap.size k ∧ Below w.heap.size w wr) (fun _ _ i _ => l.length - (intOf i).toNat)
  case atStart =>
    rw [HW2.out]
    exact ⟨0, by omega, rfl, by rw [HNOT.out, HN0.out]; rfl, .inl ⟨rfl, H2O.out, H2R.out⟩, H2B.out⟩
  case round =>
    obtain ⟨k, hk, rfl, rfl, ho, hb⟩ := hrel
    have HO := Go.Lib.hid ho; clear ho
    have HB := Go.Lib.hid hb; clear hb
    by_cases hkl : k < l.length
    · obtain ⟨x, hx⟩ : ∃ x, runs n0 (l.take k) = x := ⟨_, rfl⟩
      have hxl : x < 4294967296 := by rw [← hx]; exact runs_lt _ hn0l
      have hks : k < (BS l).size := by rw [HSZ.out]; exact hkl
      have hg : (BS l)[k].toNat = (l[k]).toNat := rfl
      obtain ⟨d, hd⟩ : ∃ d, (l[k]).toNat = d := ⟨_, rfl⟩
      have hdl : d < 256 := by rw [← hd]; exact (l[k]).toNat_lt
      rw [hd] at hg
      have hstep : runs n0 (l.take (k + 1)) = stp x d := (runs_snoc _ _ _ hkl).trans (by rw [hx]; exact congrArg (stp x) hd)
      obtain ⟨j, hj⟩ : ∃ j, x % 256 ^^^ d = j := ⟨_, rfl⟩
      have hjl : j < 256 := by rw [← hj]; exact xor8_lt (by omega) hdl
      have e8 : bits .xor .u8 ((x : Int) % 256) (d : Int) = (j : Int) := by
        rw [show ((x : Int) % 256) = ((x % 256 : Nat) : Int) by omega, u8_xor_nat (x % 256) d (by omega) hdl, hj]
      have e32 : bits .xor .u32 ((x : Int) / 256) ((stp 0 j : Nat) : Int) = ((stp x d : Nat) : Int) := by
        rw [show ((x : Int) / 256) = ((x / 256 : Nat) : Int) by omega, u32_xor_nat (x / 256) (stp 0 j) (by omega) (stp_lt (by omega) hjl), stp_table x d, hj]
      have hstl : stp 0 j < 4294967296 := stp_lt (by omega) hjl
      rw [hx]
      have HSTEP := Go.Lib.hid hstep; clear hstep
      have E8 := Go.Lib.hid e8; clear e8
      have E32 := Go.Lib.hid e32; clear e32
      clear hj hx hd
      go_wp2_with (go_at_call 13; refine (do_any (w.heap.size + 1) w.heap.size (by omega) _ k HO.out).mono ?_; rintro e w3 ⟨rfl, h3, h4, h5⟩; have hcj := h4.cell j hjl (Nat.le_refl _); have H3 := Go.Lib.hid h3; clear h3; have H4 := Go.Lib.hid h4; clear h4; have H5 := Go.Lib.hid h5; clear h5; have e8 := E8.out; have e32 := E32.out)
      refine ⟨⟨k + 1, by omega, by simp, by rw [HSTEP.out], .inr ⟨H3.out, H4.out⟩, HB.out.trans (H5.out _ (by omega) (Nat.le_refl _))⟩, by simp [intOf]; omega⟩
    · obtain rfl : k = l.length := by omega
      obtain ⟨x, hx⟩ : ∃ x, runs n0 (l.take l.length) = x := ⟨_, rfl⟩
      have hx' : runs n0 l = x := by rw [← hx, List.take_length]
      have hxl : x < 4294967296 := by rw [← hx]; exact runs_lt _ hn0l
      have hnx := u32_not x hxl
      have hil := inv32_lt x
      rw [hx]
      have HX := Go.Lib.hid hx'; clear hx' hx
      go_wp2_with fail
      go_ret
      refine ⟨?_, HB.out⟩
      rw [HM.out, HX.out]
      rfl

theorem sum_any (l : List UInt8) (w : World) (hl : l.length ≤ 140737488351232) :
    Calls Try.prog 8 #[.string (BS l)] w fun e w' => e = .returned (.int .i64 (moreN 0 l : Int)) ∧ Below w.heap.size w w' := by
  go_enter Try.func8, Try.ntmps8
  go_wp2_with (go_at_call 11; refine (more_any 0 l _ hl).mono ?_; rintro e w1 ⟨rfl, hb1⟩; have HB1 := Go.Lib.hid hb1; clear hb1)
  go_ret
  exact ⟨rfl, HB1.out⟩
end Go.Proofs.Ytjicfkdggpinkaa.W
