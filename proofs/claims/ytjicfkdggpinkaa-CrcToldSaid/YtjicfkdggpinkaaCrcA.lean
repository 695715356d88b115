/- The chapter's examples, and the reference's sums. -/
import Derived.Test.YtjicfkdggpinkaaCrcW
namespace Go.Proofs.Ytjicfkdggpinkaa.W
open Go.RowKit Go.Proofs Arb

set_option maxHeartbeats 1600000 in
theorem awake_any (w : World) :
    Calls Try.prog 10 #[] w fun e w' => e = .returned (.bool true) ∧ Below w.heap.size w w' := by
  have e9 : ((moreN 0 [49, 50, 51, 52, 53, 54, 55, 56, 57] : Nat) : Int) = 3421780262 := by rw [example9]; rfl
  have e0 : ((moreN 0 [] : Nat) : Int) = 0 := by rw [example0]; rfl
  have s9 := fun w => sum_any [49, 50, 51, 52, 53, 54, 55, 56, 57] w (by decide)
  have s0 := fun w => sum_any [] w (by decide)
  rw [e9] at s9
  rw [e0] at s0
  have S9 := Go.Lib.hid s9; clear s9 e9
  have S0 := Go.Lib.hid s0; clear s0 e0
  go_enter Try.func10, Try.ntmps10
  go_wp2_with fail
  refine (S9.out _).mono ?_
  rintro e w1 ⟨rfl, hb1⟩
  have HB1 := Go.Lib.hid hb1; clear hb1
  go_wp2_with fail
  refine (S0.out _).mono ?_
  rintro e w2 ⟨rfl, hb2⟩
  have HB2 := Go.Lib.hid (hb2.mono HB1.out.size); clear hb2
  go_wp2_with fail
  go_ret
  exact ⟨rfl, HB1.out.trans HB2.out⟩

theorem i64_xor_nat (a b : Nat) (ha : a < 4294967296) (hb : b < 4294967296) : bits .xor .i64 (a : Int) (b : Int) = ((a ^^^ b : Nat) : Int) := by
  have hx := xor32_lt ha hb
  have h1 : (BitVec.ofInt 64 (a : Int)).toNat = a := by
    rw [BitVec.ofInt_natCast, BitVec.toNat_ofNat]; exact Nat.mod_eq_of_lt (by omega)
  have h2 : (BitVec.ofInt 64 (b : Int)).toNat = b := by
    rw [BitVec.ofInt_natCast, BitVec.toNat_ofNat]; exact Nat.mod_eq_of_lt (by omega)
  show IntKind.i64.wrap ((BitVec.ofInt 64 (a : Int) ^^^ BitVec.ofInt 64 (b : Int)).toNat : Int) = _
  rw [BitVec.toNat_xor, h1, h2, IntKind.wrap_i64]
  omega
theorem i64_low32 (s : Int) : bits .and .i64 s 4294967295 = ((low32 s : Nat) : Int) := by
  have h1 : (BitVec.ofInt 64 s).toNat = (s % 18446744073709551616).toNat := by
    rw [BitVec.toNat_ofInt]; rfl
  have h2 : (BitVec.ofInt 64 4294967295).toNat = 4294967295 := by decide
  show IntKind.i64.wrap ((BitVec.ofInt 64 s &&& BitVec.ofInt 64 4294967295).toNat : Int) = _
  rw [BitVec.toNat_and, h1, h2, show (4294967295 : Nat) = 2 ^ 32 - 1 by rfl, Nat.and_two_pow_sub_one_eq_mod, IntKind.wrap_i64]
  unfold low32
  omega

theorem i64_ones (n : Nat) (h : n < 4294967296) : bits .xor .i64 (n : Int) 4294967295 = ((inv32 n : Nat) : Int) := by
  have := i64_xor_nat n 4294967295 h (by omega)
  rw [xor_ones h] at this
  exact this

set_option maxHeartbeats 1600000 in
theorem rmore_any (s : Int) (l : List UInt8) (w : World) (hl : l.length ≤ 140737488351232) :
    Calls Try.prog 12 #[.int .i64 s, .string (BS l)] w fun e w' => e = .returned (.int .i64 (moreN s l : Int)) ∧ w = w' := by
  have hsz : (BS l).size = l.length := BS_size l
  have HSZ := Go.Lib.hid hsz; clear hsz
  obtain ⟨n0, hn0⟩ : ∃ n0, inv32 (low32 s) = n0 := ⟨_, rfl⟩
  have hn0l : n0 < 4294967296 := by rw [← hn0]; exact inv32_lt _
  have hmore : moreN s l = inv32 (runs n0 l) := by unfold moreN; rw [hn0]
  have hst : bits .xor .i64 (bits .and .i64 s 4294967295) 4294967295 = (n0 : Int) := by
    rw [i64_low32, i64_ones _ (low32_lt s), hn0]
  have HM := Go.Lib.hid hmore; clear hmore
  have HST := Go.Lib.hid hst; clear hst hn0
  go_enter Try.func12, Try.ntmps12
  go_wp2_with fail
  go_loop [5, 6, 7, 8] (fun x i _ _ => ∃ k : Nat, k ≤ l.length ∧ i = .int .i64 (k : Int) ∧ x = .int .i64 (runs n0 (l.take k) : Int)) (fun _ i _ _ => l.length - (intOf i).toNat)
  case atStart => exact ⟨0, by omega, rfl, congrArg _ HST.out⟩
  case round =>
    obtain ⟨k, hk, rfl, rfl⟩ := hrel
    by_cases hkl : k < l.length
    · obtain ⟨x, hx⟩ : ∃ x, runs n0 (l.take k) = x := ⟨_, rfl⟩
      have hxl : x < 4294967296 := by rw [← hx]; exact runs_lt _ hn0l
      have hks : k < (BS l).size := by rw [HSZ.out]; exact hkl
      have hg : (BS l)[k].toNat = (l[k]).toNat := rfl
      obtain ⟨d, hd⟩ : ∃ d, (l[k]).toNat = d := ⟨_, rfl⟩
      have hdl : d < 256 := by rw [← hd]; exact (l[k]).toNat_lt
      rw [hd] at hg
      have hstep : runs n0 (l.take (k + 1)) = stp x d := (runs_snoc _ _ _ hkl).trans (by rw [hx]; exact congrArg (stp x) hd)
      have ex := i64_xor_nat x d hxl (by omega)
      have hm : x ^^^ d < 4294967296 := xor32_lt hxl (by omega)
      have hd8 : stp x d = halves 8 (x ^^^ d) := rfl
      rw [hx]
      have HSTEP := Go.Lib.hid hstep; clear hstep
      have HD8 := Go.Lib.hid hd8; clear hd8
      have EX := Go.Lib.hid ex; clear ex
      clear hx hd
      go_wp2_with fail
      go_loop [5, 7, 8] (fun y i _ => ∃ q : Nat, q ≤ 8 ∧ i = .int .i64 (q : Int) ∧ y = .int .i64 (halves q (x ^^^ d) : Int)) (fun _ i _ => 8 - (intOf i).toNat)
      case atStart => exact ⟨0, by omega, rfl, congrArg _ EX.out⟩
      case round =>
        obtain ⟨q, hq, rfl, rfl⟩ := hrel
        obtain ⟨y, hy⟩ : ∃ y, halves q (x ^^^ d) = y := ⟨_, rfl⟩
        have hyl : y < 4294967296 := by rw [← hy]; exact halves_lt q hm
        have hs : halves (q + 1) (x ^^^ d) = half y := by rw [halves_snoc, hy]
        by_cases h8 : q = 8
        · subst h8
          rw [HD8.out.symm] at hy
          rw [← HD8.out, hy]
          have HY := Go.Lib.hid hy; clear hy hs
          go_wp2_with fail
          exact ⟨⟨k + 1, by omega, by simp, by rw [HSTEP.out, HY.out]⟩, by simp [intOf]; omega⟩
        · have hq8 : q < 8 := by omega
          rw [hy]
          have HS := Go.Lib.hid hs; clear hs hy
          by_cases ho : y % 2 = 1
          · have ho' : (((y : Int) % 2) == 1) = true := by simp; omega
            have e1 : bits .xor .i64 ((y : Int) / 2) 3988292384 = ((half y : Nat) : Int) := by
              rw [show half y = y / 2 ^^^ 3988292384 by unfold half; rw [if_pos ho], ← i64_xor_nat (y / 2) 3988292384 (by omega) (by omega)]
              rfl
            have E1 := Go.Lib.hid e1; clear e1
            go_wp2_with fail
            exact ⟨⟨q + 1, by omega, by simp, by rw [HS.out, E1.out]⟩, by simp [intOf]; omega⟩
          · have e1 := half_even ho
            have E1 := Go.Lib.hid e1; clear e1
            go_wp2_with fail
            exact ⟨⟨q + 1, by omega, by simp, by rw [HS.out, E1.out]; simp⟩, by simp [intOf]; omega⟩
    · obtain rfl : k = l.length := by omega
      obtain ⟨x, hx⟩ : ∃ x, runs n0 (l.take l.length) = x := ⟨_, rfl⟩
      have hx' : runs n0 l = x := by rw [← hx, List.take_length]
      have hxl : x < 4294967296 := by rw [← hx]; exact runs_lt _ hn0l
      have hnx : bits .xor .i64 (x : Int) 4294967295 = ((inv32 x : Nat) : Int) := i64_ones x hxl
      rw [hx]
      have HX := Go.Lib.hid hx'; clear hx' hx
      go_wp2_with fail
      go_ret
      refine ⟨?_, rfl⟩
      rw [HM.out, HX.out]
      rfl

theorem rsum_any (l : List UInt8) (w : World) (hl : l.length ≤ 140737488351232) :
    Calls Try.prog 9 #[.string (BS l)] w fun e w' => e = .returned (.int .i64 (moreN 0 l : Int)) ∧ w = w' := by
  go_enter Try.func9, Try.ntmps9
  go_wp2_with (go_at_call 12; refine (rmore_any 0 l _ hl).mono ?_; rintro e w1 ⟨rfl, rfl⟩)
  go_ret
  exact ⟨rfl, rfl⟩
end Go.Proofs.Ytjicfkdggpinkaa.W
