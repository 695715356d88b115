/- Contracts of package sha's small functions: a number turned, the number of eight bytes, the bytes of numbers. -/
import Derived.Test.YtlkcmnpcfldbcaaDoorShaE
import Derived.Test.YtlkcmnpcfldbcaaDoorShaN
import Derived.IntWalk
import Derived.StillTailTactics
import Derived.Deep.RegionHeld3
namespace Go.Proofs.YtlkcmnpcfldbcaaDoor.W
open Go.RowKit Go.Proofs Arb

set_option maxHeartbeats 1000000 in
theorem rotl_any (x n : Nat) (z : Int) (w : World) (hz : z = -(n : Int)) (hx : x < 18446744073709551616) (hn : 0 < n) (hn64 : n < 64) :
    Calls Tryd.prog 35 #[.int .u64 (x : Int), .int .i64 z] w fun e w' => e = .returned (.int .u64 (rotr x n : Int)) ∧ w' = w := by
  subst hz
  have hb := rotr_bits x n hx
  have ha := u64_and_nat (18446744073709551616 - n) 63 (by omega) (by omega)
  have e : (18446744073709551616 - n) &&& 63 = 64 - n := by
    have := Nat.and_two_pow_sub_one_eq_mod (18446744073709551616 - n) 6
    simp at this
    omega
  rw [e] at ha
  have hw : IntKind.u64.wrap (-(n : Int)) = ((18446744073709551616 - n : Nat) : Int) := by rw [IntKind.wrap_u64]; omega
  clear e
  have h0 : 0 ≤ bits .and .u64 ((18446744073709551616 - n : Nat) : Int) 63 := by rw [show (63 : Int) = ((63 : Nat) : Int) by rfl, ha]; omega
  have hs : IntKind.u64.wrap (64 - bits .and .u64 ((18446744073709551616 - n : Nat) : Int) 63) = (n : Int) := by rw [show (63 : Int) = ((63 : Nat) : Int) by rfl, ha, IntKind.wrap_u64]; omega
  have hor : bits .or .u64 (IntKind.u64.wrap ((x : Int) * 2 ^ min (bits .and .u64 ((18446744073709551616 - n : Nat) : Int) 63).toNat 64)) ((x : Int) / 2 ^ n) = ((rotr x n : Nat) : Int) := by
    rw [show (63 : Int) = ((63 : Nat) : Int) by rfl, ha, show min ((64 - n : Nat) : Int).toNat 64 = 64 - n by omega, ← hb]
    rw [show (x : Int) / 2 ^ n = ((x / 2 ^ n : Nat) : Int) by rw [Int.natCast_ediv, Int.natCast_pow]; rfl, show IntKind.u64.wrap ((x : Int) * 2 ^ (64 - n)) = ((x * 2 ^ (64 - n) % 18446744073709551616 : Nat) : Int) by rw [IntKind.wrap_u64, Int.natCast_emod, Int.natCast_mul, Int.natCast_pow]; rfl]
    rw [u64_or_nat _ _ (Nat.mod_lt _ (by omega)) (Nat.lt_of_le_of_lt (Nat.div_le_self _ _) hx), u64_or_nat _ _ (Nat.lt_of_le_of_lt (Nat.div_le_self _ _) hx) (Nat.mod_lt _ (by omega)), Nat.or_comm]
  have HOR := Go.Lib.hid hor; clear hor ha
  have HB := Go.Lib.hid hb; clear hb
  go_enter Tryd.func35, Tryd.ntmps35
  go_wp2_with fail
  go_ret
  refine ⟨?_, rfl⟩
  rw [HOR.out]
  rfl

theorem rotr_any (x n : Nat) (z : Int) (w : World) (hz : z = (n : Int)) (hx : x < 18446744073709551616) (hn : 0 < n) (hn64 : n < 64) :
    Calls Tryd.prog 30 #[.int .u64 (x : Int), .int .i64 z] w fun e w' => e = .returned (.int .u64 (rotr x n : Int)) ∧ w' = w := by
  subst hz
  go_enter Tryd.func30, Tryd.ntmps30
  go_wp2_with (go_at_call 35; refine (rotl_any x n _ _ rfl hx hn hn64).mono ?_; rintro e w1 ⟨rfl, hw1⟩; rw [hw1])
  go_ret
  exact ⟨rfl, rfl⟩

set_option maxHeartbeats 1000000 in
theorem number_any (l : List UInt8) (w : World) (hl : l.length = 8) :
    Calls Tryd.prog 29 #[.string (BS l)] w fun e w' => e = .returned (.int .u64 (val8 l : Int)) ∧ w' = w := by
  have hsz : (BS l).size = 8 := by rw [BS_size]; exact hl
  have HSZ := Go.Lib.hid hsz; clear hsz
  go_enter Tryd.func29, Tryd.ntmps29
  go_wp2_with fail
  go_loop [3, 5] (fun n i => ∃ k : Nat, k ≤ 8 ∧ i = .int .i64 (k : Int) ∧ n = .int .u64 (val8 (l.take k) : Int)) (fun _ i => 8 - (intOf i).toNat)
  case atStart => exact ⟨0, by omega, rfl, rfl⟩
  case round =>
    obtain ⟨k, hk, rfl, rfl⟩ := hrel
    by_cases h8 : k < 8
    · have hlt : k < (BS l).size := by rw [HSZ.out]; exact h8
      have hx : val8 (l.take k) < 72057594037927936 := val8_take_lt l k (by omega)
      have hb : ((BS l)[k]'hlt).toNat < 256 := UInt8.toNat_lt _
      have hst : val8 (l.take (k + 1)) = val8 (l.take k) * 256 + ((BS l)[k]'hlt).toNat := val8_take l k (by omega)
      have hor := shl8_or (val8 (l.take k)) _ hx hb
      obtain ⟨x, hxe⟩ : ∃ x, val8 (l.take k) = x := ⟨_, rfl⟩
      rw [hxe] at hx hor hst ⊢
      have HOR := Go.Lib.hid hor; have HST := Go.Lib.hid hst
      clear hor hst
      go_wp2_with fail
      refine ⟨⟨k + 1, by omega, by simp, ?_⟩, by simp [intOf]; omega⟩
      rw [HOR.out, HST.out]
    · obtain rfl : k = 8 := by omega
      go_wp2_with fail
      go_ret
      rw [List.take_of_length_le (by omega)]
      exact ⟨rfl, rfl⟩
end Go.Proofs.YtlkcmnpcfldbcaaDoor.W
