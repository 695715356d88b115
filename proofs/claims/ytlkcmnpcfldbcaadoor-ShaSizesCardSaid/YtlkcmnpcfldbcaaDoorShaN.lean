/- More of the mathematics of the digests: lengths and bounds. -/
import Derived.Test.YtlkcmnpcfldbcaaDoorShaM
import Derived.Laws.BitsAllLaws
import Derived.Deep.QuietTactic
namespace Arb
open Go

theorem val8_snoc (l : List UInt8) (b : UInt8) : val8 (l ++ [b]) = val8 l * 256 + b.toNat := by simp [val8, List.foldl_append]
theorem val8_lt : ∀ (n : Nat) (l : List UInt8), l.length = n → val8 l < 256 ^ n
  | 0, l, h => by rw [List.eq_nil_of_length_eq_zero h]; simp [val8]
  | n + 1, l, h => by
    have hne : l ≠ [] := by intro e; rw [e] at h; simp at h
    have hl : l = l.dropLast ++ [l.getLast hne] := (List.dropLast_concat_getLast hne).symm
    have ih := val8_lt n l.dropLast (by simp; omega)
    have hb := (l.getLast hne).toNat_lt
    rw [hl, val8_snoc, Nat.pow_succ]
    omega
theorem val8_take (l : List UInt8) (q : Nat) (h : q < l.length) : val8 (l.take (q + 1)) = val8 (l.take q) * 256 + (l[q]).toNat := by
  rw [List.take_succ_eq_append_getElem h, val8_snoc]
theorem val8_take_lt (l : List UInt8) (q : Nat) (h : q ≤ 7) : val8 (l.take q) < 72057594037927936 := by
  have h1 := val8_lt _ (l.take q) rfl
  have h2 : (l.take q).length ≤ 7 := by rw [List.length_take]; omega
  exact Nat.lt_of_lt_of_le h1 (Nat.le_trans (Nat.pow_le_pow_right (by omega) h2) (by decide))
theorem val8_8_lt (l : List UInt8) : val8 (l.take 8) < 18446744073709551616 := by
  have h1 := val8_lt _ (l.take 8) rfl
  have h2 : (l.take 8).length ≤ 8 := by rw [List.length_take]; omega
  exact Nat.lt_of_lt_of_le h1 (Nat.le_trans (Nat.pow_le_pow_right (by omega) h2) (by decide))
theorem words_length (l : List UInt8) (n : Nat) : (words l n).length = n := by simp [words]
theorem words_get (l : List UInt8) (n k : Nat) (h : k < n) : (words l n)[k]? = some (val8 ((l.drop (8 * k)).take 8)) := by simp [words, h]
theorem words_take (l : List UInt8) (n k : Nat) (h : k < n) : (words l n).take (k + 1) = (words l n).take k ++ [val8 ((l.drop (8 * k)).take 8)] := by
  rw [List.take_add_one, words_get l n k h]; rfl
theorem words_lt (l : List UInt8) (n : Nat) : ∀ x ∈ words l n, x < 18446744073709551616 := by
  intro x hx
  simp only [words, List.mem_map] at hx
  obtain ⟨t, _, rfl⟩ := hx
  exact val8_8_lt _
theorem sched_length (w : List Nat) : ∀ k, (sched w k).length = w.length + k
  | 0 => rfl
  | k + 1 => by simp only [sched, List.length_append, sched_length w k, List.length_cons, List.length_nil]; omega
theorem sched_lt (w : List Nat) (h : ∀ x ∈ w, x < 18446744073709551616) : ∀ k, ∀ x ∈ sched w k, x < 18446744073709551616
  | 0 => h
  | k + 1 => by
    intro x hx
    simp only [sched, List.mem_append, List.mem_cons, List.not_mem_nil, or_false] at hx
    rcases hx with hx | rfl
    · exact sched_lt w h k x hx
    · unfold wnext; exact Nat.mod_lt _ (by omega)
theorem rnd_length (v : List Nat) (k w : Nat) : (rnd v k w).length = 8 := rfl
theorem rounds_length (w v : List Nat) (h : v.length = 8) : ∀ t, (rounds w v t).length = 8
  | 0 => h
  | _ + 1 => rfl
theorem getD_lt (l : List Nat) (h : ∀ x ∈ l, x < 18446744073709551616) (i : Nat) : l.getD i 0 < 18446744073709551616 := by
  rw [List.getD_eq_getElem?_getD]
  cases hg : l[i]? with
  | none => simp
  | some x => simpa using h x (List.mem_of_getElem? hg)
theorem rnd_lt (v : List Nat) (h : ∀ x ∈ v, x < 18446744073709551616) (k w : Nat) : ∀ x ∈ rnd v k w, x < 18446744073709551616 := by
  intro x hx
  have g := getD_lt v h
  simp only [rnd, List.mem_cons, List.not_mem_nil, or_false] at hx
  rcases hx with rfl | rfl | rfl | rfl | rfl | rfl | rfl | rfl <;> first | exact g _ | exact Nat.mod_lt _ (by omega)
theorem rounds_lt (w v : List Nat) (h : ∀ x ∈ v, x < 18446744073709551616) : ∀ t, ∀ x ∈ rounds w v t, x < 18446744073709551616
  | 0 => h
  | t + 1 => rnd_lt _ (rounds_lt w v h t) _ _
theorem addAll_length (h v : List Nat) (a : h.length = 8) (b : v.length = 8) : (addAll h v).length = 8 := by simp [addAll, a, b]
theorem addAll_lt (h v : List Nat) : ∀ x ∈ addAll h v, x < 18446744073709551616 := by
  intro x hx
  unfold addAll at hx
  obtain ⟨i, hi, rfl⟩ := List.getElem_of_mem hx
  rw [List.getElem_zipWith]
  exact Nat.mod_lt _ (by omega)
def hAt (S : List UInt8) : Nat → List Nat
  | 0 => shaH
  | b + 1 => compress (hAt S b) ((S.drop (128 * b)).take 128)
theorem hAt_length (S : List UInt8) : ∀ b, (hAt S b).length = 8
  | 0 => rfl
  | b + 1 => addAll_length _ _ (hAt_length S b) (rounds_length _ _ (hAt_length S b) _)
theorem hAt_lt (S : List UInt8) : ∀ b, ∀ x ∈ hAt S b, x < 18446744073709551616
  | 0 => (by decide : ∀ x ∈ shaH, x < 18446744073709551616)
  | b + 1 => addAll_lt _ _
theorem shaRun_hAt (S : List UInt8) : ∀ n b, shaRun n (hAt S b) (S.drop (128 * b)) = hAt S (b + n)
  | 0, b => rfl
  | n + 1, b => by
    have ih := shaRun_hAt S n (b + 1)
    rw [show 128 * (b + 1) = 128 * b + 128 by omega, ← List.drop_drop] at ih
    rw [show b + (n + 1) = b + 1 + n by omega, ← ih]
    rfl
theorem sha512_hAt (l : List UInt8) : sha512 l = bytesOf (hAt (padded l) ((padded l).length / 128)) := by
  unfold sha512
  have := shaRun_hAt (padded l) ((padded l).length / 128) 0
  simp only [Nat.mul_zero, List.drop_zero, Nat.zero_add] at this
  rw [← this]
  rfl

theorem quiet_more {P : Program} {f : FuncId} {args : Array Value} {w : World} {a n : Nat} {v : Value}
    (h : Calls P f args (w.drewN (a + n)) fun e w' => e = .returned v ∧ ∃ m, w' = (w.drewN (a + n)).drewN m) :
    Calls P f args (w.drewN (a + n)) fun e w'' => e = .returned v ∧ ∃ m, w'' = w.drewN (a + m) :=
  h.mono fun _ _ ⟨he, m, hm⟩ => ⟨he, n + m, by rw [hm, World.drewN_drewN, Nat.add_assoc]⟩
theorem rotr_lt {x n : Nat} (hx : x < 18446744073709551616) : rotr x n < 18446744073709551616 :=
  Nat.or_lt_two_pow (n := 64) (Nat.lt_of_le_of_lt (Nat.div_le_self _ _) hx) (Nat.mod_lt _ (by omega))
theorem xor64_lt {a b : Nat} (ha : a < 18446744073709551616) (hb : b < 18446744073709551616) : a ^^^ b < 18446744073709551616 := Nat.xor_lt_two_pow (n := 64) ha hb
theorem sg0_lt {x : Nat} (hx : x < 18446744073709551616) : sg0 x < 18446744073709551616 := xor64_lt (xor64_lt (rotr_lt hx) (rotr_lt hx)) (by omega)
theorem sg1_lt {x : Nat} (hx : x < 18446744073709551616) : sg1 x < 18446744073709551616 := xor64_lt (xor64_lt (rotr_lt hx) (rotr_lt hx)) (by omega)
theorem sg0_bits (x : Nat) (hx : x < 18446744073709551616) : bits .xor .u64 (bits .xor .u64 (rotr x 1 : Int) (rotr x 8 : Int)) ((x : Int) / 128) = ((sg0 x : Nat) : Int) := by
  rw [u64_xor_nat _ _ (rotr_lt hx) (rotr_lt hx), show ((x : Int) / 128) = ((x / 128 : Nat) : Int) by omega, u64_xor_nat _ _ (xor64_lt (rotr_lt hx) (rotr_lt hx)) (by omega)]
  rfl
theorem sg1_bits (x : Nat) (hx : x < 18446744073709551616) : bits .xor .u64 (bits .xor .u64 (rotr x 19 : Int) (rotr x 61 : Int)) ((x : Int) / 64) = ((sg1 x : Nat) : Int) := by
  rw [u64_xor_nat _ _ (rotr_lt hx) (rotr_lt hx), show ((x : Int) / 64) = ((x / 64 : Nat) : Int) by omega, u64_xor_nat _ _ (xor64_lt (rotr_lt hx) (rotr_lt hx)) (by omega)]
  rfl
theorem and64_lt {a b : Nat} (hb : b < 18446744073709551616) : a &&& b < 18446744073709551616 := Nat.and_lt_two_pow (n := 64) a hb
theorem not64 (x : Nat) (hx : x < 18446744073709551616) : bits .xor .u64 IntKind.u64.max (x : Int) = ((18446744073709551615 - x : Nat) : Int) := by
  have h := u64_xor_nat 18446744073709551615 x (by omega) hx
  have e : 18446744073709551615 ^^^ x = 18446744073709551615 - x := by
    apply Nat.eq_of_testBit_eq
    intro i
    rw [Nat.testBit_xor, show 18446744073709551615 - x = 2 ^ 64 - (x + 1) by omega, Nat.testBit_two_pow_sub_succ (by omega : x < 2 ^ 64), show (18446744073709551615 : Nat) = 2 ^ 64 - 1 by rfl, Nat.testBit_two_pow_sub_one]
    by_cases hi : i < 64
    · simp [hi]
    · simp [hi, Nat.testBit_lt_two_pow (Nat.lt_of_lt_of_le (by omega : x < 2 ^ 64) (Nat.pow_le_pow_right (by omega) (by omega : 64 ≤ i)))]
  rw [e] at h
  exact h
theorem rx_bits (e f g h k w : Nat) (le : e < 18446744073709551616) (lf : f < 18446744073709551616) (lg : g < 18446744073709551616) :
    IntKind.u64.wrap (IntKind.u64.wrap (IntKind.u64.wrap (IntKind.u64.wrap ((h : Int) + bits .xor .u64 (bits .xor .u64 (rotr e 14 : Int) (rotr e 18 : Int)) (rotr e 41 : Int)) +
      bits .xor .u64 (bits .and .u64 (e : Int) (f : Int)) (bits .and .u64 (bits .xor .u64 IntKind.u64.max (e : Int)) (g : Int))) + (k : Int)) + (w : Int)) = ((rx e f g h k w : Nat) : Int) := by
  rw [u64_xor_nat _ _ (rotr_lt le) (rotr_lt le), u64_xor_nat _ _ (xor64_lt (rotr_lt le) (rotr_lt le)) (rotr_lt le), u64_and_nat _ _ le lf, not64 e le, u64_and_nat _ _ (by omega) lg,
    u64_xor_nat _ _ (and64_lt lf) (and64_lt lg)]
  unfold rx
  generalize rotr e 14 ^^^ rotr e 18 ^^^ rotr e 41 = p
  generalize e &&& f ^^^ (18446744073709551615 - e) &&& g = q
  rw [IntKind.wrap_u64, IntKind.wrap_u64, IntKind.wrap_u64, IntKind.wrap_u64]
  omega
theorem ry_bits (a b c : Nat) (la : a < 18446744073709551616) (lb : b < 18446744073709551616) (lc : c < 18446744073709551616) :
    IntKind.u64.wrap (bits .xor .u64 (bits .xor .u64 (rotr a 28 : Int) (rotr a 34 : Int)) (rotr a 39 : Int) +
      bits .xor .u64 (bits .xor .u64 (bits .and .u64 (a : Int) (b : Int)) (bits .and .u64 (a : Int) (c : Int))) (bits .and .u64 (b : Int) (c : Int))) = ((ry a b c : Nat) : Int) := by
  rw [u64_xor_nat _ _ (rotr_lt la) (rotr_lt la), u64_xor_nat _ _ (xor64_lt (rotr_lt la) (rotr_lt la)) (rotr_lt la), u64_and_nat _ _ la lb, u64_and_nat _ _ la lc, u64_and_nat _ _ lb lc,
    u64_xor_nat _ _ (and64_lt lb) (and64_lt lc), u64_xor_nat _ _ (xor64_lt (and64_lt lb) (and64_lt lc)) (and64_lt lc)]
  unfold ry
  generalize rotr a 28 ^^^ rotr a 34 ^^^ rotr a 39 = p
  generalize a &&& b ^^^ a &&& c ^^^ b &&& c = q
  rw [IntKind.wrap_u64]
  omega
theorem add_mid (h v : List Nat) (q : Nat) (hh : h.length = 8) (hq : q < 8) : (addAll h v).take q ++ h.drop q = (addAll h v).take q ++ h.getD q 0 :: h.drop (q + 1) := by
  rw [List.drop_eq_getElem_cons (by omega : q < h.length), List.getD_eq_getElem?_getD, List.getElem?_eq_getElem (by omega : q < h.length)]
  rfl
theorem add_len (h v : List Nat) (q : Nat) (hh : h.length = 8) (hv : v.length = 8) (hq : q ≤ 8) : ((addAll h v).take q ++ h.drop q).length = 8 := by
  rw [List.length_append, List.length_take, List.length_drop, addAll_length h v hh hv]; omega
theorem add_at (h v : List Nat) (q : Nat) (hh : h.length = 8) (hv : v.length = 8) (hq : q < 8) : ((addAll h v).take q ++ h.drop q).getD q 0 = h.getD q 0 := by
  have hl : ((addAll h v).take q).length = q := by rw [List.length_take, addAll_length h v hh hv]; omega
  rw [add_mid h v q hh hq, List.getD_eq_getElem?_getD, List.getElem?_append_right (by omega), hl, Nat.sub_self]
  rfl
theorem add_step (h v : List Nat) (q : Nat) (hh : h.length = 8) (hv : v.length = 8) (hq : q < 8) :
    ((addAll h v).take q ++ h.drop q).set q ((h.getD q 0 + v.getD q 0) % 18446744073709551616) = (addAll h v).take (q + 1) ++ h.drop (q + 1) := by
  have hl : ((addAll h v).take q).length = q := by rw [List.length_take, addAll_length h v hh hv]; omega
  have hx : (addAll h v)[q]? = some ((h.getD q 0 + v.getD q 0) % 18446744073709551616) := by
    unfold addAll
    rw [List.getElem?_zipWith, List.getD_eq_getElem?_getD, List.getD_eq_getElem?_getD, List.getElem?_eq_getElem (by omega : q < h.length), List.getElem?_eq_getElem (by omega : q < v.length)]
    rfl
  rw [add_mid h v q hh hq, List.set_append_right _ _ (by omega), hl, Nat.sub_self, List.set_cons_zero, List.take_add_one, hx]
  simp
theorem bytesOf_take (h : List Nat) (q : Nat) (hq : q < h.length) : bytesOf (h.take (q + 1)) = bytesOf (h.take q) ++ be8 (h.getD q 0) := by
  unfold bytesOf
  rw [List.take_succ_eq_append_getElem hq, List.flatMap_append, List.getD_eq_getElem?_getD, List.getElem?_eq_getElem hq]
  simp
theorem shl8_or (x d : Nat) (hx : x < 72057594037927936) (hd : d < 256) : bits .or .u64 ((x : Int) * 256) (d : Int) = ((x * 256 + d : Nat) : Int) := by
  have h := u64_or_nat (x * 256) d (by omega) (by omega)
  rw [nat_join 8 (x * 256) d (by omega) (by omega)] at h
  rw [← h, Int.natCast_mul]
  rfl
end Arb
