/- The mathematics of the sums: the step of a number with a byte, its table, and what a changed byte does. -/
import Derived.ProofKit
namespace Arb

/-- One of a step's eight halvings. -/
def half (n : Nat) : Nat := if n % 2 = 1 then n / 2 ^^^ 3988292384 else n / 2
def halves : Nat → Nat → Nat
  | 0, n => n
  | k + 1, n => halves k (half n)
/-- The step of the number n with the byte b. -/
def stp (n b : Nat) : Nat := halves 8 (n ^^^ b)
def inv32 (n : Nat) : Nat := 4294967295 - n
def runs (n : Nat) (l : List UInt8) : Nat := l.foldl (fun n b => stp n b.toNat) n
def low32 (s : Int) : Nat := (s % 4294967296).toNat
def moreN (s : Int) (l : List UInt8) : Nat := inv32 (runs (inv32 (low32 s)) l)

theorem low32_lt (s : Int) : low32 s < 4294967296 := by unfold low32; omega
theorem inv32_lt (n : Nat) : inv32 n < 4294967296 := by unfold inv32; omega
theorem inv32_inv32 {n : Nat} (h : n < 4294967296) : inv32 (inv32 n) = n := by unfold inv32; omega
theorem low32_nat {n : Nat} (h : n < 4294967296) : low32 (n : Int) = n := by unfold low32; omega

theorem xor32_lt {a b : Nat} (ha : a < 4294967296) (hb : b < 4294967296) : a ^^^ b < 4294967296 := Nat.xor_lt_two_pow (n := 32) ha hb
theorem xor8_lt {a b : Nat} (ha : a < 256) (hb : b < 256) : a ^^^ b < 256 := Nat.xor_lt_two_pow (n := 8) ha hb
theorem half_lt {n : Nat} (h : n < 4294967296) : half n < 4294967296 := by
  unfold half
  split
  · exact xor32_lt (by omega) (by omega)
  · omega
theorem halves_lt : ∀ (k : Nat) {n : Nat}, n < 4294967296 → halves k n < 4294967296
  | 0, _, h => h
  | k + 1, _, h => halves_lt k (half_lt h)
theorem halves_snoc : ∀ (k n : Nat), halves (k + 1) n = half (halves k n)
  | 0, _ => rfl
  | k + 1, n => halves_snoc k (half n)
theorem stp_lt {n b : Nat} (hn : n < 4294967296) (hb : b < 256) : stp n b < 4294967296 := halves_lt 8 (xor32_lt hn (by omega))
theorem runs_lt : ∀ (l : List UInt8) {n : Nat}, n < 4294967296 → runs n l < 4294967296
  | [], _, h => h
  | b :: l, _, h => runs_lt l (stp_lt h b.toNat_lt)
theorem moreN_lt (s : Int) (l : List UInt8) : moreN s l < 4294967296 := inv32_lt _
theorem runs_append (n : Nat) (a b : List UInt8) : runs n (a ++ b) = runs (runs n a) b := List.foldl_append
theorem runs_snoc (n : Nat) (l : List UInt8) (k : Nat) (h : k < l.length) : runs n (l.take (k + 1)) = stp (runs n (l.take k)) (l[k]).toNat := by
  rw [List.take_succ_eq_append_getElem h, runs_append]; rfl

/-- Sums go on. -/
theorem moreN_append (s : Int) (a b : List UInt8) : moreN (moreN s a : Int) b = moreN s (a ++ b) := by
  unfold moreN
  rw [low32_nat (inv32_lt _), inv32_inv32 (runs_lt _ (inv32_lt _)), runs_append]

theorem xor_mod2 (a b : Nat) : (a ^^^ b) % 2 = (a % 2 + b % 2) % 2 := by
  have h := Nat.xor_mod_two_pow (a := a) (b := b) (n := 1)
  simp only [Nat.pow_one] at h
  rw [h]
  rcases Nat.mod_two_eq_zero_or_one a with ha | ha <;> rcases Nat.mod_two_eq_zero_or_one b with hb | hb <;> rw [ha, hb] <;> rfl
theorem xor_div2 (a b : Nat) : (a ^^^ b) / 2 = a / 2 ^^^ b / 2 := by
  have h := Nat.xor_div_two_pow (a := a) (b := b) (n := 1)
  simpa using h
theorem xor_same_right {a b c : Nat} (h : a ^^^ c = b ^^^ c) : a = b := by
  have := congrArg (· ^^^ c) h
  simpa [Nat.xor_assoc] using this
theorem xor_same_left {a b c : Nat} (h : c ^^^ a = c ^^^ b) : a = b := xor_same_right (c := c) (by rw [Nat.xor_comm, h, Nat.xor_comm])
theorem half_xor (a b : Nat) : half (a ^^^ b) = half a ^^^ half b := by
  unfold half
  rw [xor_mod2, xor_div2]
  rcases Nat.mod_two_eq_zero_or_one a with ha | ha <;> rcases Nat.mod_two_eq_zero_or_one b with hb | hb <;> simp only [ha, hb]
  · simp
  · simp [Nat.xor_assoc]
  · simp only [if_true, Nat.zero_ne_one, if_false]
    ac_rfl
  · simp only [Nat.reduceAdd, Nat.mod_self, reduceIte, Nat.zero_ne_one]
    rw [show a / 2 ^^^ 3988292384 ^^^ (b / 2 ^^^ 3988292384) = a / 2 ^^^ b / 2 ^^^ (3988292384 ^^^ 3988292384) by ac_rfl]
    simp
theorem halves_xor : ∀ (k a b : Nat), halves k (a ^^^ b) = halves k a ^^^ halves k b
  | 0, _, _ => rfl
  | k + 1, a, b => by simp only [halves]; rw [half_xor, halves_xor]
theorem half_double (n : Nat) : half (2 * n) = n := by unfold half; rw [if_neg (by omega)]; omega
theorem halves_256 (n : Nat) : halves 8 (256 * n) = n := by
  rw [show 256 * n = 2 * (2 * (2 * (2 * (2 * (2 * (2 * (2 * n))))))) by omega]
  simp only [halves, half_double]

/-- The step by the table: only the lowest byte tells what is XORed in. -/
theorem stp_table (n b : Nat) : stp n b = n / 256 ^^^ stp 0 (n % 256 ^^^ b) := by
  unfold stp
  have h : n ^^^ b = 256 * (n / 256) ^^^ (0 ^^^ (n % 256 ^^^ b)) := by
    rw [Nat.zero_xor, ← Nat.xor_assoc]
    congr 1
    apply Nat.eq_of_testBit_eq
    intro i
    rw [Nat.testBit_xor, show n % 256 = n % 2 ^ 8 by rfl, Nat.testBit_mod_two_pow, show 256 * (n / 256) = 2 ^ 8 * (n / 2 ^ 8) by rfl, Nat.testBit_two_pow_mul, Nat.testBit_div_two_pow]
    by_cases hi : i < 8
    · simp [hi, show ¬ 8 ≤ i by omega]
    · simp [hi, show 8 ≤ i by omega, show i - 8 + 8 = i by omega]
  rw [h, halves_xor, halves_256]

theorem half_inj {a b : Nat} (ha : a < 4294967296) (hb : b < 4294967296) (h : half a = half b) : a = b := by
  have key : ∀ x : Nat, x < 2147483648 → (x ^^^ 3988292384).testBit 31 = true := by
    intro x hx
    rw [Nat.testBit_xor, Nat.testBit_lt_two_pow (x := x) (i := 31) hx]
    rfl
  have no : ∀ x : Nat, x < 2147483648 → x.testBit 31 = false := fun x hx => Nat.testBit_lt_two_pow (x := x) (i := 31) hx
  have h1 := key (a / 2) (by omega)
  have h2 := key (b / 2) (by omega)
  have h3 := no (a / 2) (by omega)
  have h4 := no (b / 2) (by omega)
  unfold half at h
  rcases Nat.mod_two_eq_zero_or_one a with pa | pa <;> rcases Nat.mod_two_eq_zero_or_one b with pb | pb <;> simp only [pa, pb, Nat.zero_ne_one, reduceIte] at h
  · omega
  · rw [h, h2] at h3; cases h3
  · rw [← h, h1] at h4; cases h4
  · have := xor_same_right h
    omega
theorem halves_inj : ∀ (k : Nat) {a b : Nat}, a < 4294967296 → b < 4294967296 → halves k a = halves k b → a = b
  | 0, _, _, _, _, h => h
  | k + 1, _, _, ha, hb, h => half_inj ha hb (halves_inj k (half_lt ha) (half_lt hb) h)
theorem stp_inj {m n b : Nat} (hm : m < 4294967296) (hn : n < 4294967296) (hb : b < 256) (h : stp m b = stp n b) : m = n :=
  xor_same_right (halves_inj 8 (xor32_lt hm (by omega)) (xor32_lt hn (by omega)) h)
theorem stp_byte {n b c : Nat} (hn : n < 4294967296) (hb : b < 256) (hc : c < 256) (h : stp n b = stp n c) : b = c :=
  xor_same_left (halves_inj 8 (xor32_lt hn (by omega)) (xor32_lt hn (by omega)) h)
theorem runs_inj : ∀ (l : List UInt8) {m n : Nat}, m < 4294967296 → n < 4294967296 → runs m l = runs n l → m = n
  | [], _, _, _, _, h => h
  | b :: l, _, _, hm, hn, h => stp_inj hm hn b.toNat_lt (runs_inj l (stp_lt hm b.toNat_lt) (stp_lt hn b.toNat_lt) h)

/-- One changed byte changes the sum. -/
theorem moreN_set (s : Int) (l : List UInt8) (k : Nat) (hk : k < l.length) (c : UInt8) : moreN s (l.set k c) = moreN s l ↔ l[k] = c := by
  have hl : l = l.take k ++ (l[k] :: l.drop (k + 1)) := by rw [List.getElem_cons_drop, List.take_append_drop]
  have hs : l.set k c = l.take k ++ (c :: l.drop (k + 1)) := by
    rw [List.set_eq_take_append_cons_drop, if_pos hk]
  constructor
  · intro h
    rw [hs] at h
    conv at h => rhs; rw [hl]
    unfold moreN at h
    have hb := inv32_lt (low32 s)
    have h1 := runs_lt (l.take k ++ c :: l.drop (k + 1)) hb
    have h2 := runs_lt (l.take k ++ l[k] :: l.drop (k + 1)) hb
    have h3 : runs (inv32 (low32 s)) (l.take k ++ c :: l.drop (k + 1)) = runs (inv32 (low32 s)) (l.take k ++ l[k] :: l.drop (k + 1)) := by
      have := congrArg inv32 h
      rwa [inv32_inv32 h1, inv32_inv32 h2] at this
    rw [runs_append, runs_append] at h3
    have hm := runs_lt (l.take k) hb
    have h4 := runs_inj (l.drop (k + 1)) (stp_lt hm c.toNat_lt) (stp_lt hm l[k].toNat_lt) h3
    exact (UInt8.toNat_inj.1 (stp_byte hm c.toNat_lt l[k].toNat_lt h4)).symm
  · intro h
    rw [hs, ← h, ← hl]

theorem moreN_low (s : Int) (l : List UInt8) : moreN (s % 4294967296) l = moreN s l := by
  unfold moreN low32
  rw [Int.emod_emod]

theorem xor_ones {n : Nat} (h : n < 4294967296) : n ^^^ 4294967295 = inv32 n := by
  unfold inv32
  apply Nat.eq_of_testBit_eq
  intro i
  rw [Nat.testBit_xor, show 4294967295 - n = 2 ^ 32 - (n + 1) by omega, Nat.testBit_two_pow_sub_succ (by omega : n < 2 ^ 32), show (4294967295 : Nat) = 2 ^ 32 - 1 by rfl, Nat.testBit_two_pow_sub_one]
  by_cases hi : i < 32
  · simp [hi]
  · simp [hi, Nat.testBit_lt_two_pow (Nat.lt_of_lt_of_le (by omega : n < 2 ^ 32) (Nat.pow_le_pow_right (by omega) (by omega : 32 ≤ i)))]

theorem example9 : moreN 0 [49, 50, 51, 52, 53, 54, 55, 56, 57] = 3421780262 := by decide +kernel
theorem example0 : moreN 0 [] = 0 := by decide +kernel
end Arb
