/- The plain mathematics of package codec: what a number is as bytes, and how it is read back. Imports nothing of the program. -/
import Derived.Laws.MathBits
import Derived.Lib.ItoaNum
import Derived.Lib.UnsafeStr
namespace Arb

/-- How many bytes a number takes, with fuel. -/
def digsF : Nat → Nat → Nat
  | 0, _ => 0
  | k + 1, u => if u = 0 then 0 else digsF k (u / 256) + 1
def digs (u : Nat) : Nat := digsF 8 u
/-- The lowest k bytes of a number, the most significant one first. -/
def be : Nat → Nat → List UInt8
  | 0, _ => []
  | k + 1, u => be k (u / 256) ++ [UInt8.ofNat (u % 256)]
def enc (u : Nat) : List UInt8 := UInt8.ofNat (digs u) :: be (digs u) u
def val : List UInt8 → Nat := fun l => l.foldl (fun n b => n * 256 + b.toNat) 0

theorem be_length (k u : Nat) : (be k u).length = k := by
  induction k generalizing u with
  | zero => rfl
  | succ k ih => simp [be, ih]

theorem be_cons (k u : Nat) : be (k + 1) u = UInt8.ofNat (u / 256 ^ k % 256) :: be k u := by
  induction k generalizing u with
  | zero => simp [be]
  | succ k ih =>
    rw [be, ih (u / 256)]
    simp only [List.cons_append, be]
    rw [Nat.div_div_eq_div_mul, Nat.pow_succ, Nat.mul_comm 256]

theorem digsF_le (k u : Nat) : digsF k u ≤ k := by
  induction k generalizing u with
  | zero => simp [digsF]
  | succ k ih =>
    unfold digsF
    split
    · omega
    · have := ih (u / 256); omega

theorem digs_le (u : Nat) : digs u ≤ 8 := digsF_le 8 u

/-- With enough fuel: u is below 256 to that number, and at least 256 to one less. -/
theorem digsF_spec (k u : Nat) (h : u < 256 ^ k) : u < 256 ^ digsF k u ∧ ∀ j, j < digsF k u → 256 ^ j ≤ u := by
  induction k generalizing u with
  | zero => simp at h; subst h; simp [digsF]
  | succ k ih =>
    unfold digsF
    by_cases h0 : u = 0
    · subst h0; simp
    · rw [if_neg h0]
      have hlt : u / 256 < 256 ^ k := by
        rw [Nat.pow_succ] at h
        exact Nat.div_lt_of_lt_mul (by omega)
      obtain ⟨h1, h2⟩ := ih (u / 256) hlt
      constructor
      · rw [Nat.pow_succ]; omega
      · intro j hj
        cases j with
        | zero => simp; omega
        | succ j =>
          have := h2 j (by omega)
          rw [Nat.pow_succ]
          omega

theorem digs_lt (u : Nat) (h : u < 18446744073709551616) : u < 256 ^ digs u := (digsF_spec 8 u (by simpa using h)).1
theorem digs_ge (u : Nat) (h : u < 18446744073709551616) : ∀ j, j < digs u → 256 ^ j ≤ u := (digsF_spec 8 u (by simpa using h)).2

theorem digs_unique (u k : Nat) (h : u < 18446744073709551616) (h1 : u < 256 ^ k) (h2 : ∀ j, j < k → 256 ^ j ≤ u) : digs u = k := by
  have a := digs_lt u h
  have b := digs_ge u h
  rcases Nat.lt_trichotomy (digs u) k with c | c | c
  · have := h2 _ c; omega
  · exact c
  · have := b _ c; omega

theorem bits_digs (u : Nat) (h : u < 18446744073709551616) : (Go.Lib.bitLen u + 7) / 8 = digs u := by
  by_cases h0 : u = 0
  · subst h0; decide
  · obtain ⟨_, h2, h3⟩ := Go.Lib.bitLenAux_bounds 64 u (by simpa using h) h0
    change 2 ^ (Go.Lib.bitLen u - 1) ≤ u at h2
    change u < 2 ^ (Go.Lib.bitLen u) at h3
    have e : ∀ k, (256 : Nat) ^ k = 2 ^ (8 * k) := fun k => by rw [Nat.pow_mul]
    symm
    apply digs_unique u _ h
    · rw [e]
      exact Nat.lt_of_lt_of_le h3 (Nat.pow_le_pow_right (by omega) (by omega))
    · intro j hj
      rw [e]
      exact Nat.le_trans (Nat.pow_le_pow_right (by omega) (by omega)) h2

theorem bitLen_le (u : Nat) (h : u < 18446744073709551616) : Go.Lib.bitLen u ≤ 64 := by
  have a := bits_digs u h
  have b := digs_le u
  omega

theorem val_snoc (l : List UInt8) (b : UInt8) : val (l ++ [b]) = val l * 256 + b.toNat := by simp [val]

theorem val_be (k u : Nat) (h : u < 256 ^ k) : val (be k u) = u := by
  induction k generalizing u with
  | zero => simp at h; subst h; rfl
  | succ k ih =>
    rw [be, val_snoc, ih (u / 256) (by rw [Nat.pow_succ] at h; exact Nat.div_lt_of_lt_mul (by omega))]
    have : (UInt8.ofNat (u % 256)).toNat = u % 256 := by simp
    rw [this]
    omega

theorem val_lt_from (l : List UInt8) (n : Nat) : l.foldl (fun n b => n * 256 + b.toNat) n < (n + 1) * 256 ^ l.length := by
  induction l generalizing n with
  | nil => simp
  | cons b l ih =>
    simp only [List.foldl_cons, List.length_cons]
    have h1 := ih (n * 256 + b.toNat)
    have h2 := b.toNat_lt
    have h3 : (n * 256 + b.toNat + 1) * 256 ^ l.length ≤ ((n + 1) * 256) * 256 ^ l.length := Nat.mul_le_mul_right _ (by omega)
    rw [Nat.pow_succ, Nat.mul_comm (256 ^ l.length), ← Nat.mul_assoc]
    omega

theorem val_lt (l : List UInt8) : val l < 256 ^ l.length := by
  have := val_lt_from l 0
  simpa [val] using this

theorem val_cons (b : UInt8) (l : List UInt8) : val (b :: l) = b.toNat * 256 ^ l.length + val l := by
  have h : ∀ (l : List UInt8) (n : Nat), l.foldl (fun n b => n * 256 + b.toNat) n = n * 256 ^ l.length + val l := by
    intro l
    induction l with
    | nil => intro n; simp [val]
    | cons c l ih =>
      intro n
      have e : val (c :: l) = c.toNat * 256 ^ l.length + val l := by unfold val; simp only [List.foldl_cons, Nat.zero_mul, Nat.zero_add]; rw [ih]; rfl
      rw [e]
      simp only [List.foldl_cons, List.length_cons]
      rw [ih, Nat.pow_succ, Nat.add_mul, Nat.mul_assoc, Nat.mul_comm 256, Nat.add_assoc]
  have := h l b.toNat
  unfold val
  simp only [List.foldl_cons, Nat.zero_mul, Nat.zero_add]
  exact this

theorem be_add (k u c : Nat) : be k (u + c * 256 ^ k) = be k u := by
  induction k generalizing u with
  | zero => rfl
  | succ k ih =>
    simp only [be]
    have h1 : (u + c * 256 ^ (k + 1)) / 256 = u / 256 + c * 256 ^ k := by
      rw [Nat.pow_succ, ← Nat.mul_assoc, Nat.add_mul_div_right _ _ (by decide)]
    have h2 : (u + c * 256 ^ (k + 1)) % 256 = u % 256 := by
      rw [Nat.pow_succ, ← Nat.mul_assoc, Nat.add_mul_mod_self_right]
    rw [h1, h2, ih]

theorem be_val (l : List UInt8) : be l.length (val l) = l := by
  induction l with
  | nil => rfl
  | cons b l ih =>
    rw [List.length_cons, be_cons, val_cons, Nat.add_comm, be_add, ih]
    have hv := val_lt l
    have h1 : (val l + b.toNat * 256 ^ l.length) / 256 ^ l.length = b.toNat := by
      rw [Nat.add_mul_div_right _ _ (Nat.pow_pos (by decide)), Nat.div_eq_of_lt hv, Nat.zero_add]
    rw [h1, Nat.mod_eq_of_lt b.toNat_lt]
    simp

/-- What is read as a number: its value, how many bytes it takes, what is wrong. -/
def rdNum (l : List UInt8) : Nat × Nat × Int :=
  match l with
  | [] => (0, 0, 10)
  | d :: r => if 8 < d.toNat then (0, 0, 11) else if r.length < d.toNat then (0, 0, 10) else if d.toNat ≠ 0 ∧ r[0]? = some 0 then (0, 0, 11) else (val (r.take d.toNat), 1 + d.toNat, 0)
/-- What is read as a text. -/
def rdText (l : List UInt8) : List UInt8 × Nat × Int :=
  if (rdNum l).2.2 ≠ 0 then ([], 0, (rdNum l).2.2) else if l.length - (rdNum l).2.1 < (rdNum l).1 then ([], 0, 10) else ((l.drop (rdNum l).2.1).take (rdNum l).1, (rdNum l).2.1 + (rdNum l).1, 0)

/-- What is read as a number is that number's bytes. -/
theorem enc_of_rd (l : List UInt8) (h : (rdNum l).2.2 = 0) : enc (rdNum l).1 = l.take (rdNum l).2.1 := by
  unfold rdNum at h ⊢
  split at h
  · simp at h
  · rename_i d r
    skip
    split at h
    · simp at h
    · split at h
      · simp at h
      · split at h
        · simp at h
        · rename_i h1 h2 h3
          rw [if_neg h1, if_neg h2, if_neg h3]
          simp only
          have hl : (r.take d.toNat).length = d.toNat := by rw [List.length_take]; omega
          have hv := val_lt (r.take d.toNat)
          rw [hl] at hv
          have hdd : digs (val (r.take d.toNat)) = d.toNat := by
            refine digs_unique _ _ (Nat.lt_of_lt_of_le hv (Nat.le_trans (Nat.pow_le_pow_right (by decide) (by omega : d.toNat ≤ 8)) (by decide))) hv fun j hj => ?_
            cases r with
            | nil => simp at h2; omega
            | cons c r' =>
              have hc : c ≠ 0 := fun e => h3 ⟨by omega, by simp [e]⟩
              have hc' : 1 ≤ c.toNat := by
                rcases Nat.eq_zero_or_pos c.toNat with e | e
                · exact absurd (UInt8.toNat_inj.1 (by simpa using e)) hc
                · exact e
              obtain ⟨q, hq⟩ : ∃ q, d.toNat = q + 1 := ⟨d.toNat - 1, by omega⟩
              rw [hq, List.take_succ_cons, val_cons]
              have hl' : (r'.take q).length = q := by
                rw [hq] at hl
                simpa using hl
              rw [hl']
              have : 256 ^ j ≤ 256 ^ q := Nat.pow_le_pow_right (by decide) (by omega)
              have h5 : 256 ^ q ≤ c.toNat * 256 ^ q := Nat.le_mul_of_pos_left _ hc'
              omega
          unfold enc
          rw [hdd]
          have hb := be_val (r.take d.toNat)
          rw [hl] at hb
          rw [hb, Nat.add_comm 1, List.take_succ_cons]
          simp

/-- What is written is read. -/
theorem rd_of_enc (u : Nat) (h : u < 18446744073709551616) (t : List UInt8) : rdNum (enc u ++ t) = (u, (enc u).length, 0) := by
  have hd := digs_le u
  have hl := be_length (digs u) u
  have hu8 : (UInt8.ofNat (digs u)).toNat = digs u := by simp; omega
  unfold enc rdNum
  simp only [List.cons_append]
  rw [hu8, if_neg (by omega), if_neg (by simp [hl]), if_neg]
  · have e : (be (digs u) u ++ t).take (digs u) = be (digs u) u := by rw [List.take_append_of_le_length (by omega), List.take_of_length_le (by omega)]
    rw [e, val_be _ _ (digs_lt u h)]
    simp [hl]; omega
  · rintro ⟨h0, h1⟩
    obtain ⟨q, hq⟩ : ∃ q, digs u = q + 1 := ⟨digs u - 1, by omega⟩
    have hge := digs_ge u h q (by omega)
    have hlt := digs_lt u h
    rw [hq] at h1 hlt
    rw [be_cons] at h1
    simp only [List.cons_append, List.getElem?_cons_zero, Option.some.injEq] at h1
    have h2 : u / 256 ^ q % 256 = 0 := by
      have := congrArg UInt8.toNat h1
      simpa using this
    have h3 : u / 256 ^ q < 256 := by
      rw [Nat.div_lt_iff_lt_mul (Nat.pow_pos (by decide))]
      rw [Nat.pow_succ] at hlt
      omega
    have h4 : 0 < u / 256 ^ q := Nat.div_pos hge (Nat.pow_pos (by decide))
    omega

def u64 (n : Int) : Nat := (n % 18446744073709551616).toNat

end Arb
