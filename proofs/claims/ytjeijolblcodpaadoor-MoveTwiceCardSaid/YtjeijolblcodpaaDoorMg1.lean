/- Parts of the proof that all the laws of this package share, in their order. Each says what is in it. -/
import Derived.Laws.MathBits
import Derived.Lib.ItoaNum
import Derived.Lib.UnsafeStr
import Derived.Test.YtjeijolblcodpaaDoorMg0
import Derived.Lib.ConvBytes
import Derived.Lib.FrozenHead
import Derived.Deep.RegionHeld3
import Derived.Deep.MidRow
import Derived.Laws.StructEq
import Derived.Laws.Rows
import Derived.Laws.Tables
import Derived.Laws.CopyOwn

/- The plain mathematics of package codec: what a number is as bytes, and how it is read back. Imports nothing of the program. -/
section
namespace Arb
set_option maxRecDepth 20000

/-- How many bytes a number takes, with fuel. -/
def digsF : Nat → Nat → Nat
  | 0, _ => 0
  | k + 1, u => if u = 0 then 0 else digsF k (u / 256) + 1
def digs (u : Nat) : Nat := digsF 8 u
/-- The lowest k bytes of a number, the most significant one first. -/
def be : Nat → Nat → List UInt8
  | 0, _ => []
  | k + 1, u => be k (u / 256) ++ [UInt8.ofNat (u % 256)]
def enc (u : Nat) : List UInt8 := UInt8.ofNat (digs u) :: be (digs u) u
def val : List UInt8 → Nat := fun l => l.foldl (fun n b => n * 256 + b.toNat) 0

theorem be_length (k u : Nat) : (be k u).length = k := by
  induction k generalizing u with
  | zero => rfl
  | succ k ih => simp [be, ih]

theorem be_cons (k u : Nat) : be (k + 1) u = UInt8.ofNat (u / 256 ^ k % 256) :: be k u := by
  induction k generalizing u with
  | zero => simp [be]
  | succ k ih =>
    rw [be, ih (u / 256)]
    simp only [List.cons_append, be]
    rw [Nat.div_div_eq_div_mul, Nat.pow_succ, Nat.mul_comm 256]

theorem digsF_le (k u : Nat) : digsF k u ≤ k := by
  induction k generalizing u with
  | zero => simp [digsF]
  | succ k ih =>
    unfold digsF
    split
    · omega
    · have := ih (u / 256); omega

theorem digs_le (u : Nat) : digs u ≤ 8 := digsF_le 8 u

/-- With enough fuel: u is below 256 to that number, and at least 256 to one less. -/
theorem digsF_spec (k u : Nat) (h : u < 256 ^ k) : u < 256 ^ digsF k u ∧ ∀ j, j < digsF k u → 256 ^ j ≤ u := by
  induction k generalizing u with
  | zero => simp at h; subst h; simp [digsF]
  | succ k ih =>
    unfold digsF
    by_cases h0 : u = 0
    · subst h0; simp
    · rw [if_neg h0]
      have hlt : u / 256 < 256 ^ k := by
        rw [Nat.pow_succ] at h
        exact Nat.div_lt_of_lt_mul (by omega)
      obtain ⟨h1, h2⟩ := ih (u / 256) hlt
      constructor
      · rw [Nat.pow_succ]; omega
      · intro j hj
        cases j with
        | zero => simp; omega
        | succ j =>
          have := h2 j (by omega)
          rw [Nat.pow_succ]
          omega

theorem digs_lt (u : Nat) (h : u < 18446744073709551616) : u < 256 ^ digs u := (digsF_spec 8 u (by simpa using h)).1
theorem digs_ge (u : Nat) (h : u < 18446744073709551616) : ∀ j, j < digs u → 256 ^ j ≤ u := (digsF_spec 8 u (by simpa using h)).2

theorem digs_unique (u k : Nat) (h : u < 18446744073709551616) (h1 : u < 256 ^ k) (h2 : ∀ j, j < k → 256 ^ j ≤ u) : digs u = k := by
  have a := digs_lt u h
  have b := digs_ge u h
  rcases Nat.lt_trichotomy (digs u) k with c | c | c
  · have := h2 _ c; omega
  · exact c
  · have := b _ c; omega

theorem bits_digs (u : Nat) (h : u < 18446744073709551616) : (Go.Lib.bitLen u + 7) / 8 = digs u := by
  by_cases h0 : u = 0
  · subst h0; decide
  · obtain ⟨_, h2, h3⟩ := Go.Lib.bitLenAux_bounds 64 u (by simpa using h) h0
    change 2 ^ (Go.Lib.bitLen u - 1) ≤ u at h2
    change u < 2 ^ (Go.Lib.bitLen u) at h3
    have e : ∀ k, (256 : Nat) ^ k = 2 ^ (8 * k) := fun k => by rw [Nat.pow_mul]
    symm
    apply digs_unique u _ h
    · rw [e]
      exact Nat.lt_of_lt_of_le h3 (Nat.pow_le_pow_right (by omega) (by omega))
    · intro j hj
      rw [e]
      exact Nat.le_trans (Nat.pow_le_pow_right (by omega) (by omega)) h2

theorem bitLen_le (u : Nat) (h : u < 18446744073709551616) : Go.Lib.bitLen u ≤ 64 := by
  have a := bits_digs u h
  have b := digs_le u
  omega

theorem val_snoc (l : List UInt8) (b : UInt8) : val (l ++ [b]) = val l * 256 + b.toNat := by simp [val]

theorem val_be (k u : Nat) (h : u < 256 ^ k) : val (be k u) = u := by
  induction k generalizing u with
  | zero => simp at h; subst h; rfl
  | succ k ih =>
    rw [be, val_snoc, ih (u / 256) (by rw [Nat.pow_succ] at h; exact Nat.div_lt_of_lt_mul (by omega))]
    have : (UInt8.ofNat (u % 256)).toNat = u % 256 := by simp
    rw [this]
    omega

theorem val_lt_from (l : List UInt8) (n : Nat) : l.foldl (fun n b => n * 256 + b.toNat) n < (n + 1) * 256 ^ l.length := by
  induction l generalizing n with
  | nil => simp
  | cons b l ih =>
    simp only [List.foldl_cons, List.length_cons]
    have h1 := ih (n * 256 + b.toNat)
    have h2 := b.toNat_lt
    have h3 : (n * 256 + b.toNat + 1) * 256 ^ l.length ≤ ((n + 1) * 256) * 256 ^ l.length := Nat.mul_le_mul_right _ (by omega)
    rw [Nat.pow_succ, Nat.mul_comm (256 ^ l.length), ← Nat.mul_assoc]
    omega

theorem val_lt (l : List UInt8) : val l < 256 ^ l.length := by
  have := val_lt_from l 0
  simpa [val] using this

theorem val_cons (b : UInt8) (l : List UInt8) : val (b :: l) = b.toNat * 256 ^ l.length + val l := by
  have h : ∀ (l : List UInt8) (n : Nat), l.foldl (fun n b => n * 256 + b.toNat) n = n * 256 ^ l.length + val l := by
    intro l
    induction l with
    | nil => intro n; simp [val]
    | cons c l ih =>
      intro n
      have e : val (c :: l) = c.toNat * 256 ^ l.length + val l := by unfold val; simp only [List.foldl_cons, Nat.zero_mul, Nat.zero_add]; rw [ih]; rfl
      rw [e]
      simp only [List.foldl_cons, List.length_cons]
      rw [ih, Nat.pow_succ, Nat.add_mul, Nat.mul_assoc, Nat.mul_comm 256, Nat.add_assoc]
  have := h l b.toNat
  unfold val
  simp only [List.foldl_cons, Nat.zero_mul, Nat.zero_add]
  exact this

theorem be_add (k u c : Nat) : be k (u + c * 256 ^ k) = be k u := by
  induction k generalizing u with
  | zero => rfl
  | succ k ih =>
    simp only [be]
    have h1 : (u + c * 256 ^ (k + 1)) / 256 = u / 256 + c * 256 ^ k := by
      rw [Nat.pow_succ, ← Nat.mul_assoc, Nat.add_mul_div_right _ _ (by decide)]
    have h2 : (u + c * 256 ^ (k + 1)) % 256 = u % 256 := by
      rw [Nat.pow_succ, ← Nat.mul_assoc, Nat.add_mul_mod_self_right]
    rw [h1, h2, ih]

theorem be_val (l : List UInt8) : be l.length (val l) = l := by
  induction l with
  | nil => rfl
  | cons b l ih =>
    rw [List.length_cons, be_cons, val_cons, Nat.add_comm, be_add, ih]
    have hv := val_lt l
    have h1 : (val l + b.toNat * 256 ^ l.length) / 256 ^ l.length = b.toNat := by
      rw [Nat.add_mul_div_right _ _ (Nat.pow_pos (by decide)), Nat.div_eq_of_lt hv, Nat.zero_add]
    rw [h1, Nat.mod_eq_of_lt b.toNat_lt]
    simp

/-- What is read as a number: its value, how many bytes it takes, what is wrong. -/
def rdNum (l : List UInt8) : Nat × Nat × Int :=
  match l with
  | [] => (0, 0, 10)
  | d :: r => if 8 < d.toNat then (0, 0, 11) else if r.length < d.toNat then (0, 0, 10) else if d.toNat ≠ 0 ∧ r[0]? = some 0 then (0, 0, 11) else (val (r.take d.toNat), 1 + d.toNat, 0)
/-- What is read as a text. -/
def rdText (l : List UInt8) : List UInt8 × Nat × Int :=
  if (rdNum l).2.2 ≠ 0 then ([], 0, (rdNum l).2.2) else if l.length - (rdNum l).2.1 < (rdNum l).1 then ([], 0, 10) else ((l.drop (rdNum l).2.1).take (rdNum l).1, (rdNum l).2.1 + (rdNum l).1, 0)

/-- What is read as a number is that number's bytes. -/
theorem enc_of_rd (l : List UInt8) (h : (rdNum l).2.2 = 0) : enc (rdNum l).1 = l.take (rdNum l).2.1 := by
  unfold rdNum at h ⊢
  split at h
  · simp at h
  · rename_i d r
    skip
    split at h
    · simp at h
    · split at h
      · simp at h
      · split at h
        · simp at h
        · rename_i h1 h2 h3
          rw [if_neg h1, if_neg h2, if_neg h3]
          simp only
          have hl : (r.take d.toNat).length = d.toNat := by rw [List.length_take]; omega
          have hv := val_lt (r.take d.toNat)
          rw [hl] at hv
          have hdd : digs (val (r.take d.toNat)) = d.toNat := by
            refine digs_unique _ _ (Nat.lt_of_lt_of_le hv (Nat.le_trans (Nat.pow_le_pow_right (by decide) (by omega : d.toNat ≤ 8)) (by decide))) hv fun j hj => ?_
            cases r with
            | nil => simp at h2; omega
            | cons c r' =>
              have hc : c ≠ 0 := fun e => h3 ⟨by omega, by simp [e]⟩
              have hc' : 1 ≤ c.toNat := by
                rcases Nat.eq_zero_or_pos c.toNat with e | e
                · exact absurd (UInt8.toNat_inj.1 (by simpa using e)) hc
                · exact e
              obtain ⟨q, hq⟩ : ∃ q, d.toNat = q + 1 := ⟨d.toNat - 1, by omega⟩
              rw [hq, List.take_succ_cons, val_cons]
              have hl' : (r'.take q).length = q := by
                rw [hq] at hl
                simpa using hl
              rw [hl']
              have : 256 ^ j ≤ 256 ^ q := Nat.pow_le_pow_right (by decide) (by omega)
              have h5 : 256 ^ q ≤ c.toNat * 256 ^ q := Nat.le_mul_of_pos_left _ hc'
              omega
          unfold enc
          rw [hdd]
          have hb := be_val (r.take d.toNat)
          rw [hl] at hb
          rw [hb, Nat.add_comm 1, List.take_succ_cons]
          simp

/-- What is written is read. -/
theorem rd_of_enc (u : Nat) (h : u < 18446744073709551616) (t : List UInt8) : rdNum (enc u ++ t) = (u, (enc u).length, 0) := by
  have hd := digs_le u
  have hl := be_length (digs u) u
  have hu8 : (UInt8.ofNat (digs u)).toNat = digs u := by simp; omega
  unfold enc rdNum
  simp only [List.cons_append]
  rw [hu8, if_neg (by omega), if_neg (by simp [hl]), if_neg]
  · have e : (be (digs u) u ++ t).take (digs u) = be (digs u) u := by rw [List.take_append_of_le_length (by omega), List.take_of_length_le (by omega)]
    rw [e, val_be _ _ (digs_lt u h)]
    simp [hl]; omega
  · rintro ⟨h0, h1⟩
    obtain ⟨q, hq⟩ : ∃ q, digs u = q + 1 := ⟨digs u - 1, by omega⟩
    have hge := digs_ge u h q (by omega)
    have hlt := digs_lt u h
    rw [hq] at h1 hlt
    rw [be_cons] at h1
    simp only [List.cons_append, List.getElem?_cons_zero, Option.some.injEq] at h1
    have h2 : u / 256 ^ q % 256 = 0 := by
      have := congrArg UInt8.toNat h1
      simpa using this
    have h3 : u / 256 ^ q < 256 := by
      rw [Nat.div_lt_iff_lt_mul (Nat.pow_pos (by decide))]
      rw [Nat.pow_succ] at hlt
      omega
    have h4 : 0 < u / 256 ^ q := Nat.div_pos hge (Nat.pow_pos (by decide))
    omega

def u64 (n : Int) : Nat := (n % 18446744073709551616).toNat

end Arb
end

/- The mathematics of reading: what a reader answers, and what it is then. -/
section
namespace Arb
set_option maxRecDepth 20000
open Go Go.RowKit
set_option linter.unusedVariables false

/-- Which 64-bit number an int is. -/
theorem wrap_u64 (n : Int) : IntKind.u64.wrap n = ((u64 n : Nat) : Int) := by
  rw [IntKind.wrap_u64]; unfold u64; omega
theorem u64_lt (n : Int) : u64 n < 18446744073709551616 := by unfold u64; omega

theorem enc_length (u : Nat) : (enc u).length ≤ 9 := by
  unfold enc; rw [List.length_cons, be_length]; have := digs_le u; omega

theorem rdNum_used (l : List UInt8) : (rdNum l).2.1 ≤ l.length := by
  unfold rdNum
  split
  · simp
  · split
    · simp
    · split
      · simp
      · split
        · simp
        · simp; omega
theorem rdNum_lt (l : List UInt8) : (rdNum l).1 < 18446744073709551616 := by
  unfold rdNum
  split
  · simp
  · rename_i d r
    split
    · simp
    · split
      · simp
      · split
        · simp
        · rename_i h _ _
          have h1 := val_lt (r.take d.toNat)
          have h2 : (r.take d.toNat).length ≤ 8 := by rw [List.length_take]; omega
          exact Nat.lt_of_lt_of_le h1 (Nat.le_trans (Nat.pow_le_pow_right (by decide) h2) (by decide))

theorem rdText_used (l : List UInt8) : (rdText l).2.1 ≤ l.length := by
  have := rdNum_used l
  unfold rdText
  split
  · simp
  · split
    · simp
    · simp; omega

/-- What End answers. -/
def endOf (l : List UInt8) (e0 : Int) : Int := if e0 ≠ 0 then e0 else if l ≠ [] then 12 else 0

/-- What Num answers, and what the reader is then. -/
def stepNum (l : List UInt8) (e0 : Int) : Nat × List UInt8 × Int := if e0 ≠ 0 then (0, l, e0) else ((rdNum l).1, l.drop (rdNum l).2.1, (rdNum l).2.2)
/-- What Text answers, and what the reader is then. -/
def stepText (l : List UInt8) (e0 : Int) : List UInt8 × List UInt8 × Int := if e0 ≠ 0 then ([], l, e0) else ((rdText l).1, l.drop (rdText l).2.1, (rdText l).2.2)

/-- What the reference's Text answers, and what its reader is then. -/
def refOf (p : Nat × List UInt8 × Int) : List UInt8 × List UInt8 × Int :=
  if p.2.2 ≠ 0 then ([], p.2.1, p.2.2) else if p.2.1.length < p.1 then ([], p.2.1, 10) else (p.2.1.take p.1, p.2.1.drop p.1, 0)
def refText (l : List UInt8) (e0 : Int) : List UInt8 × List UInt8 × Int := refOf (stepNum l e0)

theorem stepNum_len (l : List UInt8) (e0 : Int) : (stepNum l e0).2.1.length ≤ l.length := by
  unfold stepNum
  split
  · exact Nat.le_refl _
  · simp
theorem stepNum_lt (l : List UInt8) (e0 : Int) : (stepNum l e0).1 < 18446744073709551616 := by
  unfold stepNum
  split
  · simp
  · exact rdNum_lt l

theorem u64_wrap (n : Nat) (h : n < 18446744073709551616) : u64 (wrap64 (n : Int)) = n := by
  unfold u64 wrap64; omega
theorem rdNum_err (l : List UInt8) (h : (rdNum l).2.2 ≠ 0) : (rdNum l).1 = 0 := by
  unfold rdNum at h ⊢
  split
  · rfl
  · rename_i d r
    simp only at h
    split
    · rfl
    · split
      · rfl
      · split
        · rfl
        · rename_i h1 h2 h3
          rw [if_neg h1, if_neg h2, if_neg h3] at h
          exact absurd rfl h

end Arb
end

/- The mathematics of operations. -/
section
namespace Arb
set_option maxRecDepth 20000
open Go Go.RowKit
set_option linter.unusedVariables false

/-- An operation. -/
structure Opn where
  stamp : St
  seq : Int
  kind : Int
  node : St
  dir : Bool
  parent : St
  name : List UInt8
  manifest : List UInt8
deriving DecidableEq

def St.zero : St := ⟨0, 0⟩
def Opn.zero : Opn := ⟨St.zero, 0, 0, St.zero, false, St.zero, [], []⟩
def placeOk (s : St) : Bool := decide (s = St.zero) || decide (s.right = 0)
/-- Is an operation as its kind has it? -/
def Opn.shape (x : Opn) : Bool :=
  if x.kind = 1 then decide (x.node = x.stamp) && placeOk x.parent && decide (x.parent ≠ x.node) && ((!x.dir && decide (x.manifest.length ≤ 600)) || (x.dir && decide (x.manifest = [])))
  else if x.kind = 2 then decide (x.node.right = 0) && !x.dir && placeOk x.parent && decide (x.manifest = [])
  else if x.kind = 3 then decide (x.node.right = 0) && !x.dir && (decide (x.parent = St.zero) && decide (x.name = [])) && decide (x.manifest.length ≤ 600)
  else if x.kind = 4 then decide (x.node.right = 0) && !x.dir && (decide (x.parent = St.zero) && decide (x.name = [])) && decide (x.manifest = [])
  else false
def Opn.right (x : Opn) : Int :=
  if x.stamp.right ≠ 0 ∨ x.seq < 1 ∨ 1099511627776 < x.seq then 20
  else if (x.kind = 1 ∨ x.kind = 2) ∧ nmRight x.name ≠ 0 then 23
  else if x.shape = false then 22 else 0
def encText (l : List UInt8) : List UInt8 := enc (u64 l.length) ++ l
def numsOf (x : Opn) : List Int := [x.stamp.count, x.stamp.who, x.seq, x.kind, x.node.count, x.node.who, if x.dir then 1 else 0, x.parent.count, x.parent.who]
def encNums (l : List Int) : List UInt8 := (l.map fun n => enc (u64 n)).flatten
def Opn.bytes (x : Opn) : List UInt8 := encNums (numsOf x) ++ encText x.name ++ encText x.manifest
def Opn.encode (x : Opn) : List UInt8 × Int := if x.right ≠ 0 then ([], x.right) else (x.bytes, 0)

/-- A reader: what is left, and what is wrong. -/
abbrev Rdr := List UInt8 × Int
def rNum (r : Rdr) : Int × Rdr := (wrap64 ((stepNum r.1 r.2).1 : Int), ((stepNum r.1 r.2).2.1, (stepNum r.1 r.2).2.2))
def rText (r : Rdr) : List UInt8 × Rdr := ((refText r.1 r.2).1, ((refText r.1 r.2).2.1, (refText r.1 r.2).2.2))
def rNums : Nat → Rdr → List Int × Rdr
  | 0, r => ([], r)
  | n + 1, r => ((rNum r).1 :: (rNums n (rNum r).2).1, (rNums n (rNum r).2).2)
/-- Nine numbers and two texts, as an operation, and the seventh number. -/
def opOf (l : List Int) (a b : List UInt8) : Opn :=
  ⟨⟨l.getD 0 0, l.getD 1 0⟩, l.getD 2 0, l.getD 3 0, ⟨l.getD 4 0, l.getD 5 0⟩, decide (l.getD 6 0 = 1), ⟨l.getD 7 0, l.getD 8 0⟩, a, b⟩
def rOp (r : Rdr) : Opn × Int × Rdr :=
  (opOf (rNums 9 r).1 (rText (rNums 9 r).2).1 (rText (rText (rNums 9 r).2).2).1, (rNums 9 r).1.getD 6 0, (rText (rText (rNums 9 r).2).2).2)
def decodeRes (p : Opn × Int × Rdr) : Opn × Int :=
  if endOf p.2.2.1 p.2.2.2 ≠ 0 then (Opn.zero, endOf p.2.2.1 p.2.2.2) else if (p.2.1 ≠ 0 ∧ p.2.1 ≠ 1) ∨ p.1.right ≠ 0 then (Opn.zero, 11) else (p.1, 0)
def decodeOf (data : List UInt8) : Opn × Int := decodeRes (rOp (data, 0))

/-- A set with one more. -/
def aheadOf (set : List Opn) (x : Opn) : Bool := decide (x.seq = 1) || set.any fun y => decide (y.stamp.who = x.stamp.who ∧ y.seq = x.seq - 1)
def twiceOf (set : List Opn) (x : Opn) : Bool := set.any fun y => decide (y.stamp = x.stamp ∨ (y.stamp.who = x.stamp.who ∧ y.seq = x.seq))
def lateOne (x y : Opn) : Bool := (decide (y.stamp.who = x.stamp.who ∧ y.seq = x.seq - 1) && !y.stamp.less x.stamp) || (decide (y.stamp.who = x.stamp.who ∧ x.seq < y.seq) && !x.stamp.less y.stamp)
def lateOf (set : List Opn) (x : Opn) : Bool := set.any (lateOne x)
def insAt (set : List Opn) (x : Opn) : List Opn := set.takeWhile (fun y => !x.stamp.less y.stamp) ++ x :: set.dropWhile (fun y => !x.stamp.less y.stamp)
def addOf (set : List Opn) (x : Opn) : List Opn × Int :=
  if x.right ≠ 0 then ([], x.right) else if x ∈ set then (set, 0) else if twiceOf set x then ([], 24) else if !aheadOf set x then ([], 26) else if lateOf set x then ([], 20)
  else if 400 ≤ set.length then ([], 40) else (insAt set x, 0)

/-- How many operations of each device. -/
def topWho (set : List Opn) : Int := set.foldl (fun n y => if y.stamp.who < 15 then max n (y.stamp.who + 1) else n) 0
def numOf (set : List Opn) (w : Nat) : Int := (set.countP fun y => decide (y.stamp.who = (w : Int)) : Nat)
def vectorOf (set : List Opn) : List Int := (List.range (topWho set).toNat).map (numOf set)
/-- A vector's number of a device, of whatever int. -/
def iAt (v : List Int) (w : Int) : Int := if w < 0 then 0 else vAt v w.toNat
def sinceOf (set : List Opn) (v : List Int) : List Opn := set.filter fun y => decide (iAt v y.stamp.who < y.seq)
end Arb
end

/- A slice that the call owns, the mark behind a row that came of a string among them: append, stores, bytes of a string. -/
section
namespace Arb
set_option maxRecDepth 20000
set_option linter.unusedVariables false
open Go Go.RowKit

/-- The slice value v, of n elements of 'size' cells, is the call's own (its block is none below 'base'); none of its cells is frozen. -/
def Row (w : World) (base : Nat) (e : TypeId) (size : Nat) (v : Value) (n : Nat) (xs : List Value) : Prop :=
  xs.length = n * size ∧ ((v = .slice none 0 0 ∧ n = 0) ∨ ∃ g cap cur fz, v = .slice (some ⟨g, 0, none⟩) n cap ∧ base ≤ g ∧ w.heap[g]? = some (.cells cur e fz) ∧ (fz.2 = 0 ∨ cur.size ≤ fz.1) ∧ n ≤ cap ∧ cap ≤ maxLen ∧
    cur.size = cap * size ∧ cur.toList.take (n * size) = xs)

section
variable {w : World} {base : Nat} {e : TypeId} {size : Nat} {v : Value} {n : Nat} {xs : List Value}

theorem Row.of (h : w.ownsRow base e size v n xs) : Row w base e size v n xs := by
  refine ⟨h.1, ?_⟩
  rcases h.2 with hn | ⟨g, cap, cur, hv, hb, hg, rest⟩
  · exact .inl hn
  · exact .inr ⟨g, cap, cur, (0, 0), hv, hb, hg, .inl rfl, rest⟩
theorem Row.nil (w : World) (base : Nat) (e : TypeId) (size : Nat) : Row w base e size (.slice none 0 0) 0 [] := ⟨by simp, .inl ⟨rfl, rfl⟩⟩
theorem Row.made (w : World) (cur : Array Value) (e : TypeId) (n size : Nat) (hb : base ≤ w.heap.size) (hn : n ≤ maxLen) (hs : cur.size = n * size) :
    Row (w.alloc (.cells cur e)) base e size (.slice (some ⟨w.heap.size, 0, none⟩) n n) n cur.toList :=
  ⟨by simpa using hs, .inr ⟨_, n, cur, (0, 0), rfl, hb, heap_alloc_new w _, .inl rfl, Nat.le_refl _, hn, hs, List.take_of_length_le (by simp; omega)⟩⟩
theorem Row.lt (h : Row w base e size v n xs) : ∀ k, v.ownBlock = some k → base ≤ k ∧ k < w.heap.size := by
  intro k hk
  rcases h.2 with ⟨rfl, _⟩ | ⟨g, cap, cur, fz, rfl, hb, hg, _⟩
  · simp [Value.ownBlock] at hk
  · simp [Value.ownBlock] at hk
    subst hk
    exact ⟨hb, (Array.getElem?_eq_some_iff.1 hg).1⟩
theorem Row.kept {w' : World} {row : Option Nat} (h : Row w base e size v n xs) (hg : w.grownBy w' row) (hne : v.ownBlock = none ∨ v.ownBlock ≠ row) : Row w' base e size v n xs := by
  refine ⟨h.1, ?_⟩
  rcases h.2 with hn | ⟨g, cap, cur, fz, rfl, hb, hgg, rest⟩
  · exact .inl hn
  · refine .inr ⟨g, cap, cur, fz, rfl, hb, ?_, rest⟩
    rw [hg.block g (Array.getElem?_eq_some_iff.1 hgg).1 (by simpa [Value.ownBlock] using hne)]
    exact hgg
theorem Row.still {w' : World} (h : Row w base e size v n xs) (hg : w.grownBy w' none) : Row w' base e size v n xs := h.kept hg (by cases v.ownBlock <;> simp)
theorem Row.below {w' : World} (h : Row w base e size v n xs) (hb : Below w.heap.size w w') : Row w' base e size v n xs :=
  h.still ⟨hb.os, hb.tape, hb.output, hb.size, fun k hk _ => hb.block k hk⟩
theorem Row.alloc (h : Row w base e size v n xs) (o : Obj) : Row (w.alloc o) base e size v n xs := h.still (World.grownBy_alloc w o none)
theorem Row.weaken {b : Nat} (h : Row w base e size v n xs) (hb : b ≤ base) : Row w b e size v n xs := by
  refine ⟨h.1, ?_⟩
  rcases h.2 with hn | ⟨g, cap, cur, fz, hv, hg, rest⟩
  · exact .inl hn
  · exact .inr ⟨g, cap, cur, fz, hv, Nat.le_trans hb hg, rest⟩
/-- A row that has something has a block: its cells, none of them frozen. -/
theorem Row.open (h : Row w base e size v n xs) (hn : 0 < n) : ∃ g cap, v = .slice (some ⟨g, 0, none⟩) n cap ∧ n ≤ cap ∧ base ≤ g ∧ g < w.heap.size ∧ (∀ j u, xs[j]? = some u → w.cell? ⟨g, j, none⟩ = some u) ∧ (∀ j, j < n * size → w.frozen? ⟨g, j, none⟩ = false) := by
  rcases h.2 with ⟨_, h0⟩ | ⟨g, cap, cur, fz, rfl, hb, hg, hfz, hnc, _, hcs, ht⟩
  · omega
  · refine ⟨g, cap, rfl, hnc, hb, (Array.getElem?_eq_some_iff.1 hg).1, ?_, ?_⟩
    · intro j u hu
      rw [cell_of_row w g j cur e fz hg]
      rw [← ht, List.getElem?_take] at hu
      split at hu
      · simpa using hu
      · cases hu
    · intro j hj
      have : n * size ≤ cap * size := Nat.mul_le_mul_right _ hnc
      obtain ⟨lo, hi⟩ := fz
      simp only [World.frozen?, hg, Bool.and_eq_false_iff, decide_eq_false_iff_not]
      simp only at hfz
      omega
theorem Row.set (h : Row w base e size v n xs) (g cap j : Nat) (hv : v = .slice (some ⟨g, 0, none⟩) n cap) (u : Value) :
    Row (w.setCell ⟨g, j, none⟩ u) base e size v n (xs.set j u) := by
  subst hv
  rcases h.2 with ⟨h1, _⟩ | ⟨g', cap', cur, fz, h1, hb, hg, hfz, hnc, hcm, hcs, ht⟩
  · cases h1
  · cases h1
    refine ⟨by simpa using h.1, .inr ⟨g, cap, cur.setIfInBounds j u, fz, rfl, hb, by rw [setCell_eq_setRow w g j cur e fz u hg]; exact setRow_heap _ _ _ _ _ _ hg, by simpa using hfz, hnc, hcm, by simpa using hcs, ?_⟩⟩
    rw [Array.toList_setIfInBounds, ← ht, List.take_set]
theorem Rd.row (h : Row w base e size v n xs) : Rd w size v n xs := by
  refine ⟨h.1, ?_⟩
  rcases Nat.eq_zero_or_pos n with h0 | h0
  · subst h0
    rcases h.2 with h2 | ⟨g, cap, cur, fz, rfl, _, _, _, _, _, _, _⟩
    · exact .inl ⟨h2.1, rfl⟩
    · refine .inr ⟨_, cap, rfl, fun j u hu => ?_⟩
      have : xs = [] := List.eq_nil_of_length_eq_zero (by simpa using h.1)
      subst this
      simp at hu
  · obtain ⟨g, cap, hv, _, _, _, hc, _⟩ := h.open h0
    exact .inr ⟨_, cap, hv, fun j u hu => by rw [Go.Lib.addr_add, Nat.zero_add]; exact hc j u hu⟩
end

section
variable {P : Program} {w : World}

theorem run_storeCells_row (P : Program) (g o : Nat) (t : TypeId) (fz : Nat × Nat) : ∀ (vs : List Value) (i : Nat) (cur : Array Value) (w : World), w.heap[g]? = some (.cells cur t fz) → (fz.2 = 0 ∨ cur.size ≤ fz.1) → o + i + vs.length ≤ cur.size → (∀ v ∈ vs, v.oneCell' = true) →
    (storeCells ⟨g, o, none⟩ vs i).run P w = .ok () (w.setRow g (cur.toList.take (o + i) ++ vs ++ cur.toList.drop (o + i + vs.length)).toArray)
  | [], i, cur, w, hg, _, _, _ => by
    simp only [storeCells, List.append_nil, List.length_nil, Nat.add_zero, List.take_append_drop, Array.toArray_toList]
    rw [setRow_self w g cur t fz hg]
    rfl
  | v :: rest, i, cur, w, hg, hfz, hl, h1 => by
    have hi : o + i < cur.size := by simp at hl; omega
    have hadd : (⟨g, o, none⟩ : Addr).add i = ⟨g, o + i, none⟩ := by unfold Addr.add; split <;> simp_all
    have hcell : w.cell? ⟨g, o + i, none⟩ = some cur[o + i] := by simp [World.cell?, hg, hi]
    have hfro : w.frozen? ⟨g, o + i, none⟩ = false := by
      obtain ⟨lo, hi'⟩ := fz
      simp only [World.frozen?, hg, Bool.and_eq_false_iff, decide_eq_false_iff_not]
      simp only at hfz
      omega
    have hst : (store ((⟨g, o, none⟩ : Addr).add i) v).run P w = .ok () (w.setRow g (cur.setIfInBounds (o + i) v)) := by
      rw [hadd, run_store P w _ v _ (h1 v (by simp)), hcell]
      simp [hfro, setCell_eq_setRow w g (o + i) cur t fz v hg]
    have ih := run_storeCells_row P g o t fz rest (i + 1) (cur.setIfInBounds (o + i) v) (w.setRow g (cur.setIfInBounds (o + i) v)) (setRow_heap w g cur _ t _ hg) (by simpa using hfz) (by simp at hl ⊢; omega) (fun x hx => h1 x (by simp [hx]))
    simp only [storeCells, Sem.run_bind, hst, Result.andThen_ok, ih, setRow_setRow]
    congr 3
    have e := list_seg_step cur.toList (o + i) v rest (by simp at hl ⊢; omega)
    simpa [Array.toList_setIfInBounds, Nat.add_assoc] using e

/-- append onto a row of the call's own, from whatever slice. -/
theorem run_append_row (base : Nat) (t ty e : TypeId) (i : TypeInfo) (z : Value) (size bytes : Nat) (ht : P.underlying t = some (.slice e)) (hi : P.info? e = some i) (hz : i.zero = some z)
    (hsize : i.size = size) (hby : i.bytes = bytes) (hzs : z.cells.size = size) (hsz : 0 < size)
    (v : Value) (n : Nat) (xs : List Value) (hown : Row w base e size v n xs)
    (vx : Value) (m : Nat) (news : List Value) (hr : Rd w size vx m news) (h1 : ∀ u ∈ news, u.oneCell' = true)
    (h63 : n + m ≤ maxLen) (hbytes : (n + m) * bytes ≤ 140737488355328) (hbase : base ≤ w.heap.size) :
    ∃ v' w', (Builtin.append_ #[t, t] ty #[v, vx]).run P w = .ok v' w' ∧ Row w' base e size v' (n + m) (xs ++ news) ∧ w.grownBy w' v.ownBlock ∧ (v'.ownBlock = v.ownBlock ∨ v'.ownBlock = some w.heap.size) ∧ (∀ g c, v = .slice (some ⟨g, 0, none⟩) n c → ∀ j, j < n * size → w'.cell? ⟨g, j, none⟩ = w.cell? ⟨g, j, none⟩) := by
  rcases hown.2 with ⟨rfl, rfl⟩ | ⟨g, cap, cur, fz, rfl, hbg, hg, hfz, hnc, hcm, hcs, htake⟩
  · obtain ⟨v', w', h2, h3, h4, h5⟩ := run_append_rd (P := P) base t ty e i z size bytes ht hi hz hsize hby hzs hsz (.slice none 0 0) 0 xs ⟨hown.1, .inl ⟨rfl, rfl⟩⟩ vx m news hr h1 h63 hbytes hbase
    exact ⟨v', w', h2, Row.of h3, h4, h5, fun g c h => by cases h⟩
  · subst hsize
    subst hby
    have hlen : (xs ++ news).length = (n + m) * i.size := by rw [List.length_append, hown.1, hr.1, Nat.add_mul]
    rcases hr.2 with ⟨rfl, rfl⟩ | ⟨ad, c, rfl, hc⟩
    · have hn : news = [] := List.eq_nil_of_length_eq_zero (by simpa using hr.1)
      subst hn
      refine ⟨.slice (some ⟨g, 0, none⟩) n cap, w, ?_, by simpa using hown, ⟨rfl, rfl, rfl, Nat.le_refl _, fun _ _ _ => rfl⟩, .inl rfl, fun _ _ _ _ _ => rfl⟩
      simp [Builtin.append_, run_underlying ht, Go.sizeOf, typeInfo, hi, Builtin.lenOf, Builtin.firstCells, storeCells, hnc]
    · by_cases hroom : n + m ≤ cap
      · have hfit : n * i.size + news.length ≤ cur.size := by rw [hr.1, hcs, ← Nat.add_mul]; exact Nat.mul_le_mul_right _ hroom
        have hf := run_firstCells_some (P := P) w i.size m ad m c news hr.1 hc
        have hst := run_storeCells_row P g (n * i.size) e fz news 0 cur w hg hfz (by simpa using hfit) h1
        simp only [Nat.add_zero] at hst
        have hrun : (Builtin.append_ #[t, t] ty #[.slice (some ⟨g, 0, none⟩) n cap, .slice (some ad) m c]).run P w =
            .ok (.slice (some ⟨g, 0, none⟩) (n + m) cap) (w.setRow g (cur.toList.take (n * i.size) ++ news ++ cur.toList.drop (n * i.size + news.length)).toArray) := by
          simp [Builtin.append_, run_underlying ht, Go.sizeOf, typeInfo, hi, Builtin.lenOf, hroom, hf, Addr.add_lit, hst]
        have hsz2 : (cur.toList.take (n * i.size) ++ news ++ cur.toList.drop (n * i.size + news.length)).toArray.size = cur.size := by
          simp only [List.size_toArray, List.length_append, List.length_take, List.length_drop, Array.length_toList]
          omega
        refine ⟨_, _, hrun, ⟨hlen, .inr ⟨g, cap, _, fz, rfl, hbg, setRow_heap w g cur _ e _ hg, by rw [hsz2]; exact hfz, hroom, hcm, by rw [hsz2]; exact hcs, ?_⟩⟩, ⟨rfl, rfl, rfl, by simp, fun k _ hk => setRow_other w g k _ (fun e => hk (by simp [Value.ownBlock, e]))⟩, .inl rfl, ?_⟩
        · rw [htake, ← hlen]
          exact List.take_left
        · rintro g2 c2 h2 j hj
          cases h2
          rw [cell_of_row _ g j _ e _ (setRow_heap w g cur _ e _ hg), cell_of_row w g j cur e _ hg]
          simp only [List.getElem?_toArray, List.append_assoc]
          rw [List.getElem?_append_left (by rw [List.length_take, Array.length_toList]; omega), List.getElem?_take, if_pos hj, Array.getElem?_toList]
      · obtain ⟨g', cap', hv', _, _, _, hcells, _⟩ : ∃ g' cap', Value.slice (some ⟨g, 0, none⟩) n cap = .slice (some ⟨g', 0, none⟩) n cap' ∧ n ≤ cap' ∧ base ≤ g' ∧ g' < w.heap.size ∧ (∀ j u, xs[j]? = some u → w.cell? ⟨g', j, none⟩ = some u) ∧ True := by
          refine ⟨g, cap, rfl, hnc, hbg, (Array.getElem?_eq_some_iff.1 hg).1, ?_, trivial⟩
          intro j u hu
          rw [cell_of_row w g j cur e fz hg]
          rw [← htake, List.getElem?_take] at hu
          split at hu
          · simpa using hu
          · cases hu
        cases hv'
        have hsmall : n + m ≤ 9223372036854775807 := by simp only [maxLen] at h63; omega
        have holds : ∀ j u, xs[j]? = some u → w.cell? ((⟨g, 0, none⟩ : Addr).add j) = some u := fun j u hu => by rw [Go.Lib.addr_add, Nat.zero_add]; exact hcells j u hu
        have hrun := run_append_grow (P := P) w t ty e i z ht hi hz ⟨g, 0, none⟩ n cap xs hown.1 holds ad m c news hr.1 hc (by omega) (by omega) (growslice_fits (by omega) hbytes)
        have hge := grownCap_ge w (n + m) cap e
        have hcm2 : grownCap w (n + m) cap e ≤ maxLen := grownCap_le_maxLen w (n + m) cap e h63
        refine ⟨_, _, hrun, ⟨hlen, .inr ⟨w.heap.size, _, _, (0, 0), rfl, hbase, heap_alloc_new w.drew _, .inl rfl, hge, hcm2, ?_, ?_⟩⟩, ⟨rfl, rfl, rfl, by simp, fun k hk _ => Below.heap_alloc w.drew _ k hk⟩, .inr rfl, fun g2 c2 h2 j hj => ?_⟩
        · simp only [Array.size_append, List.size_toArray, size_zeroCells, hzs, hown.1, hr.1, ← Nat.add_mul]
          congr 1
          omega
        · simp only [Array.toList_append, List.append_assoc]
          rw [← List.append_assoc, ← hlen]
          exact List.take_left
        · cases h2
          exact World.cell?_of_block (w := w) (Below.heap_alloc w.drew _ g (Array.getElem?_eq_some_iff.1 hg).1)

theorem wpList_append_row {ops : Array Oper} {rest : List Oper} {o : Oper} {a : Act} {Q : Exit → Act → World → Prop} (hgd : o.guard = none) (s x : Operand) (t : TypeId)
    (ho : o.op = .call { callee := .builtin .append, args := #[s, x], argTypes := #[t, t] })
    (base : Nat) (e : TypeId) (i : TypeInfo) (z : Value) (size bytes : Nat) (ht : P.underlying t = some (.slice e)) (hi : P.info? e = some i) (hz : i.zero = some z)
    (hsize : i.size = size) (hby : i.bytes = bytes) (hzs : z.cells.size = size) (hsz : 0 < size)
    (v : Value) (n : Nat) (xs : List Value) (hs : a.eval s = v) (hown : Row w base e size v n xs)
    (vx : Value) (m : Nat) (news : List Value) (hx : a.eval x = vx) (hr : Rd w size vx m news) (h1 : ∀ u ∈ news, u.oneCell' = true)
    (h63 : n + m ≤ maxLen) (hbytes : (n + m) * bytes ≤ 140737488355328) (hbase : base ≤ w.heap.size)
    (h : ∀ v' w', Row w' base e size v' (n + m) (xs ++ news) → w.grownBy w' v.ownBlock → (v'.ownBlock = v.ownBlock ∨ v'.ownBlock = some w.heap.size) → wpList P ops Q rest (a.put o.dst v') w') :
    wpList P ops Q (o :: rest) a w := by
  refine wpList_plain hgd fun K hK => ?_
  obtain ⟨v', w', hrun, h2, h3, h4, _⟩ := run_append_row (P := P) base t o.type e i z size bytes ht hi hz hsize hby hzs hsz v n xs hown vx m news hr h1 h63 hbytes hbase
  unfold Oper.wp execOp
  simp only [ho, resolve, invoke, builtin, Sem.run_bind, Sem.run_pure, Result.andThen_ok, List.map_toArray, List.map_cons, List.map_nil, hs, hx, hrun]
  exact hK _ _ (h v' w' h2 h3 h4)

theorem wp_append_row {o : Oper} {a : Act} {K : Act → World → Prop} {Q : Exit → Act → World → Prop} (s x : Operand) (t : TypeId)
    (ho : o.op = .call { callee := .builtin .append, args := #[s, x], argTypes := #[t, t] })
    (base : Nat) (e : TypeId) (i : TypeInfo) (z : Value) (size bytes : Nat) (ht : P.underlying t = some (.slice e)) (hi : P.info? e = some i) (hz : i.zero = some z)
    (hsize : i.size = size) (hby : i.bytes = bytes) (hzs : z.cells.size = size) (hsz : 0 < size)
    (v : Value) (n : Nat) (xs : List Value) (hs : a.eval s = v) (hown : Row w base e size v n xs)
    (vx : Value) (m : Nat) (news : List Value) (hx : a.eval x = vx) (hr : Rd w size vx m news) (h1 : ∀ u ∈ news, u.oneCell' = true)
    (h63 : n + m ≤ maxLen) (hbytes : (n + m) * bytes ≤ 140737488355328) (hbase : base ≤ w.heap.size)
    (h : ∀ v' w', Row w' base e size v' (n + m) (xs ++ news) → w.grownBy w' v.ownBlock → (∀ g c, v = .slice (some ⟨g, 0, none⟩) n c → ∀ j, j < n * size → w'.cell? ⟨g, j, none⟩ = w.cell? ⟨g, j, none⟩) → K (a.put o.dst v') w') : o.wp P a w K Q := by
  obtain ⟨v', w', hrun, h2, h3, _, h5⟩ := run_append_row (P := P) base t o.type e i z size bytes ht hi hz hsize hby hzs hsz v n xs hown vx m news hr h1 h63 hbytes hbase
  unfold Oper.wp execOp
  simp only [ho, resolve, invoke, builtin, Sem.run_bind, Sem.run_pure, Result.andThen_ok, List.map_toArray, List.map_cons, List.map_nil, hs, hx, hrun]
  exact h v' w' h2 h3 h5

/-- The same at a step of a region that draws its order. -/
theorem step_append_row {ops : Array Oper} {o : Oper} {a : Act} {K : Act → World → Prop} {Q : Exit → Act → World → Prop} {E : Prop} (hgd : o.guard = none) (s x : Operand) (t : TypeId)
    (ho : o.op = .call { callee := .builtin .append, args := #[s, x], argTypes := #[t, t] })
    (base : Nat) (e : TypeId) (i : TypeInfo) (z : Value) (size bytes : Nat) (ht : P.underlying t = some (.slice e)) (hi : P.info? e = some i) (hz : i.zero = some z)
    (hsize : i.size = size) (hby : i.bytes = bytes) (hzs : z.cells.size = size) (hsz : 0 < size)
    (v : Value) (n : Nat) (xs : List Value) (hs : a.eval s = v) (hown : Row w base e size v n xs)
    (vx : Value) (m : Nat) (news : List Value) (hx : a.eval x = vx) (hr : Rd w size vx m news) (h1 : ∀ u ∈ news, u.oneCell' = true)
    (h63 : n + m ≤ maxLen) (hbytes : (n + m) * bytes ≤ 140737488355328) (hbase : base ≤ w.heap.size)
    (h : ∀ v' w', Row w' base e size v' (n + m) (xs ++ news) → w.grownBy w' v.ownBlock → (∀ g c, v = .slice (some ⟨g, 0, none⟩) n c → ∀ j, j < n * size → w'.cell? ⟨g, j, none⟩ = w.cell? ⟨g, j, none⟩) → K (a.put o.dst v') w') :
    if Region.wanted o (yielded ops a.tmps) = true then Oper.wp P o a w K Q else E := by
  rw [if_pos (by simp [Region.wanted, hgd])]
  exact wp_append_row s x t ho base e i z size bytes ht hi hz hsize hby hzs hsz v n xs hs hown vx m news hx hr h1 h63 hbytes hbase h

theorem cell_more {w : World} {o : Obj} {a : Addr} {u : Value} (h : w.cell? a = some u) : (w.alloc o).cell? a = some u :=
  (World.cell?_alloc_lt _ _ _ (World.block_lt_of_cell? w a h)).trans h
theorem below_from {B : Nat} {a a' b : World} (h : Below B a' b) (e1 : a'.os = a.os) (e2 : a'.tape = a.tape) (e3 : a'.output = a.output) (e4 : a'.heap = a.heap) : Below B a b :=
  ⟨h.os.trans e1, h.tape.trans e2, h.output.trans e3, by rw [← e4]; exact h.size, fun k hk => by rw [← e4]; exact h.block k hk⟩
theorem Row.heap {w w' : World} {base : Nat} {e : TypeId} {size : Nat} {v : Value} {n : Nat} {xs : List Value} (h : Row w base e size v n xs) (hh : w'.heap = w.heap) : Row w' base e size v n xs := by
  unfold Row at *
  rw [hh]
  exact h
theorem Rd.block {w : World} {B : Nat} {u : Value} {eu : TypeId} {fr : Nat × Nat} (hb : w.heap[B]? = some (.cells #[u] eu fr)) : Rd w 1 (.slice (some ⟨B, 0, none⟩) 1 1) 1 [u] := by
  refine ⟨rfl, .inr ⟨_, 1, rfl, fun j x hx => ?_⟩⟩
  rw [Go.Lib.addr_add, Nat.zero_add, cell_of_row w B j #[u] eu fr hb]
  simpa using hx

theorem step_append_row1 {ops : Array Oper} {o : Oper} {a : Act} {K : Act → World → Prop} {Q : Exit → Act → World → Prop} {E : Prop} (hgd : o.guard = none) (s x : Operand) (t : TypeId)
    (ho : o.op = .call { callee := .builtin .append, args := #[s, x], argTypes := #[t, t] })
    (base : Nat) (e : TypeId) (i : TypeInfo) (z : Value) (bytes : Nat) (ht : P.underlying t = some (.slice e)) (hi : P.info? e = some i) (hz : i.zero = some z)
    (hsize : i.size = 1) (hby : i.bytes = bytes) (hzs : z.cells.size = 1)
    (v : Value) (n : Nat) (xs : List Value) (hs : a.eval s = v) (B : Nat) (u : Value) (eu : TypeId) (hx : a.eval x = .slice (some ⟨B, 0, none⟩) 1 1) (hb : w.heap[B]? = some (.cells #[u] eu (0, 0)))
    (hown : Row w base e 1 v n xs) (h1 : u.oneCell' = true)
    (h63 : n + 1 ≤ maxLen) (hbytes : (n + 1) * bytes ≤ 140737488355328) (hbase : base ≤ w.heap.size)
    (h : ∀ v' w', Row w' base e 1 v' (n + 1) (xs ++ [u]) → Below base w w' → (∀ g c, v = .slice (some ⟨g, 0, none⟩) n c → ∀ j, j < n * 1 → w'.cell? ⟨g, j, none⟩ = w.cell? ⟨g, j, none⟩) → K (a.put o.dst v') w') :
    if Region.wanted o (yielded ops a.tmps) = true then Oper.wp P o a w K Q else E :=
  step_append_row hgd s x t ho base e i z 1 bytes ht hi hz hsize hby hzs (by decide) v n xs hs hown _ 1 [u] hx (Rd.block hb) (by simpa using h1) h63 hbytes hbase
    fun v' w' hr hg hs => h v' w' hr ((Below.refl base w).grown hg hbase fun k hk => (hown.lt k hk).1) hs

/-- 'append(s, x)' of one element: x lies in a new block of its own first. -/
theorem wpList_append_row1 {ops : Array Oper} {rest : List Oper} {o : Oper} {a : Act} {Q : Exit → Act → World → Prop} (hgd : o.guard = none) (s x : Operand) (t : TypeId)
    (ho : o.op = .call { callee := .builtin .append, args := #[s, x], argTypes := #[t, t] })
    (base : Nat) (e : TypeId) (i : TypeInfo) (z : Value) (bytes : Nat) (ht : P.underlying t = some (.slice e)) (hi : P.info? e = some i) (hz : i.zero = some z)
    (hsize : i.size = 1) (hby : i.bytes = bytes) (hzs : z.cells.size = 1)
    (v : Value) (n : Nat) (xs : List Value) (hs : a.eval s = v) (hown : Row w base e 1 v n xs)
    (u : Value) (eu : TypeId) (hx : a.eval x = .slice (some ⟨w.heap.size, 0, none⟩) 1 1) (h1 : u.oneCell' = true)
    (h63 : n + 1 ≤ maxLen) (hbytes : (n + 1) * bytes ≤ 140737488355328) (hbase : base ≤ w.heap.size)
    (h : ∀ v' w', Row w' base e 1 v' (n + 1) (xs ++ [u]) → Below base w w' → wpList P ops Q rest (a.put o.dst v') w') :
    wpList P ops Q (o :: rest) a (w.alloc (.cells #[u] eu)) := by
  refine wpList_append_row hgd s x t ho base e i z 1 bytes ht hi hz hsize hby hzs (by decide) v n xs hs (hown.alloc _) _ 1 [u] hx ?_ (by simpa using h1) h63 hbytes (by simp; omega) ?_
  · exact Rd.new w #[u] eu 1 1 1 rfl
  · intro v' w' hr hg _
    exact h v' w' hr (((Below.refl base w).alloc hbase _).grown hg (by simp; omega) fun k hk => (hown.lt k hk).1)
end

theorem bstep {w b c : World} (h : Below w.heap.size w b) (k : Below b.heap.size b c) : Below w.heap.size w c := h.trans (k.mono h.size)
theorem balloc {B : Nat} {w b : World} (h : Below w.heap.size w b) (o : Obj) : Below w.heap.size w (b.alloc o) := h.alloc h.size o

/-- '[]byte(s)': a new row of the bytes. -/
theorem row_bytes {P : Program} (l : List UInt8) (w : World) (src dst e : TypeId) (hs : P.underlying src = some .string) (hd : P.underlying dst = some (.slice e)) (he : P.underlying e = some (.int .u8)) (hl : l.length ≤ maxLen) :
    ∃ (v : Value) (w' : World), (convert src dst (.string (BS l))).run P w = .ok v w' ∧ Row w' w.heap.size e 1 v l.length (Go.Lib.byteCells l) ∧ Below w.heap.size w w' ∧ w'.heap.size = w.heap.size + 1 ∧ v.ownBlock = some w.heap.size := by
  have hrun := Go.Lib.run_convert_string_bytes (P := P) w src dst e (BS l) hs hd he
  have hge : (BS l).size ≤ grownCap w (BS l).size 0 e := grownCap_ge _ _ _ _
  have hcs : (Go.Lib.bytesCells w e (BS l)).size = grownCap w (BS l).size 0 e := by
    unfold Go.Lib.bytesCells
    have : (BS l).data.size = (BS l).size := rfl
    rw [Array.size_append, Array.size_map, Array.size_replicate]
    omega
  refine ⟨_, _, hrun, ⟨by simp [Go.Lib.byteCells], .inr ⟨w.heap.size, _, _, _, by rw [BS_size], Nat.le_refl _, Go.Lib.bytesWorld_at_new w e (BS l), .inr (Nat.le_refl _), by rw [← BS_size]; exact hge, ?_, by rw [BS_size] at hcs; simpa [BS_size] using hcs, ?_⟩⟩,
    ⟨rfl, rfl, rfl, by rw [Go.Lib.bytesWorld_size]; omega, fun k hk => Go.Lib.bytesWorld_at_old _ _ _ _ hk⟩, Go.Lib.bytesWorld_size _ _ _, rfl⟩
  · exact grownCap_le_maxLen w _ 0 e hl
  · unfold Go.Lib.bytesCells Go.Lib.byteCells
    simp [BS]
end Arb
end

/- Operations as arguments: what lies in their cells. -/
section
namespace Go.Proofs.YtjeijolblcodpaaDoor.W
set_option maxRecDepth 20000
set_option linter.unusedVariables false
open Go.RowKit Go.Proofs Arb Go.WideShapes

def opCells (x : Opn) : List Value :=
  [.int .i64 x.stamp.count, .int .i64 x.stamp.who, .int .i64 x.seq, .int .i64 x.kind, .int .i64 x.node.count, .int .i64 x.node.who, .bool x.dir, .int .i64 x.parent.count, .int .i64 x.parent.who, .string (BS x.name), .string (BS x.manifest)]
def opArr (x : Opn) : Array Value := (opCells x).toArray
def opVal (x : Opn) : Value := .agg (opArr x)
def opWf (x : Opn) : Prop := stWf x.stamp ∧ (Lit.int .i64 x.seq).wf = true ∧ (Lit.int .i64 x.kind).wf = true ∧ stWf x.node ∧ stWf x.parent ∧ x.name.length ≤ 140737488351232 ∧ x.manifest.length ≤ 140737488351232

theorem cells_Op {w : World} {f : Nat} {cs : List Value} (h : Cells Tryd.prog w f 35 cs) : ∃ x : Opn, cs = opCells x ∧ opWf x := by
  obtain ⟨hl, hf⟩ := cells_struct Tryd.underlying35 h
  rw [show Tryd.prog.cellsOf 35 = 11 by kernel_rfl] at hl
  match cs, hl with
  | [x0, x1, x2, x3, x4, x5, x6, x7, x8, x9, x10], _ =>
    have hc : Tryd.prog.cellsOf 3 = 1 := by kernel_rfl
    have hs : Tryd.prog.cellsOf 33 = 2 := by kernel_rfl
    have hb : Tryd.prog.cellsOf 4 = 1 := by kernel_rfl
    have ht : Tryd.prog.cellsOf 9 = 1 := by kernel_rfl
    obtain ⟨f0, h0⟩ : ∃ f', Cells Tryd.prog w f' 33 [x0, x1] := by
      obtain ⟨f', h⟩ := hf 0 _ rfl
      exact ⟨f', by simpa [hs] using h⟩
    obtain ⟨f1, h1⟩ : ∃ f', Cells Tryd.prog w f' 3 [x2] := by
      obtain ⟨f', h⟩ := hf 1 _ rfl
      exact ⟨f', by simpa [hc] using h⟩
    obtain ⟨f2, h2⟩ : ∃ f', Cells Tryd.prog w f' 3 [x3] := by
      obtain ⟨f', h⟩ := hf 2 _ rfl
      exact ⟨f', by simpa [hc] using h⟩
    obtain ⟨f3, h3⟩ : ∃ f', Cells Tryd.prog w f' 33 [x4, x5] := by
      obtain ⟨f', h⟩ := hf 3 _ rfl
      exact ⟨f', by simpa [hs] using h⟩
    obtain ⟨f4, h4⟩ : ∃ f', Cells Tryd.prog w f' 4 [x6] := by
      obtain ⟨f', h⟩ := hf 4 _ rfl
      exact ⟨f', by simpa [hb] using h⟩
    obtain ⟨f5, h5⟩ : ∃ f', Cells Tryd.prog w f' 33 [x7, x8] := by
      obtain ⟨f', h⟩ := hf 5 _ rfl
      exact ⟨f', by simpa [hs] using h⟩
    obtain ⟨f6, h6⟩ : ∃ f', Cells Tryd.prog w f' 9 [x9] := by
      obtain ⟨f', h⟩ := hf 6 _ rfl
      exact ⟨f', by simpa [ht] using h⟩
    obtain ⟨f7, h7⟩ : ∃ f', Cells Tryd.prog w f' 9 [x10] := by
      obtain ⟨f', h⟩ := hf 7 _ rfl
      exact ⟨f', by simpa [ht] using h⟩
    obtain ⟨s, es, ws⟩ := cells_St h0
    obtain ⟨q, eq, wq⟩ := cells_int Tryd.underlying3 h1
    obtain ⟨k, ek, wk⟩ := cells_int Tryd.underlying3 h2
    obtain ⟨n, en, wn⟩ := cells_St h3
    obtain ⟨d, ed⟩ := cells_bool Tryd.underlying4 h4
    obtain ⟨p, ep, wp⟩ := cells_St h5
    obtain ⟨a, ea, wa⟩ := cells_string Tryd.underlying9 h6
    obtain ⟨m, em, wm⟩ := cells_string Tryd.underlying9 h7
    simp [stCells] at es eq ek en ed ep ea em
    exact ⟨⟨s, q, k, n, d, p, a, m⟩, by simp [opCells, es, eq, ek, en, ed, ep, ea, em], ws, wq, wk, wn, wp, wa, wm⟩

theorem cells_Ops {w : World} {f : Nat} {cs : List Value} (h : Cells Tryd.prog w f 22 cs) :
    ∃ (A : Option Addr) (n c : Nat) (l : List Opn), cs = [.slice A n c] ∧ c * 104 ≤ 140737488351232 ∧ Sl w 11 A n c (l.map opCells) ∧ (∀ x ∈ l, opWf x) ∧ l.length = n := by
  obtain ⟨A, n, c, rows, rfl, hb, hr, hs⟩ := cells_slice Tryd.underlying22 (by rw [show Tryd.prog.cellsOf 35 = 11 by kernel_rfl]; omega) h
  rw [show Tryd.prog.bytesOf 35 = 104 by kernel_rfl] at hb
  rw [show Tryd.prog.cellsOf 35 = 11 by kernel_rfl] at hs
  obtain ⟨l, h1, h2, h3⟩ := sl_typed opCells (q := opWf) hs fun r hm => by
    obtain ⟨f', hf'⟩ := hr r hm
    exact cells_Op hf'
  exact ⟨A, n, c, l, rfl, hb, h1, h2, h3⟩

theorem size_op : (Tryd.prog.info? 35).map (·.size) = some 11 := by kernel_rfl
theorem opArr_size (x : Opn) : (opArr x).size = 11 := rfl
theorem opArr_one (x : Opn) : (opArr x).all (·.oneCell') = true := by simp [opArr, opCells, Value.oneCell']
theorem BS_inj (l m : List UInt8) : ((BS l).toList == (BS m).toList) = decide (l = m) := by
  rw [Go.Lib.toList_data (BS m), BS_list]; exact BS_beq l m

set_option maxRecDepth 20000 in
set_option maxHeartbeats 1000000 in
/-- Two operations are compared. -/
theorem eq_op (x y : Opn) (w : World) : (binOp .eql 35 (opVal x) (opVal y)).run Tryd.prog w = .ok (.bool (decide (x = y))) w := by
  rw [opVal, opVal, run_eql_struct, run_equalIn_agg _ _ _ _ _ (by kernel_rfl) (by kernel_rfl)]
  unfold opArr opCells
  have u25 := Tryd.underlying35
  have u23 := Tryd.underlying33
  have u3 := Tryd.underlying3
  have u4 := Tryd.underlying4
  have u9 := Tryd.underlying9
  simp only [go_sem, u25]
  go_simp
  by_cases h : x = y
  · subst h; simp
  · rw [decide_eq_false h]
    have hb : ∀ l m : List UInt8, (BS l).toList = (BS m).toList → l = m := fun l m e => by
      rw [Go.Lib.toList_data, Go.Lib.toList_data, BS_list, BS_list] at e; exact e
    split
    · split
      · split
        · split
          · split
            · split
              · split
                · split
                  · split
                    · split
                      · split
                        · rename_i h0 h1 h2 h3 h4 h5 h6 h7 h8 h9 h10
                          exfalso
                          apply h
                          have e9 := hb _ _ h9
                          have e10 := hb _ _ h10
                          obtain ⟨⟨a, b⟩, c, d, ⟨e, f⟩, g, ⟨i, j⟩, k, l⟩ := x
                          obtain ⟨⟨a', b'⟩, c', d', ⟨e', f'⟩, g', ⟨i', j'⟩, k', l'⟩ := y
                          simp only at h0 h1 h2 h3 h4 h5 h6 h7 h8 e9 e10
                          subst h0; subst h1; subst h2; subst h3; subst h4; subst h5; subst h6; subst h7; subst h8; subst e9; subst e10
                          rfl
                        · rfl
                      · rfl
                    · rfl
                  · rfl
                · rfl
              · rfl
            · rfl
          · rfl
        · rfl
      · rfl
    · rfl

theorem ne_op (x y : Opn) (w : World) : (binOp .neq 35 (opVal x) (opVal y)).run Tryd.prog w = .ok (.bool (!decide (x = y))) w := by
  have h := eq_op x y w
  rw [opVal, opVal, run_eql_struct] at h
  rw [opVal, opVal, run_neq_struct]
  cases hr : (Op.equalIn 10000 35 (.agg (opArr x)) (.agg (opArr y))).run Tryd.prog w with
  | ok b w' =>
    rw [hr] at h
    simp only [Result.andThen_ok] at h ⊢
    injection h with h1 h2
    injection h1 with h1
    rw [h1, h2]
  | halt a w' =>
    rw [hr] at h
    simp [Result.andThen] at h

/-- The operation x lies at offset o of block b. -/
def OpAt (w : World) (b o : Nat) (x : Opn) : Prop := w.rangeAt b o (opCells x)
theorem OpAt.lt {w : World} {b o : Nat} {x : Opn} (h : OpAt w b o x) : b < w.heap.size := World.block_lt_of_cell? w _ (h 0 _ rfl)
theorem OpAt.below {w w' : World} {b o : Nat} {x : Opn} (h : OpAt w b o x) (hb : Below w.heap.size w w') : OpAt w' b o x := fun j v hv => (hb.cell (p := ⟨b, o + j, none⟩) h.lt).trans (h j v hv)
theorem OpAt.under {w w' : World} {B b o : Nat} {x : Opn} (h : OpAt w b o x) (hb : Below B w w') (hl : b < B) : OpAt w' b o x := fun j v hv => (hb.cell (p := ⟨b, o + j, none⟩) hl).trans (h j v hv)
theorem OpAt.new (w : World) (x : Opn) (t : TypeId) : OpAt (w.alloc (.cells (opArr x) t)) w.heap.size 0 x := fun j v hv => by
  rw [cell_of_row _ _ _ _ _ _ (heap_alloc_new w _), Nat.zero_add]
  simpa [opArr] using hv
theorem OpAt.of_block {w : World} {b : Nat} {x : Opn} {t : TypeId} {fr : Nat × Nat} (h : w.heap[b]? = some (.cells (opArr x) t fr)) : OpAt w b 0 x := fun j v hv => by
  rw [cell_of_row _ _ _ _ _ _ h, Nat.zero_add]
  simpa [opArr] using hv
theorem op_cells {w : World} {b o : Nat} {x : Opn} (h : OpAt w b o x) :
    w.cell? ⟨b, o, none⟩ = some (.int .i64 x.stamp.count) ∧ w.cell? ⟨b, o + 1, none⟩ = some (.int .i64 x.stamp.who) ∧ w.cell? ⟨b, o + 2, none⟩ = some (.int .i64 x.seq) ∧ w.cell? ⟨b, o + 3, none⟩ = some (.int .i64 x.kind) ∧
    w.cell? ⟨b, o + 4, none⟩ = some (.int .i64 x.node.count) ∧ w.cell? ⟨b, o + 5, none⟩ = some (.int .i64 x.node.who) ∧ w.cell? ⟨b, o + 6, none⟩ = some (.bool x.dir) ∧ w.cell? ⟨b, o + 7, none⟩ = some (.int .i64 x.parent.count) ∧
    w.cell? ⟨b, o + 8, none⟩ = some (.int .i64 x.parent.who) ∧ w.cell? ⟨b, o + 9, none⟩ = some (.string (BS x.name)) ∧ w.cell? ⟨b, o + 10, none⟩ = some (.string (BS x.manifest)) :=
  ⟨h 0 _ rfl, h 1 _ rfl, h 2 _ rfl, h 3 _ rfl, h 4 _ rfl, h 5 _ rfl, h 6 _ rfl, h 7 _ rfl, h 8 _ rfl, h 9 _ rfl, h 10 _ rfl⟩
theorem op_cells0 {w : World} {b : Nat} {x : Opn} (h : OpAt w b 0 x) :
    w.cell? ⟨b, 0, none⟩ = some (.int .i64 x.stamp.count) ∧ w.cell? ⟨b, 1, none⟩ = some (.int .i64 x.stamp.who) ∧ w.cell? ⟨b, 2, none⟩ = some (.int .i64 x.seq) ∧ w.cell? ⟨b, 3, none⟩ = some (.int .i64 x.kind) ∧
    w.cell? ⟨b, 4, none⟩ = some (.int .i64 x.node.count) ∧ w.cell? ⟨b, 5, none⟩ = some (.int .i64 x.node.who) ∧ w.cell? ⟨b, 6, none⟩ = some (.bool x.dir) ∧ w.cell? ⟨b, 7, none⟩ = some (.int .i64 x.parent.count) ∧
    w.cell? ⟨b, 8, none⟩ = some (.int .i64 x.parent.who) ∧ w.cell? ⟨b, 9, none⟩ = some (.string (BS x.name)) ∧ w.cell? ⟨b, 10, none⟩ = some (.string (BS x.manifest)) := by
  have := op_cells h
  simpa only [Nat.zero_add] using this
/-- The value v is the operations l. -/
def Opns (w : World) (v : Value) (l : List Opn) : Prop :=
  ∃ A n c, v = .slice A n c ∧ l.length = n ∧ n ≤ c ∧ (A = none → c = 0) ∧ (0 < n → ∃ b off, A = some ⟨b, off, none⟩ ∧ ∀ j x, l[j]? = some x → OpAt w b (off + j * 11) x)
theorem Opns.below {w w' : World} {v : Value} {l : List Opn} (h : Opns w v l) (hb : Below w.heap.size w w') : Opns w' v l := by
  obtain ⟨A, n, c, hv, hl, hc, hA0, hr⟩ := h
  refine ⟨A, n, c, hv, hl, hc, hA0, fun h0 => ?_⟩
  obtain ⟨b, off, hA, hz⟩ := hr h0
  exact ⟨b, off, hA, fun j x hj => (hz j x hj).below hb⟩
theorem Opns.nil (w : World) : Opns w (.slice none 0 0) [] := ⟨none, 0, 0, rfl, rfl, Nat.le_refl _, fun _ => rfl, fun h => by omega⟩
theorem Opns.of_sl {w : World} {A : Option Addr} {n c : Nat} {l : List Opn} (h : Sl w 11 A n c (l.map opCells)) : Opns w (.slice A n c) l := by
  refine ⟨A, n, c, rfl, by simpa using h.1, h.2.1, h.2.2.1, fun h0 => ?_⟩
  obtain ⟨b, off, hA, hr⟩ := h.2.2.2 h0
  refine ⟨b, off, hA, fun j x hj => ?_⟩
  have := (hr j (opCells x) (by simp [hj])).2
  intro k v hv
  have h1 := this k v hv
  rw [show off + j * 11 + k = off + (j * 11 + k) by omega]
  first | exact h1 | (rw [← Nat.add_assoc]; exact h1)
theorem Opns.form {w : World} {v : Value} {l : List Opn} (h : Opns w v l) (h0 : 0 < l.length) : ∃ b off c, v = .slice (some ⟨b, off, none⟩) l.length c ∧ l.length ≤ c ∧ ∀ j x, l[j]? = some x → OpAt w b (off + j * 11) x := by
  obtain ⟨A, n, c, rfl, rfl, hc, _, hr⟩ := h
  obtain ⟨b, off, rfl, hz⟩ := hr h0
  exact ⟨b, off, c, rfl, hc, hz⟩
/-- A value that is operations, its length told. -/
theorem Opns.len {w : World} {v : Value} {l : List Opn} (h : Opns w v l) : ∃ A c, v = .slice A l.length c ∧ l.length ≤ c := by
  obtain ⟨A, n, c, rfl, rfl, hc, _⟩ := h
  exact ⟨A, c, rfl, hc⟩
theorem Opns.at {w : World} {A : Option Addr} {n c : Nat} {l : List Opn} (h : Opns w (.slice A n c) l) (k : Nat) (hk : k < n) : ∃ b off x, A = some ⟨b, off, none⟩ ∧ l[k]? = some x ∧ OpAt w b (off + k * 11) x := by
  obtain ⟨A', n', c', he, hl, _, _, hr⟩ := h
  cases he
  obtain ⟨b, off, rfl, hz⟩ := hr (by omega)
  have hg := List.getElem?_eq_getElem (l := l) (i := k) (by omega)
  exact ⟨b, off, _, rfl, hg, hz k _ hg⟩
theorem eq_of_getElem {α : Type} (a b : List α) (hl : a.length = b.length) (h : ∀ j, j < a.length → a[j]? = b[j]?) : a = b := by
  apply List.ext_getElem?
  intro i
  rcases Nat.lt_or_ge i a.length with h1 | h1
  · exact h i h1
  · rw [List.getElem?_eq_none h1, List.getElem?_eq_none (by omega)]

/-- Two operations are compared, their cells written out. -/
theorem ne_op' (x y : Opn) (w : World) : (binOp .neq 35 (.agg #[.int .i64 x.stamp.count, .int .i64 x.stamp.who, .int .i64 x.seq, .int .i64 x.kind, .int .i64 x.node.count, .int .i64 x.node.who, .bool x.dir, .int .i64 x.parent.count, .int .i64 x.parent.who, .string (BS x.name), .string (BS x.manifest)]) (.agg #[.int .i64 y.stamp.count, .int .i64 y.stamp.who, .int .i64 y.seq, .int .i64 y.kind, .int .i64 y.node.count, .int .i64 y.node.who, .bool y.dir, .int .i64 y.parent.count, .int .i64 y.parent.who, .string (BS y.name), .string (BS y.manifest)])).run Tryd.prog w = .ok (.bool (!decide (x = y))) w := ne_op x y w
theorem eq_op' (x y : Opn) (w : World) : (binOp .eql 35 (.agg #[.int .i64 x.stamp.count, .int .i64 x.stamp.who, .int .i64 x.seq, .int .i64 x.kind, .int .i64 x.node.count, .int .i64 x.node.who, .bool x.dir, .int .i64 x.parent.count, .int .i64 x.parent.who, .string (BS x.name), .string (BS x.manifest)]) (.agg #[.int .i64 y.stamp.count, .int .i64 y.stamp.who, .int .i64 y.seq, .int .i64 y.kind, .int .i64 y.node.count, .int .i64 y.node.who, .bool y.dir, .int .i64 y.parent.count, .int .i64 y.parent.who, .string (BS y.name), .string (BS y.manifest)])).run Tryd.prog w = .ok (.bool (decide (x = y))) w := eq_op x y w
/-- Two stamps are compared, their numbers written out. -/
theorem eq_st (s t : St) (w : World) : (binOp .eql 33 (.agg #[.int .i64 s.count, .int .i64 s.who]) (.agg #[.int .i64 t.count, .int .i64 t.who])).run Tryd.prog w = .ok (.bool (decide (s = t))) w := by
  rw [run_eql_struct, run_equalIn_agg _ _ _ _ _ (by kernel_rfl) (by kernel_rfl)]
  have u23 := Tryd.underlying33
  have u3 := Tryd.underlying3
  simp only [go_sem, u23]
  go_simp
  by_cases h : s = t
  · subst h; simp
  · rw [decide_eq_false h]
    split
    · split
      · rename_i h0 h1
        exact absurd (by cases s; cases t; simp only at h0 h1; rw [h0, h1]) h
      · rfl
    · rfl
theorem ne_st (s t : St) (w : World) : (binOp .neq 33 (.agg #[.int .i64 s.count, .int .i64 s.who]) (.agg #[.int .i64 t.count, .int .i64 t.who])).run Tryd.prog w = .ok (.bool (!decide (s = t))) w := by
  have h := eq_st s t w
  rw [run_eql_struct] at h
  rw [run_neq_struct]
  cases hr : (Op.equalIn 10000 33 (.agg #[.int .i64 s.count, .int .i64 s.who]) (.agg #[.int .i64 t.count, .int .i64 t.who])).run Tryd.prog w with
  | ok b w' =>
    rw [hr] at h
    simp only [Result.andThen_ok] at h ⊢
    injection h with h1 h2
    injection h1 with h1
    rw [h1, h2]
  | halt a w' =>
    rw [hr] at h
    simp [Result.andThen] at h
/-- What a function gives whose results are a cell and a slot. -/
theorem results_cell_slot {P : Program} {fn : Func} {p q : Tmp} {ty : TypeId} (h : fn.results = #[.cell p ty, .tmp q]) (tmps : Array Value) (w : World) (g : Nat) (t : TypeId) (cs : Array Value) (fr : Nat × Nat) (d : TypeDesc)
    (hp : tmps.getD p undef = .pointer (some ⟨g, 0, none⟩)) (hg : w.heap[g]? = some (.cells cs t fr))
    (hu : P.underlying ty = some d) (hd : (match d with | .struct _ | .array _ _ => true | _ => false) = true) (hi : (P.info? ty).map (·.size) = some cs.size) {y : Value} (hq : tmps.getD q undef = y) :
    (results fn tmps).run P w = .ok (.tuple #[.agg cs, y]) w := by
  subst hq
  have hp' : tmps[p]?.getD undef = .pointer (some ⟨g, 0, none⟩) := by simpa using hp
  simp [results, h, hp', asAddr, run_loadVar_row w g t ty cs fr d hg hu hd hi]
end Go.Proofs.YtjeijolblcodpaaDoor.W
end
