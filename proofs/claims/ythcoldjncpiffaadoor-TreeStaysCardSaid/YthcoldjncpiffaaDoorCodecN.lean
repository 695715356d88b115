/- The mathematics of reading: what a reader answers, and what it is then. -/
import Derived.Test.YthcoldjncpiffaaDoorCodecM
import Derived.Test.YthcoldjncpiffaaDoorBase
import Derived.Test.YthcoldjncpiffaaDoorCells
namespace Arb
open Go Go.RowKit
set_option linter.unusedVariables false

/-- Which 64-bit number an int is. -/
theorem wrap_u64 (n : Int) : IntKind.u64.wrap n = ((u64 n : Nat) : Int) := by
  rw [IntKind.wrap_u64]; unfold u64; omega
theorem u64_lt (n : Int) : u64 n < 18446744073709551616 := by unfold u64; omega

theorem enc_length (u : Nat) : (enc u).length ≤ 9 := by
  unfold enc; rw [List.length_cons, be_length]; have := digs_le u; omega

theorem rdNum_used (l : List UInt8) : (rdNum l).2.1 ≤ l.length := by
  unfold rdNum
  split
  · simp
  · split
    · simp
    · split
      · simp
      · split
        · simp
        · simp; omega
theorem rdNum_lt (l : List UInt8) : (rdNum l).1 < 18446744073709551616 := by
  unfold rdNum
  split
  · simp
  · rename_i d r
    split
    · simp
    · split
      · simp
      · split
        · simp
        · rename_i h _ _
          have h1 := val_lt (r.take d.toNat)
          have h2 : (r.take d.toNat).length ≤ 8 := by rw [List.length_take]; omega
          exact Nat.lt_of_lt_of_le h1 (Nat.le_trans (Nat.pow_le_pow_right (by decide) h2) (by decide))

theorem rdText_used (l : List UInt8) : (rdText l).2.1 ≤ l.length := by
  have := rdNum_used l
  unfold rdText
  split
  · simp
  · split
    · simp
    · simp; omega

/-- What End answers. -/
def endOf (l : List UInt8) (e0 : Int) : Int := if e0 ≠ 0 then e0 else if l ≠ [] then 12 else 0

/-- What Num answers, and what the reader is then. -/
def stepNum (l : List UInt8) (e0 : Int) : Nat × List UInt8 × Int := if e0 ≠ 0 then (0, l, e0) else ((rdNum l).1, l.drop (rdNum l).2.1, (rdNum l).2.2)
/-- What Text answers, and what the reader is then. -/
def stepText (l : List UInt8) (e0 : Int) : List UInt8 × List UInt8 × Int := if e0 ≠ 0 then ([], l, e0) else ((rdText l).1, l.drop (rdText l).2.1, (rdText l).2.2)

/-- What the reference's Text answers, and what its reader is then. -/
def refOf (p : Nat × List UInt8 × Int) : List UInt8 × List UInt8 × Int :=
  if p.2.2 ≠ 0 then ([], p.2.1, p.2.2) else if p.2.1.length < p.1 then ([], p.2.1, 10) else (p.2.1.take p.1, p.2.1.drop p.1, 0)
def refText (l : List UInt8) (e0 : Int) : List UInt8 × List UInt8 × Int := refOf (stepNum l e0)

theorem stepNum_len (l : List UInt8) (e0 : Int) : (stepNum l e0).2.1.length ≤ l.length := by
  unfold stepNum
  split
  · exact Nat.le_refl _
  · simp
theorem stepNum_lt (l : List UInt8) (e0 : Int) : (stepNum l e0).1 < 18446744073709551616 := by
  unfold stepNum
  split
  · simp
  · exact rdNum_lt l

theorem u64_wrap (n : Nat) (h : n < 18446744073709551616) : u64 (wrap64 (n : Int)) = n := by
  unfold u64 wrap64; omega
theorem rdNum_err (l : List UInt8) (h : (rdNum l).2.2 ≠ 0) : (rdNum l).1 = 0 := by
  unfold rdNum at h ⊢
  split
  · rfl
  · rename_i d r
    simp only at h
    split
    · rfl
    · split
      · rfl
      · split
        · rfl
        · rename_i h1 h2 h3
          rw [if_neg h1, if_neg h2, if_neg h3] at h
          exact absurd rfl h

end Arb
