/- The program's names: ext, Ext. -/
import Derived.Test.YtkohcibhefejfaaDoorNamesE0
import Derived.Test.YtkohcibhefejfaaDoorNamesI0
import Derived.Test.YtkohcibhefejfaaDoorShelf
import Derived.Lib.LastIndexByte
import Derived.Lib.AppendIntMem
namespace Go.Proofs.YtkohcibhefejfaaDoor.W
set_option maxRecDepth 20000
set_option linter.unusedVariables false
open Go.RowKit Go.Proofs Arb

theorem BS_at (l : List UInt8) (j : Nat) (hj : j < l.length) : (BS l).data[j]! = l[j] := by
  show l.toArray[j]! = l[j]
  rw [getElem!_pos l.toArray j (by simpa using hj)]
  simp
theorem nat46 (b : UInt8) : ((b.toNat : Int) = 46) ↔ b = 46 := by
  constructor
  · intro h
    exact UInt8.toNat_inj.1 (by show b.toNat = 46; omega)
  · rintro rfl; rfl
/-- The last '.' that is not the first byte, or none. -/
theorem ext_last (l : List UInt8) : (∃ d : Int, Go.Lib.lastIndexByte (BS l) 46 = d ∧ d < 1 ∧ ext l = []) ∨
    ∃ i : Nat, Go.Lib.lastIndexByte (BS l) 46 = (i : Int) ∧ 1 ≤ i ∧ i < l.length ∧ ext l = l.drop (i + 1) := by
  have hsz : (BS l).size = l.length := BS_size l
  rcases Go.Lib.lastIndexByte_spec (BS l) 46 with ⟨he, hn⟩ | ⟨i, hi, he, hc, hn⟩
  · refine .inl ⟨-1, he, by omega, ext_end l fun j hj _ h46 => hn j (by omega) ?_⟩
    rw [BS_at l j hj]; exact (nat46 _).2 h46
  · have hil : i < l.length := by omega
    have hn' : ∀ j (hj : j < l.length), i < j → l[j] ≠ 46 := fun j hj hij h46 => hn j hij (by omega) (by rw [BS_at l j hj]; exact (nat46 _).2 h46)
    by_cases h0 : i = 0
    · subst h0
      exact .inl ⟨0, he, by omega, ext_end l hn'⟩
    · refine .inr ⟨i, he, by omega, hil, ext_at l i hil (by omega) ?_ hn'⟩
      rw [BS_at l i hil] at hc
      exact (nat46 _).1 hc

set_option maxHeartbeats 1000000 in
theorem pext_any (l : List UInt8) (w : World) (hl : l.length ≤ 140737488351232) :
    Calls Tryd.prog 42 #[.string (BS l)] w fun e w' => e = .returned (.string (BS (ext l))) ∧ w' = w := by
  have hsz : (BS l).size = l.length := BS_size l
  have hL := fun w => Tryd.strings_LastIndexByte (BS l) 46 (by omega) w
  rcases ext_last l with ⟨d, he, hd, hx⟩ | ⟨i, he, h1, hi, hx⟩
  · rw [he] at hL
    have HL := Go.Lib.hid hL; have HX := Go.Lib.hid hx; clear hL hx he
    go_enter Tryd.func42, Tryd.ntmps42
    go_wp2_with (go_at_call 31; refine (HL.out _).mono ?_; rintro e w1 ⟨rfl, hw1⟩; rw [hw1])
    go_ret
    exact ⟨by rw [HX.out]; rfl, rfl⟩
  · rw [he] at hL
    have hcut : (BS l).extract (i + 1) l.length = BS (ext l) := by rw [← hsz, BS_tail, hx]
    have w1 : IntKind.i64.wrap ((i : Int) + 1) = (i : Int) + 1 := by rw [IntWalk.i64_in _ (by omega)]
    have hi1 : (i : Int) + 1 ≤ (l.length : Int) := by omega
    have hge : ¬ ((i : Int) < 1) := by omega
    have HL := Go.Lib.hid hL; have HX := Go.Lib.hid hcut; clear hL hx he hcut
    go_enter Tryd.func42, Tryd.ntmps42
    go_wp2_with (go_at_call 31; refine (HL.out _).mono ?_; rintro e w2 ⟨rfl, hw2⟩; rw [hw2])
    go_ret
    refine ⟨?_, rfl⟩
    rw [← HX.out]
    rfl

theorem pclone_any (l : List UInt8) (w : World) (hl : l.length ≤ 140737488351232) :
    Calls Tryd.prog 41 #[.string (BS l)] w fun e w' => e = .returned (.string (BS l)) ∧ Below w.heap.size w w' := by
  have hC := fun w => Tryd.stringslite_Clone (BS l) w (by rw [BS_size]; omega)
  have HC := Go.Lib.hid hC; clear hC
  go_enter Tryd.func41, Tryd.ntmps41
  go_wp2_with (go_at_call 53; refine (HC.out _).mono ?_; rintro e w1 ⟨rfl, hb1⟩)
  go_ret
  exact ⟨rfl, hb1⟩

theorem ext_len (l : List UInt8) : (ext l).length ≤ l.length := by
  rcases ext_cases l with h | ⟨p, _, h, _⟩
  · rw [h]; simp
  · have := congrArg List.length h; rw [List.length_append] at this; simp at this; omega
theorem pnext_name (l : List UInt8) (w : World) (hl : l.length ≤ 140737488351232) :
    Calls Tryd.prog 30 #[.string (BS l)] w fun e w' => e = .returned (.string (BS (ext l))) ∧ Below w.heap.size w w' := by
  have hX := fun w => pext_any l w hl
  have hC := fun w => pclone_any (ext l) w (by have := ext_len l; omega)
  have HX := Go.Lib.hid hX; have HC := Go.Lib.hid hC; clear hX hC
  go_enter Tryd.func30, Tryd.ntmps30
  go_wp2_with fail
  refine (HX.out _).mono ?_; rintro e w1 ⟨rfl, hw1⟩; rw [hw1]
  go_wp2_with fail
  refine (HC.out _).mono ?_; rintro e w2 ⟨rfl, hb2⟩
  have HB := Go.Lib.hid hb2; clear hb2
  go_wp2_with fail
  go_ret
  exact ⟨rfl, HB.out⟩
end Go.Proofs.YtkohcibhefejfaaDoor.W
