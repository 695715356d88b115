/- The order of texts. -/
import GoSem.Op.String
namespace Arb
set_option maxRecDepth 20000
set_option linter.unusedVariables false
open Go.Op (bytesLess)

theorem less_irrefl : ∀ a : List UInt8, bytesLess a a = false
  | [] => rfl
  | b :: a => by
    show (decide (b < b) || (b == b && bytesLess a a)) = false
    rw [less_irrefl a]
    simp
theorem less_cons (x y : UInt8) (a b : List UInt8) : bytesLess (x :: a) (y :: b) = true ↔ x < y ∨ (x = y ∧ bytesLess a b = true) := by
  show (decide (x < y) || (x == y && bytesLess a b)) = true ↔ _
  simp
theorem less_trans : ∀ {a b c : List UInt8}, bytesLess a b = true → bytesLess b c = true → bytesLess a c = true
  | _, _, [], _, h => by cases ‹List UInt8› <;> simp [bytesLess] at h
  | _, [], _ :: _, h, _ => by cases ‹List UInt8› <;> simp [bytesLess] at h
  | [], _ :: _, _ :: _, _, _ => rfl
  | x :: a, y :: b, z :: c, h1, h2 => by
    rw [less_cons] at *
    rcases h1 with h1 | ⟨rfl, h1⟩
    · rcases h2 with h2 | ⟨rfl, _⟩
      · exact .inl (UInt8.lt_trans h1 h2)
      · exact .inl h1
    · rcases h2 with h2 | ⟨rfl, h2⟩
      · exact .inl h2
      · exact .inr ⟨rfl, less_trans h1 h2⟩
theorem less_total : ∀ {a b : List UInt8}, a ≠ b → bytesLess a b = true ∨ bytesLess b a = true
  | [], [], h => absurd rfl h
  | [], _ :: _, _ => .inl rfl
  | _ :: _, [], _ => .inr rfl
  | x :: a, y :: b, h => by
    rw [less_cons, less_cons]
    rcases UInt8.lt_or_lt_of_ne (a := x) (b := y) with hlt
    by_cases he : x = y
    · subst he
      have : a ≠ b := fun e => h (by rw [e])
      rcases less_total this with h1 | h1
      · exact .inl (.inr ⟨rfl, h1⟩)
      · exact .inr (.inr ⟨rfl, h1⟩)
    · rcases hlt he with h1 | h1
      · exact .inl (.inl h1)
      · exact .inr (.inl h1)
theorem less_gtr (a b : List UInt8) : (!(bytesLess a b || a == b)) = bytesLess b a := by
  by_cases h : a = b
  · subst h
    simp [less_irrefl]
  · have hne : (a == b) = false := by simp [h]
    rw [hne, Bool.or_false]
    cases h1 : bytesLess a b with
    | true =>
      cases h2 : bytesLess b a with
      | false => rfl
      | true => have := less_trans h1 h2; rw [less_irrefl] at this; cases this
    | false =>
      rcases less_total h with h2 | h2
      · rw [h1] at h2; cases h2
      · rw [h2]; rfl
end Arb
