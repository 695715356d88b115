/- The mathematics of a map that keeps, for each name, the number with which its next copy is tried. -/
import Derived.Test.YtaoepalafefogaaDoorNamesU
import Derived.Test.YtaoepalafefogaaDoorNums
namespace Arb
set_option linter.unusedVariables false

/-- What stands in the map behind q steps over l. -/
structure Tries (l : List (List UInt8)) (q : Nat) (S : List (List UInt8)) (val : List UInt8 → Int) : Prop where
  mem : ∀ x, x ∈ S ↔ x ∈ l ∨ x ∈ (outAt l q).2
  zero : ∀ x ∈ l, x ∉ l.take q → val x = 0
  some : ∀ x ∈ l.take q, 1 ≤ val x ∧ ∀ j : Nat, 1 ≤ j → (j : Int) < val x → copyOf x j ∈ S

theorem Tries.start (l : List (List UInt8)) : Tries l 0 l (fun _ => 0) :=
  ⟨fun x => by simp [outAt], fun _ _ _ => rfl, fun x hx => by simp at hx⟩
theorem outAt_first {l : List (List UInt8)} {q : Nat} (hq : q < l.length) (h : l[q] ∉ l.take q) : outAt l (q + 1) = ((outAt l q).1 ++ [l[q]], (outAt l q).2) := by
  rw [outAt, List.getElem?_eq_getElem hq]; simp only; rw [if_neg h]
theorem outAt_more {l : List (List UInt8)} {q : Nat} (hq : q < l.length) (h : l[q] ∈ l.take q) : outAt l (q + 1) = ((outAt l q).1 ++ [copyOf l[q] (freshN l (outAt l q).2 l[q])], (outAt l q).2 ++ [copyOf l[q] (freshN l (outAt l q).2 l[q])]) := by
  rw [outAt, List.getElem?_eq_getElem hq]; simp only; rw [if_pos h]
section
variable {l S : List (List UInt8)} {q : Nat} {val : List UInt8 → Int}
theorem Tries.first (h : Tries l q S val) (hq : q < l.length) (hn : l[q] ∉ l.take q) : Tries l (q + 1) (S ++ [l[q]]) (setVal val l[q] 1) := by
  have ht : l.take (q + 1) = l.take q ++ [l[q]] := List.take_succ_eq_append_getElem hq
  refine ⟨fun x => ?_, fun x hx hnx => ?_, fun x hx => ?_⟩
  · rw [outAt_first hq hn, List.mem_append, h.mem, List.mem_singleton]
    constructor
    · rintro (h | rfl)
      · exact h
      · exact .inl (List.getElem_mem hq)
    · exact .inl
  · rw [ht, List.mem_append, List.mem_singleton] at hnx
    rw [setVal_other (fun e => hnx (.inr e))]
    exact h.zero x hx (fun e => hnx (.inl e))
  · by_cases e : x = l[q]
    · subst e
      rw [setVal_same]
      exact ⟨by omega, fun j h1 h2 => by omega⟩
    · rw [ht, List.mem_append, List.mem_singleton] at hx
      rw [setVal_other e]
      obtain ⟨a, b⟩ := h.some x (hx.resolve_right e)
      exact ⟨a, fun j h1 h2 => List.mem_append_left _ (b j h1 h2)⟩
/-- The number that a name's next copy gets. -/
theorem Tries.next (h : Tries l q S val) (hq : q < l.length) (hm : l[q] ∈ l.take q) :
    ∃ v : Nat, val l[q] = (v : Int) ∧ 1 ≤ v ∧ v ≤ freshN l (outAt l q).2 l[q] ∧ freshN l (outAt l q).2 l[q] ≤ l.length + q + 1 ∧ copyOf l[q] (freshN l (outAt l q).2 l[q]) ∉ S ∧
      (∀ j, v ≤ j → j < freshN l (outAt l q).2 l[q] → copyOf l[q] j ∈ S) ∧
      Tries l (q + 1) (S ++ [copyOf l[q] (freshN l (outAt l q).2 l[q])] ++ [l[q]]) (setVal (setVal val (copyOf l[q] (freshN l (outAt l q).2 l[q])) 1) l[q] ((freshN l (outAt l q).2 l[q] : Int) + 1)) := by
  obtain ⟨f1, f2, f3, f4, f5⟩ := fresh_spec l (outAt l q).2 l[q]
  have hml := outAt_more hq hm
  have hgl := (outAt_len l q (by omega)).2
  obtain ⟨F, hF⟩ : ∃ F, freshN l (outAt l q).2 l[q] = F := ⟨_, rfl⟩
  rw [hF] at f1 f2 f3 f4 f5 hml ⊢
  obtain ⟨a, b⟩ := h.some _ hm
  have hfree : copyOf l[q] F ∉ S := fun hx => ((h.mem _).1 hx).elim f1 f2
  obtain ⟨v, hv⟩ : ∃ v : Nat, val l[q] = (v : Int) := ⟨(val l[q]).toNat, by omega⟩
  have hvF : v ≤ F := by
    rcases Nat.lt_or_ge F v with hlt | hge
    · exact absurd (b F f3 (by omega)) hfree
    · exact hge
  have ht : l.take (q + 1) = l.take q ++ [l[q]] := List.take_succ_eq_append_getElem hq
  have hin : ∀ j, 1 ≤ j → j < F → copyOf l[q] j ∈ S := fun j h1 h2 => (h.mem _).2 (f5 j h1 h2)
  refine ⟨v, hv, by omega, hvF, by omega, hfree, fun j h1 h2 => hin j (by omega) h2, fun x => ?_, fun x hx hnx => ?_, fun x hx => ?_⟩
  · rw [hml, List.mem_append, List.mem_append, h.mem, List.mem_singleton, List.mem_singleton, List.mem_append, List.mem_singleton]
    constructor
    · rintro ((h | h) | rfl)
      · exact h.elim .inl fun h => .inr (.inl h)
      · exact .inr (.inr h)
      · exact .inl (List.getElem_mem hq)
    · rintro (h | h | h)
      · exact .inl (.inl (.inl h))
      · exact .inl (.inl (.inr h))
      · exact .inl (.inr h)
  · rw [ht, List.mem_append, List.mem_singleton] at hnx
    rw [setVal_other (fun e => hnx (.inr e)), setVal_other (show x ≠ copyOf l[q] F from fun e => f1 (by rw [← e]; exact hx))]
    exact h.zero x hx (fun e => hnx (.inl e))
  · by_cases e : x = l[q]
    · subst e
      rw [setVal_same]
      refine ⟨by omega, fun j h1 h2 => ?_⟩
      by_cases hj : j < F
      · exact List.mem_append_left _ (List.mem_append_left _ (hin j h1 hj))
      · obtain rfl : j = F := by omega
        exact List.mem_append_left _ (List.mem_append_right _ (by simp))
    · rw [ht, List.mem_append, List.mem_singleton] at hx
      have hx' := hx.resolve_right e
      rw [setVal_other e, setVal_other (show x ≠ copyOf l[q] F from fun e => f1 (by rw [← e]; exact List.mem_of_mem_take hx'))]
      obtain ⟨a, b⟩ := h.some x hx'
      exact ⟨a, fun j h1 h2 => List.mem_append_left _ (List.mem_append_left _ (b j h1 h2))⟩
end
end Arb
