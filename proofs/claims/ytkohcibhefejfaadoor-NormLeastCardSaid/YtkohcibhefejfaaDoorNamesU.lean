/- The mathematics of names that are given, no two the same. -/
import Derived.Test.YtkohcibhefejfaaDoorNamesM
namespace Arb
set_option maxRecDepth 20000
set_option linter.unusedVariables false

/-- The first number from k on for which p holds, of f numbers. -/
def firstN (p : Nat → Bool) : Nat → Nat → Nat
  | 0, k => k
  | f + 1, k => if p k then k else firstN p f (k + 1)
theorem firstN_spec (p : Nat → Bool) : ∀ (f k m : Nat), k ≤ m → m < k + f → p m = true → p (firstN p f k) = true ∧ k ≤ firstN p f k ∧ firstN p f k ≤ m ∧ ∀ j, k ≤ j → j < firstN p f k → p j = false
  | 0, k, m, h1, h2, _ => by omega
  | f + 1, k, m, h1, h2, h3 => by
    unfold firstN
    by_cases hk : p k = true
    · rw [if_pos hk]; exact ⟨hk, Nat.le_refl _, h1, fun j a b => by omega⟩
    · rw [if_neg hk]
      have hne : k ≠ m := fun e => hk (e ▸ h3)
      obtain ⟨a, b, c, d⟩ := firstN_spec p f (k + 1) m (by omega) (by omega) h3
      refine ⟨a, by omega, c, fun j hj1 hj2 => ?_⟩
      by_cases e : j = k
      · subst e; simpa using hk
      · exact d j (by omega) hj2
theorem firstN_of (p : Nat → Bool) (f k n : Nat) (h1 : k ≤ n) (h2 : n < k + f) (h3 : p n = true) (h4 : ∀ j, k ≤ j → j < n → p j = false) : firstN p f k = n := by
  obtain ⟨a, b, c, d⟩ := firstN_spec p f k n h1 h2 h3
  rcases Nat.lt_or_ge (firstN p f k) n with h | h
  · rw [h4 _ b h] at a; cases a
  · omega
/-- More pigeons than holes. -/
theorem holes {α : Type} [DecidableEq α] : ∀ (n : Nat) (f : Nat → α) (X : List α), (∀ i j, i < n → j < n → f i = f j → i = j) → (∀ i, i < n → f i ∈ X) → n ≤ X.length
  | 0, _, _, _, _ => Nat.zero_le _
  | n + 1, f, X, hi, hm => by
    have hx := hm n (by omega)
    have ih := holes n f (X.erase (f n)) (fun i j a b => hi i j (by omega) (by omega)) (fun i hin => by
      have hne : f i ≠ f n := fun e => by have := hi i n (by omega) (by omega) e; omega
      exact (List.mem_erase_of_ne hne).2 (hm i (by omega)))
    rw [List.length_erase_of_mem hx] at ih
    have : 0 < X.length := List.length_pos_of_mem hx
    omega
def takenBy (l given : List (List UInt8)) (s : List UInt8) (n : Nat) : Bool := !(decide (copyOf s n ∈ l) || decide (copyOf s n ∈ given))
def freshN (l given : List (List UInt8)) (s : List UInt8) : Nat := firstN (takenBy l given s) (l.length + given.length + 1) 1
theorem fresh_is (l given : List (List UInt8)) (s : List UInt8) : ∃ m, 1 ≤ m ∧ m < 1 + (l.length + given.length + 1) ∧ takenBy l given s m = true := by
  by_cases h : ∃ m, 1 ≤ m ∧ m < 1 + (l.length + given.length + 1) ∧ takenBy l given s m = true
  · exact h
  · exfalso
    have := holes (l.length + given.length + 1) (fun i => copyOf s (i + 1)) (l ++ given) (fun i j _ _ e => by have := copy_inj s _ _ e; omega) (fun i hin => by
      have hf : takenBy l given s (i + 1) = false := by
        cases ht : takenBy l given s (i + 1) with
        | false => rfl
        | true => exact absurd ⟨i + 1, by omega, by omega, ht⟩ h
      unfold takenBy at hf
      rw [Bool.not_eq_false', Bool.or_eq_true, decide_eq_true_eq, decide_eq_true_eq] at hf
      exact List.mem_append.2 hf)
    rw [List.length_append] at this
    omega
theorem fresh_spec (l given : List (List UInt8)) (s : List UInt8) : copyOf s (freshN l given s) ∉ l ∧ copyOf s (freshN l given s) ∉ given ∧ 1 ≤ freshN l given s ∧ freshN l given s ≤ l.length + given.length + 1 ∧
    ∀ j, 1 ≤ j → j < freshN l given s → (copyOf s j ∈ l ∨ copyOf s j ∈ given) := by
  obtain ⟨m, h1, h2, h3⟩ := fresh_is l given s
  obtain ⟨a, b, c, d⟩ := firstN_spec (takenBy l given s) (l.length + given.length + 1) 1 m h1 h2 h3
  change takenBy l given s (freshN l given s) = true at a
  change 1 ≤ freshN l given s at b
  change freshN l given s ≤ m at c
  unfold takenBy at a
  rw [Bool.not_eq_true', Bool.or_eq_false_iff, decide_eq_false_iff_not, decide_eq_false_iff_not] at a
  refine ⟨a.1, a.2, b, by omega, fun j hj1 hj2 => ?_⟩
  have hf := d j hj1 hj2
  unfold takenBy at hf
  rwa [Bool.not_eq_false', Bool.or_eq_true, decide_eq_true_eq, decide_eq_true_eq] at hf
/-- What is given to each of 'rest', 'pre' standing ahead of it. -/
def uniqGo (l : List (List UInt8)) : List (List UInt8) → List (List UInt8) → List (List UInt8) → List (List UInt8)
  | _, _, [] => []
  | pre, given, s :: r => if s ∈ pre then copyOf s (freshN l given s) :: uniqGo l (pre ++ [s]) (given ++ [copyOf s (freshN l given s)]) r else s :: uniqGo l (pre ++ [s]) given r
def uniq (l : List (List UInt8)) : List (List UInt8) := uniqGo l [] [] l
def uniqRes (l : List (List UInt8)) : List (List UInt8) × Int := if 1000 < l.length then ([], 40) else if l.all nmOk then (uniq l, 0) else ([], 23)

/-- What stands behind k steps: what is given, and what was given out of turn. -/
def outAt (l : List (List UInt8)) : Nat → List (List UInt8) × List (List UInt8)
  | 0 => ([], [])
  | k + 1 => match l[k]? with
    | none => outAt l k
    | some s => if s ∈ l.take k then ((outAt l k).1 ++ [copyOf s (freshN l (outAt l k).2 s)], (outAt l k).2 ++ [copyOf s (freshN l (outAt l k).2 s)]) else ((outAt l k).1 ++ [s], (outAt l k).2)
theorem uniqGo_outAt (l : List (List UInt8)) : ∀ (n k : Nat), k + n = l.length → (outAt l k).1 ++ uniqGo l (l.take k) (outAt l k).2 (l.drop k) = (outAt l l.length).1
  | 0, k, h => by
    rw [show k = l.length by omega, List.drop_length, uniqGo, List.append_nil]
  | n + 1, k, h => by
    have hk : k < l.length := by omega
    have ih := uniqGo_outAt l n (k + 1) (by omega)
    rw [← ih, List.drop_eq_getElem_cons hk, uniqGo, outAt, List.getElem?_eq_getElem hk]
    have ht : l.take (k + 1) = l.take k ++ [l[k]] := List.take_succ_eq_append_getElem hk
    simp only
    split
    · rw [ht]; simp
    · rw [ht]; simp
theorem uniq_outAt (l : List (List UInt8)) : uniq l = (outAt l l.length).1 := by
  have := uniqGo_outAt l l.length 0 (by omega)
  simpa [uniq, outAt] using this
theorem outAt_len (l : List (List UInt8)) : ∀ k, k ≤ l.length → (outAt l k).1.length = k ∧ (outAt l k).2.length ≤ k
  | 0, _ => ⟨rfl, Nat.le_refl _⟩
  | k + 1, h => by
    obtain ⟨h1, h2⟩ := outAt_len l k (by omega)
    rw [outAt, List.getElem?_eq_getElem (by omega : k < l.length)]
    simp only
    split <;> simp <;> omega
/-- Of what is given: it is of the texts that stand ahead, or was given out of turn; nothing twice. -/
theorem outAt_in (l : List (List UInt8)) : ∀ k, k ≤ l.length → (∀ x ∈ (outAt l k).1, x ∈ l.take k ∨ x ∈ (outAt l k).2) ∧ (∀ x ∈ (outAt l k).2, x ∉ l ∧ x ∈ (outAt l k).1)
  | 0, _ => ⟨fun x hx => by simp [outAt] at hx, fun x hx => by simp [outAt] at hx⟩
  | k + 1, h => by
    have hk : k < l.length := by omega
    obtain ⟨h1, h2⟩ := outAt_in l k (by omega)
    have ht : l.take (k + 1) = l.take k ++ [l[k]] := List.take_succ_eq_append_getElem hk
    obtain ⟨f1, _⟩ := fresh_spec l (outAt l k).2 l[k]
    rw [outAt, List.getElem?_eq_getElem hk]
    simp only
    split
    · refine ⟨fun x hx => ?_, fun x hx => ?_⟩
      · rcases List.mem_append.1 hx with hx | hx
        · rcases h1 x hx with h | h
          · exact .inl (by rw [ht]; exact List.mem_append_left _ h)
          · exact .inr (List.mem_append_left _ h)
        · exact .inr (List.mem_append_right _ hx)
      · rcases List.mem_append.1 hx with hx | hx
        · exact ⟨(h2 x hx).1, List.mem_append_left _ (h2 x hx).2⟩
        · simp only [List.mem_singleton] at hx
          subst hx
          exact ⟨f1, List.mem_append_right _ (by simp)⟩
    · refine ⟨fun x hx => ?_, fun x hx => ⟨(h2 x hx).1, List.mem_append_left _ (h2 x hx).2⟩⟩
      rcases List.mem_append.1 hx with hx | hx
      · rcases h1 x hx with h | h
        · exact .inl (by rw [ht]; exact List.mem_append_left _ h)
        · exact .inr h
      · exact .inl (by rw [ht]; exact List.mem_append_right _ hx)
theorem outAt_prefix (l : List (List UInt8)) : ∀ (n k : Nat), k + n ≤ l.length → (outAt l (k + n)).1.take k = (outAt l k).1
  | 0, k, h => by rw [Nat.add_zero, List.take_of_length_le (by rw [(outAt_len l k (by omega)).1]; omega)]
  | n + 1, k, h => by
    have ih := outAt_prefix l n k (by omega)
    have hl := (outAt_len l (k + n) (by omega)).1
    rw [← Nat.add_assoc, outAt, List.getElem?_eq_getElem (by omega : k + n < l.length)]
    simp only
    split <;> (simp only; rw [List.take_append_of_le_length (by omega)]; exact ih)
/-- The name that is given k-th: its own, if it stands for the first time; no name that was given ahead; a name. -/
theorem outAt_step (l : List (List UInt8)) (k : Nat) (hk : k < l.length) (h1000 : l.length ≤ 1000) (hok : ∀ x ∈ l, nmOk x = true) :
    ∃ y, (outAt l (k + 1)).1 = (outAt l k).1 ++ [y] ∧ y ∉ (outAt l k).1 ∧ nmOk y = true ∧ (l[k] ∈ l.take k ∨ y = l[k]) := by
  obtain ⟨h1, h2⟩ := outAt_in l k (by omega)
  obtain ⟨l1, l2⟩ := outAt_len l k (by omega)
  obtain ⟨f1, f2, f3, f4, _⟩ := fresh_spec l (outAt l k).2 l[k]
  rw [outAt, List.getElem?_eq_getElem hk]
  simp only
  split
  · rename_i hm
    refine ⟨_, rfl, fun hx => ?_, copy_ok _ _ (hok _ (List.getElem_mem hk)) (by omega), .inl hm⟩
    rcases h1 _ hx with h | h
    · exact f1 (List.mem_of_mem_take h)
    · exact f2 h
  · rename_i hm
    refine ⟨_, rfl, fun hx => ?_, hok _ (List.getElem_mem hk), .inr rfl⟩
    rcases h1 _ hx with h | h
    · exact hm h
    · exact (h2 _ h).1 (List.getElem_mem hk)
end Arb
