/- The mathematics of the program's forms: the order of rules, sorted lists, the kinds of a map, the places above. -/
import Derived.Test.YtkohcibhefejfaaDoorNormS
import Derived.Shelf.SlSortCmp.Insertion
import Derived.Sort.Statements
import Derived.Lib.Bytealg
namespace Arb
set_option maxRecDepth 20000
set_option linter.unusedVariables false
open Go.Op (bytesLess)

theorem cmp_less : ∀ a b : List UInt8, (Go.Lib.compareBytes a b < 0 ↔ bytesLess a b = true)
  | [], [] => by simp [Go.Lib.compareBytes, bytesLess]
  | [], _ :: _ => by simp [Go.Lib.compareBytes, bytesLess]
  | _ :: _, [] => by simp [Go.Lib.compareBytes, bytesLess]
  | x :: a, y :: b => by
    rw [less_cons]
    show (if x < y then (-1 : Int) else if y < x then 1 else Go.Lib.compareBytes a b) < 0 ↔ _
    by_cases h1 : x < y
    · simp [h1]
    · rw [if_neg h1]
      by_cases h2 : y < x
      · rw [if_pos h2]
        have : x ≠ y := fun e => by rw [e] at h2; exact absurd h2 (UInt8.lt_irrefl _)
        simp [h1, this]
      · rw [if_neg h2]
        have : x = y := UInt8.le_antisymm (UInt8.not_lt.1 h2) (UInt8.not_lt.1 h1)
        simp [this, cmp_less a b]
/-- Negative, zero or positive, as a text stands ahead of another one, with it or behind it. -/
def cmpT (a b : List UInt8) : Int := if a = b then 0 else if a = [46] then -1 else if b = [46] then 1 else Go.Lib.compareBytes a b
theorem cmpT_less (a b : List UInt8) : cmpT a b < 0 ↔ ltU a b := by
  unfold cmpT
  rw [ltU_spec]
  by_cases h1 : a = b
  · rw [if_pos h1]
    subst h1
    simp [less_irrefl]
  · rw [if_neg h1]
    by_cases h2 : a = [46]
    · rw [if_pos h2]
      subst h2
      simp
      exact fun e => h1 e.symm
    · rw [if_neg h2]
      by_cases h3 : b = [46]
      · rw [if_pos h3]; simp [h2, h3]
      · rw [if_neg h3, cmp_less]; simp [h2, h3]
def cmpR (x y : Rul) : Int := cmpT x.text y.text
theorem ltOf_rl (x y : Rul) : Go.Proofs.ltOf cmpR x y = true ↔ ltU x.text y.text := by
  unfold Go.Proofs.ltOf cmpR
  rw [decide_eq_true_eq, cmpT_less]
theorem ltOf_rl_false (x y : Rul) : Go.Proofs.ltOf cmpR x y = false ↔ ¬ ltU x.text y.text := by
  rw [← ltOf_rl]; simp
theorem swo_rl : Go.Sort.SWO (Go.Proofs.ltOf cmpR) := by
  refine ⟨fun x => by rw [ltOf_rl_false]; exact ltU_irrefl _, fun x y z h1 h2 => by rw [ltOf_rl] at *; exact ltU_trans h1 h2, fun x y z h1 h2 => ?_⟩
  rw [ltOf_rl_false] at *
  intro h3
  by_cases hxy : x.text = y.text
  · rw [hxy] at h3; exact h2 h3
  · rcases ltU_total hxy with h4 | h4
    · exact h1 h4
    · exact h2 (ltU_trans h4 h3)
def ltR (x y : Rul) : Prop := ltU x.text y.text
def leR (x y : Rul) : Prop := ¬ ltU y.text x.text
theorem ltR_irrefl (x : Rul) : ¬ ltR x x := ltU_irrefl _
theorem ltR_trans {x y z : Rul} (h1 : ltR x y) (h2 : ltR y z) : ltR x z := ltU_trans h1 h2

/-- The rules of a map, each text once, that another kind stands above. -/
theorem formP_rises (l : List Rul) : (formP l).Pairwise ltR := by
  unfold formP
  rw [List.pairwise_map]
  exact (texts_rises _ l).filter _
theorem formT_rises (l : List Rul) : (formT l).Pairwise ltR := by
  unfold formT
  rw [List.pairwise_map]
  exact texts_rises _ l
/-- A sorted list without two of one text rises. -/
theorem le_rises {S : List Rul} (hs : S.Pairwise leR) (hn : (S.map (·.text)).Nodup) : S.Pairwise ltR := by
  unfold List.Nodup at hn
  rw [List.pairwise_map] at hn
  refine (hs.and hn).imp ?_
  rintro x y ⟨h1, h2⟩
  rcases ltU_total h2 with h3 | h3
  · exact h3
  · exact absurd h3 h1
theorem formP_eq {l S : List Rul} {T : List (List UInt8)} (hT : T.Nodup) (hTm : ∀ t, t ∈ T ↔ t ∈ placesOf l)
    (hp : S.Perm ((T.filter fun t => decide (kindAt l t ≠ aboveOf l t)).map fun t => ⟨kindAt l t, t⟩)) (hs : S.Pairwise leR) : S = formP l := by
  have hn : (S.map (·.text)).Nodup := by
    refine (List.Perm.nodup_iff (hp.map _)).2 ?_
    rw [List.map_map]
    show ((T.filter _).map fun t => t).Nodup
    rw [List.map_id']
    exact hT.sublist List.filter_sublist
  refine rises_uniq ltR_irrefl ltR_trans (le_rises hs hn) (formP_rises l) fun x => ?_
  rw [hp.mem_iff]
  unfold formP
  rw [List.mem_map, List.mem_map]
  constructor
  · rintro ⟨t, ht, rfl⟩
    rw [List.mem_filter] at ht
    exact ⟨t, List.mem_filter.2 ⟨(hTm t).1 ht.1, ht.2⟩, rfl⟩
  · rintro ⟨t, ht, rfl⟩
    rw [List.mem_filter] at ht
    exact ⟨t, List.mem_filter.2 ⟨(hTm t).2 ht.1, ht.2⟩, rfl⟩

/-- Neighbours that are alike struck. -/
def compOf : List Rul → List Rul
  | [] => []
  | [x] => [x]
  | x :: y :: l => if x = y then compOf (y :: l) else x :: compOf (y :: l)
theorem comp_mem : ∀ {l : List Rul} {z : Rul}, z ∈ compOf l ↔ z ∈ l
  | [], z => by simp [compOf]
  | [x], z => by simp [compOf]
  | x :: y :: l, z => by
    have ih := comp_mem (l := y :: l) (z := z)
    unfold compOf
    split
    · rename_i h
      rw [ih, h]; simp
    · rw [List.mem_cons, ih, List.mem_cons (a := z) (b := x)]
theorem comp_rises : ∀ {l : List Rul}, l.Pairwise leR → (∀ x ∈ l, x.kind = 3) → (compOf l).Pairwise ltR
  | [], _, _ => List.Pairwise.nil
  | [x], _, _ => List.pairwise_singleton _ _
  | x :: y :: l, h, hk => by
    obtain ⟨h1, h2⟩ := List.pairwise_cons.1 h
    have ih := comp_rises h2 fun z hz => hk z (List.mem_cons_of_mem _ hz)
    unfold compOf
    split
    · exact ih
    · rename_i hne
      rw [List.pairwise_cons]
      refine ⟨fun z hz => ?_, ih⟩
      have hz' := comp_mem.1 hz
      have hxy : ltR x y := by
        have e : x.text ≠ y.text := fun e => hne (by
          obtain ⟨a, b⟩ := x
          obtain ⟨c, d⟩ := y
          have e1 := hk ⟨a, b⟩ (by simp)
          have e2 := hk ⟨c, d⟩ (by simp)
          simp only at e e1 e2
          rw [e, e1, e2])
        rcases ltU_total e with h3 | h3
        · exact h3
        · exact absurd h3 (h1 y (by simp))
      rcases List.mem_cons.1 hz' with rfl | hz'
      · exact hxy
      · by_cases e : y.text = z.text
        · show ltU x.text z.text
          rw [← e]; exact hxy
        · rcases ltU_total e with h3 | h3
          · exact ltU_trans hxy h3
          · exact absurd h3 ((List.pairwise_cons.1 h2).1 z hz')
theorem formT_eq {l S : List Rul} (hp : S.Perm (l.filter fun x => decide (x.kind = 3))) (hs : S.Pairwise leR) : compOf S = formT l := by
  have hk : ∀ x ∈ S, x.kind = 3 := fun x hx => by
    have := (hp.mem_iff).1 hx
    rw [List.mem_filter] at this
    simpa using this.2
  refine rises_uniq ltR_irrefl ltR_trans (comp_rises hs hk) (formT_rises l) fun x => ?_
  rw [comp_mem, hp.mem_iff, List.mem_filter, decide_eq_true_eq]
  have ht : ∀ t, t ∈ typesOf l ↔ ∃ y ∈ l, y.kind = 3 ∧ y.text = t := by
    intro t
    unfold typesOf
    rw [texts_mem]; simp
  unfold formT
  rw [List.mem_map]
  constructor
  · rintro ⟨h1, h2⟩
    refine ⟨x.text, (ht _).2 ⟨x, h1, h2, rfl⟩, ?_⟩
    obtain ⟨k, t⟩ := x
    simp only at h2
    rw [h2]
  · rintro ⟨t, h1, rfl⟩
    obtain ⟨⟨k, u⟩, hy, h2, h3⟩ := (ht _).1 h1
    simp only at h2 h3
    subst h2; subst h3
    exact ⟨hy, rfl⟩
theorem comp_len : ∀ l : List Rul, (compOf l).length ≤ l.length
  | [] => Nat.le_refl _
  | [x] => Nat.le_refl _
  | x :: y :: l => by
    have := comp_len (y :: l)
    unfold compOf
    split
    · rw [List.length_cons]; omega
    · simp only [List.length_cons] at *; omega
/-- Neighbours struck, put together from behind. -/
theorem comp_snoc : ∀ (l : List Rul) (x y : Rul), compOf (l ++ [x] ++ [y]) = if x = y then compOf (l ++ [x]) else compOf (l ++ [x]) ++ [y]
  | [], x, y => by
    show compOf [x, y] = if x = y then compOf [x] else compOf [x] ++ [y]
    unfold compOf
    split
    · rename_i h; subst h; rfl
    · rfl
  | [a], x, y => by
    have ih := comp_snoc [] x y
    simp only [List.nil_append, List.cons_append] at ih ⊢
    unfold compOf
    rw [ih]
    by_cases h1 : x = y <;> by_cases h2 : a = x <;> simp [h1, h2]
  | a :: b :: l, x, y => by
    have ih := comp_snoc (b :: l) x y
    simp only [List.cons_append] at ih ⊢
    rw [compOf, compOf, ih]
    by_cases h1 : x = y <;> by_cases h2 : a = b <;> simp [h1, h2]
end Arb
