/- The order of texts is one; texts that are put stand in it; lists in one order with the same members are the same. -/
import Derived.Test.YtkohcibhefejfaaDoorNormN
import Derived.Test.YtkohcibhefejfaaDoorLess
namespace Arb
set_option maxRecDepth 20000
set_option linter.unusedVariables false
open Go.Op (bytesLess)

theorem ltT_spec (a s : List UInt8) : ltT a s = true ↔ a = [46] ∨ (s ≠ [46] ∧ bytesLess a s = true) := by
  unfold ltT
  simp
/-- '.' ahead of all others; else byte by byte. -/
def ltU (a s : List UInt8) : Prop := a ≠ s ∧ ltT a s = true
theorem ltU_irrefl (a : List UInt8) : ¬ ltU a a := fun h => h.1 rfl
theorem ltU_spec (a s : List UInt8) : ltU a s ↔ (a = [46] ∧ s ≠ [46]) ∨ (a ≠ [46] ∧ s ≠ [46] ∧ bytesLess a s = true) := by
  unfold ltU
  rw [ltT_spec]
  constructor
  · rintro ⟨h1, h2 | ⟨h2, h3⟩⟩
    · exact .inl ⟨h2, fun e => h1 (by rw [h2, e])⟩
    · by_cases ha : a = [46]
      · exact .inl ⟨ha, h2⟩
      · exact .inr ⟨ha, h2, h3⟩
  · rintro (⟨h1, h2⟩ | ⟨h1, h2, h3⟩)
    · exact ⟨fun e => h2 (by rw [← e, h1]), .inl h1⟩
    · refine ⟨?_, .inr ⟨h2, h3⟩⟩
      rintro rfl
      rw [less_irrefl] at h3
      cases h3
theorem ltU_trans {a b c : List UInt8} (h1 : ltU a b) (h2 : ltU b c) : ltU a c := by
  rw [ltU_spec] at *
  rcases h1 with ⟨h1, h3⟩ | ⟨h1, h3, h4⟩
  · rcases h2 with ⟨h2, _⟩ | ⟨_, h5, _⟩
    · exact absurd h2 h3
    · exact .inl ⟨h1, h5⟩
  · rcases h2 with ⟨h2, _⟩ | ⟨_, h5, h6⟩
    · exact absurd h2 h3
    · exact .inr ⟨h1, h5, less_trans h4 h6⟩
theorem ltU_total {a b : List UInt8} (h : a ≠ b) : ltU a b ∨ ltU b a := by
  rw [ltU_spec, ltU_spec]
  by_cases ha : a = [46]
  · exact .inl (.inl ⟨ha, fun e => h (by rw [ha, e])⟩)
  · by_cases hb : b = [46]
    · exact .inr (.inl ⟨hb, ha⟩)
    · rcases less_total h with h1 | h1
      · exact .inl (.inr ⟨ha, hb, h1⟩)
      · exact .inr (.inr ⟨hb, ha, h1⟩)
theorem ltU_asymm {a b : List UInt8} (h1 : ltU a b) (h2 : ltU b a) : False := ltU_irrefl a (ltU_trans h1 h2)
/-- Lists that rise by whatever order, with the same members, are the same. -/
theorem rises_uniq {α : Type} {r : α → α → Prop} (hi : ∀ a, ¬ r a a) (ht : ∀ {a b c}, r a b → r b c → r a c) : ∀ {l m : List α}, l.Pairwise r → m.Pairwise r → (∀ x, x ∈ l ↔ x ∈ m) → l = m
  | [], [], _, _, _ => rfl
  | [], b :: m, _, _, h => by have := (h b).2 (List.mem_cons_self ..); cases this
  | a :: l, [], _, _, h => by have := (h a).1 (List.mem_cons_self ..); cases this
  | a :: l, b :: m, hl, hm, h => by
    obtain ⟨h1, h2⟩ := List.pairwise_cons.1 hl
    obtain ⟨k1, k2⟩ := List.pairwise_cons.1 hm
    have hab : a = b := by
      rcases List.mem_cons.1 ((h a).1 (List.mem_cons_self ..)) with e | e
      · exact e
      · rcases List.mem_cons.1 ((h b).2 (List.mem_cons_self ..)) with f | f
        · exact f.symm
        · exact absurd (ht (k1 a e) (h1 b f)) (hi b)
    subst hab
    have : l = m := rises_uniq hi ht h2 k2 fun x => by
      constructor
      · intro hx
        rcases List.mem_cons.1 ((h x).1 (List.mem_cons_of_mem _ hx)) with e | e
        · subst e; exact absurd (h1 x hx) (hi x)
        · exact e
      · intro hx
        rcases List.mem_cons.1 ((h x).2 (List.mem_cons_of_mem _ hx)) with e | e
        · subst e; exact absurd (k1 x hx) (hi x)
        · exact e
    rw [this]
theorem takeWhile_all {p : List UInt8 → Bool} : ∀ {l : List (List UInt8)} {x : List UInt8}, x ∈ l.takeWhile p → p x = true
  | a :: l, x, h => by
    rw [List.takeWhile_cons] at h
    split at h
    · rcases List.mem_cons.1 h with rfl | h
      · assumption
      · exact takeWhile_all h
    · cases h
theorem dropWhile_first {p : List UInt8 → Bool} : ∀ {l : List (List UInt8)} {y : List UInt8} {r : List (List UInt8)}, l.dropWhile p = y :: r → p y = false
  | a :: l, y, r, h => by
    rw [List.dropWhile_cons] at h
    split at h
    · exact dropWhile_first h
    · rename_i hp
      injection h with h _
      subst h
      simpa using hp
theorem put_rises {l : List (List UInt8)} (h : l.Pairwise ltU) (s : List UInt8) : (putOf l s).Pairwise ltU := by
  unfold putOf
  split
  · exact h
  · rename_i hs
    have e := List.takeWhile_append_dropWhile (p := (ltT · s)) (l := l)
    have h2 := h
    rw [← e, List.pairwise_append] at h2
    obtain ⟨h3, h4, h5⟩ := h2
    have hs2 : ∀ x ∈ l, x ≠ s := fun x hx e => hs (by rw [← e]; exact hx)
    have ht : ∀ x ∈ l.takeWhile (ltT · s), ltU x s := fun x hx => ⟨hs2 x ((List.takeWhile_sublist _).subset hx), takeWhile_all (p := (ltT · s)) hx⟩
    have hd : ∀ x ∈ l.dropWhile (ltT · s), ltU s x := by
      rcases hdw : l.dropWhile (ltT · s) with _ | ⟨y, r⟩
      · intro x hx; cases hx
      · have hy := dropWhile_first hdw
        have hyl : y ∈ l := (List.dropWhile_sublist (ltT · s)).subset (by rw [hdw]; exact List.mem_cons_self ..)
        have hsy : ltU s y := by
          rcases ltU_total (hs2 y hyl) with h6 | h6
          · have h9 : ltT y s = true := h6.2
            have h10 : ltT y s = false := hy
            rw [h10] at h9; cases h9
          · exact h6
        rw [hdw] at h4
        obtain ⟨h7, _⟩ := List.pairwise_cons.1 h4
        intro x hx
        rcases List.mem_cons.1 hx with rfl | hx
        · exact hsy
        · exact ltU_trans hsy (h7 x hx)
    rw [List.pairwise_append, List.pairwise_cons]
    refine ⟨h3, ⟨hd, h4⟩, fun a ha b hb => ?_⟩
    rcases List.mem_cons.1 hb with rfl | hb
    · exact ht a ha
    · exact ltU_trans (ht a ha) (hd b hb)
theorem texts_rises (f : Rul → Bool) (l : List Rul) : (textsOf f l).Pairwise ltU := by
  have : ∀ (l : List Rul) (o : List (List UInt8)), o.Pairwise ltU → (l.foldl (fun o x => if f x then putOf o x.text else o) o).Pairwise ltU := by
    intro l
    induction l with
    | nil => intro o h; exact h
    | cons x l ih =>
      intro o h
      rw [List.foldl_cons]
      refine ih _ ?_
      split
      · exact put_rises h _
      · exact h
  exact this l [] List.Pairwise.nil
/-- A list that rises and has just the places is the places. -/
theorem places_uniq {l : List Rul} {P : List (List UInt8)} (h : P.Pairwise ltU) (hm : ∀ t, t ∈ P ↔ ∃ x ∈ l, isPl x ∧ x.text = t) : P = placesOf l :=
  rises_uniq ltU_irrefl ltU_trans h (texts_rises _ l) fun t => by rw [hm, place_mem]
theorem types_uniq {l : List Rul} {P : List (List UInt8)} (h : P.Pairwise ltU) (hm : ∀ t, t ∈ P ↔ ∃ x ∈ l, x.kind = 3 ∧ x.text = t) : P = typesOf l :=
  rises_uniq ltU_irrefl ltU_trans h (texts_rises _ l) fun t => by
    rw [hm]
    unfold typesOf
    rw [texts_mem]; simp
/-- The nearest place above is one text, however it was found. -/
theorem near_uniq {l : List Rul} {p : List UInt8} {b c : Option (List UInt8)} (h : NSpec l p b) (g : NSpec l p c) : b = c := by
  rcases h with ⟨rfl, h⟩ | ⟨t, rfl, ⟨x, hx, hx1, hx2⟩, h⟩ <;> rcases g with ⟨rfl, g⟩ | ⟨u, rfl, ⟨y, hy, hy1, hy2⟩, g⟩
  · rfl
  · exact absurd hy1 (h y hy)
  · exact absurd hx1 (g x hx)
  · have h1 := h y hy hy1
    have h2 := g x hx hx1
    rw [hy2] at h1
    rw [hx2] at h2
    rw [same_long (p := p) (t := t) (u := u) (by rw [← hx2]; exact hx1.2.2.2) (by rw [← hy2]; exact hy1.2.2.2) (by omega)]
end Arb
