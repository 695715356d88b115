/- The mathematics of filters in their form. -/
import Derived.Test.YtkohcibhefejfaaDoorGlobM
import GoSem.Op.String
namespace Arb
set_option maxRecDepth 20000
set_option linter.unusedVariables false

def isPl (x : Rul) : Prop := x.kind = 1 ∨ x.kind = 2
instance (x : Rul) : Decidable (isPl x) := by unfold isPl; exact inferInstance
/-- The kind at a place; 0: there is no rule. -/
def kindStep (p : List UInt8) (k : Int) (x : Rul) : Int := if x.text = p ∧ (x.kind = 2 ∨ (x.kind = 1 ∧ k = 0)) then x.kind else k
def kindAt (l : List Rul) (p : List UInt8) : Int := l.foldl (kindStep p) 0
def KSpec (l : List Rul) (p : List UInt8) (k : Int) : Prop :=
  (k = 2 ∧ ∃ x ∈ l, x.text = p ∧ x.kind = 2) ∨ (k = 1 ∧ (∀ x ∈ l, x.text = p → x.kind ≠ 2) ∧ ∃ x ∈ l, x.text = p ∧ x.kind = 1) ∨ (k = 0 ∧ ∀ x ∈ l, x.text = p → ¬ isPl x)
theorem KSpec.step {l : List Rul} {p : List UInt8} {k : Int} (h : KSpec l p k) (x : Rul) : KSpec (l ++ [x]) p (kindStep p k x) := by
  unfold kindStep
  split
  · rename_i hx
    obtain ⟨h1, h2⟩ := hx
    rcases h2 with h2 | ⟨h2, h3⟩
    · exact .inl ⟨h2, x, by simp, h1, h2⟩
    · refine .inr (.inl ⟨h2, ?_, x, by simp, h1, h2⟩)
      rcases h with ⟨h, _⟩ | ⟨h, _⟩ | ⟨h, h4⟩
      · omega
      · omega
      · intro y hy hp
        rcases List.mem_append.1 hy with hy | hy
        · exact fun e => h4 y hy hp (.inr e)
        · simp at hy; rw [hy, h2]; decide
  · rename_i hx
    have hx' : x.text = p → x.kind ≠ 2 ∧ (x.kind = 1 → k ≠ 0) := fun e => ⟨fun h2 => hx ⟨e, .inl h2⟩, fun h1 h0 => hx ⟨e, .inr ⟨h1, h0⟩⟩⟩
    rcases h with ⟨h, y, hy, h1⟩ | ⟨h, h2, y, hy, h1⟩ | ⟨h, h1⟩
    · exact .inl ⟨h, y, List.mem_append_left _ hy, h1⟩
    · refine .inr (.inl ⟨h, fun z hz hp => ?_, y, List.mem_append_left _ hy, h1⟩)
      rcases List.mem_append.1 hz with hz | hz
      · exact h2 z hz hp
      · simp at hz; rw [hz] at hp ⊢; exact (hx' hp).1
    · refine .inr (.inr ⟨h, fun z hz hp => ?_⟩)
      rcases List.mem_append.1 hz with hz | hz
      · exact h1 z hz hp
      · simp at hz
        rw [hz] at hp ⊢
        rintro (e | e)
        · exact (hx' hp).2 e h
        · exact (hx' hp).1 e
theorem KSpec.fold {p : List UInt8} : ∀ (m l : List Rul) (k : Int), KSpec l p k → KSpec (l ++ m) p (m.foldl (kindStep p) k)
  | [], l, k, h => by rw [List.append_nil]; exact h
  | x :: m, l, k, h => by
    have := KSpec.fold m (l ++ [x]) (kindStep p k x) (h.step x)
    rw [List.append_assoc] at this
    exact this
theorem kind_spec (l : List Rul) (p : List UInt8) : KSpec l p (kindAt l p) := by
  have := KSpec.fold l [] 0 (p := p) (.inr (.inr ⟨rfl, by simp⟩))
  exact this
theorem kind_place {l : List Rul} {x : Rul} (hx : x ∈ l) (h : isPl x) : kindAt l x.text = 1 ∨ kindAt l x.text = 2 := by
  rcases kind_spec l x.text with ⟨h1, _⟩ | ⟨h1, _⟩ | ⟨_, h1⟩
  · exact .inr h1
  · exact .inl h1
  · exact absurd h (h1 x hx rfl)
theorem KSpec.uniq {l : List Rul} {p : List UInt8} {k m : Int} (h : KSpec l p k) (g : KSpec l p m) : k = m := by
  rcases h with ⟨h, x, hx, h1, h2⟩ | ⟨h, h1, x, hx, h2, h3⟩ | ⟨h, h1⟩ <;> rcases g with ⟨g, y, hy, g1, g2⟩ | ⟨g, g1, y, hy, g2, g3⟩ | ⟨g, g1⟩
  · omega
  · exact absurd h2 (g1 x hx h1)
  · exact absurd (.inr h2) (g1 x hx h1)
  · exact absurd g2 (h1 y hy g1)
  · omega
  · exact absurd (.inl h3) (g1 x hx h2)
  · exact absurd (.inr g2) (h1 y hy g1)
  · exact absurd (.inl g3) (h1 y hy g2)
  · omega
theorem kind_set {l m : List Rul} (hm : ∀ z, isPl z → (z ∈ l ↔ z ∈ m)) (p : List UInt8) : kindAt l p = kindAt m p := by
  refine (kind_spec l p).uniq ?_
  rcases kind_spec m p with ⟨h, x, hx, h1, h2⟩ | ⟨h, h1, x, hx, h2, h3⟩ | ⟨h, h1⟩
  · exact .inl ⟨h, x, (hm x (.inr h2)).2 hx, h1, h2⟩
  · exact .inr (.inl ⟨h, fun y hy hp e => h1 y ((hm y (.inr e)).1 hy) hp e, x, (hm x (.inl h3)).2 hx, h2, h3⟩)
  · exact .inr (.inr ⟨h, fun y hy hp e => h1 y ((hm y e).1 hy) hp e⟩)

/-- Is this rule's place above a place? -/
def overP (p : List UInt8) (x : Rul) : Prop := isPl x ∧ x.text ≠ p ∧ p ≠ [46] ∧ withinB p x.text = true
instance (p : List UInt8) (x : Rul) : Decidable (overP p x) := by unfold overP; exact inferInstance
def nearStep (p : List UInt8) (b : Option (List UInt8)) (x : Rul) : Option (List UInt8) := if overP p x then (match b with
  | none => some x.text
  | some t => if longOf t < longOf x.text then some x.text else some t) else b
/-- The nearest place above a place. -/
def nearOf (l : List Rul) (p : List UInt8) : Option (List UInt8) := l.foldl (nearStep p) none
def aboveOf (l : List Rul) (p : List UInt8) : Int := match nearOf l p with
  | none => 2
  | some t => kindAt l t
def NSpec (l : List Rul) (p : List UInt8) (b : Option (List UInt8)) : Prop :=
  (b = none ∧ ∀ x ∈ l, ¬ overP p x) ∨ ∃ t, b = some t ∧ (∃ x ∈ l, overP p x ∧ x.text = t) ∧ ∀ x ∈ l, overP p x → longOf x.text ≤ longOf t
theorem NSpec.step {l : List Rul} {p : List UInt8} {b : Option (List UInt8)} (h : NSpec l p b) (x : Rul) : NSpec (l ++ [x]) p (nearStep p b x) := by
  unfold nearStep
  split
  · rename_i hx
    rcases h with ⟨rfl, h1⟩ | ⟨t, rfl, ⟨y, hy, h1, h2⟩, h3⟩
    · refine .inr ⟨x.text, rfl, ⟨x, by simp, hx, rfl⟩, fun z hz hzo => ?_⟩
      rcases List.mem_append.1 hz with hz | hz
      · exact absurd hzo (h1 z hz)
      · simp at hz; rw [hz]; exact Int.le_refl _
    · simp only
      split
      · rename_i hlt
        refine .inr ⟨x.text, rfl, ⟨x, by simp, hx, rfl⟩, fun z hz hzo => ?_⟩
        rcases List.mem_append.1 hz with hz | hz
        · have := h3 z hz hzo; omega
        · simp at hz; rw [hz]; exact Int.le_refl _
      · rename_i hlt
        refine .inr ⟨t, rfl, ⟨y, List.mem_append_left _ hy, h1, h2⟩, fun z hz hzo => ?_⟩
        rcases List.mem_append.1 hz with hz | hz
        · exact h3 z hz hzo
        · simp at hz; rw [hz]; omega
  · rename_i hx
    rcases h with ⟨rfl, h1⟩ | ⟨t, rfl, ⟨y, hy, h1, h2⟩, h3⟩
    · refine .inl ⟨rfl, fun z hz => ?_⟩
      rcases List.mem_append.1 hz with hz | hz
      · exact h1 z hz
      · simp at hz; rw [hz]; exact hx
    · refine .inr ⟨t, rfl, ⟨y, List.mem_append_left _ hy, h1, h2⟩, fun z hz hzo => ?_⟩
      rcases List.mem_append.1 hz with hz | hz
      · exact h3 z hz hzo
      · simp at hz; rw [hz] at hzo; exact absurd hzo hx
theorem NSpec.fold {p : List UInt8} : ∀ (m l : List Rul) (b : Option (List UInt8)), NSpec l p b → NSpec (l ++ m) p (m.foldl (nearStep p) b)
  | [], l, b, h => by rw [List.append_nil]; exact h
  | x :: m, l, b, h => by
    have := NSpec.fold m (l ++ [x]) (nearStep p b x) (h.step x)
    rw [List.append_assoc] at this
    exact this
theorem near_spec (l : List Rul) (p : List UInt8) : NSpec l p (nearOf l p) := by
  have := NSpec.fold l [] none (p := p) (.inl ⟨rfl, by simp⟩)
  exact this

/-- The order of texts: '.' ahead of all others. -/
def ltT (a s : List UInt8) : Bool := decide (a = [46]) || (decide (s ≠ [46]) && Go.Op.bytesLess a s)
def putOf (l : List (List UInt8)) (s : List UInt8) : List (List UInt8) := if s ∈ l then l else l.takeWhile (ltT · s) ++ s :: l.dropWhile (ltT · s)
theorem put_mem {l : List (List UInt8)} {s t : List UInt8} : t ∈ putOf l s ↔ t ∈ l ∨ t = s := by
  unfold putOf
  split
  · rename_i h
    constructor
    · exact .inl
    · rintro (h1 | rfl)
      · exact h1
      · exact h
  · constructor
    · intro h
      rcases List.mem_append.1 h with h | h
      · exact .inl ((List.takeWhile_sublist _).subset h)
      · rcases List.mem_cons.1 h with h | h
        · exact .inr h
        · exact .inl ((List.dropWhile_sublist _).subset h)
    · rintro (h | rfl)
      · have := List.takeWhile_append_dropWhile (p := (ltT · s)) (l := l)
        rw [← this] at h
        rcases List.mem_append.1 h with h | h
        · exact List.mem_append_left _ h
        · exact List.mem_append_right _ (List.mem_cons_of_mem _ h)
      · simp
theorem put_nodup {l : List (List UInt8)} {s : List UInt8} (h : l.Nodup) : (putOf l s).Nodup := by
  unfold putOf
  split
  · exact h
  · rename_i hs
    have := List.takeWhile_append_dropWhile (p := (ltT · s)) (l := l)
    rw [← this] at h hs
    rw [List.nodup_append] at h ⊢
    rw [List.mem_append, not_or] at hs
    refine ⟨h.1, ?_, ?_⟩
    · rw [List.nodup_cons]; exact ⟨hs.2, h.2.1⟩
    · intro a ha b hb
      rcases List.mem_cons.1 hb with rfl | hb
      · rintro rfl; exact hs.1 ha
      · exact h.2.2 a ha b hb
def textsOf (f : Rul → Bool) (l : List Rul) : List (List UInt8) := l.foldl (fun o x => if f x then putOf o x.text else o) []
theorem texts_fold (f : Rul → Bool) : ∀ (l : List Rul) (o : List (List UInt8)), o.Nodup → (l.foldl (fun o x => if f x then putOf o x.text else o) o).Nodup ∧ ∀ t, t ∈ l.foldl (fun o x => if f x then putOf o x.text else o) o ↔ t ∈ o ∨ ∃ x ∈ l, f x = true ∧ x.text = t
  | [], o, h => ⟨h, by simp⟩
  | x :: l, o, h => by
    rw [List.foldl_cons]
    by_cases hf : f x = true
    · rw [if_pos hf]
      obtain ⟨h1, h2⟩ := texts_fold f l (putOf o x.text) (put_nodup h)
      refine ⟨h1, fun t => ?_⟩
      rw [h2, put_mem]
      constructor
      · rintro ((h | rfl) | ⟨y, hy, h3, h4⟩)
        · exact .inl h
        · exact .inr ⟨x, by simp, hf, rfl⟩
        · exact .inr ⟨y, List.mem_cons_of_mem _ hy, h3, h4⟩
      · rintro (h | ⟨y, hy, h3, h4⟩)
        · exact .inl (.inl h)
        · rcases List.mem_cons.1 hy with rfl | hy
          · exact .inl (.inr h4.symm)
          · exact .inr ⟨y, hy, h3, h4⟩
    · rw [if_neg hf]
      obtain ⟨h1, h2⟩ := texts_fold f l o h
      refine ⟨h1, fun t => ?_⟩
      rw [h2]
      constructor
      · rintro (h | ⟨y, hy, h3, h4⟩)
        · exact .inl h
        · exact .inr ⟨y, List.mem_cons_of_mem _ hy, h3, h4⟩
      · rintro (h | ⟨y, hy, h3, h4⟩)
        · exact .inl h
        · rcases List.mem_cons.1 hy with rfl | hy
          · exact absurd h3 hf
          · exact .inr ⟨y, hy, h3, h4⟩
theorem texts_nodup (f : Rul → Bool) (l : List Rul) : (textsOf f l).Nodup := (texts_fold f l [] List.nodup_nil).1
theorem texts_mem (f : Rul → Bool) (l : List Rul) (t : List UInt8) : t ∈ textsOf f l ↔ ∃ x ∈ l, f x = true ∧ x.text = t := by
  unfold textsOf
  rw [(texts_fold f l [] List.nodup_nil).2]
  simp
def placesOf (l : List Rul) : List (List UInt8) := textsOf (fun x => decide (isPl x)) l
def typesOf (l : List Rul) : List (List UInt8) := textsOf (fun x => decide (x.kind = 3)) l
/-- The With and Without rules of the form, and the Type rules. -/
def formP (l : List Rul) : List Rul := ((placesOf l).filter fun t => decide (kindAt l t ≠ aboveOf l t)).map fun t => ⟨kindAt l t, t⟩
def formT (l : List Rul) : List Rul := (typesOf l).map fun t => ⟨3, t⟩
def normOf (l : List Rul) : List Rul := formP l ++ formT l
theorem place_mem {l : List Rul} {t : List UInt8} : t ∈ placesOf l ↔ ∃ x ∈ l, isPl x ∧ x.text = t := by
  unfold placesOf
  rw [texts_mem]; simp
theorem place_kind {l : List Rul} {t : List UInt8} (h : t ∈ placesOf l) : kindAt l t = 1 ∨ kindAt l t = 2 := by
  obtain ⟨x, hx, h1, rfl⟩ := place_mem.1 h
  exact kind_place hx h1
theorem formP_mem {l : List Rul} {x : Rul} : x ∈ formP l ↔ x.text ∈ placesOf l ∧ x.kind = kindAt l x.text ∧ kindAt l x.text ≠ aboveOf l x.text := by
  unfold formP
  rw [List.mem_map]
  constructor
  · rintro ⟨t, ht, rfl⟩
    rw [List.mem_filter, decide_eq_true_eq] at ht
    exact ⟨ht.1, rfl, ht.2⟩
  · rintro ⟨h1, h2, h3⟩
    refine ⟨x.text, List.mem_filter.2 ⟨h1, by simpa using h3⟩, ?_⟩
    obtain ⟨k, t⟩ := x
    simp only at h2
    rw [h2]
theorem norm_pl {l : List Rul} {x : Rul} (h : isPl x) : x ∈ normOf l ↔ x ∈ formP l := by
  unfold normOf formT
  rw [List.mem_append]
  constructor
  · rintro (h1 | h1)
    · exact h1
    · obtain ⟨t, _, rfl⟩ := List.mem_map.1 h1
      rcases h with h | h <;> simp at h
  · exact .inl
theorem formP_pl {l : List Rul} {x : Rul} (h : x ∈ formP l) : isPl x := by
  obtain ⟨h1, h2, _⟩ := formP_mem.1 h
  rcases place_kind h1 with h3 | h3
  · left; rw [h2, h3]
  · right; rw [h2, h3]
theorem norm_type {l : List Rul} {x : Rul} (h : x.kind = 3) : x ∈ normOf l ↔ x ∈ l := by
  have ht : x.text ∈ typesOf l ↔ ∃ y ∈ l, y.kind = 3 ∧ y.text = x.text := by
    unfold typesOf
    rw [texts_mem]; simp
  unfold normOf formT
  rw [List.mem_append, List.mem_map]
  constructor
  · rintro (h1 | ⟨t, h1, rfl⟩)
    · have := formP_pl h1
      rcases this with h2 | h2 <;> omega
    · obtain ⟨y, hy, h2, h3⟩ := ht.1 h1
      simp only at h3
      obtain ⟨k, s⟩ := y
      simp only at h2 h3
      rw [h2, h3] at hy
      exact hy
  · intro hx
    refine .inr ⟨x.text, ht.2 ⟨x, hx, h, rfl⟩, ?_⟩
    obtain ⟨k, t⟩ := x
    simp only at h
    rw [h]
theorem norm_types (l : List Rul) (e : List UInt8) : typesOk (normOf l) e = typesOk l e := by
  have ht : ∀ g : Rul → Bool, ((normOf l).any fun x => decide (x.kind = 3) && g x) = l.any fun x => decide (x.kind = 3) && g x := fun g => by
    rw [Bool.eq_iff_iff, List.any_eq_true, List.any_eq_true]
    constructor
    · rintro ⟨x, h1, h2⟩
      rw [Bool.and_eq_true, decide_eq_true_eq] at h2
      exact ⟨x, (norm_type h2.1).1 h1, by rw [Bool.and_eq_true, decide_eq_true_eq]; exact h2⟩
    · rintro ⟨x, h1, h2⟩
      rw [Bool.and_eq_true, decide_eq_true_eq] at h2
      exact ⟨x, (norm_type h2.1).2 h1, by rw [Bool.and_eq_true, decide_eq_true_eq]; exact h2⟩
  have h1 := ht fun _ => true
  simp only [Bool.and_true] at h1
  unfold typesOk
  rw [h1, ht]
end Arb
