/- The mathematics of filters in their form: they match the same, and no rule can be left out. -/
import Derived.Test.YtkohcibhefejfaaDoorNormM
namespace Arb
set_option maxRecDepth 20000
set_option linter.unusedVariables false

theorem long_dot {s : List UInt8} (h : longOf s ≤ -1) : s = [46] := by
  unfold longOf at h
  split at h
  · assumption
  · omega
theorem long_ge9 (s : List UInt8) : -1 ≤ longOf s := by unfold longOf; split <;> omega
theorem long_len {s : List UInt8} (h : s ≠ [46]) : longOf s = s.length := by unfold longOf; rw [if_neg h]
theorem within_pre {p t : List UInt8} (h : withinB p t = true) (ht : t ≠ [46]) : t = p.take t.length ∧ t.length ≤ p.length := by
  rcases (within_spec p t).1 h with h | rfl | ⟨r, _, rfl⟩
  · exact absurd h ht
  · simp
  · simp
theorem same_long {p t u : List UInt8} (ht : withinB p t = true) (hu : withinB p u = true) (h : longOf t = longOf u) : t = u := by
  by_cases h1 : t = [46]
  · have : longOf u ≤ -1 := by rw [← h, h1]; decide
    rw [h1, long_dot this]
  · by_cases h2 : u = [46]
    · have : longOf t ≤ -1 := by rw [h, h2]; decide
      rw [h2, long_dot this]
    · rw [long_len h1, long_len h2] at h
      have e : t.length = u.length := by omega
      rw [(within_pre ht h1).1, (within_pre hu h2).1, e]
theorem spl_app (c : UInt8) : ∀ x y : List UInt8, spl c (x ++ c :: y) = spl c x ++ spl c y
  | [], y => by simp [spl]
  | b :: x, y => by
    have ih := spl_app c x y
    rw [List.cons_append]
    by_cases h : b = c
    · subst h
      rw [spl, if_pos rfl, ih]
      conv => rhs; rw [spl, if_pos rfl]
      rfl
    · rw [spl, if_neg h, ih]
      conv => rhs; rw [spl, if_neg h]
      rcases h' : spl c x with _ | ⟨a, t⟩
      · exact absurd h' (spl_ne c x)
      · rfl
theorem no_two {t r : List UInt8} : pathOk (t ++ 47 :: 47 :: r) = false := by
  cases h : pathOk (t ++ 47 :: 47 :: r) with
  | false => rfl
  | true =>
    unfold pathOk at h
    rw [Bool.and_eq_true, List.all_eq_true] at h
    have := h.2 [] (by rw [spl_app]; refine List.mem_append_right _ ?_; simp [spl])
    exact absurd this (by decide)
/-- Of two places that a path is within, one is within the other. -/
theorem chain {p t u : List UInt8} (hp : pathOk p = true) (ht : withinB p t = true) (hu : withinB p u = true) (h : longOf t ≤ longOf u) : withinB u t = true := by
  rw [within_spec]
  by_cases h1 : t = [46]
  · exact .inl h1
  · right
    have h2 : u ≠ [46] := by
      rintro rfl
      exact h1 (long_dot (Int.le_trans h (by decide)))
    rw [long_len h1, long_len h2] at h
    have hl : t.length ≤ u.length := by omega
    by_cases he : t.length = u.length
    · left
      rw [(within_pre ht h1).1, (within_pre hu h2).1, he]
    · right
      rcases (within_spec p t).1 ht with h3 | rfl | ⟨r, hr, rfl⟩
      · exact absurd h3 h1
      · have := (within_pre hu h2).2; omega
      · have hu2 := (within_pre hu h2).1
        obtain ⟨n, hn⟩ : ∃ n, u.length = t.length + 1 + n := ⟨u.length - t.length - 1, by omega⟩
        have e : u = t ++ 47 :: r.take n := by
          rw [hu2, hn, List.take_append, List.take_of_length_le (show t.length ≤ t.length + 1 + n by omega)]
          rw [show t.length + 1 + n - t.length = n + 1 by omega]
          rfl
        refine ⟨r.take n, ?_, e⟩
        intro h0
        rw [h0] at e
        rcases (within_spec _ u).1 hu with h4 | h4 | ⟨r', hr', h4⟩
        · exact h2 h4
        · rw [e] at h4
          have := congrArg List.length h4
          simp at this
          exact hr this
        · rw [e] at h4
          have : r = 47 :: r' := by simpa using h4
          rw [this, no_two] at hp
          cases hp
theorem over_of {l : List Rul} {p t v : List UInt8} (hp : pathOk p = true) (ht : withinB p t = true) (hv : v ∈ placesOf l) (hw : withinB p v = true) (hl : longOf v ≤ longOf t) (hne : v ≠ t) : ∃ x ∈ l, overP t x ∧ x.text = v := by
  obtain ⟨x, hx, h1, rfl⟩ := place_mem.1 hv
  refine ⟨x, hx, ⟨h1, hne, ?_, chain hp hw ht hl⟩, rfl⟩
  rintro rfl
  exact hne (long_dot (Int.le_trans hl (by decide)))
theorem over_less {t : List UInt8} {x : Rul} (h : overP t x) : longOf x.text < longOf t := by
  obtain ⟨_, h1, h2, h3⟩ := h
  rw [long_len h2]
  rcases (within_spec t x.text).1 h3 with h | h | ⟨r, _, h⟩
  · rw [h]; show (-1 : Int) < _; omega
  · exact absurd h.symm h1
  · have := congrArg List.length h
    simp at this
    unfold longOf
    split
    · omega
    · omega
theorem over_place {l : List Rul} {t : List UInt8} {x : Rul} (hx : x ∈ l) (h : overP t x) : x.text ∈ placesOf l := place_mem.2 ⟨x, hx, h.1, rfl⟩
/-- Does a place stand in the form? -/
def stays (l : List Rul) (v : List UInt8) : Prop := v ∈ placesOf l ∧ kindAt l v ≠ aboveOf l v
theorem above_kind {l : List Rul} {t : List UInt8} : aboveOf l t = 1 ∨ aboveOf l t = 2 := by
  unfold aboveOf
  rcases near_spec l t with ⟨h, _⟩ | ⟨u, h, ⟨x, hx, hx1, rfl⟩, _⟩
  · rw [h]; exact .inr rfl
  · rw [h]; exact kind_place hx hx1.1
theorem norm_chain {l : List Rul} {p : List UInt8} (hp : pathOk p = true) : ∀ (n : Nat) (t : List UInt8), t ∈ placesOf l → withinB p t = true → longOf t + 1 < n →
    (∃ u, stays l u ∧ withinB p u = true ∧ longOf u ≤ longOf t ∧ (∀ v, stays l v → withinB p v = true → longOf v ≤ longOf t → longOf v ≤ longOf u) ∧ kindAt l u = kindAt l t) ∨
      ((∀ v, stays l v → withinB p v = true → ¬ longOf v ≤ longOf t) ∧ kindAt l t = 2)
  | 0, t, _, _, hn => by
    have : -1 ≤ longOf t := by unfold longOf; split <;> omega
    omega
  | n + 1, t, ht, hw, hn => by
    by_cases hs : kindAt l t = aboveOf l t
    · have hover : ∀ v, stays l v → withinB p v = true → longOf v ≤ longOf t → ∃ x ∈ l, overP t x ∧ x.text = v := fun v hv hvw hvl =>
        over_of hp hw hv.1 hvw hvl fun e => hv.2 (by rw [e]; exact hs)
      rcases near_spec l t with ⟨h, h1⟩ | ⟨t1, h, ⟨x, hx, hx1, rfl⟩, h2⟩
      · right
        refine ⟨fun v hv hvw hvl => ?_, by rw [hs]; unfold aboveOf; rw [h]⟩
        obtain ⟨x, hx, hx1, _⟩ := hover v hv hvw hvl
        exact h1 x hx hx1
      · have hk : kindAt l t = kindAt l x.text := by rw [hs]; unfold aboveOf; rw [h]
        have hlt := over_less hx1
        have hwx : withinB p x.text = true := within_trans hx1.2.2.1 hw hx1.2.2.2
        have hle : ∀ v, stays l v → withinB p v = true → longOf v ≤ longOf t → longOf v ≤ longOf x.text := fun v hv hvw hvl => by
          obtain ⟨y, hy, hy1, rfl⟩ := hover v hv hvw hvl
          exact h2 y hy hy1
        rcases norm_chain hp n x.text (over_place hx hx1) hwx (by omega) with ⟨u, h3, h4, h5, h6, h7⟩ | ⟨h3, h4⟩
        · exact .inl ⟨u, h3, h4, by omega, fun v hv hvw hvl => h6 v hv hvw (hle v hv hvw hvl), by rw [h7, hk]⟩
        · exact .inr ⟨fun v hv hvw hvl => h3 v hv hvw (hle v hv hvw hvl), by rw [hk, h4]⟩
    · exact .inl ⟨t, ⟨ht, hs⟩, hw, Int.le_refl _, fun v _ _ h => h, rfl⟩

def incB (p : List UInt8) (l : List Rul) : Bool := match bestOf p l with
  | none => false
  | some y => decide (y.kind = 1)
theorem match_incB (l : List Rul) (p : List UInt8) (d : Bool) : matchOf l p d = (incB p l && (d || typesOk l (ext (lastOf p)))) := by
  unfold matchOf incB
  rcases best_tops p l with ⟨h1, _⟩ | ⟨x, h1, h2⟩
  · rw [h1]; rfl
  · rw [h1]
    simp only
    have hc := h2.cand
    unfold candOf at hc
    rw [Bool.and_eq_true, decide_eq_true_eq] at hc
    rcases hc.1 with h | h
    · rw [if_neg (by omega), decide_eq_true h, Bool.true_and]
    · rw [if_pos h, decide_eq_false (by omega), Bool.false_and]
def IncSpec (l : List Rul) (p : List UInt8) (b : Bool) : Prop := (b = false ∧ ∀ t ∈ placesOf l, withinB p t = false) ∨
  ∃ t ∈ placesOf l, withinB p t = true ∧ (∀ u ∈ placesOf l, withinB p u = true → longOf u ≤ longOf t) ∧ b = decide (kindAt l t = 1)
theorem inc_spec (l : List Rul) (p : List UInt8) : IncSpec l p (incB p l) := by
  have hcand : ∀ x : Rul, candOf p x = true ↔ isPl x ∧ withinB p x.text = true := fun x => by
    unfold candOf; rw [Bool.and_eq_true, decide_eq_true_eq]; rfl
  unfold incB
  rcases best_tops p l with ⟨h1, h2⟩ | ⟨x, h1, h2⟩
  · rw [h1]
    refine .inl ⟨rfl, fun t ht => ?_⟩
    obtain ⟨y, hy, hy1, rfl⟩ := place_mem.1 ht
    cases hw : withinB p y.text with
    | false => rfl
    | true =>
      have := h2 y hy
      rw [(hcand y).2 ⟨hy1, hw⟩] at this
      cases this
  · rw [h1]
    obtain ⟨hx1, hx2⟩ := (hcand x).1 h2.cand
    refine .inr ⟨x.text, place_mem.2 ⟨x, h2.mem, hx1, rfl⟩, hx2, fun u hu hw => ?_, ?_⟩
    · obtain ⟨y, hy, hy1, rfl⟩ := place_mem.1 hu
      exact h2.long y hy ((hcand y).2 ⟨hy1, hw⟩)
    · simp only
      rw [decide_eq_decide]
      rcases kind_spec l x.text with ⟨h, y, hy, h3, h4⟩ | ⟨h, h3, _⟩ | ⟨h, h3⟩
      · have := h2.out y hy ((hcand y).2 ⟨.inr h4, by rw [h3]; exact hx2⟩) (by rw [h3]) h4
        omega
      · have := h3 x h2.mem rfl
        rcases hx1 with h5 | h5
        · omega
        · exact absurd h5 this
      · exact absurd hx1 (h3 x h2.mem rfl)
theorem IncSpec.uniq {l : List Rul} {p : List UInt8} {b c : Bool} (h : IncSpec l p b) (g : IncSpec l p c) : b = c := by
  rcases h with ⟨rfl, h⟩ | ⟨t, ht, h1, h2, rfl⟩ <;> rcases g with ⟨rfl, g⟩ | ⟨u, hu, g1, g2, rfl⟩
  · rfl
  · rw [h u hu] at g1; cases g1
  · rw [g t ht] at h1; cases h1
  · have e : t = u := same_long h1 g1 (by have := h2 u hu g1; have := g2 t ht h1; omega)
    rw [e]

theorem norm_place {l : List Rul} {t : List UInt8} : t ∈ placesOf (normOf l) ↔ stays l t := by
  rw [place_mem]
  constructor
  · rintro ⟨x, hx, h1, rfl⟩
    obtain ⟨h2, h3, h4⟩ := formP_mem.1 ((norm_pl h1).1 hx)
    exact ⟨h2, h4⟩
  · rintro ⟨h1, h2⟩
    have hm : (⟨kindAt l t, t⟩ : Rul) ∈ formP l := formP_mem.2 ⟨h1, rfl, h2⟩
    exact ⟨_, (norm_pl (formP_pl hm)).2 hm, formP_pl hm, rfl⟩
theorem kind_only {m : List Rul} {t : List UInt8} {k : Int} (hk : k = 1 ∨ k = 2) (h1 : ⟨k, t⟩ ∈ m) (h2 : ∀ x ∈ m, isPl x → x.text = t → x.kind = k) : kindAt m t = k := by
  refine (kind_spec m t).uniq ?_
  rcases hk with rfl | rfl
  · exact .inr (.inl ⟨rfl, fun x hx ht e => by have := h2 x hx (.inr e) ht; omega, _, h1, rfl, rfl⟩)
  · exact .inl ⟨rfl, _, h1, rfl, rfl⟩
theorem norm_kind {l : List Rul} {t : List UInt8} (h : stays l t) : kindAt (normOf l) t = kindAt l t := by
  have hm : (⟨kindAt l t, t⟩ : Rul) ∈ formP l := formP_mem.2 ⟨h.1, rfl, h.2⟩
  refine kind_only (place_kind h.1) ((norm_pl (formP_pl hm)).2 hm) fun x hx hp ht => ?_
  rw [(formP_mem.1 ((norm_pl hp).1 hx)).2.1, ht]
/-- Rules in their form have the same paths. -/
theorem norm_inc (l : List Rul) {p : List UInt8} (hp : pathOk p = true) : incB p (normOf l) = incB p l := by
  refine (inc_spec (normOf l) p).uniq ?_
  rcases inc_spec l p with ⟨h, h1⟩ | ⟨t, ht, h1, h2, h3⟩
  · rw [h]
    exact .inl ⟨rfl, fun t ht => h1 t (norm_place.1 ht).1⟩
  · rw [h3]
    rcases norm_chain hp (longOf t + 2).toNat t ht h1 (by have := long_ge9 t; omega) with ⟨u, g1, g2, g3, g4, g5⟩ | ⟨g1, g2⟩
    · refine .inr ⟨u, norm_place.2 g1, g2, fun v hv hvw => ?_, ?_⟩
      · have := norm_place.1 hv
        exact g4 v this hvw (h2 v this.1 hvw)
      · rw [norm_kind g1, g5]
    · refine .inl ⟨by rw [g2]; rfl, fun v hv => ?_⟩
      have hv' := norm_place.1 hv
      cases hw : withinB p v with
      | false => rfl
      | true => exact absurd (h2 v hv'.1 hw) (g1 v hv' hw)
theorem norm_match (l : List Rul) {p : List UInt8} (hp : pathOk p = true) (d : Bool) : matchOf (normOf l) p d = matchOf l p d := by
  rw [match_incB, match_incB, norm_inc l hp, norm_types]

/-- No rule of the form can be left out. -/
theorem norm_least {l m : List Rul} {t : List UInt8} (hp : pathOk t = true) (hs : stays l t) (hm : ∀ x, isPl x → (x ∈ m ↔ x ∈ normOf l ∧ x.text ≠ t)) : matchOf (normOf l) t true ≠ matchOf m t true := by
  have hpm : ∀ u, u ∈ placesOf m ↔ stays l u ∧ u ≠ t := fun u => by
    rw [place_mem]
    constructor
    · rintro ⟨x, hx, h1, rfl⟩
      obtain ⟨h2, h3⟩ := (hm x h1).1 hx
      exact ⟨norm_place.1 (place_mem.2 ⟨x, h2, h1, rfl⟩), h3⟩
    · rintro ⟨h1, h2⟩
      obtain ⟨x, hx, h3, rfl⟩ := place_mem.1 (norm_place.2 h1)
      exact ⟨x, (hm x h3).2 ⟨hx, h2⟩, h3, rfl⟩
  have hkm : ∀ u, stays l u → u ≠ t → kindAt m u = kindAt l u := fun u hu hut => by
    have h1 : (⟨kindAt l u, u⟩ : Rul) ∈ formP l := formP_mem.2 ⟨hu.1, rfl, hu.2⟩
    refine kind_only (place_kind hu.1) ((hm _ (formP_pl h1)).2 ⟨(norm_pl (formP_pl h1)).2 h1, hut⟩) fun x hx hp ht => ?_
    rw [(formP_mem.1 ((norm_pl hp).1 ((hm x hp).1 hx).1)).2.1, ht]
  have hself : ∀ u, withinB t u = true → longOf u ≤ longOf t := fun u hu => by
    by_cases h1 : u = [46]
    · rw [h1]; show (-1 : Int) ≤ _; unfold longOf; split <;> omega
    · have h2 : t ≠ [46] := by rintro rfl; exact absurd hp (by decide)
      rw [long_len h1, long_len h2]
      have := (within_pre hu h1).2
      omega
  have hover : ∀ v, stays l v → v ≠ t → withinB t v = true → ∃ x ∈ l, overP t x ∧ x.text = v := fun v hv hne hw =>
    over_of hp (within_refl t) hv.1 hw (hself v hw) hne
  have e1 : incB t (normOf l) = decide (kindAt l t = 1) := by
    refine (inc_spec (normOf l) t).uniq (.inr ⟨t, norm_place.2 hs, within_refl t, fun u _ hu => hself u hu, ?_⟩)
    rw [norm_kind hs]
  have e2 : incB t m = decide (aboveOf l t = 1) := by
    refine (inc_spec m t).uniq ?_
    rcases near_spec l t with ⟨h, h1⟩ | ⟨t1, h, ⟨x, hx, hx1, rfl⟩, h2⟩
    · refine .inl ⟨by unfold aboveOf; rw [h]; rfl, fun v hv => ?_⟩
      obtain ⟨hv1, hv2⟩ := (hpm v).1 hv
      cases hw : withinB t v with
      | false => rfl
      | true =>
        obtain ⟨y, hy, hy1, _⟩ := hover v hv1 hv2 hw
        exact absurd hy1 (h1 y hy)
    · have hk : aboveOf l t = kindAt l x.text := by unfold aboveOf; rw [h]
      have hlt := over_less hx1
      have hle : ∀ v, v ∈ placesOf m → withinB t v = true → longOf v ≤ longOf x.text := fun v hv hw => by
        obtain ⟨hv1, hv2⟩ := (hpm v).1 hv
        obtain ⟨y, hy, hy1, rfl⟩ := hover v hv1 hv2 hw
        exact h2 y hy hy1
      rw [hk]
      rcases norm_chain hp (longOf x.text + 2).toNat x.text (over_place hx hx1) hx1.2.2.2 (by have := long_ge9 x.text; omega) with ⟨u, g1, g2, g3, g4, g5⟩ | ⟨g1, g2⟩
      · have hut : u ≠ t := by rintro rfl; omega
        refine .inr ⟨u, (hpm u).2 ⟨g1, hut⟩, g2, fun v hv hw => g4 v ((hpm v).1 hv).1 hw (hle v hv hw), ?_⟩
        rw [hkm u g1 hut, g5]
      · refine .inl ⟨by rw [g2]; rfl, fun v hv => ?_⟩
        cases hw : withinB t v with
        | false => rfl
        | true => exact absurd (hle v hv hw) (g1 v ((hpm v).1 hv).1 hw)
  rw [match_incB, match_incB, e1, e2]
  simp only [Bool.true_or, Bool.and_true]
  intro he
  have h1 := place_kind hs.1
  have h2 := above_kind (l := l) (t := t)
  rw [decide_eq_decide] at he
  have := hs.2
  omega
end Arb
