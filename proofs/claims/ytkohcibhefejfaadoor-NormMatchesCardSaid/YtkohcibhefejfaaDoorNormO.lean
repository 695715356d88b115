/- The mathematics of filters in their form: how many rules, which texts; the form without one of its rules. -/
import Derived.Test.YtkohcibhefejfaaDoorNormN
namespace Arb
set_option maxRecDepth 20000
set_option linter.unusedVariables false

theorem put_len (l : List (List UInt8)) (s : List UInt8) : (putOf l s).length ≤ l.length + 1 := by
  unfold putOf
  split
  · omega
  · have h : (l.takeWhile (ltT · s) ++ l.dropWhile (ltT · s)).length = l.length := congrArg List.length (List.takeWhile_append_dropWhile (p := (ltT · s)) (l := l))
    rw [List.length_append] at h
    rw [List.length_append, List.length_cons]
    omega
theorem texts_len (f : Rul → Bool) : ∀ (l : List Rul) (o : List (List UInt8)), (l.foldl (fun o x => if f x then putOf o x.text else o) o).length ≤ o.length + l.length
  | [], o => by simp
  | x :: l, o => by
    rw [List.foldl_cons]
    have h1 := texts_len f l (if f x then putOf o x.text else o)
    have h2 : (if f x then putOf o x.text else o).length ≤ o.length + 1 := by
      split
      · exact put_len _ _
      · omega
    rw [List.length_cons]
    omega
theorem norm_len (l : List Rul) : (normOf l).length ≤ 2 * l.length := by
  have h1 : (placesOf l).length ≤ l.length := by have := texts_len (fun x => decide (isPl x)) l []; rw [List.length_nil, Nat.zero_add] at this; exact this
  have h2 : (typesOf l).length ≤ l.length := by have := texts_len (fun x => decide (x.kind = 3)) l []; rw [List.length_nil, Nat.zero_add] at this; exact this
  have h3 := List.length_filter_le (fun t => decide (kindAt l t ≠ aboveOf l t)) (placesOf l)
  unfold normOf formP formT
  rw [List.length_append, List.length_map, List.length_map]
  omega
theorem norm_text {l : List Rul} {x : Rul} (h : x ∈ normOf l) : ∃ y ∈ l, y.text = x.text := by
  unfold normOf at h
  rcases List.mem_append.1 h with h | h
  · obtain ⟨y, hy, _, e⟩ := place_mem.1 (formP_mem.1 h).1
    exact ⟨y, hy, e⟩
  · unfold formT at h
    obtain ⟨t, ht, rfl⟩ := List.mem_map.1 h
    unfold typesOf at ht
    obtain ⟨y, hy, _, e⟩ := (texts_mem _ _ _).1 ht
    exact ⟨y, hy, e⟩
theorem norm_nodup (l : List Rul) : (normOf l).Nodup := by
  unfold normOf
  rw [List.nodup_append]
  refine ⟨?_, ?_, ?_⟩
  · unfold formP
    refine List.pairwise_map.2 (((texts_nodup _ l).sublist List.filter_sublist).imp fun hne e => hne ?_)
    exact congrArg Rul.text e
  · unfold formT
    refine List.pairwise_map.2 ((texts_nodup _ l).imp fun hne e => hne ?_)
    exact congrArg Rul.text e
  · intro a ha b hb
    rintro rfl
    obtain ⟨t, _, rfl⟩ := List.mem_map.1 hb
    rcases formP_pl ha with h | h <;> simp at h
theorem cut_mem {l : List Rul} (hd : l.Nodup) {n : Nat} {y : Rul} (hy : l[n]? = some y) (z : Rul) : z ∈ l.take n ++ l.drop (n + 1) ↔ z ∈ l ∧ z ≠ y := by
  obtain ⟨hlt, he⟩ := List.getElem?_eq_some_iff.1 hy
  have e : l = l.take n ++ y :: l.drop (n + 1) := by
    rw [← he, ← List.drop_eq_getElem_cons hlt, List.take_append_drop]
  have hd2 := hd
  rw [e, List.nodup_append, List.nodup_cons] at hd2
  obtain ⟨_, ⟨h1, _⟩, h2⟩ := hd2
  constructor
  · intro h
    rcases List.mem_append.1 h with h | h
    · refine ⟨List.mem_of_mem_take h, ?_⟩
      rintro rfl
      exact h2 z h z (List.mem_cons_self ..) rfl
    · refine ⟨List.mem_of_mem_drop h, ?_⟩
      rintro rfl
      exact h1 h
  · rintro ⟨h, hne⟩
    rw [e] at h
    rcases List.mem_append.1 h with h | h
    · exact List.mem_append_left _ h
    · rcases List.mem_cons.1 h with h | h
      · exact absurd h hne
      · exact List.mem_append_right _ h
/-- The law's words: the form without a rule that is no Type and not '.'. -/
theorem least_at {l : List Rul} (hr : ∀ x ∈ l, ruleOk x = true) {n : Nat} {y : Rul} (hy : (normOf l)[n]? = some y) (h3 : y.kind ≠ 3) (h46 : y.text ≠ [46]) :
    matchOf (normOf l) y.text true ≠ matchOf ((normOf l).take n ++ (normOf l).drop (n + 1)) y.text true := by
  have hm := List.mem_of_getElem? hy
  have hf : y ∈ formP l := by
    unfold normOf at hm
    rcases List.mem_append.1 hm with h | h
    · exact h
    · obtain ⟨t, _, rfl⟩ := List.mem_map.1 h
      exact absurd rfl h3
  obtain ⟨h1, h2, h4⟩ := formP_mem.1 hf
  have hp : pathOk y.text = true := by
    obtain ⟨x, hx, hx1, hx2⟩ := place_mem.1 h1
    have := hr x hx
    unfold ruleOk at this
    rw [if_pos (show x.kind = 1 ∨ x.kind = 2 from hx1), Bool.or_eq_true, decide_eq_true_eq, hx2] at this
    exact this.resolve_left h46
  refine norm_least hp ⟨h1, h4⟩ fun z hz => ?_
  rw [cut_mem (norm_nodup l) hy]
  constructor
  · rintro ⟨g1, g2⟩
    refine ⟨g1, fun e => g2 ?_⟩
    have hzf := formP_mem.1 ((norm_pl hz).1 g1)
    obtain ⟨k, t⟩ := z
    obtain ⟨k', t'⟩ := y
    simp only at e h2 hzf
    subst e
    rw [h2, hzf.2.1]
  · rintro ⟨g1, g2⟩
    exact ⟨g1, fun e => g2 (by rw [e])⟩
end Arb
