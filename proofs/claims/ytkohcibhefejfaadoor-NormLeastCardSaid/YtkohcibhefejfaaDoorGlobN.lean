/- The mathematics of cut texts: as the program reads lines and rules. -/
import Derived.Test.YtkohcibhefejfaaDoorGlobM
import Derived.Lib.SplitLaws
import Derived.Lib.IndexBytes
namespace Arb
set_option maxRecDepth 20000
set_option linter.unusedVariables false

/-- A text, cut at the first byte of a kind. -/
def cutAt (c : UInt8) : List UInt8 → List UInt8 × List UInt8 × Bool
  | [] => ([], [], false)
  | b :: l => if b = c then ([], l, true) else (b :: (cutAt c l).1, (cutAt c l).2.1, (cutAt c l).2.2)
theorem cut_cases (c : UInt8) : ∀ s : List UInt8, (c ∉ s ∧ cutAt c s = (s, [], false) ∧ Go.Lib.indexByte s c = -1) ∨ ∃ x y, s = x ++ c :: y ∧ c ∉ x ∧ cutAt c s = (x, y, true) ∧ Go.Lib.indexByte s c = (x.length : Int)
  | [] => .inl ⟨by simp, rfl, rfl⟩
  | b :: l => by
    by_cases h : b = c
    · subst h
      exact .inr ⟨[], l, rfl, by simp, by simp [cutAt], by simp [Go.Lib.indexByte]⟩
    · have hb : (b == c) = false := by simpa using h
      rcases cut_cases c l with ⟨h1, h2, h3⟩ | ⟨x, y, h1, h2, h3, h4⟩
      · refine .inl ⟨?_, ?_, ?_⟩
        · rw [List.mem_cons, not_or]; exact ⟨Ne.symm h, h1⟩
        · rw [cutAt, if_neg h, h2]
        · rw [Go.Lib.indexByte, hb, h3]; rfl
      · refine .inr ⟨b :: x, y, by rw [h1]; rfl, ?_, ?_, ?_⟩
        · rw [List.mem_cons, not_or]; exact ⟨Ne.symm h, h2⟩
        · rw [cutAt, if_neg h, h3]
        · rw [Go.Lib.indexByte, hb, h4]
          have : (((x.length : Nat) : Int) == -1) = false := by rw [beq_eq_false_iff_ne]; omega
          rw [this]
          simp
theorem cut_len (c : UInt8) (s : List UInt8) : (cutAt c s).1.length ≤ s.length ∧ (cutAt c s).2.1.length ≤ s.length := by
  rcases cut_cases c s with ⟨_, h, _⟩ | ⟨x, y, h0, _, h, _⟩
  · rw [h]; simp
  · rw [h, h0]; simp; omega
theorem spl_count (c : UInt8) : ∀ s : List UInt8, (spl c s).length = s.count c + 1
  | [] => rfl
  | b :: l => by
    have ih := spl_count c l
    unfold spl
    split
    · rename_i h; subst h; rw [List.length_cons, ih, List.count_cons_self]
    · rename_i h
      rw [List.count_cons_of_ne h, ← ih]
      rcases h' : spl c l with _ | ⟨a, t⟩
      · exact absurd h' (spl_ne c l)
      · rfl
/-- The lines of a text that ends with 10, or is empty. -/
def lns (t : List UInt8) : List (List UInt8) := if t = [] then [] else spl 10 t.dropLast
theorem lns_step {t : List UInt8} (h : t ≠ []) (h10 : t.getLast? = some 10) : ∃ x y, t = x ++ 10 :: y ∧ cutAt 10 t = (x, y, true) ∧ lns t = x :: lns y ∧ (y = [] ∨ y.getLast? = some 10) := by
  rcases cut_cases 10 t with ⟨h1, _⟩ | ⟨x, y, h1, h2, h3, _⟩
  · exact absurd (List.mem_of_getLast? h10) h1
  · refine ⟨x, y, h1, h3, ?_, ?_⟩
    · unfold lns
      rw [if_neg h]
      by_cases hy : y = []
      · subst hy
        rw [if_pos rfl, h1, List.dropLast_concat, spl_none h2]
      · rw [if_neg hy, h1, List.dropLast_append_of_ne_nil (by simp), List.dropLast_cons_of_ne_nil hy, spl_cons h2]
    · by_cases hy : y = []
      · exact .inl hy
      · right
        rw [List.getLast?_eq_some_iff] at h10 ⊢
        obtain ⟨u, hu⟩ := h10
        rw [h1] at hu
        have hd := congrArg List.dropLast hu
        refine ⟨y.dropLast, ?_⟩
        have h4 := List.dropLast_concat_getLast hy
        have h5 := congrArg List.getLast? hu
        rw [List.getLast?_append, List.getLast?_concat] at h5
        cases y with
        | nil => exact absurd rfl hy
        | cons a y =>
          rw [List.getLast?_cons_cons, List.getLast?_eq_some_getLast (by simp)] at h5
          simp only [Option.some_or] at h5
          rw [Option.some.inj h5] at h4
          exact h4.symm
theorem lns_count {t : List UInt8} (h : t = [] ∨ t.getLast? = some 10) : (lns t).length = t.count 10 := by
  unfold lns
  split
  · rename_i h0; rw [h0]; rfl
  · rename_i h0
    have h10 := h.resolve_left h0
    rw [List.getLast?_eq_some_iff] at h10
    obtain ⟨u, rfl⟩ := h10
    rw [List.dropLast_concat, spl_count, List.count_append]
    rfl
theorem parse_lns (t : List UInt8) : parseOf t = (if t ≠ [] ∧ t.getLast? ≠ some 10 then ([], 30) else if 16 < t.count 10 then ([], 40) else match rulesAt (lns t) with
    | none => ([], 30)
    | some l => (l, 0) : List Rul × Int) := by
  unfold parseOf
  by_cases h0 : t = []
  · subst h0; rfl
  · rw [if_neg h0]
    by_cases h10 : t.getLast? = some 10
    · have hc := lns_count (.inr h10)
      unfold lns at hc ⊢
      rw [if_neg h0] at hc ⊢
      rw [if_neg (show ¬ t.getLast? ≠ some 10 from fun h => h h10), if_neg (show ¬ (t ≠ [] ∧ t.getLast? ≠ some 10) from fun h => h.2 h10), hc]
      by_cases h16 : 16 < List.count 10 t
      · rw [if_pos h16, if_pos h16]
      · rw [if_neg h16, if_neg h16]
        cases rulesAt (spl 10 t.dropLast) <;> rfl
    · rw [if_pos h10, if_pos ⟨h0, h10⟩]
theorem suffix_last (t : List UInt8) : Go.Lib.hasSuffix t [10] = decide (t.getLast? = some 10) := by
  rw [Bool.eq_iff_iff, decide_eq_true_eq]
  unfold Go.Lib.hasSuffix
  rw [List.isSuffixOf_iff_suffix, List.getLast?_eq_some_iff]
  constructor
  · rintro ⟨u, hu⟩; exact ⟨u, hu.symm⟩
  · rintro ⟨u, hu⟩; exact ⟨u, hu.symm⟩

/-- The kind of a word. -/
def kindW (k : List UInt8) : Int := if k = [119, 105, 116, 104] then 1 else if k = [119, 105, 116, 104, 111, 117, 116] then 2 else if k = [116, 121, 112, 101] then 3 else 0
theorem rule_zero (t : List UInt8) : ruleOk ⟨0, t⟩ = false := by simp [ruleOk]
theorem rule_empty (k : Int) : ruleOk ⟨k, []⟩ = false := by
  cases h : ruleOk ⟨k, []⟩ with
  | false => rfl
  | true => exact absurd rfl (rule_byte h).1
theorem says_cut {k : Int} {s x y : List UInt8} (hw : ∃ u, wordOf k = u ++ [32] ∧ (32 : UInt8) ∉ u) (hs : s = x ++ 32 :: y) (hx : (32 : UInt8) ∉ x) : saysOf k s = (decide (wordOf k = x ++ [32]) && ruleOk ⟨k, y⟩) := by
  obtain ⟨u, hu, hu2⟩ := hw
  subst hs
  unfold saysOf
  by_cases he : wordOf k = x ++ [32]
  · rw [he]
    · by_cases hy : y = []
      · subst hy
        rw [show x ++ [32] = x ++ 32 :: [] from rfl, List.drop_of_length_le (Nat.le_refl _), rule_empty]; simp
      · have : 0 < y.length := by
          cases y with
          | nil => exact absurd rfl hy
          | cons _ _ => simp
        have h1 : (x ++ 32 :: y).take (x ++ [32]).length = x ++ [32] := by
          rw [show x ++ 32 :: y = (x ++ [32]) ++ y by simp, List.take_left']; rfl
        have h2 : (x ++ 32 :: y).drop (x ++ [32]).length = y := by
          rw [show x ++ 32 :: y = (x ++ [32]) ++ y by simp, List.drop_left']; rfl
        rw [h1, h2]
        simp
        omega
  · rw [decide_eq_false he, Bool.false_and, decide_eq_false, Bool.false_and]
    rintro ⟨h1, h2⟩
    apply he
    rw [hu] at h1 h2 ⊢
    have h3 := List.take_append_drop (u ++ [32]).length (x ++ 32 :: y)
    rw [h2] at h3
    -- both are the text up to the first 32
    have key : ∀ (u x a b : List UInt8), (32 : UInt8) ∉ u → (32 : UInt8) ∉ x → u ++ 32 :: a = x ++ 32 :: b → u = x := by
      intro u
      induction u with
      | nil =>
        intro x a b _ hx h
        cases x with
        | nil => rfl
        | cons c x => simp at h; exact absurd (by rw [h.1]; simp) hx
      | cons c u ih =>
        intro x a b hu hx h
        cases x with
        | nil => simp at h; exact absurd (by rw [h.1]; simp) hu
        | cons d x =>
          simp at h
          rw [h.1, ih x a b (fun hm => hu (List.mem_cons_of_mem _ hm)) (fun hm => hx (List.mem_cons_of_mem _ hm)) h.2]
    have := key u x ((x ++ 32 :: y).drop (u ++ [32]).length) y hu2 hx (by rw [List.append_assoc] at h3; exact h3)
    rw [this]
theorem rule_cut (s : List UInt8) : ruleAt s = if (cutAt 32 s).2.2 = true ∧ ruleOk ⟨kindW (cutAt 32 s).1, (cutAt 32 s).2.1⟩ = true then some ⟨kindW (cutAt 32 s).1, (cutAt 32 s).2.1⟩ else none := by
  rcases cut_cases 32 s with ⟨h1, h2, _⟩ | ⟨x, y, h1, h2, h3, _⟩
  · rw [h2, if_neg (by simp)]
    have hno : ∀ k : Int, (32 : UInt8) ∈ wordOf k → saysOf k s = false := fun k hk => by
      unfold saysOf
      rw [decide_eq_false, Bool.false_and]
      rintro ⟨_, h⟩
      apply h1
      rw [← h] at hk
      exact List.mem_of_mem_take hk
    unfold ruleAt
    rw [if_neg (by rw [hno 1 (by decide)]; simp), if_neg (by rw [hno 2 (by decide)]; simp), if_neg (by rw [hno 3 (by decide)]; simp)]
  · rw [h3]
    have s1 := says_cut (k := 1) ⟨[119, 105, 116, 104], rfl, by decide⟩ h1 h2
    have s2 := says_cut (k := 2) ⟨[119, 105, 116, 104, 111, 117, 116], rfl, by decide⟩ h1 h2
    have s3 := says_cut (k := 3) ⟨[116, 121, 112, 101], rfl, by decide⟩ h1 h2
    have e1 : (wordOf 1 = x ++ [32]) ↔ x = [119, 105, 116, 104] := by
      show ([119, 105, 116, 104] ++ [32] = x ++ [32]) ↔ _
      rw [List.append_cancel_right_eq]; exact eq_comm
    have e2 : (wordOf 2 = x ++ [32]) ↔ x = [119, 105, 116, 104, 111, 117, 116] := by
      show ([119, 105, 116, 104, 111, 117, 116] ++ [32] = x ++ [32]) ↔ _
      rw [List.append_cancel_right_eq]; exact eq_comm
    have e3 : (wordOf 3 = x ++ [32]) ↔ x = [116, 121, 112, 101] := by
      show ([116, 121, 112, 101] ++ [32] = x ++ [32]) ↔ _
      rw [List.append_cancel_right_eq]; exact eq_comm
    simp only [e1, e2, e3] at s1 s2 s3
    unfold ruleAt
    rw [s1, s2, s3]
    simp only [true_and]
    unfold kindW
    by_cases h5 : x = [119, 105, 116, 104]
    · subst h5
      simp
      have hd : s.drop 5 = y := by rw [h1]; rfl
      rw [hd]
    · by_cases h6 : x = [119, 105, 116, 104, 111, 117, 116]
      · subst h6
        simp
        have hd : s.drop 8 = y := by rw [h1]; rfl
        rw [hd]
      · by_cases h7 : x = [116, 121, 112, 101]
        · subst h7
          simp
          have hd : s.drop 5 = y := by rw [h1]; rfl
          rw [hd]
        · simp [h5, h6, h7, rule_zero]
end Arb
