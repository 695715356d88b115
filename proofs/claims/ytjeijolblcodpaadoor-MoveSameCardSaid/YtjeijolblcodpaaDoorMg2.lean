/- Parts of the proof that all the laws of this package share, in their order. Each says what is in it. -/
import Derived.Test.YtjeijolblcodpaaDoorMg1
import Derived.Deep.QuietTactic
import Derived.BigQuiet

/- The mathematics of sets that are made by Add. -/
section
namespace Arb
set_option maxRecDepth 20000
open Go Go.RowKit
set_option linter.unusedVariables false

theorem St.less_trans {a b c : St} (h : a.less b = true) (k : b.less c = true) : a.less c = true := by
  simp only [St.less, decide_eq_true_eq] at *
  omega
theorem St.less_irrefl (a : St) : a.less a = false := by simp [St.less]
theorem St.less_total {a b : St} (h : a ≠ b) : a.less b = true ∨ b.less a = true := by
  obtain ⟨a1, a2⟩ := a
  obtain ⟨b1, b2⟩ := b
  have h' : ¬ (a1 = b1 ∧ a2 = b2) := fun e => h (by rw [e.1, e.2])
  simp only [St.less, decide_eq_true_eq]
  omega
theorem St.less_asymm {a b : St} (h : a.less b = true) : b.less a = false := by
  cases hb : b.less a with
  | false => rfl
  | true => have := St.less_trans h hb; rw [St.less_irrefl] at this; cases this

/-- Rising stamps. -/
def Rising (set : List Opn) : Prop := set.Pairwise fun x y => x.stamp.less y.stamp = true
/-- What holds of a set that was made by Add. -/
structure Inv (set : List Opn) : Prop where
  rise : Rising set
  good : ∀ x ∈ set, x.right = 0
  seqs : ∀ (w : Int) (k : Int), (∃ x ∈ set, x.stamp.who = w ∧ x.seq = k) ↔ 1 ≤ k ∧ k ≤ (set.countP fun y => decide (y.stamp.who = w) : Nat)
  mono : ∀ x ∈ set, ∀ y ∈ set, x.stamp.who = y.stamp.who → x.seq < y.seq → x.stamp.less y.stamp = true
  uniq : ∀ x ∈ set, ∀ y ∈ set, x.stamp.who = y.stamp.who → x.seq = y.seq → x = y
theorem right_parts {x : Opn} (h : x.right = 0) : x.stamp.right = 0 ∧ 1 ≤ x.seq ∧ x.seq ≤ 1099511627776 := by
  unfold Opn.right at h
  split at h
  · cases h
  · rename_i hn
    refine ⟨?_, by omega, by omega⟩
    rcases Classical.em (x.stamp.right = 0) with h1 | h1
    · exact h1
    · exact absurd (.inl h1) hn
theorem stamp_parts {s : St} (h : s.right = 0) : 1 ≤ s.count ∧ s.count ≤ 1099511627776 ∧ 0 ≤ s.who ∧ s.who < 15 := by
  unfold St.right at h
  split at h
  · cases h
  · omega
theorem Inv.nil : Inv [] := ⟨List.Pairwise.nil, by simp, fun w k => by simp; omega, by simp, by simp⟩
/-- What an insertion is. -/
theorem ins_parts (set : List Opn) (x : Opn) : ∃ l1 l2, set = l1 ++ l2 ∧ insAt set x = l1 ++ x :: l2 ∧ (∀ y ∈ l1, x.stamp.less y.stamp = false) ∧ (∀ y, l2.head? = some y → x.stamp.less y.stamp = true) := by
  refine ⟨_, _, (List.takeWhile_append_dropWhile (p := fun y : Opn => !x.stamp.less y.stamp) (l := set)).symm, rfl, fun y hy => ?_, fun y hy => ?_⟩
  · have h : ∀ (l : List Opn), y ∈ l.takeWhile (fun y => !x.stamp.less y.stamp) → (!x.stamp.less y.stamp) = true := by
      intro l
      induction l with
      | nil => intro h; simp at h
      | cons a l ih =>
        intro h
        rw [List.takeWhile_cons] at h
        split at h
        · rcases List.mem_cons.1 h with rfl | h
          · assumption
          · exact ih h
        · simp at h
    simpa using h set hy
  · have h : ∀ (l : List Opn), (l.dropWhile (fun y => !x.stamp.less y.stamp)).head? = some y → (!x.stamp.less y.stamp) = false := by
      intro l
      induction l with
      | nil => intro h; simp at h
      | cons a l ih =>
        intro h
        rw [List.dropWhile_cons] at h
        split at h
        · exact ih h
        · rename_i hn
          simp at h
          subst h
          simpa using hn
    simpa using h set hy
theorem ins_mem (set : List Opn) (x y : Opn) : y ∈ insAt set x ↔ y = x ∨ y ∈ set := by
  obtain ⟨l1, l2, h1, h2, _⟩ := ins_parts set x
  rw [h2, h1]
  simp only [List.mem_append, List.mem_cons]
  constructor
  · rintro (h | h | h)
    · exact .inr (.inl h)
    · exact .inl h
    · exact .inr (.inr h)
  · rintro (h | h | h)
    · exact .inr (.inl h)
    · exact .inl h
    · exact .inr (.inr h)
theorem ins_count (set : List Opn) (x : Opn) (p : Opn → Bool) : (insAt set x).countP p = set.countP p + if p x = true then 1 else 0 := by
  obtain ⟨l1, l2, h1, h2, _⟩ := ins_parts set x
  rw [h2]
  conv => rhs; rw [h1]
  rw [List.countP_append, List.countP_cons, List.countP_append]
  omega
theorem ins_rise (set : List Opn) (x : Opn) (h : Rising set) (hne : ∀ y ∈ set, y.stamp ≠ x.stamp) : Rising (insAt set x) := by
  obtain ⟨l1, l2, h1, h2, h3, h4⟩ := ins_parts set x
  unfold Rising at *
  rw [h2]
  rw [h1, List.pairwise_append] at h
  obtain ⟨p1, p2, p3⟩ := h
  have hx2 : ∀ y ∈ l2, x.stamp.less y.stamp = true := by
    cases l2 with
    | nil => simp
    | cons a l =>
      have ha := h4 a rfl
      intro y hy
      rcases List.mem_cons.1 hy with rfl | hy
      · exact ha
      · exact St.less_trans ha (List.rel_of_pairwise_cons p2 hy)
  have hx1 : ∀ y ∈ l1, y.stamp.less x.stamp = true := fun y hy => by
    rcases St.less_total (hne y (by rw [h1]; exact List.mem_append_left _ hy)) with h | h
    · exact h
    · rw [h3 y hy] at h; cases h
  rw [List.pairwise_append]
  refine ⟨p1, List.pairwise_cons.2 ⟨hx2, p2⟩, fun a ha b hb => ?_⟩
  rcases List.mem_cons.1 hb with rfl | hb
  · exact hx1 a ha
  · exact p3 a ha b hb

/-- What Add answers where it answers no error. -/
theorem add_cases (set : List Opn) (x : Opn) (h : (addOf set x).2 = 0) :
    x.right = 0 ∧ ((x ∈ set ∧ (addOf set x).1 = set) ∨ (x ∉ set ∧ twiceOf set x = false ∧ aheadOf set x = true ∧ lateOf set x = false ∧ set.length < 400 ∧ (addOf set x).1 = insAt set x)) := by
  unfold addOf at h ⊢
  by_cases h0 : x.right = 0
  · refine ⟨h0, ?_⟩
    rw [if_neg (by simp [h0])] at h ⊢
    by_cases h1 : x ∈ set
    · rw [if_pos h1]
      exact .inl ⟨h1, rfl⟩
    · rw [if_neg h1] at h ⊢
      right
      cases h2 : twiceOf set x with
      | true => rw [h2, if_pos rfl] at h; cases h
      | false =>
        cases h3 : aheadOf set x with
        | false => rw [h2, h3] at h; simp at h
        | true =>
          cases h4 : lateOf set x with
          | true => rw [h2, h3, h4] at h; simp at h
          | false =>
            by_cases h5 : 400 ≤ set.length
            · rw [h2, h3, h4] at h; simp [h5] at h
            · refine ⟨h1, rfl, rfl, rfl, by omega, ?_⟩
              simp [h5]
  · rw [if_pos h0] at h
    exact absurd h h0
theorem twice_spec {set : List Opn} {x : Opn} (h : twiceOf set x = false) : ∀ y ∈ set, y.stamp ≠ x.stamp ∧ ¬ (y.stamp.who = x.stamp.who ∧ y.seq = x.seq) := by
  unfold twiceOf at h
  rw [List.any_eq_false] at h
  intro y hy
  have := h y hy
  simp only [decide_eq_true_eq, not_or] at this
  exact this
theorem late_spec {set : List Opn} {x : Opn} (h : lateOf set x = false) : ∀ y ∈ set, y.stamp.who = x.stamp.who → (y.seq = x.seq - 1 → y.stamp.less x.stamp = true) ∧ (x.seq < y.seq → x.stamp.less y.stamp = true) := by
  unfold lateOf at h
  rw [List.any_eq_false] at h
  intro y hy hw
  have := h y hy
  unfold lateOne at this
  simp only [hw, true_and, Bool.or_eq_true, Bool.and_eq_true, decide_eq_true_eq, Bool.not_eq_true', not_or, not_and] at this
  refine ⟨fun e => ?_, fun e => ?_⟩
  · have := this.1 e
    simpa using this
  · have := this.2 e
    simpa using this
theorem ahead_spec {set : List Opn} {x : Opn} (h : aheadOf set x = true) : x.seq = 1 ∨ ∃ y ∈ set, y.stamp.who = x.stamp.who ∧ y.seq = x.seq - 1 := by
  unfold aheadOf at h
  rw [Bool.or_eq_true, decide_eq_true_eq, List.any_eq_true] at h
  rcases h with h | ⟨y, hy, h⟩
  · exact .inl h
  · exact .inr ⟨y, hy, by simpa using h⟩

/-- Add keeps what holds of a set. -/
theorem Inv.add {set : List Opn} (hI : Inv set) (x : Opn) (h : (addOf set x).2 = 0) : Inv (addOf set x).1 := by
  obtain ⟨hr, ⟨hm, he⟩ | ⟨hnm, ht, ha, hl, hlen, he⟩⟩ := add_cases set x h
  · rw [he]; exact hI
  · rw [he]
    have hT := twice_spec ht
    have hL := late_spec hl
    obtain ⟨hs, hq1, hq2⟩ := right_parts hr
    have hc : ∀ w : Int, (insAt set x).countP (fun y => decide (y.stamp.who = w)) = set.countP (fun y => decide (y.stamp.who = w)) + if x.stamp.who = w then 1 else 0 := fun w => by
      rw [ins_count]
      simp
    -- the number of x is the next one of its device
    have hnext : x.seq = (set.countP fun y => decide (y.stamp.who = x.stamp.who) : Nat) + 1 := by
      have hlo : x.seq - 1 ≤ (set.countP fun y => decide (y.stamp.who = x.stamp.who) : Nat) := by
        rcases ahead_spec ha with h1 | ⟨y, hy, hw, hseq⟩
        · omega
        · exact ((hI.seqs x.stamp.who (x.seq - 1)).1 ⟨y, hy, hw, hseq⟩).2
      have hhi : ¬ x.seq ≤ (set.countP fun y => decide (y.stamp.who = x.stamp.who) : Nat) := fun hle => by
        obtain ⟨y, hy, hw, hseq⟩ := (hI.seqs x.stamp.who x.seq).2 ⟨hq1, hle⟩
        exact (hT y hy).2 ⟨hw, hseq⟩
      omega
    have hbound : ∀ y ∈ set, y.stamp.who = x.stamp.who → y.seq < x.seq := fun y hy hw => by
      have := ((hI.seqs x.stamp.who y.seq).1 ⟨y, hy, hw, rfl⟩).2
      omega
    refine ⟨ins_rise set x hI.rise fun y hy => (hT y hy).1, fun y hy => ?_, fun w k => ?_, fun y hy z hz hw hlt => ?_, fun y hy z hz hw hsq => ?_⟩
    · rcases (ins_mem set x y).1 hy with rfl | hy
      · exact hr
      · exact hI.good y hy
    · rw [hc w]
      constructor
      · rintro ⟨y, hy, hw, hk⟩
        rcases (ins_mem set x y).1 hy with rfl | hy
        · rw [if_pos hw, ← hk]
          rw [hw] at hnext
          omega
        · have := (hI.seqs w k).1 ⟨y, hy, hw, hk⟩
          omega
      · rintro ⟨h1, h2⟩
        by_cases hw : x.stamp.who = w
        · rw [if_pos hw] at h2
          rw [hw] at hnext
          by_cases hk : k = x.seq
          · exact ⟨x, (ins_mem set x x).2 (.inl rfl), hw, hk.symm⟩
          · obtain ⟨y, hy, h3⟩ := (hI.seqs w k).2 ⟨h1, by omega⟩
            exact ⟨y, (ins_mem set x y).2 (.inr hy), h3⟩
        · rw [if_neg hw] at h2
          obtain ⟨y, hy, h3⟩ := (hI.seqs w k).2 ⟨h1, by omega⟩
          exact ⟨y, (ins_mem set x y).2 (.inr hy), h3⟩
    · rcases (ins_mem set x y).1 hy with rfl | hy2
      · rcases (ins_mem set y z).1 hz with rfl | hz
        · omega
        · have := hbound z hz hw.symm
          omega
      · rcases (ins_mem set x z).1 hz with rfl | hz
        · -- y ahead of the new one: by the one just before it
          by_cases he1 : y.seq = z.seq - 1
          · exact (hL y hy2 hw).1 he1
          · obtain ⟨u, hu, huw, hus⟩ : ∃ u ∈ set, u.stamp.who = z.stamp.who ∧ u.seq = z.seq - 1 := by
              rcases ahead_spec ha with h1 | h1
              · have := ((hI.seqs z.stamp.who y.seq).1 ⟨y, hy2, hw, rfl⟩).1
                omega
              · exact h1
            exact St.less_trans (hI.mono y hy2 u hu (hw.trans huw.symm) (by omega)) ((hL u hu huw).1 hus)
        · exact hI.mono y hy2 z hz hw hlt
    · rcases (ins_mem set x y).1 hy with rfl | hy2
      · rcases (ins_mem set y z).1 hz with rfl | hz
        · rfl
        · exact absurd ⟨hw.symm, hsq.symm⟩ (hT z hz).2
      · rcases (ins_mem set x z).1 hz with rfl | hz
        · exact absurd ⟨hw, hsq⟩ (hT y hy2).2
        · exact hI.uniq y hy2 z hz hw hsq

/-- One operation is added, if it may be. -/
def addStep (set : List Opn) (x : Opn) : List Opn := if (addOf set x).2 = 0 then (addOf set x).1 else set
def build (l : List Opn) : List Opn := l.foldl addStep []
theorem build_take (l : List Opn) (k : Nat) (x : Opn) (h : l[k]? = some x) : build (l.take (k + 1)) = addStep (build (l.take k)) x := by
  unfold build
  rw [List.take_add_one, h, List.foldl_append]
  rfl
theorem Inv.step {set : List Opn} (h : Inv set) (x : Opn) : Inv (addStep set x) := by
  unfold addStep
  split
  · rename_i he; exact h.add x he
  · exact h
theorem build_inv (l : List Opn) : Inv (build l) := by
  have : ∀ (l : List Opn) (s : List Opn), Inv s → Inv (l.foldl addStep s) := by
    intro l
    induction l with
    | nil => intro s h; exact h
    | cons x l ih => intro s h; exact ih _ (h.step x)
  exact this l [] Inv.nil
theorem step_mem (set : List Opn) (x y : Opn) (h : y ∈ addStep set x) : y = x ∨ y ∈ set := by
  unfold addStep at h
  split at h
  · rename_i he
    obtain ⟨_, ⟨_, e⟩ | ⟨_, _, _, _, _, e⟩⟩ := add_cases set x he
    · rw [e] at h; exact .inr h
    · rw [e] at h; exact (ins_mem set x y).1 h
  · exact .inr h
theorem build_mem (l : List Opn) : ∀ y ∈ build l, y ∈ l := by
  have : ∀ (l : List Opn) (s : List Opn) (y : Opn), y ∈ l.foldl addStep s → y ∈ l ∨ y ∈ s := by
    intro l
    induction l with
    | nil => intro s y h; exact .inr h
    | cons x l ih =>
      intro s y h
      rcases ih _ y h with h | h
      · exact .inl (by simp [h])
      · rcases step_mem s x y h with h | h
        · exact .inl (by simp [h])
        · exact .inr h
  intro y hy
  rcases this l [] y hy with h | h
  · exact h
  · simp at h
theorem add_length {set : List Opn} {x : Opn} (h : (addOf set x).2 = 0) : (addOf set x).1.length = set.length ∨ (addOf set x).1.length = set.length + 1 := by
  obtain ⟨_, ⟨_, e⟩ | ⟨_, _, _, _, _, e⟩⟩ := add_cases set x h
  · exact .inl (by rw [e])
  · right
    rw [e]
    obtain ⟨l1, l2, h1, h2, _⟩ := ins_parts set x
    rw [h2, h1]
    simp only [List.length_append, List.length_cons]
    omega
theorem step_length (set : List Opn) (x : Opn) : (addStep set x).length ≤ set.length + 1 := by
  unfold addStep
  split
  · rename_i he
    have := add_length he
    omega
  · omega
theorem build_length (l : List Opn) : (build l).length ≤ l.length := by
  have : ∀ (l : List Opn) (s : List Opn), (l.foldl addStep s).length ≤ s.length + l.length := by
    intro l
    induction l with
    | nil => intro s; simp
    | cons x l ih =>
      intro s
      have h1 := ih (addStep s x)
      have h2 := step_length s x
      rw [List.foldl_cons, List.length_cons]
      omega
  have := this l []
  simpa [build] using this

/-- Whose device's number is below the vector's length. -/
theorem top_above (set : List Opn) (x : Opn) (hx : x ∈ set) (h : x.stamp.who < 15) : x.stamp.who + 1 ≤ topWho set := by
  have : ∀ (l : List Opn) (n : Int), n ≤ l.foldl (fun n y => if y.stamp.who < 15 then max n (y.stamp.who + 1) else n) n ∧ ∀ y ∈ l, y.stamp.who < 15 → y.stamp.who + 1 ≤ l.foldl (fun n y => if y.stamp.who < 15 then max n (y.stamp.who + 1) else n) n := by
    intro l
    induction l with
    | nil => intro n; exact ⟨by simp, by simp⟩
    | cons a l ih =>
      intro n
      rw [List.foldl_cons]
      obtain ⟨i1, i2⟩ := ih (if a.stamp.who < 15 then max n (a.stamp.who + 1) else n)
      refine ⟨?_, fun y hy h15 => ?_⟩
      · have : n ≤ (if a.stamp.who < 15 then max n (a.stamp.who + 1) else n) := by split <;> omega
        omega
      · rcases List.mem_cons.1 hy with rfl | hy
        · rw [if_pos h15] at i1 ⊢
          omega
        · exact i2 y hy h15
  exact (this set 0).2 x hx h
theorem count_sum (N : Nat) : ∀ (set : List Opn), (∀ x ∈ set, 0 ≤ x.stamp.who ∧ x.stamp.who < (N : Int)) → ((List.range N).map fun (w : Nat) => set.countP fun y => decide (y.stamp.who = (w : Int))).sum = set.length
  | [], _ => by
    have hz : ∀ M : Nat, ((List.range M).map fun _ => (0 : Nat)).sum = 0 := by
      intro M
      induction M with
      | zero => rfl
      | succ M ih => rw [List.range_succ, List.map_append, List.sum_append, ih]; rfl
    simpa using hz N
  | x :: set, h => by
    have ih := count_sum N set fun y hy => h y (by simp [hy])
    obtain ⟨h0, h1⟩ := h x (by simp)
    obtain ⟨j, hj⟩ : ∃ j : Nat, x.stamp.who = (j : Int) := ⟨x.stamp.who.toNat, by omega⟩
    have hjN : j < N := by omega
    have hsum : ∀ (f : Nat → Nat) (M : Nat), ((List.range M).map fun w => f w + if j = w then 1 else 0).sum = ((List.range M).map f).sum + if j < M then 1 else 0 := by
      intro f M
      induction M with
      | zero => simp
      | succ M ihM =>
        rw [List.range_succ, List.map_append, List.map_append, List.sum_append, List.sum_append, ihM]
        simp only [List.map_cons, List.map_nil, List.sum_cons, List.sum_nil]
        by_cases h1 : j < M
        · rw [if_pos h1, if_neg (by omega), if_pos (by omega)]; omega
        · by_cases h2 : j = M
          · rw [if_neg h1, if_pos h2, if_pos (by omega)]; omega
          · rw [if_neg h1, if_neg h2, if_neg (by omega)]; simp only [Nat.add_zero]
    have he : (fun w : Nat => (x :: set).countP fun y => decide (y.stamp.who = (w : Int))) = fun w : Nat => (set.countP fun y => decide (y.stamp.who = (w : Int))) + if j = w then 1 else 0 := by
      funext w
      rw [List.countP_cons]
      congr 1
      simp only [decide_eq_true_eq]
      by_cases hjw : j = w
      · rw [if_pos (by omega), if_pos hjw]
      · rw [if_neg (by omega), if_neg hjw]
    rw [he, hsum, if_pos hjN, ih, List.length_cons]
theorem Inv.who {set : List Opn} (hI : Inv set) : ∀ x ∈ set, 0 ≤ x.stamp.who ∧ x.stamp.who < (((topWho set).toNat : Nat) : Int) := fun x hx => by
  obtain ⟨h1, h2, h3, h4⟩ := stamp_parts (right_parts (hI.good x hx)).1
  have := top_above set x hx h4
  omega
/-- A set's own vector, at a device. -/
theorem vec_at (set : List Opn) (w : Int) (h0 : 0 ≤ w) (h1 : w < (((topWho set).toNat : Nat) : Int)) : iAt (vectorOf set) w = (set.countP fun y => decide (y.stamp.who = w) : Nat) := by
  obtain ⟨j, rfl⟩ : ∃ j : Nat, w = (j : Int) := ⟨w.toNat, by omega⟩
  unfold iAt
  rw [if_neg (by omega), Int.toNat_natCast]
  unfold vAt vectorOf
  rw [List.getD_eq_getElem?_getD, List.getElem?_map, List.getElem?_range (by omega)]
  show max (numOf set j) 0 = _
  unfold numOf
  omega
theorem since_own {set : List Opn} (hI : Inv set) : sinceOf set (vectorOf set) = [] := by
  unfold sinceOf
  rw [List.filter_eq_nil_iff]
  intro x hx
  obtain ⟨h0, h1⟩ := hI.who x hx
  rw [vec_at set _ h0 h1]
  have := ((hI.seqs x.stamp.who x.seq).1 ⟨x, hx, rfl, rfl⟩).2
  simp
  omega
theorem since_none {set : List Opn} (hI : Inv set) : sinceOf set [] = set := by
  unfold sinceOf
  rw [List.filter_eq_self]
  intro x hx
  have h1 := (right_parts (hI.good x hx)).2.1
  have : iAt [] x.stamp.who = 0 := by
    unfold iAt
    split
    · rfl
    · unfold vAt; simp
  rw [this]
  simp
  omega

theorem rising_stamp {S : List Opn} (h : Rising S) : ∀ x ∈ S, ∀ y ∈ S, x.stamp = y.stamp → x = y := by
  induction S with
  | nil => simp
  | cons a S ih =>
    obtain ⟨h1, h2⟩ := List.pairwise_cons.1 h
    intro x hx y hy he
    rcases List.mem_cons.1 hx with rfl | hx2
    · rcases List.mem_cons.1 hy with rfl | hy2
      · rfl
      · have := h1 y hy2
        rw [he, St.less_irrefl] at this
        cases this
    · rcases List.mem_cons.1 hy with rfl | hy2
      · have := h1 x hx2
        rw [he, St.less_irrefl] at this
        cases this
      · exact ih h2 x hx2 y hy2 he
/-- Two rising lists of the same operations are one. -/
theorem rising_eq : ∀ (S T : List Opn), Rising S → Rising T → (∀ x, x ∈ S ↔ x ∈ T) → S = T
  | [], [], _, _, _ => rfl
  | [], b :: T, _, _, h => by have := (h b).2 (by simp); simp at this
  | a :: S, [], _, _, h => by have := (h a).1 (by simp); simp at this
  | a :: S, b :: T, hS, hT, h => by
    obtain ⟨s1, s2⟩ := List.pairwise_cons.1 hS
    obtain ⟨t1, t2⟩ := List.pairwise_cons.1 hT
    have hab : a = b := by
      rcases List.mem_cons.1 ((h a).1 (by simp)) with h1 | h1
      · exact h1
      · rcases List.mem_cons.1 ((h b).2 (by simp)) with h2 | h2
        · exact h2.symm
        · have e1 := t1 a h1
          have e2 := s1 b h2
          rw [St.less_asymm e1] at e2
          cases e2
    subst hab
    congr 1
    refine rising_eq S T s2 t2 fun x => ⟨fun hx => ?_, fun hx => ?_⟩
    · rcases List.mem_cons.1 ((h x).1 (by simp [hx])) with rfl | h1
      · have := s1 x hx
        rw [St.less_irrefl] at this
        cases this
      · exact h1
    · rcases List.mem_cons.1 ((h x).2 (by simp [hx])) with rfl | h1
      · have := t1 x hx
        rw [St.less_irrefl] at this
        cases this
      · exact h1

/-- What is left of a set, and what is made again. -/
structure Parts (S left again : List Opn) : Prop where
  sub : List.Sublist left S
  rise : Rising again
  mem : ∀ x, x ∈ again ↔ x ∈ S ∧ x ∉ left
theorem Parts.start (S : List Opn) : Parts S S [] := ⟨List.Sublist.refl S, List.Pairwise.nil, fun x => by simp⟩
/-- The next one of its device is added, and goes. -/
theorem Parts.next {S left again : List Opn} (hI : Inv S) (hlen : S.length < 400) (h : Parts S left again) (k : Nat) (x : Opn) (hx : left[k]? = some x) (hfst : ∀ (j : Nat) (y : Opn), j < k → left[j]? = some y → y.stamp.who ≠ x.stamp.who) :
    addOf again x = (insAt again x, 0) ∧ Parts S (left.take k ++ left.drop (k + 1)) (insAt again x) := by
  have hxl := List.mem_of_getElem? hx
  have hxS := h.sub.subset hxl
  have hLr : Rising left := hI.rise.sublist h.sub
  have hxa : x ∉ again := fun hm => ((h.mem x).1 hm).2 hxl
  have hright := hI.good x hxS
  obtain ⟨_, q1, q2⟩ := right_parts hright
  -- whoever of its device has a lower number is made again already
  have hlow : ∀ y ∈ S, y.stamp.who = x.stamp.who → y.seq < x.seq → y ∈ again := fun y hy hw hs => by
    refine (h.mem y).2 ⟨hy, fun hyl => ?_⟩
    obtain ⟨j, hj, hjy⟩ := List.getElem_of_mem hyl
    have hless := hI.mono y hy x hxS hw hs
    obtain ⟨hk, hkx⟩ := List.getElem?_eq_some_iff.1 hx
    rcases Nat.lt_trichotomy j k with h1 | h1 | h1
    · exact hfst j y h1 (by rw [List.getElem?_eq_getElem hj, hjy]) hw
    · subst h1
      rw [hjy] at hkx
      subst hkx
      omega
    · have := List.pairwise_iff_getElem.1 hLr k j hk hj h1
      rw [hjy, hkx, St.less_asymm hless] at this
      cases this
  have haS : ∀ y ∈ again, y ∈ S := fun y hy => ((h.mem y).1 hy).1
  have htw : twiceOf again x = false := by
    unfold twiceOf
    rw [List.any_eq_false]
    intro y hy
    simp only [decide_eq_true_eq, not_or]
    refine ⟨fun he => hxa ?_, fun he => hxa ?_⟩
    · rw [← rising_stamp hI.rise y (haS y hy) x hxS he]; exact hy
    · rw [← hI.uniq y (haS y hy) x hxS he.1 he.2]; exact hy
  have hah : aheadOf again x = true := by
    unfold aheadOf
    rw [Bool.or_eq_true, decide_eq_true_eq, List.any_eq_true]
    by_cases h1 : x.seq = 1
    · exact .inl h1
    · right
      have hcnt := ((hI.seqs x.stamp.who x.seq).1 ⟨x, hxS, rfl, rfl⟩).2
      obtain ⟨y, hy, hw, hs⟩ := (hI.seqs x.stamp.who (x.seq - 1)).2 ⟨by omega, by omega⟩
      exact ⟨y, hlow y hy hw (by omega), by simp [hw, hs]⟩
  have hlt : lateOf again x = false := by
    unfold lateOf
    rw [List.any_eq_false]
    intro y hy
    unfold lateOne
    simp only [Bool.or_eq_true, Bool.and_eq_true, decide_eq_true_eq, Bool.not_eq_true', not_or, not_and]
    refine ⟨fun hw => ?_, fun hw => ?_⟩
    · have := hI.mono y (haS y hy) x hxS hw.1 (by omega)
      simp [this]
    · have := hI.mono x hxS y (haS y hy) hw.1.symm hw.2
      simp [this]
  have hcard : again.length < 400 := by
    have hnd : again.Nodup := h.rise.imp fun {a b} hab he => by rw [he, St.less_irrefl] at hab; cases hab
    have := hnd.length_le_of_subset (l₂ := S) fun y hy => haS y hy
    omega
  have hndL : left.Nodup := hLr.imp fun {a b} hab he => by rw [he, St.less_irrefl] at hab; cases hab
  refine ⟨?_, ⟨?_, ?_, fun y => ?_⟩⟩
  · unfold addOf
    rw [if_neg (by simp [hright]), if_neg hxa, htw, hah, hlt]
    simp [Nat.not_le.2 hcard]
  · refine List.Sublist.trans ?_ h.sub
    have hs : left = left.take k ++ left.drop k := (List.take_append_drop k left).symm
    conv => rhs; rw [hs]
    refine List.Sublist.append (List.Sublist.refl _) ?_
    rw [← List.drop_drop]
    exact List.drop_sublist _ _
  · exact ins_rise again x h.rise fun y hy he => hxa (by rw [← rising_stamp hI.rise y (haS y hy) x hxS he]; exact hy)
  · rw [ins_mem, h.mem]
    obtain ⟨hk, hkx⟩ := List.getElem?_eq_some_iff.1 hx
    have hsplit : ∀ z, z ∈ left ↔ z = x ∨ z ∈ left.take k ++ left.drop (k + 1) := fun z => by
      have hs : left = left.take k ++ left[k] :: left.drop (k + 1) := by
        rw [← List.drop_eq_getElem_cons hk]; exact (List.take_append_drop k left).symm
      conv => lhs; rw [hs]
      rw [hkx]
      simp only [List.mem_append, List.mem_cons]
      constructor
      · rintro (h | h | h)
        · exact .inr (.inl h)
        · exact .inl h
        · exact .inr (.inr h)
      · rintro (h | h | h)
        · exact .inr (.inl h)
        · exact .inl h
        · exact .inr (.inr h)
    have hxn : x ∉ left.take k ++ left.drop (k + 1) := fun hm => by
      have hs : left = left.take k ++ left[k] :: left.drop (k + 1) := by
        rw [← List.drop_eq_getElem_cons hk]; exact (List.take_append_drop k left).symm
      rw [hs, hkx] at hndL
      rw [List.nodup_append] at hndL
      obtain ⟨n1, n2, n3⟩ := hndL
      rcases List.mem_append.1 hm with hm | hm
      · exact n3 x hm x (by simp) rfl
      · exact (List.nodup_cons.1 n2).1 hm
    constructor
    · rintro (rfl | ⟨h1, h2⟩)
      · exact ⟨hxS, hxn⟩
      · exact ⟨h1, fun hm => h2 ((hsplit y).2 (.inr hm))⟩
    · rintro ⟨h1, h2⟩
      by_cases he : y = x
      · exact .inl he
      · refine .inr ⟨h1, fun hm => ?_⟩
        rcases (hsplit y).1 hm with h3 | h3
        · exact he h3
        · exact h2 h3
theorem Parts.end {S again : List Opn} (hI : Inv S) (h : Parts S [] again) : again = S := by
  refine rising_eq again S h.rise hI.rise fun x => ?_
  rw [h.mem]
  simp
end Arb
end

/- The mathematics of trees of nodes. -/
section
namespace Arb
set_option maxRecDepth 20000
set_option linter.unusedVariables false

/-- A node. -/
structure Nod where
  id : St
  dir : Bool
  parent : St
  name : List UInt8
  manifest : List UInt8
deriving DecidableEq
def Nod.zero : Nod := ⟨St.zero, false, St.zero, [], []⟩
def St.trash : St := ⟨0, 1⟩
/-- The first node with a stamp. -/
def findOf (l : List Nod) (s : St) : Option Nod := l.find? fun n => decide (n.id = s)
/-- The first node's place. -/
def atOf (l : List Nod) (s : St) : Nat := l.findIdx fun n => decide (n.id = s)
/-- A node, its parent, and so on: at most so many; 'out' were gone through. -/
def chainGo (l : List Nod) : Nat → List St → St → List St
  | 0, out, _ => out
  | k + 1, out, s => match findOf l s with
    | some n => if s ∈ out then out else chainGo l k (out ++ [s]) n.parent
    | none => if out = [] then [] else out ++ [s]
def chainOf (l : List Nod) (s : St) : List St := chainGo l (l.length + 1) [] s
def childrenOf (l : List Nod) (s : St) : List Nod := l.filter fun n => decide (n.parent = s)
def mayOf (l : List Nod) (s : St) : Bool := decide (s = St.zero) || (match findOf l s with | some n => n.dir | none => false)
def insNod (l : List Nod) (n : Nod) : List Nod := l.takeWhile (fun y => !n.id.less y.id) ++ n :: l.dropWhile (fun y => !n.id.less y.id)
def madeOf (l : List Nod) (x : Opn) : Nod := ⟨x.node, x.dir, if mayOf l x.parent = true then x.parent else St.trash, x.name, x.manifest⟩
/-- A node behind an operation of it that makes none. -/
def turnOf (l : List Nod) (x : Opn) (n : Nod) : Nod :=
  if x.kind = 2 then (if mayOf l x.parent = false ∨ x.node ∈ chainOf l x.parent then n else { n with parent := x.parent, name := x.name })
  else if x.kind = 3 then (if n.dir = true then n else { n with manifest := x.manifest })
  else if x.kind = 4 then { n with parent := St.trash }
  else n
def doOf (l : List Nod) (x : Opn) : List Nod :=
  match findOf l x.node with
  | none => if x.kind = 1 then insNod l (madeOf l x) else l
  | some n => if x.kind = 1 then l else l.set (atOf l x.node) (turnOf l x n)
def foldOf (ops : List Opn) : List Nod := ops.foldl doOf []

theorem findOf_some {l : List Nod} {s : St} {n : Nod} (h : findOf l s = some n) : n ∈ l ∧ n.id = s := by
  unfold findOf at h
  exact ⟨List.mem_of_find?_eq_some h, by simpa using List.find?_some h⟩
theorem findOf_none {l : List Nod} {s : St} : findOf l s = none ↔ ∀ n ∈ l, n.id ≠ s := by
  unfold findOf
  simp
/-- The stamps rise. -/
def Rises (l : List Nod) : Prop := l.Pairwise fun a b => a.id.less b.id = true
theorem Rises.uniq : ∀ {l : List Nod}, Rises l → ∀ a ∈ l, ∀ b ∈ l, a.id = b.id → a = b
  | [], _, a, ha, _, _, _ => by cases ha
  | x :: l, h, a, ha, b, hb, he => by
    obtain ⟨h1, h2⟩ := List.pairwise_cons.1 h
    rcases List.mem_cons.1 ha with ka | ka
    · rcases List.mem_cons.1 hb with kb | kb
      · rw [ka, kb]
      · have := h1 b kb
        rw [← ka, he, St.less_irrefl] at this
        cases this
    · rcases List.mem_cons.1 hb with kb | kb
      · have := h1 a ka
        rw [← kb, he, St.less_irrefl] at this
        cases this
      · exact Rises.uniq h2 a ka b kb he
theorem Rises.find {l : List Nod} (h : Rises l) {n : Nod} (hn : n ∈ l) : findOf l n.id = some n := by
  cases hf : findOf l n.id with
  | none => exact absurd rfl (findOf_none.1 hf n hn)
  | some m =>
    obtain ⟨hm, he⟩ := findOf_some hf
    rw [h.uniq m hm n hn he]

/-- A stamp has a node. -/
def isNode (l : List Nod) (s : St) : Prop := ∃ n ∈ l, n.id = s
/-- 't' is 's', or stands above it. -/
inductive Above (l : List Nod) : St → St → Prop
  | here {s : St} : isNode l s → Above l s s
  | up {s t : St} {n : Nod} : n ∈ l → n.id = s → Above l n.parent t → Above l s t

theorem Above.node {l : List Nod} {s t : St} (h : Above l s t) : isNode l s := by
  cases h with
  | here h => exact h
  | up h1 h2 _ => exact ⟨_, h1, h2⟩

/-- A tree: the stamps rise, parents are the root, the trash, or directories, and there is a height. -/
structure Tree (l : List Nod) : Prop where
  rise : Rises l
  good : ∀ n ∈ l, n.id.right = 0
  par : ∀ n ∈ l, n.parent = St.zero ∨ n.parent = St.trash ∨ ∃ m ∈ l, m.id = n.parent ∧ m.dir = true
  high : ∃ f : St → Nat, ∀ n ∈ l, isNode l n.parent → f n.parent < f n.id
theorem Tree.nil : Tree [] := ⟨List.Pairwise.nil, by simp, by simp, ⟨fun _ => 0, by simp⟩⟩
theorem right_ne_zero {s : St} (h : s.right = 0) : s ≠ St.zero := by
  rintro rfl
  simp [St.right, St.zero] at h
theorem right_ne_trash {s : St} (h : s.right = 0) : s ≠ St.trash := by
  rintro rfl
  simp [St.right, St.trash] at h

theorem insNod_parts (l : List Nod) (n : Nod) : ∃ l1 l2, l = l1 ++ l2 ∧ insNod l n = l1 ++ n :: l2 ∧ (∀ y ∈ l1, n.id.less y.id = false) ∧ (∀ y, l2.head? = some y → n.id.less y.id = true) := by
  refine ⟨_, _, (List.takeWhile_append_dropWhile (p := fun y : Nod => !n.id.less y.id) (l := l)).symm, rfl, fun y hy => ?_, fun y hy => ?_⟩
  · have h : ∀ (l : List Nod), y ∈ l.takeWhile (fun y => !n.id.less y.id) → (!n.id.less y.id) = true := by
      intro l
      induction l with
      | nil => intro h; simp at h
      | cons a l ih =>
        intro h
        rw [List.takeWhile_cons] at h
        split at h
        · rcases List.mem_cons.1 h with rfl | h
          · assumption
          · exact ih h
        · simp at h
    simpa using h l hy
  · have h : ∀ (l : List Nod), (l.dropWhile (fun y => !n.id.less y.id)).head? = some y → (!n.id.less y.id) = false := by
      intro l
      induction l with
      | nil => intro h; simp at h
      | cons a l ih =>
        intro h
        rw [List.dropWhile_cons] at h
        split at h
        · exact ih h
        · rename_i hn
          simp at h
          subst h
          simpa using hn
    simpa using h l hy
theorem insNod_mem (l : List Nod) (n m : Nod) : m ∈ insNod l n ↔ m = n ∨ m ∈ l := by
  obtain ⟨l1, l2, h1, h2, -, -⟩ := insNod_parts l n
  rw [h2, h1]
  simp only [List.mem_append, List.mem_cons]
  constructor
  · rintro (h | h | h)
    · exact .inr (.inl h)
    · exact .inl h
    · exact .inr (.inr h)
  · rintro (h | h | h)
    · exact .inr (.inl h)
    · exact .inl h
    · exact .inr (.inr h)
theorem insNod_length (l : List Nod) (n : Nod) : (insNod l n).length = l.length + 1 := by
  obtain ⟨l1, l2, h1, h2, -, -⟩ := insNod_parts l n
  rw [h2, h1]
  simp
  omega
theorem insNod_rise (l : List Nod) (n : Nod) (h : Rises l) (hne : ∀ y ∈ l, y.id ≠ n.id) : Rises (insNod l n) := by
  obtain ⟨l1, l2, h1, h2, h3, h4⟩ := insNod_parts l n
  rw [h2]
  rw [h1] at h hne
  obtain ⟨p1, p2, p3⟩ := List.pairwise_append.1 h
  have hl2 : ∀ y ∈ l2, n.id.less y.id = true := fun y hy => by
    cases l2 with
    | nil => cases hy
    | cons a l2 =>
      have ha := h4 a rfl
      rcases List.mem_cons.1 hy with rfl | hy
      · exact ha
      · exact St.less_trans ha ((List.pairwise_cons.1 p2).1 y hy)
  have hl1 : ∀ y ∈ l1, y.id.less n.id = true := fun y hy => by
    rcases St.less_total (hne y (List.mem_append_left _ hy)) with h | h
    · exact h
    · rw [h3 y hy] at h; cases h
  refine List.pairwise_append.2 ⟨p1, List.pairwise_cons.2 ⟨hl2, p2⟩, fun a ha b hb => ?_⟩
  rcases List.mem_cons.1 hb with rfl | hb
  · exact hl1 a ha
  · exact p3 a ha b hb
theorem mayOf_spec {l : List Nod} {s : St} (h : mayOf l s = true) : s = St.zero ∨ ∃ m ∈ l, m.id = s ∧ m.dir = true := by
  unfold mayOf at h
  simp only [Bool.or_eq_true, decide_eq_true_eq] at h
  rcases h with h | h
  · exact .inl h
  · cases hf : findOf l s with
    | none => rw [hf] at h; cases h
    | some m =>
      rw [hf] at h
      obtain ⟨h1, h2⟩ := findOf_some hf
      exact .inr ⟨m, h1, h2, h⟩

/-- A new node. -/
theorem Tree.make {l : List Nod} (hT : Tree l) (x : Opn) (hx : x.node.right = 0) (hno : findOf l x.node = none) : Tree (insNod l (madeOf l x)) := by
  have hne := findOf_none.1 hno
  have hpar : (madeOf l x).parent = St.zero ∨ (madeOf l x).parent = St.trash ∨ ∃ m ∈ l, m.id = (madeOf l x).parent ∧ m.dir = true := by
    show (if mayOf l x.parent = true then x.parent else St.trash) = _ ∨ _ = St.trash ∨ _
    by_cases h : mayOf l x.parent = true
    · rcases mayOf_spec h with h1 | ⟨m, h1, h2, h3⟩
      · exact .inl (by rw [if_pos h]; exact h1)
      · exact .inr (.inr ⟨m, h1, by show m.id = (if mayOf l x.parent = true then x.parent else St.trash); rw [if_pos h]; exact h2, h3⟩)
    · exact .inr (.inl (by show (if mayOf l x.parent = true then x.parent else St.trash) = _; rw [if_neg h]))
  obtain ⟨f, hf⟩ := hT.high
  have hold : ∀ n ∈ l, n.parent ≠ x.node := fun n hn he => by
    rcases hT.par n hn with h | h | ⟨m, hm, hmi, _⟩
    · exact right_ne_zero hx (he.symm.trans h)
    · exact right_ne_trash hx (he.symm.trans h)
    · exact hne m hm (hmi.trans he)
  have hown : (madeOf l x).parent ≠ x.node := fun he => by
    rcases hpar with h | h | ⟨m, hm, hmi, _⟩
    · exact right_ne_zero hx (he.symm.trans h)
    · exact right_ne_trash hx (he.symm.trans h)
    · exact hne m hm (hmi.trans he)
  refine ⟨insNod_rise l _ hT.rise hne, fun n hn => ?_, fun n hn => ?_, ⟨fun s => if s = x.node then f (madeOf l x).parent + 1 else f s, fun n hn hp => ?_⟩⟩
  · rcases (insNod_mem l _ n).1 hn with rfl | hn
    · exact hx
    · exact hT.good n hn
  · rcases (insNod_mem l _ n).1 hn with rfl | hn
    · rcases hpar with h | h | ⟨m, hm, h1, h2⟩
      · exact .inl h
      · exact .inr (.inl h)
      · exact .inr (.inr ⟨m, (insNod_mem l _ m).2 (.inr hm), h1, h2⟩)
    · rcases hT.par n hn with h | h | ⟨m, hm, h1, h2⟩
      · exact .inl h
      · exact .inr (.inl h)
      · exact .inr (.inr ⟨m, (insNod_mem l _ m).2 (.inr hm), h1, h2⟩)
  · show (if n.parent = x.node then _ else f n.parent) < (if n.id = x.node then _ else f n.id)
    rcases (insNod_mem l _ n).1 hn with rfl | hn
    · rw [if_neg hown, if_pos (show (madeOf l x).id = x.node from rfl)]
      omega
    · rw [if_neg (hold n hn), if_neg (hne n hn)]
      refine hf n hn ?_
      obtain ⟨m, hm, he⟩ := hp
      rcases (insNod_mem l _ m).1 hm with rfl | hm
      · exact absurd he.symm (hold n hn)
      · exact ⟨m, hm, he⟩

theorem at_parts : ∀ (l : List Nod) (s : St) (n : Nod), findOf l s = some n → ∃ l1 l2, l = l1 ++ n :: l2 ∧ atOf l s = l1.length ∧ n.id = s ∧ ∀ y ∈ l1, y.id ≠ s
  | [], s, n, h => by cases h
  | a :: l, s, n, h => by
    by_cases ha : a.id = s
    · have : findOf (a :: l) s = some a := by unfold findOf; simp [ha]
      rw [this] at h
      injection h with h
      subst h
      exact ⟨[], l, rfl, by unfold atOf; simp [List.findIdx_cons, ha], ha, by simp⟩
    · have : findOf (a :: l) s = findOf l s := by unfold findOf; simp [ha]
      rw [this] at h
      obtain ⟨l1, l2, h1, h2, h3, h4⟩ := at_parts l s n h
      refine ⟨a :: l1, l2, by rw [h1]; rfl, ?_, h3, ?_⟩
      · unfold atOf at h2 ⊢
        rw [List.findIdx_cons]
        simp [ha, h2]
      · intro y hy
        rcases List.mem_cons.1 hy with rfl | hy
        · exact ha
        · exact h4 y hy
theorem set_parts (l1 l2 : List Nod) (n m : Nod) : (l1 ++ n :: l2).set l1.length m = l1 ++ m :: l2 := by simp
theorem turnOf_id (l : List Nod) (x : Opn) (n : Nod) : (turnOf l x n).id = n.id := by
  unfold turnOf
  repeat' split
  all_goals rfl
theorem turnOf_dir (l : List Nod) (x : Opn) (n : Nod) : (turnOf l x n).dir = n.dir := by
  unfold turnOf
  repeat' split
  all_goals rfl

open Classical in
/-- One node goes below another parent. -/
theorem Tree.swap {l1 l2 : List Nod} {n : Nod} (hT : Tree (l1 ++ n :: l2)) (m : Nod) (hid : m.id = n.id) (hdir : m.dir = n.dir)
    (hpar : m.parent = St.zero ∨ m.parent = St.trash ∨ ∃ q ∈ l1 ++ n :: l2, q.id = m.parent ∧ q.dir = true) (hno : m.parent = n.parent ∨ ¬ Above (l1 ++ n :: l2) m.parent n.id) : Tree (l1 ++ m :: l2) := by
  have hmem : ∀ y, y ∈ l1 ++ m :: l2 → y = m ∨ y ∈ l1 ++ n :: l2 := fun y hy => by
    rcases List.mem_append.1 hy with h | h
    · exact .inr (List.mem_append_left _ h)
    · rcases List.mem_cons.1 h with h | h
      · exact .inl h
      · exact .inr (List.mem_append_right _ (List.mem_cons_of_mem _ h))
  have hback : ∀ q ∈ l1 ++ n :: l2, ∃ q' ∈ l1 ++ m :: l2, q'.id = q.id ∧ q'.dir = q.dir := fun q hq => by
    rcases List.mem_append.1 hq with h | h
    · exact ⟨q, List.mem_append_left _ h, rfl, rfl⟩
    · rcases List.mem_cons.1 h with h | h
      · subst h
        exact ⟨m, List.mem_append_right _ (List.mem_cons_self ..), hid, hdir⟩
      · exact ⟨q, List.mem_append_right _ (List.mem_cons_of_mem _ h), rfl, rfl⟩
  have hn : n ∈ l1 ++ n :: l2 := List.mem_append_right _ (List.mem_cons_self ..)
  have hnode : ∀ s, isNode (l1 ++ m :: l2) s → isNode (l1 ++ n :: l2) s := fun s ⟨q, hq, he⟩ => by
    rcases hmem q hq with rfl | h
    · exact ⟨n, hn, hid.symm.trans he⟩
    · exact ⟨q, h, he⟩
  have hp : ∀ y : Nod, (y.parent = St.zero ∨ y.parent = St.trash ∨ ∃ q ∈ l1 ++ n :: l2, q.id = y.parent ∧ q.dir = true) → (y.parent = St.zero ∨ y.parent = St.trash ∨ ∃ q ∈ l1 ++ m :: l2, q.id = y.parent ∧ q.dir = true) := by
    rintro y (h | h | ⟨q, h1, h2, h3⟩)
    · exact .inl h
    · exact .inr (.inl h)
    · obtain ⟨q', k1, k2, k3⟩ := hback q h1
      exact .inr (.inr ⟨q', k1, k2.trans h2, k3.trans h3⟩)
  obtain ⟨f, hf⟩ := hT.high
  refine ⟨?_, fun y hy => ?_, fun y hy => ?_, ?_⟩
  · have h1 : ((l1 ++ n :: l2).map Nod.id).Pairwise fun a b => a.less b = true := List.pairwise_map.2 hT.rise
    have h2 : (l1 ++ m :: l2).map Nod.id = (l1 ++ n :: l2).map Nod.id := by simp [hid]
    rw [← h2] at h1
    exact List.pairwise_map.1 h1
  · rcases hmem y hy with rfl | h
    · rw [hid]; exact hT.good n hn
    · exact hT.good y h
  · rcases hmem y hy with rfl | h
    · exact hp y hpar
    · exact hp y (hT.par y h)
  · rcases hno with hno | hno
    · refine ⟨f, fun y hy hpy => ?_⟩
      rcases hmem y hy with rfl | h
      · rw [hno, hid]
        exact hf n hn (hno ▸ hnode _ hpy)
      · exact hf y h (hnode _ hpy)
    · refine ⟨fun s => if Above (l1 ++ n :: l2) s n.id then f s + f m.parent + 1 else f s, fun y hy hpy => ?_⟩
      show (if Above _ y.parent n.id then _ else f y.parent) < (if Above _ y.id n.id then _ else f y.id)
      rcases hmem y hy with rfl | h
      · rw [if_neg hno, hid, if_pos (.here ⟨n, hn, rfl⟩)]
        omega
      · have hlt := hf y h (hnode _ hpy)
        by_cases ha : Above (l1 ++ n :: l2) y.parent n.id
        · rw [if_pos ha, if_pos (.up h rfl ha)]
          omega
        · rw [if_neg ha]
          split <;> omega

theorem chainGo_out (l : List Nod) : ∀ (k : Nat) (out : List St) (s u : St), u ∈ out → u ∈ chainGo l k out s
  | 0, out, s, u, h => h
  | k + 1, out, s, u, h => by
    unfold chainGo
    split
    · split
      · exact h
      · exact chainGo_out l k _ _ u (List.mem_append_left _ h)
    · split
      · rename_i h0
        rw [h0] at h
        cases h
      · exact List.mem_append_left _ h
theorem left_lt {l : List Nod} {n : Nod} (hn : n ∈ l) {out : List St} (h : n.id ∉ out) : (l.filter fun y => decide (y.id ∉ out ++ [n.id])).length < (l.filter fun y => decide (y.id ∉ out)).length := by
  have h1 : (l.filter fun y => decide (y.id ∉ out ++ [n.id])) = (l.filter fun y => decide (y.id ∉ out)).filter fun y => decide (y.id ≠ n.id) := by
    rw [List.filter_filter]
    congr 1
    funext y
    simp [and_comm]
  rw [h1]
  refine List.length_filter_lt_length_iff_exists.2 ⟨n, List.mem_filter.2 ⟨hn, by simpa using h⟩, by simp⟩
/-- Whatever stands above is in the chain. -/
theorem chainGo_above {l : List Nod} (hr : Rises l) (f : St → Nat) (hf : ∀ n ∈ l, isNode l n.parent → f n.parent < f n.id) : ∀ (k : Nat) (out : List St) (s t : St),
    (l.filter fun y => decide (y.id ∉ out)).length < k → (isNode l s → ∀ u ∈ out, f s < f u) → Above l s t → t ∈ chainGo l k out s
  | 0, _, _, _, h, _, _ => by omega
  | k + 1, out, s, t, hk, ho, hA => by
    have hs : ∃ n ∈ l, n.id = s := by
      cases hA with
      | here h => exact h
      | up h1 h2 _ => exact ⟨_, h1, h2⟩
    obtain ⟨n, hn, rfl⟩ := hs
    have hout : n.id ∉ out := fun h => by have := ho ⟨n, hn, rfl⟩ _ h; omega
    have hlt := left_lt hn hout
    unfold chainGo
    rw [hr.find hn]
    simp only [hout, if_false]
    cases hA with
    | here h => exact chainGo_out l k _ _ _ (List.mem_append_right _ (List.mem_singleton.2 rfl))
    | up h1 h2 h3 =>
      rename_i n'
      obtain rfl := hr.uniq _ h1 n hn h2
      refine chainGo_above hr f hf k _ _ t (by omega) (fun hp u hu => ?_) h3
      have h4 := hf _ hn hp
      rcases List.mem_append.1 hu with hu | hu
      · have := ho ⟨_, hn, rfl⟩ u hu
        omega
      · rw [List.mem_singleton.1 hu]
        exact h4
theorem Tree.chain_above {l : List Nod} (hT : Tree l) {s t : St} (h : Above l s t) : t ∈ chainOf l s := by
  obtain ⟨f, hf⟩ := hT.high
  exact chainGo_above hT.rise f hf _ [] s t (Nat.lt_succ_of_le (List.length_filter_le ..)) (fun _ u hu => by cases hu) h

/-- Whatever operation of a right node: a tree again. -/
theorem Tree.step {l : List Nod} (hT : Tree l) (x : Opn) (hx : x.node.right = 0) : Tree (doOf l x) := by
  unfold doOf
  cases hf : findOf l x.node with
  | none =>
    show Tree (if x.kind = 1 then insNod l (madeOf l x) else l)
    split
    · exact hT.make x hx hf
    · exact hT
  | some n =>
    show Tree (if x.kind = 1 then l else l.set (atOf l x.node) (turnOf l x n))
    split
    · exact hT
    · obtain ⟨l1, l2, h1, h2, h3, -⟩ := at_parts l x.node n hf
      rw [h2]
      obtain ⟨m, hm⟩ : ∃ m, turnOf l x n = m := ⟨_, rfl⟩
      have hid := turnOf_id l x n
      have hdir := turnOf_dir l x n
      have hn : n ∈ l := (findOf_some hf).1
      have hpar : (turnOf l x n).parent = St.zero ∨ (turnOf l x n).parent = St.trash ∨ ∃ q ∈ l, q.id = (turnOf l x n).parent ∧ q.dir = true := by
        have h0 := hT.par n hn
        unfold turnOf
        split
        · split
          · exact h0
          · rename_i h
            rcases mayOf_spec (l := l) (s := x.parent) (by simpa using fun h9 => h (.inl h9)) with h5 | h5
            · exact .inl h5
            · exact .inr (.inr h5)
        · split
          · split <;> exact h0
          · split
            · exact .inr (.inl rfl)
            · exact h0
      have hno : (turnOf l x n).parent = n.parent ∨ ¬ Above l (turnOf l x n).parent n.id := by
        unfold turnOf
        split
        · split
          · exact .inl rfl
          · rename_i h
            refine .inr fun hA => h (.inr ?_)
            have := hT.chain_above hA
            rw [h3] at this
            exact this
        · split
          · split <;> exact .inl rfl
          · split
            · refine .inr fun hA => ?_
              obtain ⟨q, hq, he⟩ := hA.node
              exact right_ne_trash (hT.good q hq) he
            · exact .inl rfl
      rw [hm] at hid hdir hpar hno ⊢
      rw [h1] at hT hpar hno ⊢
      rw [set_parts]
      exact hT.swap m hid hdir hpar hno
end Arb
end

/- Nodes as arguments: what lies in their cells. -/
section
namespace Go.Proofs.YtjeijolblcodpaaDoor.W
set_option maxRecDepth 20000
set_option linter.unusedVariables false
open Go.RowKit Go.Proofs Arb Go.WideShapes

def ndCells (x : Nod) : List Value :=
  [.int .i64 x.id.count, .int .i64 x.id.who, .bool x.dir, .int .i64 x.parent.count, .int .i64 x.parent.who, .string (BS x.name), .string (BS x.manifest)]
def ndArr (x : Nod) : Array Value := (ndCells x).toArray
def ndVal (x : Nod) : Value := .agg (ndArr x)
def ndWf (x : Nod) : Prop := stWf x.id ∧ stWf x.parent ∧ x.name.length ≤ 140737488351232 ∧ x.manifest.length ≤ 140737488351232

theorem cells_Nd {w : World} {f : Nat} {cs : List Value} (h : Cells Tryd.prog w f 49 cs) : ∃ x : Nod, cs = ndCells x ∧ ndWf x := by
  obtain ⟨hl, hf⟩ := cells_struct Tryd.underlying49 h
  rw [show Tryd.prog.cellsOf 49 = 7 by kernel_rfl] at hl
  match cs, hl with
  | [x0, x1, x2, x3, x4, x5, x6], _ =>
    have hs : Tryd.prog.cellsOf 33 = 2 := by kernel_rfl
    have hb : Tryd.prog.cellsOf 4 = 1 := by kernel_rfl
    have ht : Tryd.prog.cellsOf 9 = 1 := by kernel_rfl
    obtain ⟨f0, h0⟩ : ∃ f', Cells Tryd.prog w f' 33 [x0, x1] := by
      obtain ⟨f', h⟩ := hf 0 _ rfl
      exact ⟨f', by simpa [hs] using h⟩
    obtain ⟨f4, h4⟩ : ∃ f', Cells Tryd.prog w f' 4 [x2] := by
      obtain ⟨f', h⟩ := hf 1 _ rfl
      exact ⟨f', by simpa [hb] using h⟩
    obtain ⟨f5, h5⟩ : ∃ f', Cells Tryd.prog w f' 33 [x3, x4] := by
      obtain ⟨f', h⟩ := hf 2 _ rfl
      exact ⟨f', by simpa [hs] using h⟩
    obtain ⟨f6, h6⟩ : ∃ f', Cells Tryd.prog w f' 9 [x5] := by
      obtain ⟨f', h⟩ := hf 3 _ rfl
      exact ⟨f', by simpa [ht] using h⟩
    obtain ⟨f7, h7⟩ : ∃ f', Cells Tryd.prog w f' 9 [x6] := by
      obtain ⟨f', h⟩ := hf 4 _ rfl
      exact ⟨f', by simpa [ht] using h⟩
    obtain ⟨s, es, ws⟩ := cells_St h0
    obtain ⟨d, ed⟩ := cells_bool Tryd.underlying4 h4
    obtain ⟨p, ep, wp⟩ := cells_St h5
    obtain ⟨a, ea, wa⟩ := cells_string Tryd.underlying9 h6
    obtain ⟨m, em, wm⟩ := cells_string Tryd.underlying9 h7
    simp [stCells] at es ed ep ea em
    exact ⟨⟨s, d, p, a, m⟩, by simp [ndCells, es, ed, ep, ea, em], ws, wp, wa, wm⟩

theorem cells_Nds {w : World} {f : Nat} {cs : List Value} (h : Cells Tryd.prog w f 40 cs) :
    ∃ (A : Option Addr) (n c : Nat) (l : List Nod), cs = [.slice A n c] ∧ c * 72 ≤ 140737488351232 ∧ Sl w 7 A n c (l.map ndCells) ∧ (∀ x ∈ l, ndWf x) ∧ l.length = n := by
  obtain ⟨A, n, c, rows, rfl, hb, hr, hs⟩ := cells_slice Tryd.underlying40 (by rw [show Tryd.prog.cellsOf 49 = 7 by kernel_rfl]; omega) h
  rw [show Tryd.prog.bytesOf 49 = 72 by kernel_rfl] at hb
  rw [show Tryd.prog.cellsOf 49 = 7 by kernel_rfl] at hs
  obtain ⟨l, h1, h2, h3⟩ := sl_typed ndCells (q := ndWf) hs fun r hm => by
    obtain ⟨f', hf'⟩ := hr r hm
    exact cells_Nd hf'
  exact ⟨A, n, c, l, rfl, hb, h1, h2, h3⟩

theorem size_nd : (Tryd.prog.info? 49).map (·.size) = some 7 := by kernel_rfl
theorem ndArr_size (x : Nod) : (ndArr x).size = 7 := rfl
theorem ndArr_one (x : Nod) : (ndArr x).all (·.oneCell') = true := by simp [ndArr, ndCells, Value.oneCell']
set_option maxRecDepth 20000 in
set_option maxHeartbeats 1000000 in
/-- Two nodes are compared. -/
theorem eq_nd (x y : Nod) (w : World) : (binOp .eql 49 (ndVal x) (ndVal y)).run Tryd.prog w = .ok (.bool (decide (x = y))) w := by
  rw [ndVal, ndVal, run_eql_struct, run_equalIn_agg _ _ _ _ _ (by kernel_rfl) (by kernel_rfl)]
  unfold ndArr ndCells
  have u25 := Tryd.underlying49
  have u23 := Tryd.underlying33
  have u3 := Tryd.underlying3
  have u4 := Tryd.underlying4
  have u9 := Tryd.underlying9
  simp only [go_sem, u25]
  go_simp
  by_cases h : x = y
  · subst h; simp
  · rw [decide_eq_false h]
    have hb : ∀ l m : List UInt8, (BS l).toList = (BS m).toList → l = m := fun l m e => by
      rw [Go.Lib.toList_data, Go.Lib.toList_data, BS_list, BS_list] at e; exact e
    split
    · split
      · split
        · split
          · split
            · split
              · split
                · rename_i h0 h1 h2 h3 h4 h5 h6
                  exfalso
                  apply h
                  have e5 := hb _ _ h5
                  have e6 := hb _ _ h6
                  obtain ⟨⟨a, b⟩, g, ⟨i, j⟩, k, l⟩ := x
                  obtain ⟨⟨a', b'⟩, g', ⟨i', j'⟩, k', l'⟩ := y
                  simp only at h0 h1 h2 h3 h4 e5 e6
                  subst h0; subst h1; subst h2; subst h3; subst h4; subst e5; subst e6
                  rfl
                · rfl
              · rfl
            · rfl
          · rfl
        · rfl
      · rfl
    · rfl

theorem ne_nd (x y : Nod) (w : World) : (binOp .neq 49 (ndVal x) (ndVal y)).run Tryd.prog w = .ok (.bool (!decide (x = y))) w := by
  have h := eq_nd x y w
  rw [ndVal, ndVal, run_eql_struct] at h
  rw [ndVal, ndVal, run_neq_struct]
  cases hr : (Op.equalIn 10000 49 (.agg (ndArr x)) (.agg (ndArr y))).run Tryd.prog w with
  | ok b w' =>
    rw [hr] at h
    simp only [Result.andThen_ok] at h ⊢
    injection h with h1 h2
    injection h1 with h1
    rw [h1, h2]
  | halt a w' =>
    rw [hr] at h
    simp [Result.andThen] at h

/-- The node x lies at offset o of block b. -/
def NodAt (w : World) (b o : Nat) (x : Nod) : Prop := w.rangeAt b o (ndCells x)
theorem NodAt.lt {w : World} {b o : Nat} {x : Nod} (h : NodAt w b o x) : b < w.heap.size := World.block_lt_of_cell? w _ (h 0 _ rfl)
theorem NodAt.below {w w' : World} {b o : Nat} {x : Nod} (h : NodAt w b o x) (hb : Below w.heap.size w w') : NodAt w' b o x := fun j v hv => (hb.cell (p := ⟨b, o + j, none⟩) h.lt).trans (h j v hv)
theorem NodAt.under {w w' : World} {B b o : Nat} {x : Nod} (h : NodAt w b o x) (hb : Below B w w') (hl : b < B) : NodAt w' b o x := fun j v hv => (hb.cell (p := ⟨b, o + j, none⟩) hl).trans (h j v hv)
theorem NodAt.new (w : World) (x : Nod) (t : TypeId) : NodAt (w.alloc (.cells (ndArr x) t)) w.heap.size 0 x := fun j v hv => by
  rw [cell_of_row _ _ _ _ _ _ (heap_alloc_new w _), Nat.zero_add]
  simpa [ndArr] using hv
theorem NodAt.of_block {w : World} {b : Nat} {x : Nod} {t : TypeId} {fr : Nat × Nat} (h : w.heap[b]? = some (.cells (ndArr x) t fr)) : NodAt w b 0 x := fun j v hv => by
  rw [cell_of_row _ _ _ _ _ _ h, Nat.zero_add]
  simpa [ndArr] using hv
theorem nd_cells {w : World} {b o : Nat} {x : Nod} (h : NodAt w b o x) :
    w.cell? ⟨b, o, none⟩ = some (.int .i64 x.id.count) ∧ w.cell? ⟨b, o + 1, none⟩ = some (.int .i64 x.id.who) ∧ w.cell? ⟨b, o + 2, none⟩ = some (.bool x.dir) ∧ w.cell? ⟨b, o + 3, none⟩ = some (.int .i64 x.parent.count) ∧ w.cell? ⟨b, o + 4, none⟩ = some (.int .i64 x.parent.who) ∧ w.cell? ⟨b, o + 5, none⟩ = some (.string (BS x.name)) ∧ w.cell? ⟨b, o + 6, none⟩ = some (.string (BS x.manifest)) :=
  ⟨h 0 _ rfl, h 1 _ rfl, h 2 _ rfl, h 3 _ rfl, h 4 _ rfl, h 5 _ rfl, h 6 _ rfl⟩
theorem nd_cells0 {w : World} {b : Nat} {x : Nod} (h : NodAt w b 0 x) :
    w.cell? ⟨b, 0, none⟩ = some (.int .i64 x.id.count) ∧ w.cell? ⟨b, 1, none⟩ = some (.int .i64 x.id.who) ∧ w.cell? ⟨b, 2, none⟩ = some (.bool x.dir) ∧ w.cell? ⟨b, 3, none⟩ = some (.int .i64 x.parent.count) ∧ w.cell? ⟨b, 4, none⟩ = some (.int .i64 x.parent.who) ∧ w.cell? ⟨b, 5, none⟩ = some (.string (BS x.name)) ∧ w.cell? ⟨b, 6, none⟩ = some (.string (BS x.manifest)) := by
  have := nd_cells h
  simpa only [Nat.zero_add] using this
/-- The value v is the nodes l. -/
def Nods (w : World) (v : Value) (l : List Nod) : Prop :=
  ∃ A n c, v = .slice A n c ∧ l.length = n ∧ n ≤ c ∧ (A = none → c = 0) ∧ (0 < n → ∃ b off, A = some ⟨b, off, none⟩ ∧ ∀ j x, l[j]? = some x → NodAt w b (off + j * 7) x)
theorem Nods.below {w w' : World} {v : Value} {l : List Nod} (h : Nods w v l) (hb : Below w.heap.size w w') : Nods w' v l := by
  obtain ⟨A, n, c, hv, hl, hc, hA0, hr⟩ := h
  refine ⟨A, n, c, hv, hl, hc, hA0, fun h0 => ?_⟩
  obtain ⟨b, off, hA, hz⟩ := hr h0
  exact ⟨b, off, hA, fun j x hj => (hz j x hj).below hb⟩
theorem Nods.nil (w : World) : Nods w (.slice none 0 0) [] := ⟨none, 0, 0, rfl, rfl, Nat.le_refl _, fun _ => rfl, fun h => by omega⟩
theorem Nods.of_sl {w : World} {A : Option Addr} {n c : Nat} {l : List Nod} (h : Sl w 7 A n c (l.map ndCells)) : Nods w (.slice A n c) l := by
  refine ⟨A, n, c, rfl, by simpa using h.1, h.2.1, h.2.2.1, fun h0 => ?_⟩
  obtain ⟨b, off, hA, hr⟩ := h.2.2.2 h0
  refine ⟨b, off, hA, fun j x hj => ?_⟩
  have := (hr j (ndCells x) (by simp [hj])).2
  intro k v hv
  have h1 := this k v hv
  rw [show off + j * 7 + k = off + (j * 7 + k) by omega]
  first | exact h1 | (rw [← Nat.add_assoc]; exact h1)
end Go.Proofs.YtjeijolblcodpaaDoor.W
end

/- Regions that draw their order, whose operations read and whose calls make memory: one walk in the order of the text. -/
section
namespace Arb
set_option maxRecDepth 20000
set_option linter.unusedVariables false
open Go Go.RowKit

/-- A world in which nothing below 'base' has turned since W. -/
def BW (base : Nat) (W : World) : Type := { w' : World // Below base W w' }
def BW.w {base : Nat} {W : World} (x : BW base W) : World := x.1
theorem BW.ne (base : Nat) (W : World) : Nonempty (BW base W) := ⟨⟨W, Below.refl base W⟩⟩
theorem BW.cell {base : Nat} {W : World} (x : BW base W) {a : Addr} {u : Value} (h : W.cell? a = some u) (hl : a.block < base) : x.w.cell? a = some u := (x.2.cell hl).trans h
theorem bw_of {P : Program} {f : FuncId} {args : Array Value} {base : Nat} {W : World} {x : BW base W} {v : Value} (hbase : base ≤ W.heap.size)
    (h : Calls P f args x.w fun e w' => e = .returned v ∧ Below x.w.heap.size x.w w') : Calls P f args x.w fun e w'' => e = .returned v ∧ ∃ y : BW base W, w'' = y.w :=
  h.mono fun _ w' ⟨he, hb⟩ => ⟨he, ⟨w', x.2.trans (hb.mono (Nat.le_trans hbase x.2.size))⟩, rfl⟩
theorem bw_same {P : Program} {f : FuncId} {args : Array Value} {base : Nat} {W : World} {x : BW base W} {v : Value}
    (h : Calls P f args x.w fun e w' => e = .returned v ∧ w' = x.w) : Calls P f args x.w fun e w'' => e = .returned v ∧ ∃ y : BW base W, w'' = y.w :=
  h.mono fun _ _ ⟨he, hb⟩ => ⟨he, x, hb⟩
theorem below_drewN {B : Nat} {a w : World} (h : Below B a w) (n : Nat) : Below B a (w.drewN n) := ⟨h.os, h.tape, h.output, h.size, h.block⟩
theorem wp_region_calm {P : Program} {id : Nat} {Q : Exit → Act → World → Prop} {a : Act} {w : World} {l : List Oper} (base : Nat) (W : World) (hw : Below base W w)
    (hm : P.follows .mixedOrders = true) (hB : Region.lexB .any l.toArray = true)
    (h : wpQuiet P l.toArray (fun w' => ∃ x : BW base W, w' = x.w) (fun a' => ∀ w', (∃ x : BW base W, w' = x.w) → Q .normal a' w') l a) : (Code.region id l.toArray true).wp P Q a w :=
  wp_region_quiet (C := fun w' => ∃ x : BW base W, w' = x.w) hm hB ⟨⟨{ w with drawn := w.drawn + 1 }, ⟨hw.os, hw.tape, hw.output, hw.size, hw.block⟩⟩, rfl⟩ (by simpa using h)
end Arb
end
