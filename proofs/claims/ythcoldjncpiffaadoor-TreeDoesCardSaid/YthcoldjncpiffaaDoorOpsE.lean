/- The mathematics of sets that are made by Add. -/
import Derived.Test.YthcoldjncpiffaaDoorOpsM
namespace Arb
open Go Go.RowKit
set_option linter.unusedVariables false

theorem St.less_trans {a b c : St} (h : a.less b = true) (k : b.less c = true) : a.less c = true := by
  simp only [St.less, decide_eq_true_eq] at *
  omega
theorem St.less_irrefl (a : St) : a.less a = false := by simp [St.less]
theorem St.less_total {a b : St} (h : a ≠ b) : a.less b = true ∨ b.less a = true := by
  obtain ⟨a1, a2⟩ := a
  obtain ⟨b1, b2⟩ := b
  have h' : ¬ (a1 = b1 ∧ a2 = b2) := fun e => h (by rw [e.1, e.2])
  simp only [St.less, decide_eq_true_eq]
  omega
theorem St.less_asymm {a b : St} (h : a.less b = true) : b.less a = false := by
  cases hb : b.less a with
  | false => rfl
  | true => have := St.less_trans h hb; rw [St.less_irrefl] at this; cases this

/-- Rising stamps. -/
def Rising (set : List Opn) : Prop := set.Pairwise fun x y => x.stamp.less y.stamp = true
/-- What holds of a set that was made by Add. -/
structure Inv (set : List Opn) : Prop where
  rise : Rising set
  good : ∀ x ∈ set, x.right = 0
  seqs : ∀ (w : Int) (k : Int), (∃ x ∈ set, x.stamp.who = w ∧ x.seq = k) ↔ 1 ≤ k ∧ k ≤ (set.countP fun y => decide (y.stamp.who = w) : Nat)
  mono : ∀ x ∈ set, ∀ y ∈ set, x.stamp.who = y.stamp.who → x.seq < y.seq → x.stamp.less y.stamp = true
  uniq : ∀ x ∈ set, ∀ y ∈ set, x.stamp.who = y.stamp.who → x.seq = y.seq → x = y
theorem right_parts {x : Opn} (h : x.right = 0) : x.stamp.right = 0 ∧ 1 ≤ x.seq ∧ x.seq ≤ 1099511627776 := by
  unfold Opn.right at h
  split at h
  · cases h
  · rename_i hn
    refine ⟨?_, by omega, by omega⟩
    rcases Classical.em (x.stamp.right = 0) with h1 | h1
    · exact h1
    · exact absurd (.inl h1) hn
theorem stamp_parts {s : St} (h : s.right = 0) : 1 ≤ s.count ∧ s.count ≤ 1099511627776 ∧ 0 ≤ s.who ∧ s.who < 15 := by
  unfold St.right at h
  split at h
  · cases h
  · omega
theorem Inv.nil : Inv [] := ⟨List.Pairwise.nil, by simp, fun w k => by simp; omega, by simp, by simp⟩
/-- What an insertion is. -/
theorem ins_parts (set : List Opn) (x : Opn) : ∃ l1 l2, set = l1 ++ l2 ∧ insAt set x = l1 ++ x :: l2 ∧ (∀ y ∈ l1, x.stamp.less y.stamp = false) ∧ (∀ y, l2.head? = some y → x.stamp.less y.stamp = true) := by
  refine ⟨_, _, (List.takeWhile_append_dropWhile (p := fun y : Opn => !x.stamp.less y.stamp) (l := set)).symm, rfl, fun y hy => ?_, fun y hy => ?_⟩
  · have h : ∀ (l : List Opn), y ∈ l.takeWhile (fun y => !x.stamp.less y.stamp) → (!x.stamp.less y.stamp) = true := by
      intro l
      induction l with
      | nil => intro h; simp at h
      | cons a l ih =>
        intro h
        rw [List.takeWhile_cons] at h
        split at h
        · rcases List.mem_cons.1 h with rfl | h
          · assumption
          · exact ih h
        · simp at h
    simpa using h set hy
  · have h : ∀ (l : List Opn), (l.dropWhile (fun y => !x.stamp.less y.stamp)).head? = some y → (!x.stamp.less y.stamp) = false := by
      intro l
      induction l with
      | nil => intro h; simp at h
      | cons a l ih =>
        intro h
        rw [List.dropWhile_cons] at h
        split at h
        · exact ih h
        · rename_i hn
          simp at h
          subst h
          simpa using hn
    simpa using h set hy
theorem ins_mem (set : List Opn) (x y : Opn) : y ∈ insAt set x ↔ y = x ∨ y ∈ set := by
  obtain ⟨l1, l2, h1, h2, _⟩ := ins_parts set x
  rw [h2, h1]
  simp only [List.mem_append, List.mem_cons]
  constructor
  · rintro (h | h | h)
    · exact .inr (.inl h)
    · exact .inl h
    · exact .inr (.inr h)
  · rintro (h | h | h)
    · exact .inr (.inl h)
    · exact .inl h
    · exact .inr (.inr h)
theorem ins_count (set : List Opn) (x : Opn) (p : Opn → Bool) : (insAt set x).countP p = set.countP p + if p x = true then 1 else 0 := by
  obtain ⟨l1, l2, h1, h2, _⟩ := ins_parts set x
  rw [h2]
  conv => rhs; rw [h1]
  rw [List.countP_append, List.countP_cons, List.countP_append]
  omega
theorem ins_rise (set : List Opn) (x : Opn) (h : Rising set) (hne : ∀ y ∈ set, y.stamp ≠ x.stamp) : Rising (insAt set x) := by
  obtain ⟨l1, l2, h1, h2, h3, h4⟩ := ins_parts set x
  unfold Rising at *
  rw [h2]
  rw [h1, List.pairwise_append] at h
  obtain ⟨p1, p2, p3⟩ := h
  have hx2 : ∀ y ∈ l2, x.stamp.less y.stamp = true := by
    cases l2 with
    | nil => simp
    | cons a l =>
      have ha := h4 a rfl
      intro y hy
      rcases List.mem_cons.1 hy with rfl | hy
      · exact ha
      · exact St.less_trans ha (List.rel_of_pairwise_cons p2 hy)
  have hx1 : ∀ y ∈ l1, y.stamp.less x.stamp = true := fun y hy => by
    rcases St.less_total (hne y (by rw [h1]; exact List.mem_append_left _ hy)) with h | h
    · exact h
    · rw [h3 y hy] at h; cases h
  rw [List.pairwise_append]
  refine ⟨p1, List.pairwise_cons.2 ⟨hx2, p2⟩, fun a ha b hb => ?_⟩
  rcases List.mem_cons.1 hb with rfl | hb
  · exact hx1 a ha
  · exact p3 a ha b hb

/-- What Add answers where it answers no error. -/
theorem add_cases (set : List Opn) (x : Opn) (h : (addOf set x).2 = 0) :
    x.right = 0 ∧ ((x ∈ set ∧ (addOf set x).1 = set) ∨ (x ∉ set ∧ twiceOf set x = false ∧ aheadOf set x = true ∧ lateOf set x = false ∧ set.length < 400 ∧ (addOf set x).1 = insAt set x)) := by
  unfold addOf at h ⊢
  by_cases h0 : x.right = 0
  · refine ⟨h0, ?_⟩
    rw [if_neg (by simp [h0])] at h ⊢
    by_cases h1 : x ∈ set
    · rw [if_pos h1]
      exact .inl ⟨h1, rfl⟩
    · rw [if_neg h1] at h ⊢
      right
      cases h2 : twiceOf set x with
      | true => rw [h2, if_pos rfl] at h; cases h
      | false =>
        cases h3 : aheadOf set x with
        | false => rw [h2, h3] at h; simp at h
        | true =>
          cases h4 : lateOf set x with
          | true => rw [h2, h3, h4] at h; simp at h
          | false =>
            by_cases h5 : 400 ≤ set.length
            · rw [h2, h3, h4] at h; simp [h5] at h
            · refine ⟨h1, rfl, rfl, rfl, by omega, ?_⟩
              simp [h5]
  · rw [if_pos h0] at h
    exact absurd h h0
theorem twice_spec {set : List Opn} {x : Opn} (h : twiceOf set x = false) : ∀ y ∈ set, y.stamp ≠ x.stamp ∧ ¬ (y.stamp.who = x.stamp.who ∧ y.seq = x.seq) := by
  unfold twiceOf at h
  rw [List.any_eq_false] at h
  intro y hy
  have := h y hy
  simp only [decide_eq_true_eq, not_or] at this
  exact this
theorem late_spec {set : List Opn} {x : Opn} (h : lateOf set x = false) : ∀ y ∈ set, y.stamp.who = x.stamp.who → (y.seq = x.seq - 1 → y.stamp.less x.stamp = true) ∧ (x.seq < y.seq → x.stamp.less y.stamp = true) := by
  unfold lateOf at h
  rw [List.any_eq_false] at h
  intro y hy hw
  have := h y hy
  unfold lateOne at this
  simp only [hw, true_and, Bool.or_eq_true, Bool.and_eq_true, decide_eq_true_eq, Bool.not_eq_true', not_or, not_and] at this
  refine ⟨fun e => ?_, fun e => ?_⟩
  · have := this.1 e
    simpa using this
  · have := this.2 e
    simpa using this
theorem ahead_spec {set : List Opn} {x : Opn} (h : aheadOf set x = true) : x.seq = 1 ∨ ∃ y ∈ set, y.stamp.who = x.stamp.who ∧ y.seq = x.seq - 1 := by
  unfold aheadOf at h
  rw [Bool.or_eq_true, decide_eq_true_eq, List.any_eq_true] at h
  rcases h with h | ⟨y, hy, h⟩
  · exact .inl h
  · exact .inr ⟨y, hy, by simpa using h⟩

/-- Add keeps what holds of a set. -/
theorem Inv.add {set : List Opn} (hI : Inv set) (x : Opn) (h : (addOf set x).2 = 0) : Inv (addOf set x).1 := by
  obtain ⟨hr, ⟨hm, he⟩ | ⟨hnm, ht, ha, hl, hlen, he⟩⟩ := add_cases set x h
  · rw [he]; exact hI
  · rw [he]
    have hT := twice_spec ht
    have hL := late_spec hl
    obtain ⟨hs, hq1, hq2⟩ := right_parts hr
    have hc : ∀ w : Int, (insAt set x).countP (fun y => decide (y.stamp.who = w)) = set.countP (fun y => decide (y.stamp.who = w)) + if x.stamp.who = w then 1 else 0 := fun w => by
      rw [ins_count]
      simp
    -- the number of x is the next one of its device
    have hnext : x.seq = (set.countP fun y => decide (y.stamp.who = x.stamp.who) : Nat) + 1 := by
      have hlo : x.seq - 1 ≤ (set.countP fun y => decide (y.stamp.who = x.stamp.who) : Nat) := by
        rcases ahead_spec ha with h1 | ⟨y, hy, hw, hseq⟩
        · omega
        · exact ((hI.seqs x.stamp.who (x.seq - 1)).1 ⟨y, hy, hw, hseq⟩).2
      have hhi : ¬ x.seq ≤ (set.countP fun y => decide (y.stamp.who = x.stamp.who) : Nat) := fun hle => by
        obtain ⟨y, hy, hw, hseq⟩ := (hI.seqs x.stamp.who x.seq).2 ⟨hq1, hle⟩
        exact (hT y hy).2 ⟨hw, hseq⟩
      omega
    have hbound : ∀ y ∈ set, y.stamp.who = x.stamp.who → y.seq < x.seq := fun y hy hw => by
      have := ((hI.seqs x.stamp.who y.seq).1 ⟨y, hy, hw, rfl⟩).2
      omega
    refine ⟨ins_rise set x hI.rise fun y hy => (hT y hy).1, fun y hy => ?_, fun w k => ?_, fun y hy z hz hw hlt => ?_, fun y hy z hz hw hsq => ?_⟩
    · rcases (ins_mem set x y).1 hy with rfl | hy
      · exact hr
      · exact hI.good y hy
    · rw [hc w]
      constructor
      · rintro ⟨y, hy, hw, hk⟩
        rcases (ins_mem set x y).1 hy with rfl | hy
        · rw [if_pos hw, ← hk]
          rw [hw] at hnext
          omega
        · have := (hI.seqs w k).1 ⟨y, hy, hw, hk⟩
          omega
      · rintro ⟨h1, h2⟩
        by_cases hw : x.stamp.who = w
        · rw [if_pos hw] at h2
          rw [hw] at hnext
          by_cases hk : k = x.seq
          · exact ⟨x, (ins_mem set x x).2 (.inl rfl), hw, hk.symm⟩
          · obtain ⟨y, hy, h3⟩ := (hI.seqs w k).2 ⟨h1, by omega⟩
            exact ⟨y, (ins_mem set x y).2 (.inr hy), h3⟩
        · rw [if_neg hw] at h2
          obtain ⟨y, hy, h3⟩ := (hI.seqs w k).2 ⟨h1, by omega⟩
          exact ⟨y, (ins_mem set x y).2 (.inr hy), h3⟩
    · rcases (ins_mem set x y).1 hy with rfl | hy2
      · rcases (ins_mem set y z).1 hz with rfl | hz
        · omega
        · have := hbound z hz hw.symm
          omega
      · rcases (ins_mem set x z).1 hz with rfl | hz
        · -- y ahead of the new one: by the one just before it
          by_cases he1 : y.seq = z.seq - 1
          · exact (hL y hy2 hw).1 he1
          · obtain ⟨u, hu, huw, hus⟩ : ∃ u ∈ set, u.stamp.who = z.stamp.who ∧ u.seq = z.seq - 1 := by
              rcases ahead_spec ha with h1 | h1
              · have := ((hI.seqs z.stamp.who y.seq).1 ⟨y, hy2, hw, rfl⟩).1
                omega
              · exact h1
            exact St.less_trans (hI.mono y hy2 u hu (hw.trans huw.symm) (by omega)) ((hL u hu huw).1 hus)
        · exact hI.mono y hy2 z hz hw hlt
    · rcases (ins_mem set x y).1 hy with rfl | hy2
      · rcases (ins_mem set y z).1 hz with rfl | hz
        · rfl
        · exact absurd ⟨hw.symm, hsq.symm⟩ (hT z hz).2
      · rcases (ins_mem set x z).1 hz with rfl | hz
        · exact absurd ⟨hw, hsq⟩ (hT y hy2).2
        · exact hI.uniq y hy2 z hz hw hsq

/-- One operation is added, if it may be. -/
def addStep (set : List Opn) (x : Opn) : List Opn := if (addOf set x).2 = 0 then (addOf set x).1 else set
def build (l : List Opn) : List Opn := l.foldl addStep []
theorem build_take (l : List Opn) (k : Nat) (x : Opn) (h : l[k]? = some x) : build (l.take (k + 1)) = addStep (build (l.take k)) x := by
  unfold build
  rw [List.take_add_one, h, List.foldl_append]
  rfl
theorem Inv.step {set : List Opn} (h : Inv set) (x : Opn) : Inv (addStep set x) := by
  unfold addStep
  split
  · rename_i he; exact h.add x he
  · exact h
theorem build_inv (l : List Opn) : Inv (build l) := by
  have : ∀ (l : List Opn) (s : List Opn), Inv s → Inv (l.foldl addStep s) := by
    intro l
    induction l with
    | nil => intro s h; exact h
    | cons x l ih => intro s h; exact ih _ (h.step x)
  exact this l [] Inv.nil
theorem step_mem (set : List Opn) (x y : Opn) (h : y ∈ addStep set x) : y = x ∨ y ∈ set := by
  unfold addStep at h
  split at h
  · rename_i he
    obtain ⟨_, ⟨_, e⟩ | ⟨_, _, _, _, _, e⟩⟩ := add_cases set x he
    · rw [e] at h; exact .inr h
    · rw [e] at h; exact (ins_mem set x y).1 h
  · exact .inr h
theorem build_mem (l : List Opn) : ∀ y ∈ build l, y ∈ l := by
  have : ∀ (l : List Opn) (s : List Opn) (y : Opn), y ∈ l.foldl addStep s → y ∈ l ∨ y ∈ s := by
    intro l
    induction l with
    | nil => intro s y h; exact .inr h
    | cons x l ih =>
      intro s y h
      rcases ih _ y h with h | h
      · exact .inl (by simp [h])
      · rcases step_mem s x y h with h | h
        · exact .inl (by simp [h])
        · exact .inr h
  intro y hy
  rcases this l [] y hy with h | h
  · exact h
  · simp at h
theorem add_length {set : List Opn} {x : Opn} (h : (addOf set x).2 = 0) : (addOf set x).1.length = set.length ∨ (addOf set x).1.length = set.length + 1 := by
  obtain ⟨_, ⟨_, e⟩ | ⟨_, _, _, _, _, e⟩⟩ := add_cases set x h
  · exact .inl (by rw [e])
  · right
    rw [e]
    obtain ⟨l1, l2, h1, h2, _⟩ := ins_parts set x
    rw [h2, h1]
    simp only [List.length_append, List.length_cons]
    omega
theorem step_length (set : List Opn) (x : Opn) : (addStep set x).length ≤ set.length + 1 := by
  unfold addStep
  split
  · rename_i he
    have := add_length he
    omega
  · omega
theorem build_length (l : List Opn) : (build l).length ≤ l.length := by
  have : ∀ (l : List Opn) (s : List Opn), (l.foldl addStep s).length ≤ s.length + l.length := by
    intro l
    induction l with
    | nil => intro s; simp
    | cons x l ih =>
      intro s
      have h1 := ih (addStep s x)
      have h2 := step_length s x
      rw [List.foldl_cons, List.length_cons]
      omega
  have := this l []
  simpa [build] using this

/-- Whose device's number is below the vector's length. -/
theorem top_above (set : List Opn) (x : Opn) (hx : x ∈ set) (h : x.stamp.who < 15) : x.stamp.who + 1 ≤ topWho set := by
  have : ∀ (l : List Opn) (n : Int), n ≤ l.foldl (fun n y => if y.stamp.who < 15 then max n (y.stamp.who + 1) else n) n ∧ ∀ y ∈ l, y.stamp.who < 15 → y.stamp.who + 1 ≤ l.foldl (fun n y => if y.stamp.who < 15 then max n (y.stamp.who + 1) else n) n := by
    intro l
    induction l with
    | nil => intro n; exact ⟨by simp, by simp⟩
    | cons a l ih =>
      intro n
      rw [List.foldl_cons]
      obtain ⟨i1, i2⟩ := ih (if a.stamp.who < 15 then max n (a.stamp.who + 1) else n)
      refine ⟨?_, fun y hy h15 => ?_⟩
      · have : n ≤ (if a.stamp.who < 15 then max n (a.stamp.who + 1) else n) := by split <;> omega
        omega
      · rcases List.mem_cons.1 hy with rfl | hy
        · rw [if_pos h15] at i1 ⊢
          omega
        · exact i2 y hy h15
  exact (this set 0).2 x hx h
theorem count_sum (N : Nat) : ∀ (set : List Opn), (∀ x ∈ set, 0 ≤ x.stamp.who ∧ x.stamp.who < (N : Int)) → ((List.range N).map fun (w : Nat) => set.countP fun y => decide (y.stamp.who = (w : Int))).sum = set.length
  | [], _ => by
    have hz : ∀ M : Nat, ((List.range M).map fun _ => (0 : Nat)).sum = 0 := by
      intro M
      induction M with
      | zero => rfl
      | succ M ih => rw [List.range_succ, List.map_append, List.sum_append, ih]; rfl
    simpa using hz N
  | x :: set, h => by
    have ih := count_sum N set fun y hy => h y (by simp [hy])
    obtain ⟨h0, h1⟩ := h x (by simp)
    obtain ⟨j, hj⟩ : ∃ j : Nat, x.stamp.who = (j : Int) := ⟨x.stamp.who.toNat, by omega⟩
    have hjN : j < N := by omega
    have hsum : ∀ (f : Nat → Nat) (M : Nat), ((List.range M).map fun w => f w + if j = w then 1 else 0).sum = ((List.range M).map f).sum + if j < M then 1 else 0 := by
      intro f M
      induction M with
      | zero => simp
      | succ M ihM =>
        rw [List.range_succ, List.map_append, List.map_append, List.sum_append, List.sum_append, ihM]
        simp only [List.map_cons, List.map_nil, List.sum_cons, List.sum_nil]
        by_cases h1 : j < M
        · rw [if_pos h1, if_neg (by omega), if_pos (by omega)]; omega
        · by_cases h2 : j = M
          · rw [if_neg h1, if_pos h2, if_pos (by omega)]; omega
          · rw [if_neg h1, if_neg h2, if_neg (by omega)]; simp only [Nat.add_zero]
    have he : (fun w : Nat => (x :: set).countP fun y => decide (y.stamp.who = (w : Int))) = fun w : Nat => (set.countP fun y => decide (y.stamp.who = (w : Int))) + if j = w then 1 else 0 := by
      funext w
      rw [List.countP_cons]
      congr 1
      simp only [decide_eq_true_eq]
      by_cases hjw : j = w
      · rw [if_pos (by omega), if_pos hjw]
      · rw [if_neg (by omega), if_neg hjw]
    rw [he, hsum, if_pos hjN, ih, List.length_cons]
theorem Inv.who {set : List Opn} (hI : Inv set) : ∀ x ∈ set, 0 ≤ x.stamp.who ∧ x.stamp.who < (((topWho set).toNat : Nat) : Int) := fun x hx => by
  obtain ⟨h1, h2, h3, h4⟩ := stamp_parts (right_parts (hI.good x hx)).1
  have := top_above set x hx h4
  omega
/-- A set's own vector, at a device. -/
theorem vec_at (set : List Opn) (w : Int) (h0 : 0 ≤ w) (h1 : w < (((topWho set).toNat : Nat) : Int)) : iAt (vectorOf set) w = (set.countP fun y => decide (y.stamp.who = w) : Nat) := by
  obtain ⟨j, rfl⟩ : ∃ j : Nat, w = (j : Int) := ⟨w.toNat, by omega⟩
  unfold iAt
  rw [if_neg (by omega), Int.toNat_natCast]
  unfold vAt vectorOf
  rw [List.getD_eq_getElem?_getD, List.getElem?_map, List.getElem?_range (by omega)]
  show max (numOf set j) 0 = _
  unfold numOf
  omega
theorem since_own {set : List Opn} (hI : Inv set) : sinceOf set (vectorOf set) = [] := by
  unfold sinceOf
  rw [List.filter_eq_nil_iff]
  intro x hx
  obtain ⟨h0, h1⟩ := hI.who x hx
  rw [vec_at set _ h0 h1]
  have := ((hI.seqs x.stamp.who x.seq).1 ⟨x, hx, rfl, rfl⟩).2
  simp
  omega
theorem since_none {set : List Opn} (hI : Inv set) : sinceOf set [] = set := by
  unfold sinceOf
  rw [List.filter_eq_self]
  intro x hx
  have h1 := (right_parts (hI.good x hx)).2.1
  have : iAt [] x.stamp.who = 0 := by
    unfold iAt
    split
    · rfl
    · unfold vAt; simp
  rw [this]
  simp
  omega

theorem rising_stamp {S : List Opn} (h : Rising S) : ∀ x ∈ S, ∀ y ∈ S, x.stamp = y.stamp → x = y := by
  induction S with
  | nil => simp
  | cons a S ih =>
    obtain ⟨h1, h2⟩ := List.pairwise_cons.1 h
    intro x hx y hy he
    rcases List.mem_cons.1 hx with rfl | hx2
    · rcases List.mem_cons.1 hy with rfl | hy2
      · rfl
      · have := h1 y hy2
        rw [he, St.less_irrefl] at this
        cases this
    · rcases List.mem_cons.1 hy with rfl | hy2
      · have := h1 x hx2
        rw [he, St.less_irrefl] at this
        cases this
      · exact ih h2 x hx2 y hy2 he
/-- Two rising lists of the same operations are one. -/
theorem rising_eq : ∀ (S T : List Opn), Rising S → Rising T → (∀ x, x ∈ S ↔ x ∈ T) → S = T
  | [], [], _, _, _ => rfl
  | [], b :: T, _, _, h => by have := (h b).2 (by simp); simp at this
  | a :: S, [], _, _, h => by have := (h a).1 (by simp); simp at this
  | a :: S, b :: T, hS, hT, h => by
    obtain ⟨s1, s2⟩ := List.pairwise_cons.1 hS
    obtain ⟨t1, t2⟩ := List.pairwise_cons.1 hT
    have hab : a = b := by
      rcases List.mem_cons.1 ((h a).1 (by simp)) with h1 | h1
      · exact h1
      · rcases List.mem_cons.1 ((h b).2 (by simp)) with h2 | h2
        · exact h2.symm
        · have e1 := t1 a h1
          have e2 := s1 b h2
          rw [St.less_asymm e1] at e2
          cases e2
    subst hab
    congr 1
    refine rising_eq S T s2 t2 fun x => ⟨fun hx => ?_, fun hx => ?_⟩
    · rcases List.mem_cons.1 ((h x).1 (by simp [hx])) with rfl | h1
      · have := s1 x hx
        rw [St.less_irrefl] at this
        cases this
      · exact h1
    · rcases List.mem_cons.1 ((h x).2 (by simp [hx])) with rfl | h1
      · have := t1 x hx
        rw [St.less_irrefl] at this
        cases this
      · exact h1

/-- What is left of a set, and what is made again. -/
structure Parts (S left again : List Opn) : Prop where
  sub : List.Sublist left S
  rise : Rising again
  mem : ∀ x, x ∈ again ↔ x ∈ S ∧ x ∉ left
theorem Parts.start (S : List Opn) : Parts S S [] := ⟨List.Sublist.refl S, List.Pairwise.nil, fun x => by simp⟩
/-- The next one of its device is added, and goes. -/
theorem Parts.next {S left again : List Opn} (hI : Inv S) (hlen : S.length < 400) (h : Parts S left again) (k : Nat) (x : Opn) (hx : left[k]? = some x) (hfst : ∀ (j : Nat) (y : Opn), j < k → left[j]? = some y → y.stamp.who ≠ x.stamp.who) :
    addOf again x = (insAt again x, 0) ∧ Parts S (left.take k ++ left.drop (k + 1)) (insAt again x) := by
  have hxl := List.mem_of_getElem? hx
  have hxS := h.sub.subset hxl
  have hLr : Rising left := hI.rise.sublist h.sub
  have hxa : x ∉ again := fun hm => ((h.mem x).1 hm).2 hxl
  have hright := hI.good x hxS
  obtain ⟨_, q1, q2⟩ := right_parts hright
  -- whoever of its device has a lower number is made again already
  have hlow : ∀ y ∈ S, y.stamp.who = x.stamp.who → y.seq < x.seq → y ∈ again := fun y hy hw hs => by
    refine (h.mem y).2 ⟨hy, fun hyl => ?_⟩
    obtain ⟨j, hj, hjy⟩ := List.getElem_of_mem hyl
    have hless := hI.mono y hy x hxS hw hs
    obtain ⟨hk, hkx⟩ := List.getElem?_eq_some_iff.1 hx
    rcases Nat.lt_trichotomy j k with h1 | h1 | h1
    · exact hfst j y h1 (by rw [List.getElem?_eq_getElem hj, hjy]) hw
    · subst h1
      rw [hjy] at hkx
      subst hkx
      omega
    · have := List.pairwise_iff_getElem.1 hLr k j hk hj h1
      rw [hjy, hkx, St.less_asymm hless] at this
      cases this
  have haS : ∀ y ∈ again, y ∈ S := fun y hy => ((h.mem y).1 hy).1
  have htw : twiceOf again x = false := by
    unfold twiceOf
    rw [List.any_eq_false]
    intro y hy
    simp only [decide_eq_true_eq, not_or]
    refine ⟨fun he => hxa ?_, fun he => hxa ?_⟩
    · rw [← rising_stamp hI.rise y (haS y hy) x hxS he]; exact hy
    · rw [← hI.uniq y (haS y hy) x hxS he.1 he.2]; exact hy
  have hah : aheadOf again x = true := by
    unfold aheadOf
    rw [Bool.or_eq_true, decide_eq_true_eq, List.any_eq_true]
    by_cases h1 : x.seq = 1
    · exact .inl h1
    · right
      have hcnt := ((hI.seqs x.stamp.who x.seq).1 ⟨x, hxS, rfl, rfl⟩).2
      obtain ⟨y, hy, hw, hs⟩ := (hI.seqs x.stamp.who (x.seq - 1)).2 ⟨by omega, by omega⟩
      exact ⟨y, hlow y hy hw (by omega), by simp [hw, hs]⟩
  have hlt : lateOf again x = false := by
    unfold lateOf
    rw [List.any_eq_false]
    intro y hy
    unfold lateOne
    simp only [Bool.or_eq_true, Bool.and_eq_true, decide_eq_true_eq, Bool.not_eq_true', not_or, not_and]
    refine ⟨fun hw => ?_, fun hw => ?_⟩
    · have := hI.mono y (haS y hy) x hxS hw.1 (by omega)
      simp [this]
    · have := hI.mono x hxS y (haS y hy) hw.1.symm hw.2
      simp [this]
  have hcard : again.length < 400 := by
    have hnd : again.Nodup := h.rise.imp fun {a b} hab he => by rw [he, St.less_irrefl] at hab; cases hab
    have := hnd.length_le_of_subset (l₂ := S) fun y hy => haS y hy
    omega
  have hndL : left.Nodup := hLr.imp fun {a b} hab he => by rw [he, St.less_irrefl] at hab; cases hab
  refine ⟨?_, ⟨?_, ?_, fun y => ?_⟩⟩
  · unfold addOf
    rw [if_neg (by simp [hright]), if_neg hxa, htw, hah, hlt]
    simp [Nat.not_le.2 hcard]
  · refine List.Sublist.trans ?_ h.sub
    have hs : left = left.take k ++ left.drop k := (List.take_append_drop k left).symm
    conv => rhs; rw [hs]
    refine List.Sublist.append (List.Sublist.refl _) ?_
    rw [← List.drop_drop]
    exact List.drop_sublist _ _
  · exact ins_rise again x h.rise fun y hy he => hxa (by rw [← rising_stamp hI.rise y (haS y hy) x hxS he]; exact hy)
  · rw [ins_mem, h.mem]
    obtain ⟨hk, hkx⟩ := List.getElem?_eq_some_iff.1 hx
    have hsplit : ∀ z, z ∈ left ↔ z = x ∨ z ∈ left.take k ++ left.drop (k + 1) := fun z => by
      have hs : left = left.take k ++ left[k] :: left.drop (k + 1) := by
        rw [← List.drop_eq_getElem_cons hk]; exact (List.take_append_drop k left).symm
      conv => lhs; rw [hs]
      rw [hkx]
      simp only [List.mem_append, List.mem_cons]
      constructor
      · rintro (h | h | h)
        · exact .inr (.inl h)
        · exact .inl h
        · exact .inr (.inr h)
      · rintro (h | h | h)
        · exact .inr (.inl h)
        · exact .inl h
        · exact .inr (.inr h)
    have hxn : x ∉ left.take k ++ left.drop (k + 1) := fun hm => by
      have hs : left = left.take k ++ left[k] :: left.drop (k + 1) := by
        rw [← List.drop_eq_getElem_cons hk]; exact (List.take_append_drop k left).symm
      rw [hs, hkx] at hndL
      rw [List.nodup_append] at hndL
      obtain ⟨n1, n2, n3⟩ := hndL
      rcases List.mem_append.1 hm with hm | hm
      · exact n3 x hm x (by simp) rfl
      · exact (List.nodup_cons.1 n2).1 hm
    constructor
    · rintro (rfl | ⟨h1, h2⟩)
      · exact ⟨hxS, hxn⟩
      · exact ⟨h1, fun hm => h2 ((hsplit y).2 (.inr hm))⟩
    · rintro ⟨h1, h2⟩
      by_cases he : y = x
      · exact .inl he
      · refine .inr ⟨h1, fun hm => ?_⟩
        rcases (hsplit y).1 hm with h3 | h3
        · exact he h3
        · exact h2 h3
theorem Parts.end {S again : List Opn} (hI : Inv S) (h : Parts S [] again) : again = S := by
  refine rising_eq again S h.rise hI.rise fun x => ?_
  rw [h.mem]
  simp
end Arb
