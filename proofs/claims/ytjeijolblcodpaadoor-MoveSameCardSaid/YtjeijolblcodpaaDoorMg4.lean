/- Parts of the proof that all the laws of this package share, in their order. Each says what is in it. -/
import Derived.Test.YtjeijolblcodpaaDoorMg3
import Derived.Test.YtjeijolblcodpaaDoorMg1
import Derived.Test.YtjeijolblcodpaaDoorMg2

/- The mathematics of sets of operations that any order of insertion makes. -/
section
namespace Arb
set_option maxRecDepth 20000
set_option linter.unusedVariables false

def mvTwice (l : List Opn) (x : Opn) : Bool := l.any fun y => decide (y.stamp = x.stamp)
/-- What Insert answers. -/
def mvErr (l : List Opn) (x : Opn) : Int := if x.stamp.right ≠ 0 then 20 else if mvTwice l x = true then 24 else if 400 ≤ l.length then 40 else 0
/-- What the operations are then. -/
def mvAdd (l : List Opn) (x : Opn) : List Opn := if mvErr l x = 0 then insAt l x else l
/-- How many are behind an operation. -/
def mvBehind (l : List Opn) (x : Opn) : Nat := (l.dropWhile fun y => !x.stamp.less y.stamp).length
def mvRedo (l : List Opn) (x : Opn) (n : Int) : Int := if mvErr l x = 0 then (mvBehind l x : Int) else n
def mvBuild (l : List Opn) : List Opn := l.foldl mvAdd []
def mvCount (l : List Opn) : Int := (l.foldl (fun (p : List Opn × Int) x => (mvAdd p.1 x, mvRedo p.1 x p.2)) ([], 0)).2

theorem mvErr_ok {l : List Opn} {x : Opn} (h : mvErr l x = 0) : x.stamp.right = 0 ∧ (∀ y ∈ l, y.stamp ≠ x.stamp) ∧ l.length < 400 := by
  unfold mvErr at h
  by_cases h1 : x.stamp.right ≠ 0
  · rw [if_pos h1] at h; omega
  · rw [if_neg h1] at h
    by_cases h2 : mvTwice l x = true
    · rw [if_pos h2] at h; omega
    · rw [if_neg h2] at h
      by_cases h3 : 400 ≤ l.length
      · rw [if_pos h3] at h; omega
      · refine ⟨by simpa using h1, fun y hy he => h2 ?_, by omega⟩
        unfold mvTwice
        rw [List.any_eq_true]
        exact ⟨y, hy, by simpa using he⟩
theorem mvErr_of {l : List Opn} {x : Opn} (h1 : x.stamp.right = 0) (h2 : ∀ y ∈ l, y.stamp ≠ x.stamp) (h3 : l.length < 400) : mvErr l x = 0 := by
  unfold mvErr
  rw [if_neg (by simp [h1]), if_neg, if_neg (by omega)]
  intro h
  unfold mvTwice at h
  rw [List.any_eq_true] at h
  obtain ⟨y, hy, he⟩ := h
  exact h2 y hy (by simpa using he)
theorem insAt_length (l : List Opn) (x : Opn) : (insAt l x).length = l.length + 1 := by
  obtain ⟨l1, l2, h1, h2, -, -⟩ := ins_parts l x
  rw [h2, h1]
  simp
  omega
theorem mvAdd_rise {l : List Opn} (h : Rising l) (x : Opn) : Rising (mvAdd l x) := by
  unfold mvAdd
  split
  · rename_i he
    exact ins_rise l x h (mvErr_ok he).2.1
  · exact h
theorem mvAdd_length (l : List Opn) (x : Opn) : (mvAdd l x).length = if mvErr l x = 0 then l.length + 1 else l.length := by
  unfold mvAdd
  split
  · exact insAt_length l x
  · rfl
theorem mvAdd_mem {l : List Opn} {x y : Opn} (h : y ∈ mvAdd l x) : y = x ∨ y ∈ l := by
  unfold mvAdd at h
  split at h
  · exact (ins_mem l x y).1 h
  · exact .inr h
theorem mvBuild_take (l : List Opn) (k : Nat) (x : Opn) (h : l[k]? = some x) : mvBuild (l.take (k + 1)) = mvAdd (mvBuild (l.take k)) x := by
  unfold mvBuild
  rw [List.take_add_one, h, List.foldl_append]
  rfl
theorem mvBuild_rise (l : List Opn) : Rising (mvBuild l) := by
  have key : ∀ (l : List Opn) (s : List Opn), Rising s → Rising (l.foldl mvAdd s) := by
    intro l
    induction l with
    | nil => intro s h; exact h
    | cons x l ih =>
      intro s h
      rw [List.foldl_cons]
      exact ih _ (mvAdd_rise h x)
  exact key l [] List.Pairwise.nil
theorem mvBuild_mem (l : List Opn) : ∀ y ∈ mvBuild l, y ∈ l := by
  have key : ∀ (l : List Opn) (s : List Opn), ∀ y ∈ l.foldl mvAdd s, y ∈ s ∨ y ∈ l := by
    intro l
    induction l with
    | nil => intro s y h; exact .inl h
    | cons x l ih =>
      intro s y h
      rw [List.foldl_cons] at h
      rcases ih _ y h with h | h
      · rcases mvAdd_mem h with rfl | h
        · exact .inr (List.mem_cons_self ..)
        · exact .inl h
      · exact .inr (List.mem_cons_of_mem _ h)
  intro y hy
  rcases key l [] y hy with h | h
  · cases h
  · exact h
theorem mvBuild_length (l : List Opn) : (mvBuild l).length ≤ l.length ∧ (mvBuild l).length ≤ 400 := by
  have key : ∀ (l : List Opn) (s : List Opn), s.length ≤ 400 → (l.foldl mvAdd s).length ≤ s.length + l.length ∧ (l.foldl mvAdd s).length ≤ 400 := by
    intro l
    induction l with
    | nil => intro s h; exact ⟨Nat.le_refl _, h⟩
    | cons x l ih =>
      intro s h
      rw [List.foldl_cons, List.length_cons]
      have h1 := mvAdd_length s x
      have h2 : (mvAdd s x).length ≤ s.length + 1 ∧ (mvAdd s x).length ≤ 400 := by
        rw [h1]
        split
        · rename_i he
          have := (mvErr_ok he).2.2
          omega
        · omega
      have := ih (mvAdd s x) h2.2
      omega
  simpa [mvBuild] using key l [] (by simp)
theorem insOp_at (l : List Opn) (n : Opn) (k : Nat) (hk : k ≤ l.length) (h1 : ∀ (j : Nat) (y : Opn), j < k → l[j]? = some y → n.stamp.less y.stamp = false) (h2 : ∀ y : Opn, l[k]? = some y → n.stamp.less y.stamp = true) : insAt l n = l.take k ++ n :: l.drop k ∧ mvBehind l n = l.length - k := by
  have key : ∀ (l : List Opn) (k : Nat), k ≤ l.length → (∀ (j : Nat) (y : Opn), j < k → l[j]? = some y → n.stamp.less y.stamp = false) → (∀ y : Opn, l[k]? = some y → n.stamp.less y.stamp = true) →
      l.takeWhile (fun y => !n.stamp.less y.stamp) = l.take k ∧ l.dropWhile (fun y => !n.stamp.less y.stamp) = l.drop k := by
    intro l
    induction l with
    | nil => intro k _ _ _; simp
    | cons a l ih =>
      intro k hk h1 h2
      cases k with
      | zero =>
        have := h2 a rfl
        simp [this]
      | succ k =>
        have ha := h1 0 a (by omega) rfl
        obtain ⟨i1, i2⟩ := ih k (by simpa using hk) (fun j y hj hy => h1 (j + 1) y (by omega) (by simpa using hy)) (fun y hy => h2 y (by simpa using hy))
        simp [ha, i1, i2]
  obtain ⟨a, b⟩ := key l k hk h1 h2
  unfold insAt mvBehind
  rw [a, b, List.length_drop]
  exact ⟨rfl, rfl⟩

/-- While others come in another order: what is there, what is left. -/
structure Some8 (S T left : List Opn) : Prop where
  rise : Rising T
  mem : ∀ x, x ∈ S ↔ x ∈ T ∨ x ∈ left
  apart : ∀ x ∈ T, ∀ y ∈ left, x.stamp ≠ y.stamp
  own : left.Pairwise fun x y => x.stamp ≠ y.stamp
  good : ∀ x ∈ left, x.stamp.right = 0
  len : T.length + left.length = S.length
theorem Some8.next {S T left : List Opn} (h : Some8 S T left) (hS : S.length ≤ 400) (k : Nat) (x : Opn) (hx : left[k]? = some x) : mvErr T x = 0 ∧ Some8 S (mvAdd T x) (left.take k ++ left.drop (k + 1)) := by
  obtain ⟨hk, hkx⟩ := List.getElem?_eq_some_iff.1 hx
  have hsp : left = left.take k ++ x :: left.drop (k + 1) := by rw [← hkx]; simp
  have hxm : x ∈ left := List.mem_of_getElem? hx
  have hlen := h.len
  have he : mvErr T x = 0 := mvErr_of (h.good x hxm) (fun y hy => h.apart y hy x hxm) (by omega)
  have hsub : ∀ y, y ∈ left.take k ++ left.drop (k + 1) → y ∈ left := fun y hy => by
    rcases List.mem_append.1 hy with h1 | h1
    · exact List.mem_of_mem_take h1
    · exact List.mem_of_mem_drop h1
  have hall : ∀ y, y ∈ left ↔ y = x ∨ y ∈ left.take k ++ left.drop (k + 1) := fun y => by
    conv => lhs; rw [hsp]
    simp only [List.mem_append, List.mem_cons]
    constructor
    · rintro (h | h | h)
      · exact .inr (.inl h)
      · exact .inl h
      · exact .inr (.inr h)
    · rintro (h | h | h)
      · exact .inr (.inl h)
      · exact .inl h
      · exact .inr (.inr h)
  have hown := h.own
  rw [hsp] at hown
  obtain ⟨p1, p2, p3⟩ := List.pairwise_append.1 hown
  obtain ⟨p4, p5⟩ := List.pairwise_cons.1 p2
  have hne : ∀ y ∈ left.take k ++ left.drop (k + 1), x.stamp ≠ y.stamp := fun y hy => by
    rcases List.mem_append.1 hy with h1 | h1
    · exact fun e => p3 y h1 x (List.mem_cons_self ..) e.symm
    · exact p4 y h1
  have hT : mvAdd T x = insAt T x := if_pos he
  refine ⟨he, mvAdd_rise h.rise x, fun y => ?_, fun a ha b hb => ?_, ?_, fun y hy => h.good y (hsub y hy), ?_⟩
  · rw [hT, ins_mem, h.mem y, hall y]
    constructor
    · rintro (h | h | h)
      · exact .inl (.inr h)
      · exact .inl (.inl h)
      · exact .inr h
    · rintro ((h | h) | h)
      · exact .inr (.inl h)
      · exact .inl h
      · exact .inr (.inr h)
  · rcases mvAdd_mem ha with rfl | ha
    · exact hne b hb
    · exact h.apart a ha b (hsub b hb)
  · exact List.pairwise_append.2 ⟨p1, p5, fun a ha b hb => p3 a ha b (List.mem_cons_of_mem _ hb)⟩
  · rw [hT, insAt_length, List.length_append, List.length_take, List.length_drop]
    omega
theorem Some8.end {S T : List Opn} (h : Some8 S T []) (hS : Rising S) : T = S :=
  rising_eq T S h.rise hS fun x => by rw [h.mem x]; simp

/-- Those that were inserted, in the order in which they came. -/
def mvStep (p : List Opn × List Opn) (x : Opn) : List Opn × List Opn := (mvAdd p.1 x, if mvErr p.1 x = 0 then p.2 ++ [x] else p.2)
def mvTaken (l : List Opn) : List Opn := (l.foldl mvStep ([], [])).2
theorem mvStep_fst (l : List Opn) : ∀ (p : List Opn × List Opn), (l.foldl mvStep p).1 = l.foldl mvAdd p.1 := by
  induction l with
  | nil => intro p; rfl
  | cons x l ih => intro p; rw [List.foldl_cons, List.foldl_cons, ih]; rfl
theorem mvTaken_fst (l : List Opn) : (l.foldl mvStep ([], [])).1 = mvBuild l := mvStep_fst l _
theorem mvTaken_take (l : List Opn) (k : Nat) (x : Opn) (h : l[k]? = some x) : mvTaken (l.take (k + 1)) = if mvErr (mvBuild (l.take k)) x = 0 then mvTaken (l.take k) ++ [x] else mvTaken (l.take k) := by
  unfold mvTaken
  rw [List.take_add_one, h, List.foldl_append]
  show (mvStep ((l.take k).foldl mvStep ([], [])) x).2 = _
  unfold mvStep
  rw [show ((l.take k).foldl (fun (p : List Opn × List Opn) x => (mvAdd p.1 x, if mvErr p.1 x = 0 then p.2 ++ [x] else p.2)) ([], [])).1 = mvBuild (l.take k) from mvTaken_fst _]
theorem mvTaken_some (l : List Opn) : Some8 (mvBuild l) [] (mvTaken l) := by
  have key : ∀ (l : List Opn) (p : List Opn × List Opn), Rising p.1 → Some8 p.1 [] p.2 → Some8 (l.foldl mvStep p).1 [] (l.foldl mvStep p).2 := by
    intro l
    induction l with
    | nil => intro p _ h; exact h
    | cons x l ih =>
      intro p hr h
      rw [List.foldl_cons]
      refine ih (mvStep p x) (mvAdd_rise hr x) ?_
      unfold mvStep mvAdd
      by_cases he : mvErr p.1 x = 0
      · simp only [if_pos he]
        obtain ⟨e1, e2, e3⟩ := mvErr_ok he
        have hm : ∀ y, y ∈ p.1 ↔ y ∈ p.2 := fun y => by have := h.mem y; simpa using this
        refine ⟨List.Pairwise.nil, fun y => ?_, fun a ha => (by cases ha), ?_, fun y hy => ?_, ?_⟩
        · rw [ins_mem, hm y]
          simp
          constructor
          · rintro (h | h)
            · exact .inr h
            · exact .inl h
          · rintro (h | h)
            · exact .inr h
            · exact .inl h
        · refine List.pairwise_append.2 ⟨h.own, List.pairwise_singleton _ _, fun a ha b hb => ?_⟩
          rw [List.mem_singleton.1 hb]
          exact e2 a ((hm a).2 ha)
        · rcases List.mem_append.1 hy with h1 | h1
          · exact h.good y h1
          · rw [List.mem_singleton.1 h1]; exact e1
        · have := h.len
          rw [insAt_length, List.length_append]
          simp at this ⊢
          omega
      · simp only [if_neg he]
        exact h
  have := key l ([], []) List.Pairwise.nil ⟨List.Pairwise.nil, by simp, by simp, List.Pairwise.nil, by simp, rfl⟩
  rw [mvTaken_fst] at this
  exact this
end Arb
end

/- The mathematics of a tree that is kept as a map, with what each operation changed. -/
section
namespace Arb
set_option maxRecDepth 20000
set_option linter.unusedVariables false

/-- No two nodes have one stamp. -/
def Uni (l : List Nod) : Prop := l.Pairwise fun a b => a.id ≠ b.id
theorem Rises.uni {l : List Nod} (h : Rises l) : Uni l := List.Pairwise.imp (fun {a b} hab e => by rw [e, St.less_irrefl] at hab; cases hab) h
theorem Uni.perm {l m : List Nod} (h : Uni l) (hp : l.Perm m) : Uni m := (List.Perm.pairwise_iff (R := fun (a b : Nod) => a.id ≠ b.id) (fun {a b} (hab : a.id ≠ b.id) => Ne.symm hab) hp).1 h
theorem Uni.uniq : ∀ {l : List Nod}, Uni l → ∀ a ∈ l, ∀ b ∈ l, a.id = b.id → a = b
  | [], _, a, ha, _, _, _ => by cases ha
  | x :: l, h, a, ha, b, hb, he => by
    obtain ⟨h1, h2⟩ := List.pairwise_cons.1 h
    rcases List.mem_cons.1 ha with ka | ka
    · rcases List.mem_cons.1 hb with kb | kb
      · rw [ka, kb]
      · exact absurd (ka ▸ he) (h1 b kb)
    · rcases List.mem_cons.1 hb with kb | kb
      · exact absurd (kb ▸ he.symm) (h1 a ka)
      · exact Uni.uniq h2 a ka b kb he
theorem Uni.find {l : List Nod} (h : Uni l) {n : Nod} (hn : n ∈ l) : findOf l n.id = some n := by
  cases hf : findOf l n.id with
  | none => exact absurd rfl (findOf_none.1 hf n hn)
  | some m =>
    obtain ⟨h1, h2⟩ := findOf_some hf
    rw [h.uniq m h1 n hn h2]
theorem findOf_perm {l m : List Nod} (h : Uni l) (hp : l.Perm m) (s : St) : findOf m s = findOf l s := by
  cases hf : findOf l s with
  | none => exact findOf_none.2 fun n hn => findOf_none.1 hf n (hp.mem_iff.2 hn)
  | some n =>
    obtain ⟨h1, rfl⟩ := findOf_some hf
    exact (h.perm hp).find (hp.mem_iff.1 h1)
theorem mayOf_perm {l m : List Nod} (h : Uni l) (hp : l.Perm m) (s : St) : mayOf m s = mayOf l s := by
  unfold mayOf
  rw [findOf_perm h hp]

/-- All nodes but that of a stamp. -/
def wipe (l : List Nod) (s : St) : List Nod := l.filter fun n => !decide (n.id = s)
theorem wipe_none {l : List Nod} {s : St} (h : findOf l s = none) : wipe l s = l := by
  unfold wipe
  rw [List.filter_eq_self]
  intro n hn
  simp [findOf_none.1 h n hn]
theorem wipe_mem {l : List Nod} {s : St} {n : Nod} : n ∈ wipe l s ↔ n ∈ l ∧ n.id ≠ s := by simp [wipe]
theorem wipe_parts {l1 l2 : List Nod} {n : Nod} (h : Uni (l1 ++ n :: l2)) : wipe (l1 ++ n :: l2) n.id = l1 ++ l2 := by
  obtain ⟨h1, h2, h3⟩ := List.pairwise_append.1 h
  obtain ⟨h4, h5⟩ := List.pairwise_cons.1 h2
  unfold wipe
  rw [List.filter_append, List.filter_cons]
  simp only [decide_true, Bool.not_true]
  rw [List.filter_eq_self.2, List.filter_eq_self.2]
  · rfl
  · intro a ha; simp [Ne.symm (h4 a ha)]
  · intro a ha; simp [h3 a ha n (List.mem_cons_self ..)]
theorem wipe_perm {l m : List Nod} (hp : l.Perm m) (s : St) : (wipe l s).Perm (wipe m s) := hp.filter _
theorem wipe_swap {l1 l2 : List Nod} {n m : Nod} (h : Uni (l1 ++ n :: l2)) (hid : m.id = n.id) : wipe (l1 ++ m :: l2) n.id = l1 ++ l2 := by
  obtain ⟨h1, h2, h3⟩ := List.pairwise_append.1 h
  obtain ⟨h4, h5⟩ := List.pairwise_cons.1 h2
  unfold wipe
  rw [List.filter_append, List.filter_cons]
  simp only [hid, decide_true, Bool.not_true]
  rw [List.filter_eq_self.2, List.filter_eq_self.2]
  · rfl
  · intro a ha; simp [Ne.symm (h4 a ha)]
  · intro a ha; simp [h3 a ha n (List.mem_cons_self ..)]
theorem Uni.put {l l' : List Nod} {n : Nod} (h : Uni l) (hp : l'.Perm (n :: wipe l n.id)) : Uni l' := by
  refine Uni.perm (l := n :: wipe l n.id) ?_ hp.symm
  exact List.pairwise_cons.2 ⟨fun a ha e => (wipe_mem.1 ha).2 e.symm, List.Pairwise.filter _ h⟩
theorem Uni.wipe {l l' : List Nod} {s : St} (h : Uni l) (hp : l'.Perm (Arb.wipe l s)) : Uni l' := Uni.perm (l := Arb.wipe l s) (List.Pairwise.filter _ h) hp.symm

/-- A node is turned. -/
theorem do_put {t L L' : List Nod} {x : Opn} {n : Nod} (h : Uni t) (hL : L.Perm t) (hf : findOf t x.node = some n) (hL' : L'.Perm (turnOf t x n :: wipe L x.node)) : L'.Perm (doOf t x) := by
  obtain ⟨l1, l2, rfl, h2, h3, -⟩ := at_parts t x.node n hf
  have h4 : (wipe L x.node).Perm (l1 ++ l2) := by
    have := wipe_perm hL x.node
    rw [← h3, wipe_parts h] at this
    rw [← h3]; exact this
  refine (hL'.trans (h4.cons _)).trans ?_
  have hd : doOf (l1 ++ n :: l2) x = l1 ++ turnOf (l1 ++ n :: l2) x n :: l2 := by
    unfold doOf
    rw [hf]
    simp only
    by_cases hk : x.kind = 1
    · rw [if_pos hk]
      have : turnOf (l1 ++ n :: l2) x n = n := by unfold turnOf; rw [if_neg (by omega), if_neg (by omega), if_neg (by omega)]
      rw [this]
    · rw [if_neg hk, h2, set_parts]
  rw [hd]
  exact List.perm_middle.symm
/-- A node is made. -/
theorem do_make {t L L' : List Nod} {x : Opn} (h : Uni t) (hL : L.Perm t) (hf : findOf t x.node = none) (hk : x.kind = 1) (hL' : L'.Perm (madeOf t x :: wipe L x.node)) : L'.Perm (doOf t x) := by
  have h4 : wipe L x.node = L := wipe_none (by rw [findOf_perm h hL.symm]; exact hf)
  rw [h4] at hL'
  refine (hL'.trans (hL.cons _)).trans ?_
  unfold doOf
  rw [hf]
  simp only [if_pos hk]
  obtain ⟨l1, l2, h1, h2, -, -⟩ := insNod_parts t (madeOf t x)
  rw [h2, h1]
  exact List.perm_middle.symm
theorem do_still {t : List Nod} {x : Opn} (hf : findOf t x.node = none) (hk : x.kind ≠ 1) : doOf t x = t := by
  unfold doOf
  rw [hf]
  simp only [if_neg hk]
/-- What an operation did is taken back: the node as it was. -/
theorem undo_put {t L L' : List Nod} {x : Opn} {n : Nod} (h : Uni t) (hL : L.Perm (doOf t x)) (hf : findOf t x.node = some n) (hL' : L'.Perm (n :: wipe L x.node)) : L'.Perm t := by
  obtain ⟨l1, l2, rfl, h2, h3, -⟩ := at_parts t x.node n hf
  have hd : doOf (l1 ++ n :: l2) x = l1 ++ turnOf (l1 ++ n :: l2) x n :: l2 := by
    unfold doOf
    rw [hf]
    simp only
    by_cases hk : x.kind = 1
    · rw [if_pos hk]
      have : turnOf (l1 ++ n :: l2) x n = n := by unfold turnOf; rw [if_neg (by omega), if_neg (by omega), if_neg (by omega)]
      rw [this]
    · rw [if_neg hk, h2, set_parts]
  rw [hd] at hL
  have h4 : (wipe L x.node).Perm (l1 ++ l2) := by
    have := wipe_perm hL x.node
    rw [← h3, wipe_swap h (turnOf_id _ x n)] at this
    rw [← h3]; exact this
  exact (hL'.trans (h4.cons _)).trans List.perm_middle.symm
/-- What an operation did is taken back: no node. -/
theorem undo_del {t L L' : List Nod} {x : Opn} (h : Uni t) (hL : L.Perm (doOf t x)) (hf : findOf t x.node = none) (hL' : L'.Perm (wipe L x.node)) : L'.Perm t := by
  refine hL'.trans ((wipe_perm hL x.node).trans ?_)
  unfold doOf
  rw [hf]
  simp only
  by_cases hk : x.kind = 1
  · rw [if_pos hk]
    obtain ⟨l1, l2, h1, h2, -, -⟩ := insNod_parts t (madeOf t x)
    have hu : ∀ y ∈ t, y.id ≠ x.node := findOf_none.1 hf
    rw [h2]
    unfold wipe
    rw [List.filter_append, List.filter_cons]
    simp only [madeOf, decide_true, Bool.not_true]
    rw [List.filter_eq_self.2, List.filter_eq_self.2]
    · rw [h1]; exact List.Perm.refl _
    · intro a ha; simp [hu a (by rw [h1]; exact List.mem_append_right _ ha)]
    · intro a ha; simp [hu a (by rw [h1]; exact List.mem_append_left _ ha)]
  · rw [if_neg hk, wipe_none hf]

/-- Whether a stamp leads to a node, within so many steps. -/
def ledGo (l : List Nod) : Nat → St → St → Bool
  | 0, _, _ => false
  | k + 1, s, t => if s = t then true else match findOf l s with
    | none => false
    | some n => ledGo l k n.parent t
theorem ledGo_perm {l m : List Nod} (h : Uni l) (hp : l.Perm m) (t : St) : ∀ (k : Nat) (s : St), ledGo m k s t = ledGo l k s t
  | 0, _ => rfl
  | k + 1, s => by
    unfold ledGo
    rw [findOf_perm h hp]
    cases findOf l s with
    | none => rfl
    | some n => simp only [ledGo_perm h hp t k]
/-- Gone round. -/
theorem ledGo_round {l : List Nod} {t : St} {out : List St} (ht : t ∉ out) (hc : ∀ u ∈ out, ∃ n, findOf l u = some n ∧ n.parent ∈ out) : ∀ (k : Nat) (s : St), s ∈ out → ledGo l k s t = false
  | 0, _, _ => rfl
  | k + 1, s, hs => by
    obtain ⟨n, h1, h2⟩ := hc s hs
    unfold ledGo
    rw [if_neg (fun e => ht (by rw [← e]; exact hs)), h1]
    exact ledGo_round ht hc k n.parent h2
theorem ledGo_chain {l : List Nod} {t : St} {m : Nod} (ht : findOf l t = some m) : ∀ (k f : Nat) (out : List St) (s : St), t ∉ out → stillOf l out ≤ k → stillOf l out < f → (∀ u ∈ out, ∃ n, findOf l u = some n ∧ (n.parent ∈ out ∨ n.parent = s)) →
    ledGo l k s t = decide (t ∈ chainGo l f out s)
  | 0, f, out, s, hto, hk, hf, hc => by
    exfalso
    have := stillOf_on ht hto
    omega
  | k + 1, 0, out, s, hto, hk, hf, hc => by omega
  | k + 1, f + 1, out, s, hto, hk, hf, hc => by
    by_cases hst : s = t
    · subst hst
      have h1 : ledGo l (k + 1) s s = true := by unfold ledGo; rw [if_pos rfl]
      rw [h1, chainGo_on ht hto]
      exact (decide_eq_true (chainGo_out l f (out ++ [s]) m.parent s (by simp))).symm
    · cases hfs : findOf l s with
      | none =>
        have h1 : ledGo l (k + 1) s t = false := by unfold ledGo; rw [if_neg hst, hfs]
        rw [h1, chainGo_none hfs]
        symm
        rw [decide_eq_false_iff_not]
        split
        · simp
        · simp [hto, Ne.symm hst]
      | some n =>
        by_cases hso : s ∈ out
        · have hc' : ∀ u ∈ out, ∃ n, findOf l u = some n ∧ n.parent ∈ out := fun u hu => by
            obtain ⟨n, h1, h2⟩ := hc u hu
            rcases h2 with h2 | h2
            · exact ⟨n, h1, h2⟩
            · exact ⟨n, h1, by rw [h2]; exact hso⟩
          rw [ledGo_round hto hc' (k + 1) s hso, chainGo_again hfs hso]
          exact (decide_eq_false hto).symm
        · have h1 : ledGo l (k + 1) s t = ledGo l k n.parent t := by rw [ledGo, if_neg hst, hfs]
          rw [h1, chainGo_on hfs hso]
          have := stillOf_on hfs hso
          refine ledGo_chain ht k f (out ++ [s]) n.parent ?_ (by omega) (by omega) ?_
          · simp [hto, Ne.symm hst]
          · intro u hu
            rcases List.mem_append.1 hu with hu | hu
            · obtain ⟨n', h3, h4⟩ := hc u hu
              rcases h4 with h4 | h4
              · exact ⟨n', h3, .inl (List.mem_append_left _ h4)⟩
              · exact ⟨n', h3, .inl (by rw [h4]; simp)⟩
            · rw [List.mem_singleton.1 hu]
              exact ⟨n, hfs, .inr rfl⟩
theorem led_chain {l : List Nod} {t : St} {m : Nod} (ht : findOf l t = some m) (s : St) : ledGo l l.length s t = decide (t ∈ chainOf l s) :=
  ledGo_chain ht l.length (l.length + 1) [] s (by simp) (by rw [stillOf_nil]; exact Nat.le_refl _) (by rw [stillOf_nil]; omega) (by simp)

/-- A node behind an operation, as it is reckoned over the map. -/
def chgOf (L : List Nod) (x : Opn) (n : Nod) : Nod :=
  if x.kind = 2 then (if mayOf L x.parent = true ∧ ledGo L L.length x.parent n.id = false then { n with parent := x.parent, name := x.name } else n)
  else if x.kind = 3 then (if n.dir = true then n else { n with manifest := x.manifest })
  else if x.kind = 4 then { n with parent := St.trash }
  else n
theorem chgOf_turn {t L : List Nod} {x : Opn} {n : Nod} (h : Uni t) (hL : L.Perm t) (hf : findOf t x.node = some n) : chgOf L x n = turnOf t x n := by
  have hid := (findOf_some hf).2
  have h1 : ledGo L L.length x.parent n.id = decide (x.node ∈ chainOf t x.parent) := by
    rw [ledGo_perm h hL.symm, hL.length_eq, hid]
    exact led_chain hf x.parent
  unfold chgOf turnOf
  rw [h1, mayOf_perm h hL.symm]
  by_cases h2 : x.kind = 2
  · rw [if_pos h2, if_pos h2]
    cases mayOf t x.parent
    · simp
    · by_cases h3 : x.node ∈ chainOf t x.parent <;> simp [h3]
  · rw [if_neg h2, if_neg h2]
def mdeOf (L : List Nod) (x : Opn) : Nod := ⟨x.node, x.dir, if mayOf L x.parent = true then x.parent else St.trash, x.name, x.manifest⟩
theorem mdeOf_made {t L : List Nod} (h : Uni t) (hL : L.Perm t) (x : Opn) : mdeOf L x = madeOf t x := by
  unfold mdeOf madeOf
  rw [mayOf_perm h hL.symm]

/-- An operation and what it changed. -/
structure Stp where
  op : Opn
  before : Nod
  there : Bool
deriving DecidableEq
def Stp.zero : Stp := ⟨Opn.zero, Nod.zero, false⟩
/-- .. of what nodes. -/
def stpAt (t : List Nod) (x : Opn) : Stp := ⟨x, (findOf t x.node).getD Nod.zero, (findOf t x.node).isSome⟩
def stpsOf (l : List Opn) : List Stp := l.mapIdx fun i x => stpAt (foldOf (l.take i)) x
theorem stpsOf_length (l : List Opn) : (stpsOf l).length = l.length := by simp [stpsOf]
theorem stpsOf_at (l : List Opn) (i : Nat) : (stpsOf l)[i]? = (l[i]?).map fun x => stpAt (foldOf (l.take i)) x := by simp [stpsOf]
theorem stpsOf_op (l : List Opn) : (stpsOf l).map (·.op) = l := by
  apply List.ext_getElem?
  intro i
  rw [List.getElem?_map, stpsOf_at]
  cases l[i]? <;> rfl
theorem stpsOf_take (l m : List Opn) (k : Nat) (h : l.take k = m.take k) : (stpsOf l).take k = (stpsOf m).take k := by
  apply List.ext_getElem?
  intro i
  rw [List.getElem?_take, List.getElem?_take]
  split
  · rename_i hi
    have h1 : l[i]? = m[i]? := by
      have := congrArg (fun z => z[i]?) h
      simpa [List.getElem?_take, hi] using this
    have h2 : l.take i = m.take i := by
      have := congrArg (fun z => z.take i) h
      simpa [List.take_take, Nat.min_eq_left (Nat.le_of_lt hi)] using this
    rw [stpsOf_at, stpsOf_at, h1, h2]
  · rfl
theorem Rises.eq_of_perm : ∀ {l m : List Nod}, Rises l → Rises m → l.Perm m → l = m
  | [], m, _, _, hp => hp.nil_eq
  | a :: l, [], _, _, hp => by cases hp.eq_nil
  | a :: l, b :: m, h1, h2, hp => by
    obtain ⟨p1, p2⟩ := List.pairwise_cons.1 h1
    obtain ⟨q1, q2⟩ := List.pairwise_cons.1 h2
    have hab : a = b := by
      have ha : a ∈ b :: m := hp.mem_iff.1 (List.mem_cons_self ..)
      have hb : b ∈ a :: l := hp.mem_iff.2 (List.mem_cons_self ..)
      rcases List.mem_cons.1 ha with h | h
      · exact h
      · rcases List.mem_cons.1 hb with k | k
        · exact k.symm
        · have := q1 a h
          rw [St.less_asymm (p1 b k)] at this
          cases this
    subst hab
    rw [Rises.eq_of_perm p2 q2 (List.Perm.cons_inv hp)]
theorem foldOf_rises (l : List Opn) : Rises (foldOf l) := by
  have key : ∀ (l : List Opn) (t : List Nod), Rises t → Rises (l.foldl doOf t) := by
    intro l
    induction l with
    | nil => intro t h; exact h
    | cons x l ih => intro t h; exact ih _ (h.step x)
  exact key l [] List.Pairwise.nil
end Arb
end

/- Footprints: which blocks a state has, what turns none but those; two states side by side. -/
section
namespace Arb
set_option maxRecDepth 20000
open Go Go.RowKit
set_option linter.unusedVariables false

/-- None of the blocks that were there has turned, but those in F. -/
structure Kept (F : Nat → Prop) (w w' : World) : Prop where
  os : w'.os = w.os
  tape : w'.tape = w.tape
  output : w'.output = w.output
  size : w.heap.size ≤ w'.heap.size
  block : ∀ k, k < w.heap.size → ¬ F k → w'.heap[k]? = w.heap[k]?

theorem Kept.refl (F : Nat → Prop) (w : World) : Kept F w w := ⟨rfl, rfl, rfl, Nat.le_refl _, fun _ _ _ => rfl⟩
theorem Kept.mono {F G : Nat → Prop} {w w' : World} (h : Kept F w w') (hF : ∀ k, k < w.heap.size → F k → G k) : Kept G w w' :=
  ⟨h.os, h.tape, h.output, h.size, fun k hk hG => h.block k hk fun hf => hG (hF k hk hf)⟩
theorem Kept.trans {F G : Nat → Prop} {a b c : World} (h : Kept F a b) (k : Kept G b c) (hG : ∀ i, i < a.heap.size → G i → F i) : Kept F a c :=
  ⟨k.os.trans h.os, k.tape.trans h.tape, k.output.trans h.output, Nat.le_trans h.size k.size, fun i hi hF => (k.block i (Nat.lt_of_lt_of_le hi h.size) fun hg => hF (hG i hi hg)).trans (h.block i hi hF)⟩
theorem Kept.of_below {base : Nat} {w w' : World} (h : Below base w w') : Kept (fun k => base ≤ k) w w' :=
  ⟨h.os, h.tape, h.output, h.size, fun k hk hF => h.block k (by omega)⟩
/-- What makes memory and turns nothing. -/
theorem Kept.of_new {F : Nat → Prop} {w w' : World} (h : Below w.heap.size w w') : Kept F w w' := ⟨h.os, h.tape, h.output, h.size, fun k hk _ => h.block k hk⟩
theorem Kept.below {F : Nat → Prop} {base : Nat} {w w' : World} (h : Kept F w w') (hF : ∀ k, F k → base ≤ k) (hb : base ≤ w.heap.size) : Below base w w' :=
  ⟨h.os, h.tape, h.output, h.size, fun k hk => h.block k (Nat.lt_of_lt_of_le hk hb) fun hf => by have := hF k hf; omega⟩
theorem Kept.of_grown {w w' : World} {b : Nat} (h : w.grownBy w' (some b)) : Kept (fun k => k = b) w w' :=
  ⟨h.os, h.tape, h.output, h.size, fun k hk hne => h.block k hk (by simpa using hne)⟩
theorem Kept.drew {F : Nat → Prop} {w w' : World} (h : Kept F w w') : Kept F w w'.drew := ⟨h.os, h.tape, h.output, h.size, h.block⟩
theorem Kept.alloc {F : Nat → Prop} {w w' : World} (h : Kept F w w') (o : Obj) : Kept F w (w'.alloc o) :=
  h.trans (.of_new (F := F) ((Below.refl _ _).alloc (Nat.le_refl _) o)) fun _ _ hf => hf
theorem Kept.setCell {F : Nat → Prop} {w w' : World} (h : Kept F w w') {b j : Nat} (hb : F b) (u : Value) : Kept F w (w'.setCell ⟨b, j, none⟩ u) :=
  ⟨h.os, h.tape, h.output, by simpa [World.setCell] using h.size, fun k hk hF => (Below.heap_setCell _ _ _ k (fun e => hF (by rw [e]; exact hb))).trans (h.block k hk hF)⟩
theorem Kept.cell {F : Nat → Prop} {w w' : World} (h : Kept F w w') {p : Addr} {u : Value} (hc : w.cell? p = some u) (hF : ¬ F p.block) : w'.cell? p = some u := by
  have hb := h.block p.block (World.block_lt_of_cell? w _ hc) hF
  unfold World.cell? at hc ⊢
  rw [hb]
  exact hc

/-- The block that a slice lies in is in G. -/
def InSet (G : Nat → Prop) (v : Value) : Prop := ∀ a n c, v = .slice (some a) n c → G a.block
theorem InSet.nil (G : Nat → Prop) (n c : Nat) : InSet G (.slice none n c) := fun a n c h => by cases h
theorem InSet.mono {F G : Nat → Prop} {v : Value} (h : InSet F v) (hF : ∀ k, F k → G k) : InSet G v := fun a n c he => hF _ (h a n c he)
/-- A row of the call's own lies in new memory, and there it is. -/
theorem Row.inSet {w : World} {base : Nat} {e : TypeId} {size : Nat} {v : Value} {n : Nat} {xs : List Value} (h : Row w base e size v n xs) : InSet (fun k => base ≤ k ∧ k < w.heap.size) v := fun a n' c he => by
  rcases h.2 with ⟨rfl, _⟩ | ⟨g, cap, cur, fz, rfl, hb, hg, _⟩
  · cases he
  · cases he
    exact ⟨hb, (Array.getElem?_eq_some_iff.1 hg).1⟩
/-- Two sets of blocks that have none in common, both of a world. -/
structure Apart (w : World) (F G : Nat → Prop) : Prop where
  left : ∀ k, F k → k < w.heap.size
  right : ∀ k, G k → k < w.heap.size
  none : ∀ k, F k → ¬ G k
theorem Apart.symm {w : World} {F G : Nat → Prop} (h : Apart w F G) : Apart w G F := ⟨h.right, h.left, fun k hg hf => h.none k hf hg⟩
/-- The one grows by new blocks: they stay apart. -/
theorem Apart.grow {w w' : World} {F F' G : Nat → Prop} (h : Apart w F G) (hs : w.heap.size ≤ w'.heap.size) (hF : ∀ k, F' k → k < w'.heap.size ∧ (F k ∨ w.heap.size ≤ k)) : Apart w' F' G := by
  refine ⟨fun k hk => (hF k hk).1, fun k hk => Nat.lt_of_lt_of_le (h.right k hk) hs, fun k hk hg => ?_⟩
  rcases (hF k hk).2 with h1 | h1
  · exact h.none k h1 hg
  · have := h.right k hg; omega
end Arb
end

/- Operations and nodes in a footprint. -/
section
namespace Go.Proofs.YtjeijolblcodpaaDoor.W
set_option maxRecDepth 20000
set_option linter.unusedVariables false
open Go.RowKit Go.Proofs Arb

theorem Opns.kept {F : Nat → Prop} {w w' : World} {v : Value} {l : List Opn} (h : Opns w v l) (hk : Kept F w w') (hF : InSet (fun k => ¬ F k) v) : Opns w' v l := by
  obtain ⟨A, n, c, rfl, hl, hc, hA0, hr⟩ := h
  refine ⟨A, n, c, rfl, hl, hc, hA0, fun h0 => ?_⟩
  obtain ⟨b, off, hA, hz⟩ := hr h0
  refine ⟨b, off, hA, fun j x hj i u hu => ?_⟩
  exact hk.cell (p := ⟨b, _, none⟩) (hz j x hj i u hu) (hF ⟨b, off, none⟩ n c (by rw [hA]))
theorem Nods.kept {F : Nat → Prop} {w w' : World} {v : Value} {l : List Nod} (h : Nods w v l) (hk : Kept F w w') (hF : InSet (fun k => ¬ F k) v) : Nods w' v l := by
  obtain ⟨A, n, c, rfl, hl, hc, hA0, hr⟩ := h
  refine ⟨A, n, c, rfl, hl, hc, hA0, fun h0 => ?_⟩
  obtain ⟨b, off, hA, hz⟩ := hr h0
  refine ⟨b, off, hA, fun j x hj i u hu => ?_⟩
  exact hk.cell (p := ⟨b, _, none⟩) (hz j x hj i u hu) (hF ⟨b, off, none⟩ n c (by rw [hA]))
end Go.Proofs.YtjeijolblcodpaaDoor.W
end

/- Steps of a state: an operation and what it changed; rows of them. -/
section
namespace Go.Proofs.YtjeijolblcodpaaDoor.W
set_option maxRecDepth 20000
set_option linter.unusedVariables false
open Go.RowKit Go.Proofs Arb

def stpCells (x : Stp) : List Value := opCells x.op ++ ndCells x.before ++ [.bool x.there]
def stpArr (x : Stp) : Array Value := (stpCells x).toArray
def stpVal (x : Stp) : Value := .agg (stpArr x)
theorem size_stp : (Tryd.prog.info? 58).map (·.size) = some 19 := by kernel_rfl
theorem info_stp : (Tryd.prog.info? 58).map (fun i => (i.zero, i.size, i.bytes)) = some (some (stpVal Stp.zero), 19, 184) := by kernel_rfl
/-- The step x lies at offset o of block b. -/
def StpAt (w : World) (b o : Nat) (x : Stp) : Prop := ∀ j v, (stpCells x)[j]? = some v → w.cell? ⟨b, o + j, none⟩ = some v
theorem StpAt.op {w : World} {b o : Nat} {x : Stp} (h : StpAt w b o x) : OpAt w b o x.op := fun j v hv => h j v (by
  have hj : j < 11 := (List.getElem?_eq_some_iff.1 hv).1
  unfold stpCells
  rw [List.append_assoc, List.getElem?_append_left (show j < 11 from hj)]
  exact hv)
theorem StpAt.nd {w : World} {b o : Nat} {x : Stp} (h : StpAt w b o x) : NodAt w b (o + 11) x.before := fun j v hv => by
  have hj : j < 7 := (List.getElem?_eq_some_iff.1 hv).1
  rw [Nat.add_assoc]
  refine h (11 + j) v ?_
  unfold stpCells
  rw [List.append_assoc, List.getElem?_append_right (show 11 ≤ 11 + j by omega), show 11 + j - (opCells x.op).length = j by show 11 + j - 11 = j; omega, List.getElem?_append_left (show j < 7 from hj)]
  exact hv
theorem StpAt.there {w : World} {b o : Nat} {x : Stp} (h : StpAt w b o x) : w.cell? ⟨b, o + 18, none⟩ = some (.bool x.there) := h 18 _ rfl
/-- The cells of steps, one behind the other. -/
def stpsCells (l : List Stp) : List Value := (l.map stpCells).flatten
theorem stpsCells_length (l : List Stp) : (stpsCells l).length = l.length * 19 := by
  induction l with
  | nil => rfl
  | cons x l ih =>
    show (stpCells x ++ stpsCells l).length = _
    rw [List.length_append, ih, List.length_cons]
    show 19 + l.length * 19 = _
    omega
theorem stpsCells_append (l m : List Stp) : stpsCells (l ++ m) = stpsCells l ++ stpsCells m := by simp [stpsCells]
theorem stpsCells_one (x : Stp) : stpsCells [x] = stpCells x := by simp [stpsCells]
theorem stpsCells_at : ∀ (l : List Stp) (j : Nat) (x : Stp), l[j]? = some x → ∀ (i : Nat) (v : Value), (stpCells x)[i]? = some v → (stpsCells l)[j * 19 + i]? = some v
  | [], j, x, h, _, _, _ => by simp at h
  | y :: l, j, x, h, i, v, hv => by
    have hi : i < 19 := (List.getElem?_eq_some_iff.1 hv).1
    show (stpCells y ++ stpsCells l)[j * 19 + i]? = some v
    cases j with
    | zero =>
      simp at h
      subst h
      rw [List.getElem?_append_left (by show 0 * 19 + i < 19; omega), Nat.zero_mul, Nat.zero_add]
      exact hv
    | succ j =>
      have h' : l[j]? = some x := by simpa using h
      have := stpsCells_at l j x h' i v hv
      rw [List.getElem?_append_right (by show 19 ≤ _; omega)]
      show (stpsCells l)[(j + 1) * 19 + i - 19]? = some v
      rw [show (j + 1) * 19 + i - 19 = j * 19 + i by omega]
      exact this
/-- The value v is the steps l. -/
def Stps (w : World) (v : Value) (l : List Stp) : Prop :=
  ∃ A n c, v = .slice A n c ∧ l.length = n ∧ n ≤ c ∧ (A = none → c = 0) ∧ (0 < n → ∃ b off, A = some ⟨b, off, none⟩ ∧ ∀ j x, l[j]? = some x → StpAt w b (off + j * 19) x)
theorem Stps.kept {F : Nat → Prop} {w w' : World} {v : Value} {l : List Stp} (h : Stps w v l) (hk : Kept F w w') (hF : InSet (fun k => ¬ F k) v) : Stps w' v l := by
  obtain ⟨A, n, c, rfl, hl, hc, hA0, hr⟩ := h
  refine ⟨A, n, c, rfl, hl, hc, hA0, fun h0 => ?_⟩
  obtain ⟨b, off, hA, hz⟩ := hr h0
  refine ⟨b, off, hA, fun j x hj i u hu => ?_⟩
  exact hk.cell (p := ⟨b, _, none⟩) (hz j x hj i u hu) (hF ⟨b, off, none⟩ n c (by rw [hA]))
theorem Stps.below {w w' : World} {v : Value} {l : List Stp} (h : Stps w v l) (hb : Below w.heap.size w w') : Stps w' v l := by
  obtain ⟨A, n, c, rfl, hl, hc, hA0, hr⟩ := h
  refine ⟨A, n, c, rfl, hl, hc, hA0, fun h0 => ?_⟩
  obtain ⟨b, off, hA, hz⟩ := hr h0
  refine ⟨b, off, hA, fun j x hj i u hu => ?_⟩
  exact (hb.cell (p := ⟨b, _, none⟩) (World.block_lt_of_cell? w _ (hz j x hj i u hu))).trans (hz j x hj i u hu)
theorem Stps.of_row {w : World} {base : Nat} {e : TypeId} {v : Value} {n : Nat} {l : List Stp} (h : Row w base e 19 v n (stpsCells l)) : Stps w v l := by
  have hl : l.length = n := by have := h.1; rw [stpsCells_length] at this; omega
  rcases Nat.eq_zero_or_pos n with h0 | h0
  · subst h0
    rcases h.2 with ⟨rfl, _⟩ | ⟨g, cap, cur, fz, rfl, _⟩
    · exact ⟨none, 0, 0, rfl, hl, Nat.le_refl _, fun _ => rfl, fun h => by omega⟩
    · exact ⟨_, 0, cap, rfl, hl, Nat.zero_le _, nofun, fun h => by omega⟩
  · obtain ⟨g, cap, rfl, hc, _, _, hcell, _⟩ := h.open h0
    refine ⟨_, n, cap, rfl, hl, hc, nofun, fun _ => ⟨g, 0, rfl, fun j x hj => ?_⟩⟩
    intro i v hv
    rw [show 0 + j * 19 + i = j * 19 + i by omega]
    exact hcell _ _ (stpsCells_at l j x hj i v hv)
theorem stp_oneCell (x : Stp) : ∀ u ∈ stpCells x, u.oneCell' = true := by
  intro u hu
  simp only [stpCells, List.mem_append, List.mem_singleton] at hu
  rcases hu with (hu | hu) | rfl
  · exact op_oneCell _ u hu
  · exact nd_oneCell _ u hu
  · rfl
theorem stps_oneCell (l : List Stp) : ∀ u ∈ stpsCells l, u.oneCell' = true := by
  intro u hu
  obtain ⟨c, hc, hu⟩ := List.mem_flatten.1 hu
  obtain ⟨x, _, rfl⟩ := List.mem_map.1 hc
  exact stp_oneCell x u hu
/-- 'append(s, x...)' of steps: the row's block alone turns. -/
theorem wpList_append_stps {ops : Array Oper} {rest : List Oper} {o : Oper} {a : Act} {w : World} {Q : Exit → Act → World → Prop} (hgd : o.guard = none) (s x : Operand)
    (ho : o.op = .call { callee := .builtin .append, args := #[s, x], argTypes := #[52, 52] })
    (base : Nat) (v : Value) (n : Nat) (l : List Stp) (hs : a.eval s = v) (hown : Row w base 58 19 v n (stpsCells l))
    (vx : Value) (m : Nat) (k : List Stp) (hx : a.eval x = vx) (hr : Rd w 19 vx m (stpsCells k))
    (h63 : n ≤ 1000000) (h64 : m ≤ 1000000) (hbase : base ≤ w.heap.size)
    (h : ∀ v' w', Row w' base 58 19 v' (n + m) (stpsCells (l ++ k)) → w.grownBy w' v.ownBlock → (v'.ownBlock = v.ownBlock ∨ v'.ownBlock = some w.heap.size) → wpList Tryd.prog ops Q rest (a.put o.dst v') w') :
    wpList Tryd.prog ops Q (o :: rest) a w := by
  obtain ⟨i0, hi, hz0, hz1, hz2⟩ := info_parts info_stp
  refine wpList_append_row hgd s x 52 ho base 58 i0 _ 19 184 Tryd.underlying52 hi hz0 hz1 hz2 rfl (by decide) v n _ hs hown vx m (stpsCells k) hx hr (stps_oneCell _) (by unfold maxLen; omega) (by omega) hbase ?_
  intro v' w' hr hg ho
  exact h v' w' (by rw [stpsCells_append]; exact hr) hg ho
/-- Block g is the step n. -/
def SpB (w : World) (g : Nat) (n : Stp) : Prop := w.heap[g]? = some (.cells (stpArr n) 58 (0, 0))
section
variable {w w' : World} {g : Nat} {n : Stp}
theorem SpB.lt (h : SpB w g n) : g < w.heap.size := (Array.getElem?_eq_some_iff.1 h).1
theorem SpB.at (h : SpB w g n) : StpAt w g 0 n := fun j v hv => by
  rw [cell_of_row _ _ _ _ _ _ h, Nat.zero_add]
  simpa [stpArr] using hv
theorem SpB.under (h : SpB w g n) {B : Nat} (hB : g < B) (hb : Below B w w') : SpB w' g n := (hb.block g hB).trans h
theorem SpB.new (w : World) (n : Stp) : SpB (w.alloc (.cells (stpArr n) 58)) w.heap.size n := heap_alloc_new w _
end
end Go.Proofs.YtjeijolblcodpaaDoor.W
end
