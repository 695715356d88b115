/- More mathematics of trees: chains, what stays, what is done twice. -/
import Derived.Test.YthcoldjncpiffaaDoorTreeM
namespace Arb
set_option linter.unusedVariables false

/-- A chain in a tree goes on to the root or the trash. -/
theorem chainGo_tree {l : List Nod} (hT : Tree l) (f : St → Nat) (hf : ∀ n ∈ l, isNode l n.parent → f n.parent < f n.id) : ∀ (k : Nat) (out : List St) (s : St),
    (l.filter fun y => decide (y.id ∉ out)).length < k → out ≠ [] → (isNode l s → ∀ u ∈ out, f s < f u) → (isNode l s ∨ s = St.zero ∨ s = St.trash) →
    ∃ r, chainGo l k out s = out ++ s :: r ∧ ((s :: r).getLast? = some St.zero ∨ (s :: r).getLast? = some St.trash)
  | 0, _, _, h, _, _, _ => by omega
  | k + 1, out, s, hk, h0, ho, hs => by
    cases hfd : findOf l s with
    | none =>
      refine ⟨[], by unfold chainGo; rw [hfd]; simp [h0], ?_⟩
      rcases hs with ⟨n, hn, he⟩ | h | h
      · exact absurd he (findOf_none.1 hfd n hn)
      · exact .inl (by rw [h]; rfl)
      · exact .inr (by rw [h]; rfl)
    | some n =>
      obtain ⟨hn, he⟩ := findOf_some hfd
      subst he
      have hout : n.id ∉ out := fun h => by have := ho ⟨n, hn, rfl⟩ _ h; omega
      have hlt := left_lt hn hout
      obtain ⟨r, h1, h2⟩ := chainGo_tree hT f hf k (out ++ [n.id]) n.parent (by omega) (by simp) (fun hp u hu => by
        have h4 := hf _ hn hp
        rcases List.mem_append.1 hu with hu | hu
        · have := ho ⟨_, hn, rfl⟩ u hu
          omega
        · rw [List.mem_singleton.1 hu]
          exact h4) (by
        rcases hT.par n hn with h | h | ⟨m, hm, h1, _⟩
        · exact .inr (.inl h)
        · exact .inr (.inr h)
        · exact .inl ⟨m, hm, h1⟩)
      refine ⟨n.parent :: r, ?_, ?_⟩
      · rw [show chainGo l (k + 1) out n.id = chainGo l k (out ++ [n.id]) n.parent by
          rw [chainGo, hfd]
          simp only [hout, if_false]]
        rw [h1]
        simp
      · rw [List.getLast?_cons_cons]
        exact h2
theorem Tree.chain {l : List Nod} (hT : Tree l) {n : Nod} (hn : n ∈ l) : ∃ r, chainOf l n.id = n.id :: n.parent :: r ∧ ((n.parent :: r).getLast? = some St.zero ∨ (n.parent :: r).getLast? = some St.trash) := by
  obtain ⟨f, hf⟩ := hT.high
  have hlt := left_lt (out := []) hn (by simp)
  obtain ⟨r, h1, h2⟩ := chainGo_tree hT f hf l.length [n.id] n.parent (by
      rw [List.nil_append] at hlt
      have := List.length_filter_le (fun y : Nod => decide (y.id ∉ ([] : List St))) l
      omega) (by simp) (fun hp u hu => by rw [List.mem_singleton.1 hu]; exact hf n hn hp) (by
    rcases hT.par n hn with h | h | ⟨m, hm, h1, _⟩
    · exact .inr (.inl h)
    · exact .inr (.inr h)
    · exact .inl ⟨m, hm, h1⟩)
  refine ⟨r, ?_, h2⟩
  unfold chainOf
  rw [chainGo, hT.rise.find hn]
  simp only [List.not_mem_nil, if_false, List.nil_append]
  rw [h1]
  rfl

theorem swap_rises {l1 l2 : List Nod} {n m : Nod} (h : Rises (l1 ++ n :: l2)) (hid : m.id = n.id) : Rises (l1 ++ m :: l2) := by
  have h1 : ((l1 ++ n :: l2).map Nod.id).Pairwise fun a b => a.less b = true := List.pairwise_map.2 h
  have h2 : (l1 ++ m :: l2).map Nod.id = (l1 ++ n :: l2).map Nod.id := by simp [hid]
  rw [← h2] at h1
  exact List.pairwise_map.1 h1
theorem Rises.step {l : List Nod} (h : Rises l) (x : Opn) : Rises (doOf l x) := by
  unfold doOf
  cases hf : findOf l x.node with
  | none =>
    show Rises (if x.kind = 1 then insNod l (madeOf l x) else l)
    split
    · exact insNod_rise l _ h (findOf_none.1 hf)
    · exact h
  | some n =>
    show Rises (if x.kind = 1 then l else l.set (atOf l x.node) (turnOf l x n))
    split
    · exact h
    · obtain ⟨l1, l2, h1, h2, h3, -⟩ := at_parts l x.node n hf
      rw [h2]
      have hid := turnOf_id l x n
      obtain ⟨m, hm⟩ : ∃ m, turnOf l x n = m := ⟨_, rfl⟩
      rw [hm] at hid ⊢
      rw [h1] at h ⊢
      rw [set_parts]
      exact swap_rises h hid
theorem doOf_length (l : List Nod) (x : Opn) : (doOf l x).length = l.length ∨ (doOf l x).length = l.length + 1 := by
  unfold doOf
  cases hf : findOf l x.node with
  | none =>
    show (if x.kind = 1 then insNod l (madeOf l x) else l).length = _ ∨ (if x.kind = 1 then insNod l (madeOf l x) else l).length = _
    split
    · exact .inr (insNod_length l _)
    · exact .inl rfl
  | some n =>
    show (if x.kind = 1 then l else l.set (atOf l x.node) (turnOf l x n)).length = _ ∨ (if x.kind = 1 then l else l.set (atOf l x.node) (turnOf l x n)).length = _
    split
    · exact .inl rfl
    · exact .inl (List.length_set ..)
/-- A node stays, and what it is; another one's stays as it is. -/
theorem Rises.stays {l : List Nod} (h : Rises l) (x : Opn) (y : Nod) (hy : y ∈ l) : ∃ m, findOf (doOf l x) y.id = some m ∧ m.dir = y.dir ∧ (m = y ∨ m.id = x.node) := by
  have hr := h.step x
  suffices hs : ∃ m ∈ doOf l x, m.id = y.id ∧ m.dir = y.dir ∧ (m = y ∨ m.id = x.node) by
    obtain ⟨m, h1, h2, h3, h4⟩ := hs
    exact ⟨m, by rw [← h2]; exact hr.find h1, h3, h4⟩
  clear hr
  unfold doOf
  cases hf : findOf l x.node with
  | none =>
    show ∃ m ∈ (if x.kind = 1 then insNod l (madeOf l x) else l), _
    split
    · exact ⟨y, (insNod_mem l _ y).2 (.inr hy), rfl, rfl, .inl rfl⟩
    · exact ⟨y, hy, rfl, rfl, .inl rfl⟩
  | some n =>
    show ∃ m ∈ (if x.kind = 1 then l else l.set (atOf l x.node) (turnOf l x n)), _
    split
    · exact ⟨y, hy, rfl, rfl, .inl rfl⟩
    · obtain ⟨l1, l2, h1, h2, h3, -⟩ := at_parts l x.node n hf
      rw [h2]
      have hid := turnOf_id l x n
      have hdir := turnOf_dir l x n
      obtain ⟨m, hm⟩ : ∃ m, turnOf l x n = m := ⟨_, rfl⟩
      rw [hm] at hid hdir ⊢
      rw [h1] at hy ⊢
      rw [set_parts]
      rcases List.mem_append.1 hy with k | k
      · exact ⟨y, List.mem_append_left _ k, rfl, rfl, .inl rfl⟩
      · rcases List.mem_cons.1 k with k | k
        · subst k
          exact ⟨m, List.mem_append_right _ (List.mem_cons_self ..), hid, hdir, .inr (hid.trans h3)⟩
        · exact ⟨y, List.mem_append_right _ (List.mem_cons_of_mem _ k), rfl, rfl, .inl rfl⟩

theorem turnOf_twice (l l' : List Nod) (x : Opn) (n : Nod) (h : turnOf l x n = n → l' = l) : turnOf l' x (turnOf l x n) = turnOf l x n := by
  by_cases he : turnOf l x n = n
  · rw [h he, he, he]
  · unfold turnOf at he ⊢
    by_cases h2 : x.kind = 2
    · rw [if_pos h2] at he ⊢
      rw [if_pos h2]
      split at he
      · exact absurd rfl he
      · rename_i hc
        rw [if_neg hc]
        split <;> rfl
    · rw [if_neg h2] at he ⊢
      rw [if_neg h2]
      by_cases h3 : x.kind = 3
      · rw [if_pos h3] at he ⊢
        rw [if_pos h3]
        split at he
        · exact absurd rfl he
        · rename_i hc
          rw [if_neg hc]
          split <;> rfl
      · rw [if_neg h3] at he ⊢
        rw [if_neg h3]
        split at he
        · rename_i h4
          rw [if_pos h4, if_pos h4]
        · exact absurd rfl he
theorem findOf_swap {l1 l2 : List Nod} {s : St} {m : Nod} (hid : m.id = s) (h : ∀ y ∈ l1, y.id ≠ s) : findOf (l1 ++ m :: l2) s = some m := by
  unfold findOf
  rw [List.find?_append]
  have : l1.find? (fun n => decide (n.id = s)) = none := by simpa using h
  rw [this]
  simp [hid]
theorem atOf_swap {l1 l2 : List Nod} {s : St} {m : Nod} (hid : m.id = s) (h : ∀ y ∈ l1, y.id ≠ s) : atOf (l1 ++ m :: l2) s = l1.length := by
  unfold atOf
  induction l1 with
  | nil => simp [List.findIdx_cons, hid]
  | cons a l1 ih =>
    rw [List.cons_append, List.findIdx_cons]
    have := h a (List.mem_cons_self ..)
    simp [this, ih fun y hy => h y (List.mem_cons_of_mem _ hy)]
/-- Done twice is as done once. -/
theorem doOf_twice (l : List Nod) (x : Opn) (hk : x.kind ≠ 1) : doOf (doOf l x) x = doOf l x := by
  cases hf : findOf l x.node with
  | none =>
    have h1 : doOf l x = l := by unfold doOf; rw [hf]; exact if_neg hk
    rw [h1, h1]
  | some n =>
    have h1 : doOf l x = l.set (atOf l x.node) (turnOf l x n) := by unfold doOf; rw [hf]; exact if_neg hk
    obtain ⟨l1, l2, k1, k2, k3, k4⟩ := at_parts l x.node n hf
    have hid : (turnOf l x n).id = x.node := (turnOf_id l x n).trans k3
    have h2 : doOf l x = l1 ++ turnOf l x n :: l2 := by
      rw [h1, k2]
      obtain ⟨m, hm⟩ : ∃ m, turnOf l x n = m := ⟨_, rfl⟩
      rw [hm, k1, set_parts]
    have h3 := turnOf_twice l (doOf l x) x n (fun he => by rw [h2, he, k1])
    rw [h2] at h3 ⊢
    conv => lhs; unfold doOf
    rw [findOf_swap hid k4]
    show (if x.kind = 1 then _ else _) = _
    rw [if_neg hk, atOf_swap hid k4, h3, set_parts]
end Arb
