/- The mathematics of trees of nodes. -/
import Derived.Test.YthcoldjncpiffaaDoorOpsE
namespace Arb
set_option linter.unusedVariables false

/-- A node. -/
structure Nod where
  id : St
  dir : Bool
  parent : St
  name : List UInt8
  manifest : List UInt8
deriving DecidableEq
def Nod.zero : Nod := ⟨St.zero, false, St.zero, [], []⟩
def St.trash : St := ⟨0, 1⟩
/-- The first node with a stamp. -/
def findOf (l : List Nod) (s : St) : Option Nod := l.find? fun n => decide (n.id = s)
/-- The first node's place. -/
def atOf (l : List Nod) (s : St) : Nat := l.findIdx fun n => decide (n.id = s)
/-- A node, its parent, and so on: at most so many; 'out' were gone through. -/
def chainGo (l : List Nod) : Nat → List St → St → List St
  | 0, out, _ => out
  | k + 1, out, s => match findOf l s with
    | some n => if s ∈ out then out else chainGo l k (out ++ [s]) n.parent
    | none => if out = [] then [] else out ++ [s]
def chainOf (l : List Nod) (s : St) : List St := chainGo l (l.length + 1) [] s
def childrenOf (l : List Nod) (s : St) : List Nod := l.filter fun n => decide (n.parent = s)
def mayOf (l : List Nod) (s : St) : Bool := decide (s = St.zero) || (match findOf l s with | some n => n.dir | none => false)
def insNod (l : List Nod) (n : Nod) : List Nod := l.takeWhile (fun y => !n.id.less y.id) ++ n :: l.dropWhile (fun y => !n.id.less y.id)
def madeOf (l : List Nod) (x : Opn) : Nod := ⟨x.node, x.dir, if mayOf l x.parent = true then x.parent else St.trash, x.name, x.manifest⟩
/-- A node behind an operation of it that makes none. -/
def turnOf (l : List Nod) (x : Opn) (n : Nod) : Nod :=
  if x.kind = 2 then (if mayOf l x.parent = false ∨ x.node ∈ chainOf l x.parent then n else { n with parent := x.parent, name := x.name })
  else if x.kind = 3 then (if n.dir = true then n else { n with manifest := x.manifest })
  else if x.kind = 4 then { n with parent := St.trash }
  else n
def doOf (l : List Nod) (x : Opn) : List Nod :=
  match findOf l x.node with
  | none => if x.kind = 1 then insNod l (madeOf l x) else l
  | some n => if x.kind = 1 then l else l.set (atOf l x.node) (turnOf l x n)
def foldOf (ops : List Opn) : List Nod := ops.foldl doOf []

theorem findOf_some {l : List Nod} {s : St} {n : Nod} (h : findOf l s = some n) : n ∈ l ∧ n.id = s := by
  unfold findOf at h
  exact ⟨List.mem_of_find?_eq_some h, by simpa using List.find?_some h⟩
theorem findOf_none {l : List Nod} {s : St} : findOf l s = none ↔ ∀ n ∈ l, n.id ≠ s := by
  unfold findOf
  simp
/-- The stamps rise. -/
def Rises (l : List Nod) : Prop := l.Pairwise fun a b => a.id.less b.id = true
theorem Rises.uniq : ∀ {l : List Nod}, Rises l → ∀ a ∈ l, ∀ b ∈ l, a.id = b.id → a = b
  | [], _, a, ha, _, _, _ => by cases ha
  | x :: l, h, a, ha, b, hb, he => by
    obtain ⟨h1, h2⟩ := List.pairwise_cons.1 h
    rcases List.mem_cons.1 ha with ka | ka
    · rcases List.mem_cons.1 hb with kb | kb
      · rw [ka, kb]
      · have := h1 b kb
        rw [← ka, he, St.less_irrefl] at this
        cases this
    · rcases List.mem_cons.1 hb with kb | kb
      · have := h1 a ka
        rw [← kb, he, St.less_irrefl] at this
        cases this
      · exact Rises.uniq h2 a ka b kb he
theorem Rises.find {l : List Nod} (h : Rises l) {n : Nod} (hn : n ∈ l) : findOf l n.id = some n := by
  cases hf : findOf l n.id with
  | none => exact absurd rfl (findOf_none.1 hf n hn)
  | some m =>
    obtain ⟨hm, he⟩ := findOf_some hf
    rw [h.uniq m hm n hn he]

/-- A stamp has a node. -/
def isNode (l : List Nod) (s : St) : Prop := ∃ n ∈ l, n.id = s
/-- 't' is 's', or stands above it. -/
inductive Above (l : List Nod) : St → St → Prop
  | here {s : St} : isNode l s → Above l s s
  | up {s t : St} {n : Nod} : n ∈ l → n.id = s → Above l n.parent t → Above l s t

theorem Above.node {l : List Nod} {s t : St} (h : Above l s t) : isNode l s := by
  cases h with
  | here h => exact h
  | up h1 h2 _ => exact ⟨_, h1, h2⟩

/-- A tree: the stamps rise, parents are the root, the trash, or directories, and there is a height. -/
structure Tree (l : List Nod) : Prop where
  rise : Rises l
  good : ∀ n ∈ l, n.id.right = 0
  par : ∀ n ∈ l, n.parent = St.zero ∨ n.parent = St.trash ∨ ∃ m ∈ l, m.id = n.parent ∧ m.dir = true
  high : ∃ f : St → Nat, ∀ n ∈ l, isNode l n.parent → f n.parent < f n.id
theorem Tree.nil : Tree [] := ⟨List.Pairwise.nil, by simp, by simp, ⟨fun _ => 0, by simp⟩⟩
theorem right_ne_zero {s : St} (h : s.right = 0) : s ≠ St.zero := by
  rintro rfl
  simp [St.right, St.zero] at h
theorem right_ne_trash {s : St} (h : s.right = 0) : s ≠ St.trash := by
  rintro rfl
  simp [St.right, St.trash] at h

theorem insNod_parts (l : List Nod) (n : Nod) : ∃ l1 l2, l = l1 ++ l2 ∧ insNod l n = l1 ++ n :: l2 ∧ (∀ y ∈ l1, n.id.less y.id = false) ∧ (∀ y, l2.head? = some y → n.id.less y.id = true) := by
  refine ⟨_, _, (List.takeWhile_append_dropWhile (p := fun y : Nod => !n.id.less y.id) (l := l)).symm, rfl, fun y hy => ?_, fun y hy => ?_⟩
  · have h : ∀ (l : List Nod), y ∈ l.takeWhile (fun y => !n.id.less y.id) → (!n.id.less y.id) = true := by
      intro l
      induction l with
      | nil => intro h; simp at h
      | cons a l ih =>
        intro h
        rw [List.takeWhile_cons] at h
        split at h
        · rcases List.mem_cons.1 h with rfl | h
          · assumption
          · exact ih h
        · simp at h
    simpa using h l hy
  · have h : ∀ (l : List Nod), (l.dropWhile (fun y => !n.id.less y.id)).head? = some y → (!n.id.less y.id) = false := by
      intro l
      induction l with
      | nil => intro h; simp at h
      | cons a l ih =>
        intro h
        rw [List.dropWhile_cons] at h
        split at h
        · exact ih h
        · rename_i hn
          simp at h
          subst h
          simpa using hn
    simpa using h l hy
theorem insNod_mem (l : List Nod) (n m : Nod) : m ∈ insNod l n ↔ m = n ∨ m ∈ l := by
  obtain ⟨l1, l2, h1, h2, -, -⟩ := insNod_parts l n
  rw [h2, h1]
  simp only [List.mem_append, List.mem_cons]
  constructor
  · rintro (h | h | h)
    · exact .inr (.inl h)
    · exact .inl h
    · exact .inr (.inr h)
  · rintro (h | h | h)
    · exact .inr (.inl h)
    · exact .inl h
    · exact .inr (.inr h)
theorem insNod_length (l : List Nod) (n : Nod) : (insNod l n).length = l.length + 1 := by
  obtain ⟨l1, l2, h1, h2, -, -⟩ := insNod_parts l n
  rw [h2, h1]
  simp
  omega
theorem insNod_rise (l : List Nod) (n : Nod) (h : Rises l) (hne : ∀ y ∈ l, y.id ≠ n.id) : Rises (insNod l n) := by
  obtain ⟨l1, l2, h1, h2, h3, h4⟩ := insNod_parts l n
  rw [h2]
  rw [h1] at h hne
  obtain ⟨p1, p2, p3⟩ := List.pairwise_append.1 h
  have hl2 : ∀ y ∈ l2, n.id.less y.id = true := fun y hy => by
    cases l2 with
    | nil => cases hy
    | cons a l2 =>
      have ha := h4 a rfl
      rcases List.mem_cons.1 hy with rfl | hy
      · exact ha
      · exact St.less_trans ha ((List.pairwise_cons.1 p2).1 y hy)
  have hl1 : ∀ y ∈ l1, y.id.less n.id = true := fun y hy => by
    rcases St.less_total (hne y (List.mem_append_left _ hy)) with h | h
    · exact h
    · rw [h3 y hy] at h; cases h
  refine List.pairwise_append.2 ⟨p1, List.pairwise_cons.2 ⟨hl2, p2⟩, fun a ha b hb => ?_⟩
  rcases List.mem_cons.1 hb with rfl | hb
  · exact hl1 a ha
  · exact p3 a ha b hb
theorem mayOf_spec {l : List Nod} {s : St} (h : mayOf l s = true) : s = St.zero ∨ ∃ m ∈ l, m.id = s ∧ m.dir = true := by
  unfold mayOf at h
  simp only [Bool.or_eq_true, decide_eq_true_eq] at h
  rcases h with h | h
  · exact .inl h
  · cases hf : findOf l s with
    | none => rw [hf] at h; cases h
    | some m =>
      rw [hf] at h
      obtain ⟨h1, h2⟩ := findOf_some hf
      exact .inr ⟨m, h1, h2, h⟩

/-- A new node. -/
theorem Tree.make {l : List Nod} (hT : Tree l) (x : Opn) (hx : x.node.right = 0) (hno : findOf l x.node = none) : Tree (insNod l (madeOf l x)) := by
  have hne := findOf_none.1 hno
  have hpar : (madeOf l x).parent = St.zero ∨ (madeOf l x).parent = St.trash ∨ ∃ m ∈ l, m.id = (madeOf l x).parent ∧ m.dir = true := by
    show (if mayOf l x.parent = true then x.parent else St.trash) = _ ∨ _ = St.trash ∨ _
    by_cases h : mayOf l x.parent = true
    · rcases mayOf_spec h with h1 | ⟨m, h1, h2, h3⟩
      · exact .inl (by rw [if_pos h]; exact h1)
      · exact .inr (.inr ⟨m, h1, by show m.id = (if mayOf l x.parent = true then x.parent else St.trash); rw [if_pos h]; exact h2, h3⟩)
    · exact .inr (.inl (by show (if mayOf l x.parent = true then x.parent else St.trash) = _; rw [if_neg h]))
  obtain ⟨f, hf⟩ := hT.high
  have hold : ∀ n ∈ l, n.parent ≠ x.node := fun n hn he => by
    rcases hT.par n hn with h | h | ⟨m, hm, hmi, _⟩
    · exact right_ne_zero hx (he.symm.trans h)
    · exact right_ne_trash hx (he.symm.trans h)
    · exact hne m hm (hmi.trans he)
  have hown : (madeOf l x).parent ≠ x.node := fun he => by
    rcases hpar with h | h | ⟨m, hm, hmi, _⟩
    · exact right_ne_zero hx (he.symm.trans h)
    · exact right_ne_trash hx (he.symm.trans h)
    · exact hne m hm (hmi.trans he)
  refine ⟨insNod_rise l _ hT.rise hne, fun n hn => ?_, fun n hn => ?_, ⟨fun s => if s = x.node then f (madeOf l x).parent + 1 else f s, fun n hn hp => ?_⟩⟩
  · rcases (insNod_mem l _ n).1 hn with rfl | hn
    · exact hx
    · exact hT.good n hn
  · rcases (insNod_mem l _ n).1 hn with rfl | hn
    · rcases hpar with h | h | ⟨m, hm, h1, h2⟩
      · exact .inl h
      · exact .inr (.inl h)
      · exact .inr (.inr ⟨m, (insNod_mem l _ m).2 (.inr hm), h1, h2⟩)
    · rcases hT.par n hn with h | h | ⟨m, hm, h1, h2⟩
      · exact .inl h
      · exact .inr (.inl h)
      · exact .inr (.inr ⟨m, (insNod_mem l _ m).2 (.inr hm), h1, h2⟩)
  · show (if n.parent = x.node then _ else f n.parent) < (if n.id = x.node then _ else f n.id)
    rcases (insNod_mem l _ n).1 hn with rfl | hn
    · rw [if_neg hown, if_pos (show (madeOf l x).id = x.node from rfl)]
      omega
    · rw [if_neg (hold n hn), if_neg (hne n hn)]
      refine hf n hn ?_
      obtain ⟨m, hm, he⟩ := hp
      rcases (insNod_mem l _ m).1 hm with rfl | hm
      · exact absurd he.symm (hold n hn)
      · exact ⟨m, hm, he⟩

theorem at_parts : ∀ (l : List Nod) (s : St) (n : Nod), findOf l s = some n → ∃ l1 l2, l = l1 ++ n :: l2 ∧ atOf l s = l1.length ∧ n.id = s ∧ ∀ y ∈ l1, y.id ≠ s
  | [], s, n, h => by cases h
  | a :: l, s, n, h => by
    by_cases ha : a.id = s
    · have : findOf (a :: l) s = some a := by unfold findOf; simp [ha]
      rw [this] at h
      injection h with h
      subst h
      exact ⟨[], l, rfl, by unfold atOf; simp [List.findIdx_cons, ha], ha, by simp⟩
    · have : findOf (a :: l) s = findOf l s := by unfold findOf; simp [ha]
      rw [this] at h
      obtain ⟨l1, l2, h1, h2, h3, h4⟩ := at_parts l s n h
      refine ⟨a :: l1, l2, by rw [h1]; rfl, ?_, h3, ?_⟩
      · unfold atOf at h2 ⊢
        rw [List.findIdx_cons]
        simp [ha, h2]
      · intro y hy
        rcases List.mem_cons.1 hy with rfl | hy
        · exact ha
        · exact h4 y hy
theorem set_parts (l1 l2 : List Nod) (n m : Nod) : (l1 ++ n :: l2).set l1.length m = l1 ++ m :: l2 := by simp
theorem turnOf_id (l : List Nod) (x : Opn) (n : Nod) : (turnOf l x n).id = n.id := by
  unfold turnOf
  repeat' split
  all_goals rfl
theorem turnOf_dir (l : List Nod) (x : Opn) (n : Nod) : (turnOf l x n).dir = n.dir := by
  unfold turnOf
  repeat' split
  all_goals rfl

open Classical in
/-- One node goes below another parent. -/
theorem Tree.swap {l1 l2 : List Nod} {n : Nod} (hT : Tree (l1 ++ n :: l2)) (m : Nod) (hid : m.id = n.id) (hdir : m.dir = n.dir)
    (hpar : m.parent = St.zero ∨ m.parent = St.trash ∨ ∃ q ∈ l1 ++ n :: l2, q.id = m.parent ∧ q.dir = true) (hno : m.parent = n.parent ∨ ¬ Above (l1 ++ n :: l2) m.parent n.id) : Tree (l1 ++ m :: l2) := by
  have hmem : ∀ y, y ∈ l1 ++ m :: l2 → y = m ∨ y ∈ l1 ++ n :: l2 := fun y hy => by
    rcases List.mem_append.1 hy with h | h
    · exact .inr (List.mem_append_left _ h)
    · rcases List.mem_cons.1 h with h | h
      · exact .inl h
      · exact .inr (List.mem_append_right _ (List.mem_cons_of_mem _ h))
  have hback : ∀ q ∈ l1 ++ n :: l2, ∃ q' ∈ l1 ++ m :: l2, q'.id = q.id ∧ q'.dir = q.dir := fun q hq => by
    rcases List.mem_append.1 hq with h | h
    · exact ⟨q, List.mem_append_left _ h, rfl, rfl⟩
    · rcases List.mem_cons.1 h with h | h
      · subst h
        exact ⟨m, List.mem_append_right _ (List.mem_cons_self ..), hid, hdir⟩
      · exact ⟨q, List.mem_append_right _ (List.mem_cons_of_mem _ h), rfl, rfl⟩
  have hn : n ∈ l1 ++ n :: l2 := List.mem_append_right _ (List.mem_cons_self ..)
  have hnode : ∀ s, isNode (l1 ++ m :: l2) s → isNode (l1 ++ n :: l2) s := fun s ⟨q, hq, he⟩ => by
    rcases hmem q hq with rfl | h
    · exact ⟨n, hn, hid.symm.trans he⟩
    · exact ⟨q, h, he⟩
  have hp : ∀ y : Nod, (y.parent = St.zero ∨ y.parent = St.trash ∨ ∃ q ∈ l1 ++ n :: l2, q.id = y.parent ∧ q.dir = true) → (y.parent = St.zero ∨ y.parent = St.trash ∨ ∃ q ∈ l1 ++ m :: l2, q.id = y.parent ∧ q.dir = true) := by
    rintro y (h | h | ⟨q, h1, h2, h3⟩)
    · exact .inl h
    · exact .inr (.inl h)
    · obtain ⟨q', k1, k2, k3⟩ := hback q h1
      exact .inr (.inr ⟨q', k1, k2.trans h2, k3.trans h3⟩)
  obtain ⟨f, hf⟩ := hT.high
  refine ⟨?_, fun y hy => ?_, fun y hy => ?_, ?_⟩
  · have h1 : ((l1 ++ n :: l2).map Nod.id).Pairwise fun a b => a.less b = true := List.pairwise_map.2 hT.rise
    have h2 : (l1 ++ m :: l2).map Nod.id = (l1 ++ n :: l2).map Nod.id := by simp [hid]
    rw [← h2] at h1
    exact List.pairwise_map.1 h1
  · rcases hmem y hy with rfl | h
    · rw [hid]; exact hT.good n hn
    · exact hT.good y h
  · rcases hmem y hy with rfl | h
    · exact hp y hpar
    · exact hp y (hT.par y h)
  · rcases hno with hno | hno
    · refine ⟨f, fun y hy hpy => ?_⟩
      rcases hmem y hy with rfl | h
      · rw [hno, hid]
        exact hf n hn (hno ▸ hnode _ hpy)
      · exact hf y h (hnode _ hpy)
    · refine ⟨fun s => if Above (l1 ++ n :: l2) s n.id then f s + f m.parent + 1 else f s, fun y hy hpy => ?_⟩
      show (if Above _ y.parent n.id then _ else f y.parent) < (if Above _ y.id n.id then _ else f y.id)
      rcases hmem y hy with rfl | h
      · rw [if_neg hno, hid, if_pos (.here ⟨n, hn, rfl⟩)]
        omega
      · have hlt := hf y h (hnode _ hpy)
        by_cases ha : Above (l1 ++ n :: l2) y.parent n.id
        · rw [if_pos ha, if_pos (.up h rfl ha)]
          omega
        · rw [if_neg ha]
          split <;> omega

theorem chainGo_out (l : List Nod) : ∀ (k : Nat) (out : List St) (s u : St), u ∈ out → u ∈ chainGo l k out s
  | 0, out, s, u, h => h
  | k + 1, out, s, u, h => by
    unfold chainGo
    split
    · split
      · exact h
      · exact chainGo_out l k _ _ u (List.mem_append_left _ h)
    · split
      · rename_i h0
        rw [h0] at h
        cases h
      · exact List.mem_append_left _ h
theorem left_lt {l : List Nod} {n : Nod} (hn : n ∈ l) {out : List St} (h : n.id ∉ out) : (l.filter fun y => decide (y.id ∉ out ++ [n.id])).length < (l.filter fun y => decide (y.id ∉ out)).length := by
  have h1 : (l.filter fun y => decide (y.id ∉ out ++ [n.id])) = (l.filter fun y => decide (y.id ∉ out)).filter fun y => decide (y.id ≠ n.id) := by
    rw [List.filter_filter]
    congr 1
    funext y
    simp [and_comm]
  rw [h1]
  refine List.length_filter_lt_length_iff_exists.2 ⟨n, List.mem_filter.2 ⟨hn, by simpa using h⟩, by simp⟩
/-- Whatever stands above is in the chain. -/
theorem chainGo_above {l : List Nod} (hr : Rises l) (f : St → Nat) (hf : ∀ n ∈ l, isNode l n.parent → f n.parent < f n.id) : ∀ (k : Nat) (out : List St) (s t : St),
    (l.filter fun y => decide (y.id ∉ out)).length < k → (isNode l s → ∀ u ∈ out, f s < f u) → Above l s t → t ∈ chainGo l k out s
  | 0, _, _, _, h, _, _ => by omega
  | k + 1, out, s, t, hk, ho, hA => by
    have hs : ∃ n ∈ l, n.id = s := by
      cases hA with
      | here h => exact h
      | up h1 h2 _ => exact ⟨_, h1, h2⟩
    obtain ⟨n, hn, rfl⟩ := hs
    have hout : n.id ∉ out := fun h => by have := ho ⟨n, hn, rfl⟩ _ h; omega
    have hlt := left_lt hn hout
    unfold chainGo
    rw [hr.find hn]
    simp only [hout, if_false]
    cases hA with
    | here h => exact chainGo_out l k _ _ _ (List.mem_append_right _ (List.mem_singleton.2 rfl))
    | up h1 h2 h3 =>
      rename_i n'
      obtain rfl := hr.uniq _ h1 n hn h2
      refine chainGo_above hr f hf k _ _ t (by omega) (fun hp u hu => ?_) h3
      have h4 := hf _ hn hp
      rcases List.mem_append.1 hu with hu | hu
      · have := ho ⟨_, hn, rfl⟩ u hu
        omega
      · rw [List.mem_singleton.1 hu]
        exact h4
theorem Tree.chain_above {l : List Nod} (hT : Tree l) {s t : St} (h : Above l s t) : t ∈ chainOf l s := by
  obtain ⟨f, hf⟩ := hT.high
  exact chainGo_above hT.rise f hf _ [] s t (Nat.lt_succ_of_le (List.length_filter_le ..)) (fun _ u hu => by cases hu) h

/-- Whatever operation of a right node: a tree again. -/
theorem Tree.step {l : List Nod} (hT : Tree l) (x : Opn) (hx : x.node.right = 0) : Tree (doOf l x) := by
  unfold doOf
  cases hf : findOf l x.node with
  | none =>
    show Tree (if x.kind = 1 then insNod l (madeOf l x) else l)
    split
    · exact hT.make x hx hf
    · exact hT
  | some n =>
    show Tree (if x.kind = 1 then l else l.set (atOf l x.node) (turnOf l x n))
    split
    · exact hT
    · obtain ⟨l1, l2, h1, h2, h3, -⟩ := at_parts l x.node n hf
      rw [h2]
      obtain ⟨m, hm⟩ : ∃ m, turnOf l x n = m := ⟨_, rfl⟩
      have hid := turnOf_id l x n
      have hdir := turnOf_dir l x n
      have hn : n ∈ l := (findOf_some hf).1
      have hpar : (turnOf l x n).parent = St.zero ∨ (turnOf l x n).parent = St.trash ∨ ∃ q ∈ l, q.id = (turnOf l x n).parent ∧ q.dir = true := by
        have h0 := hT.par n hn
        unfold turnOf
        split
        · split
          · exact h0
          · rename_i h
            rcases mayOf_spec (l := l) (s := x.parent) (by simpa using fun h9 => h (.inl h9)) with h5 | h5
            · exact .inl h5
            · exact .inr (.inr h5)
        · split
          · split <;> exact h0
          · split
            · exact .inr (.inl rfl)
            · exact h0
      have hno : (turnOf l x n).parent = n.parent ∨ ¬ Above l (turnOf l x n).parent n.id := by
        unfold turnOf
        split
        · split
          · exact .inl rfl
          · rename_i h
            refine .inr fun hA => h (.inr ?_)
            have := hT.chain_above hA
            rw [h3] at this
            exact this
        · split
          · split <;> exact .inl rfl
          · split
            · refine .inr fun hA => ?_
              obtain ⟨q, hq, he⟩ := hA.node
              exact right_ne_trash (hT.good q hq) he
            · exact .inl rfl
      rw [hm] at hid hdir hpar hno ⊢
      rw [h1] at hT hpar hno ⊢
      rw [set_parts]
      exact hT.swap m hid hdir hpar hno
end Arb
