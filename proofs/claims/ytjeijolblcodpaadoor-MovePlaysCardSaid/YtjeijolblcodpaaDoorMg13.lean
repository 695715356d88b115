/- Parts of the proof that all the laws of this package share, in their order. Each says what is in it. -/
import Derived.Test.YtjeijolblcodpaaDoorMg12
import Derived.Test.YtjeijolblcodpaaDoorMg4
import Derived.Test.YtjeijolblcodpaaDoorMg3
import Derived.Test.YtjeijolblcodpaaDoorMg2

/- Contracts of package move's calls: the interface that the laws' walks go by. -/
section

end

/- The mathematics of layer 8's small laws. -/
section
namespace Arb
set_option maxRecDepth 20000
set_option linter.unusedVariables false

/-- A Make of a directory whose stamp is its node. -/
def mk8 (c : Int) : Opn := ⟨⟨c, 0⟩, 0, 1, ⟨c, 0⟩, true, ⟨0, 0⟩, [97], []⟩
/-- The chapter's example. -/
def aw1 : Opn := ⟨⟨3, 0⟩, 0, 2, ⟨2, 0⟩, false, ⟨1, 0⟩, [98], []⟩
def aw2 : Opn := ⟨⟨1, 0⟩, 0, 1, ⟨1, 0⟩, true, ⟨0, 0⟩, [97], []⟩
def aw3 : Opn := ⟨⟨2, 0⟩, 0, 1, ⟨2, 0⟩, false, ⟨0, 0⟩, [98], []⟩
theorem aw_one : mvErr [] aw1 = 0 ∧ mvAdd [] aw1 = [aw1] ∧ mvRedo [] aw1 0 = 0 := by decide +kernel
theorem aw_two : mvErr [aw1] aw2 = 0 ∧ mvAdd [aw1] aw2 = [aw2, aw1] ∧ mvRedo [aw1] aw2 0 = 1 := by decide +kernel
theorem aw_three : mvErr [aw2, aw1] aw3 = 0 ∧ mvAdd [aw2, aw1] aw3 = [aw2, aw3, aw1] ∧ mvRedo [aw2, aw1] aw3 1 = 1 := by decide +kernel
theorem aw_fold : foldOf [aw2, aw3, aw1] = [⟨⟨1, 0⟩, true, ⟨0, 0⟩, [97], []⟩, ⟨⟨2, 0⟩, false, ⟨1, 0⟩, [98], []⟩] := by decide +kernel

/-- Two moves, and two nodes. -/
def tw1 (a : St) : Opn := ⟨a, 0, 2, ⟨1, 0⟩, false, ⟨2, 0⟩, [120], []⟩
def tw2 (b : St) : Opn := ⟨b, 0, 2, ⟨2, 0⟩, false, ⟨1, 0⟩, [121], []⟩
def twx : Opn := ⟨⟨1, 0⟩, 0, 1, ⟨1, 0⟩, true, ⟨0, 0⟩, [120], []⟩
def twy : Opn := ⟨⟨2, 0⟩, 0, 1, ⟨2, 0⟩, true, ⟨0, 0⟩, [121], []⟩
theorem tw_fold1 (a b : St) : foldOf [twx, twy, tw1 a, tw2 b] = [⟨⟨1, 0⟩, true, ⟨2, 0⟩, [120], []⟩, ⟨⟨2, 0⟩, true, ⟨0, 0⟩, [121], []⟩] := by rfl
theorem tw_fold2 (a b : St) : foldOf [twx, twy, tw2 b, tw1 a] = [⟨⟨1, 0⟩, true, ⟨0, 0⟩, [120], []⟩, ⟨⟨2, 0⟩, true, ⟨1, 0⟩, [121], []⟩] := by rfl

/-- An operation that comes at place k. -/
theorem mvAdd_at {l : List Opn} {x : Opn} (k : Nat) (hk : k ≤ l.length) (hr : x.stamp.right = 0) (hl : l.length < 400) (h1 : ∀ (j : Nat) (y : Opn), j < k → l[j]? = some y → y.stamp.less x.stamp = true) (h2 : ∀ (j : Nat) (y : Opn), k ≤ j → l[j]? = some y → x.stamp.less y.stamp = true) (n : Int) :
    mvErr l x = 0 ∧ mvAdd l x = l.take k ++ x :: l.drop k ∧ mvRedo l x n = ((l.length - k : Nat) : Int) := by
  have hne : ∀ y ∈ l, y.stamp ≠ x.stamp := fun y hy e => by
    obtain ⟨j, hj, hjy⟩ := List.getElem_of_mem hy
    have hg : l[j]? = some y := by rw [List.getElem?_eq_getElem hj, hjy]
    rcases Nat.lt_or_ge j k with h | h
    · have := h1 j y h hg
      rw [e] at this
      exact absurd this (by rw [St.less_irrefl]; simp)
    · have := h2 j y h hg
      rw [e] at this
      exact absurd this (by rw [St.less_irrefl]; simp)
  have he := mvErr_of hr hne hl
  obtain ⟨i1, i2⟩ := insOp_at l x k hk (fun j y hj hy => by
    have h := h1 j y hj hy
    cases h3 : x.stamp.less y.stamp
    · rfl
    · exact absurd (St.less_trans h h3) (by rw [St.less_irrefl]; simp)) (fun y hy => h2 k y (Nat.le_refl _) hy)
  exact ⟨he, by unfold mvAdd; rw [if_pos he, i1], by unfold mvRedo; rw [if_pos he, i2]⟩

theorem less_count {a b : St} (h : a.count < b.count) : a.less b = true := by unfold St.less; simp [h]
theorem right_of {s : St} (h1 : 1 ≤ s.count) (h2 : s.count ≤ 1099511627776) (h3 : 0 ≤ s.who) (h4 : s.who < 15) : s.right = 0 := by
  unfold St.right
  rw [if_neg (by omega)]
theorem tw_two (a b : St) (ha : a.right = 0) (hb : b.right = 0) (hab : a ≠ b) :
    mvAdd (mvAdd [] (tw1 a)) (tw2 b) = if a.less b = true then [tw1 a, tw2 b] else [tw2 b, tw1 a] := by
  have h1 := (mvAdd_at (l := []) (x := tw1 a) 0 (Nat.le_refl _) ha (by simp) (fun j y hj hy => by cases hy) (fun j y hj hy => by cases hy) 0).2.1
  rw [h1]
  show mvAdd [tw1 a] (tw2 b) = _
  cases hl : a.less b
  · have hba : b.less a = true := by
      rcases St.less_total hab with h | h
      · rw [hl] at h; cases h
      · exact h
    have h2 := (mvAdd_at (l := [tw1 a]) (x := tw2 b) 0 (Nat.zero_le _) hb (by simp) (fun j y hj hy => by omega) (fun j y hj hy => by
      cases j with
      | zero => simp at hy; subst hy; exact hba
      | succ j => simp at hy) 0).2.1
    rw [h2]
    rfl
  · have h2 := (mvAdd_at (l := [tw1 a]) (x := tw2 b) 1 (by simp) hb (by simp) (fun j y hj hy => by
      cases j with
      | zero => simp at hy; subst hy; exact hl
      | succ j => omega) (fun j y hj hy => by
      cases j with
      | zero => omega
      | succ j => simp at hy) 0).2.1
    rw [h2]
    rfl
theorem tw_four {u v : Opn} (hu : 3 ≤ u.stamp.count) (hv : 3 ≤ v.stamp.count) : mvAdd (mvAdd [u, v] twx) twy = [twx, twy, u, v] := by
  have h1 := (mvAdd_at (l := [u, v]) (x := twx) 0 (Nat.zero_le _) (by decide) (by simp) (fun j y hj hy => by omega) (fun j y hj hy => by
    match j, hy with
    | 0, hy => simp at hy; subst hy; exact less_count (by show (1 : Int) < _; omega)
    | 1, hy => simp at hy; subst hy; exact less_count (by show (1 : Int) < _; omega)
    | j + 2, hy => simp at hy) 0).2.1
  rw [h1]
  have h2 := (mvAdd_at (l := [twx, u, v]) (x := twy) 1 (by simp) (by decide) (by simp) (fun j y hj hy => by
    match j, hy with
    | 0, hy => simp at hy; subst hy; decide
    | j + 1, hy => omega) (fun j y hj hy => by
    match j, hy with
    | 0, hy => omega
    | 1, hy => simp at hy; subst hy; exact less_count (by show (2 : Int) < _; omega)
    | 2, hy => simp at hy; subst hy; exact less_count (by show (2 : Int) < _; omega)
    | j + 3, hy => simp at hy) 0).2.1
  show mvAdd [twx, u, v] twy = _
  rw [h2]
  rfl
theorem tw_nodes (a b : St) (ha : a.right = 0) (hb : b.right = 0) (hab : a ≠ b) (h3 : 3 ≤ a.count) (h4 : 3 ≤ b.count) :
    foldOf (mvAdd (mvAdd (mvAdd (mvAdd [] (tw1 a)) (tw2 b)) twx) twy) = if a.less b = true then [⟨⟨1, 0⟩, true, ⟨2, 0⟩, [120], []⟩, ⟨⟨2, 0⟩, true, ⟨0, 0⟩, [121], []⟩] else [⟨⟨1, 0⟩, true, ⟨0, 0⟩, [120], []⟩, ⟨⟨2, 0⟩, true, ⟨1, 0⟩, [121], []⟩] := by
  rw [tw_two a b ha hb hab]
  cases a.less b
  · show foldOf (mvAdd (mvAdd [tw2 b, tw1 a] twx) twy) = _
    rw [tw_four h4 h3, tw_fold2]
    rfl
  · show foldOf (mvAdd (mvAdd [tw1 a, tw2 b] twx) twy) = _
    rw [tw_four h3 h4, tw_fold1]
    rfl

/-- The Makes of the stamps from 2 on. -/
def mks (k : Nat) : List Opn := (List.range k).map fun (i : Nat) => mk8 ((i : Int) + 2)
theorem mks_length (k : Nat) : (mks k).length = k := by simp [mks]
theorem mks_get {k j : Nat} {y : Opn} (h : (mks k)[j]? = some y) : j < k ∧ y = mk8 ((j : Int) + 2) := by
  have hj : j < k := by have := (List.getElem?_eq_some_iff.1 h).1; rw [mks_length] at this; exact this
  unfold mks at h
  rw [List.getElem?_map, List.getElem?_range hj] at h
  simp at h
  exact ⟨hj, h.symm⟩
theorem mks_step (k : Nat) (hk : k < 100) : mvErr (mks k) (mk8 ((k : Int) + 2)) = 0 ∧ mvAdd (mks k) (mk8 ((k : Int) + 2)) = mks (k + 1) ∧ mvRedo (mks k) (mk8 ((k : Int) + 2)) 0 = 0 := by
  obtain ⟨h1, h2, h3⟩ := mvAdd_at (l := mks k) (x := mk8 ((k : Int) + 2)) k (by rw [mks_length]; exact Nat.le_refl _) (right_of (by show (1 : Int) ≤ _; simp [mk8]; omega) (by simp [mk8]; omega) (by simp [mk8]) (by simp [mk8])) (by rw [mks_length]; omega) (fun j y hj hy => by
    obtain ⟨_, rfl⟩ := mks_get hy
    exact less_count (by simp [mk8]; omega)) (fun j y hj hy => by
    have := (mks_get hy).1; omega) 0
  refine ⟨h1, ?_, by rw [h3, mks_length]; simp⟩
  rw [h2, List.take_of_length_le (by rw [mks_length]; exact Nat.le_refl _), List.drop_eq_nil_of_le (by rw [mks_length]; exact Nat.le_refl _)]
  unfold mks
  rw [List.range_succ, List.map_append]
  rfl
/-- Makes of nodes of their own make one node each. -/
theorem fold_makes : ∀ (l : List Opn), (∀ x ∈ l, x.kind = 1) → l.Pairwise (fun x y => x.node ≠ y.node) → ∀ (ns : List Nod), (∀ n ∈ ns, ∀ x ∈ l, n.id ≠ x.node) → (l.foldl doOf ns).length = ns.length + l.length
  | [], _, _, ns, _ => rfl
  | x :: l, hk, hp, ns, hn => by
    obtain ⟨p1, p2⟩ := List.pairwise_cons.1 hp
    have hf : findOf ns x.node = none := findOf_none.2 fun n h => hn n h x (List.mem_cons_self ..)
    have hd : doOf ns x = insNod ns (madeOf ns x) := by unfold doOf; rw [hf]; exact if_pos (hk x (List.mem_cons_self ..))
    rw [List.foldl_cons, fold_makes l (fun y hy => hk y (List.mem_cons_of_mem _ hy)) p2 (doOf ns x) (fun n hm y hy => ?_), hd, insNod_length, List.length_cons]
    · omega
    · rw [hd] at hm
      unfold insNod at hm
      rcases List.mem_append.1 hm with h | h
      · exact hn n (List.takeWhile_subset _ h) y (List.mem_cons_of_mem _ hy)
      · rcases List.mem_cons.1 h with rfl | h
        · exact p1 y hy
        · exact hn n (List.dropWhile_subset _ h) y (List.mem_cons_of_mem _ hy)
theorem mks_last (n : Nat) (hn : n ≤ 100) : mvErr (mks n) (mk8 1) = 0 ∧ mvAdd (mks n) (mk8 1) = mk8 1 :: mks n ∧ mvRedo (mks n) (mk8 1) 0 = (n : Int) ∧ (foldOf (mk8 1 :: mks n)).length = n + 1 := by
  obtain ⟨h1, h2, h3⟩ := mvAdd_at (l := mks n) (x := mk8 1) 0 (Nat.zero_le _) (by decide) (by rw [mks_length]; omega) (fun j y hj hy => by omega) (fun j y hj hy => by
    obtain ⟨_, rfl⟩ := mks_get hy
    exact less_count (by simp [mk8]; omega)) 0
  refine ⟨h1, h2, by rw [h3, mks_length]; rfl, ?_⟩
  have hall : ∀ y ∈ mks n, ∃ j : Nat, y = mk8 ((j : Int) + 2) := fun y hy => by
    obtain ⟨j, hj, hjy⟩ := List.getElem_of_mem hy
    exact ⟨j, (mks_get (by rw [List.getElem?_eq_getElem hj, hjy])).2⟩
  unfold foldOf
  rw [fold_makes]
  · simp [mks_length]
  · intro x hx
    rcases List.mem_cons.1 hx with rfl | h
    · rfl
    · obtain ⟨j, rfl⟩ := hall x h; rfl
  · refine List.pairwise_cons.2 ⟨fun y hy => ?_, ?_⟩
    · obtain ⟨j, rfl⟩ := hall y hy
      intro e
      have := congrArg St.count e
      simp [mk8] at this
      omega
    · unfold mks
      rw [List.pairwise_map]
      refine List.pairwise_lt_range.imp ?_
      intro i j hij e
      have := congrArg St.count e
      simp [mk8] at this
      omega
  · simp
end Arb
end

/- The chapter's example of layer 8. -/
section
namespace Go.Proofs.YtjeijolblcodpaaDoor.W
set_option maxRecDepth 20000
set_option linter.unusedVariables false
open Go.RowKit Go.Proofs Arb

theorem aw_wf : opWf aw1 ∧ opWf aw2 ∧ opWf aw3 := ⟨⟨⟨rfl, rfl⟩, rfl, rfl, ⟨rfl, rfl⟩, ⟨rfl, rfl⟩, by decide, by decide⟩, ⟨⟨rfl, rfl⟩, rfl, rfl, ⟨rfl, rfl⟩, ⟨rfl, rfl⟩, by decide, by decide⟩, ⟨⟨rfl, rfl⟩, rfl, rfl, ⟨rfl, rfl⟩, ⟨rfl, rfl⟩, by decide, by decide⟩⟩
/-- A state of a law's walk: made behind the world W. -/
structure Mine (W w : World) (b : Nat) (F : Nat → Prop) (l : List Opn) (n : Int) : Prop where
  st : PSt w b F l n
  new : ∀ k, F k → W.heap.size ≤ k
  bel : Below W.heap.size W w
theorem Mine.next {W w w' : World} {b : Nat} {F F' : Nat → Prop} {l l' : List Opn} {n n' : Int} (h : Mine W w b F l n) (hs : PSt w' b F' l' n') (ht : Turned w w' F F') : Mine W w' b F' l' n' :=
  ⟨hs, ht.above h.new h.bel.size, h.bel.trans (ht.below h.new h.bel.size)⟩
theorem Mine.more {W w w' : World} {b : Nat} {F : Nat → Prop} {l : List Opn} {n : Int} (h : Mine W w b F l n) (hb : Below w.heap.size w w') : Mine W w' b F l n :=
  ⟨h.st.new hb, h.new, bstep h.bel hb⟩
theorem mine_insert {W w : World} {b : Nat} {F : Nat → Prop} {l : List Opn} {n : Int} (h : Mine W w b F l n) (x : Opn) (hx : opWf x) (hT : Met W) :
    Calls Tryd.prog 12 #[.pointer (some ⟨b, 0, none⟩), opVal x] w fun e w' => e = .returned (.int .i64 (mvErr l x)) ∧ ∃ F', Mine W w' b F' (mvAdd l x) (mvRedo l x n) :=
  (pinsert_st w b F l n x h.st hx (hT.on h.bel)).mono fun e w' ⟨he, F', hs, ht⟩ => ⟨he, F', h.next hs ht⟩
theorem mine_nodes {W w : World} {b : Nat} {F : Nat → Prop} {l : List Opn} {n : Int} (h : Mine W w b F l n) (hT : Met W) :
    Calls Tryd.prog 18 #[.pointer (some ⟨b, 0, none⟩)] w fun e w' => ∃ v F', e = .returned v ∧ Nods w' v (foldOf l) ∧ Mine W w' b F' l n ∧ InSet (fun k => W.heap.size ≤ k ∧ ¬ F' k) v ∧ Turned w w' F F' :=
  (pnodes_st w b F l n h.st (hT.on h.bel)).mono fun e w' ⟨v, F', he, hn, hi, hs, ht⟩ => ⟨v, F', he, hn, h.next hs ht, hi.mono fun k hk => ⟨Nat.le_trans h.bel.size hk.1, hk.2⟩, ht⟩
theorem mine_ops {W w : World} {b : Nat} {F : Nat → Prop} {l : List Opn} {n : Int} (h : Mine W w b F l n) (hT : Met W) :
    Calls Tryd.prog 15 #[.pointer (some ⟨b, 0, none⟩)] w fun e w' => ∃ v F', e = .returned v ∧ Opns w' v l ∧ Mine W w' b F' l n ∧ InSet (fun k => W.heap.size ≤ k ∧ ¬ F' k) v ∧ Turned w w' F F' :=
  (pops_st w b F l n h.st (hT.on h.bel)).mono fun e w' ⟨v, F', he, hn, hi, hs, ht⟩ => ⟨v, F', he, hn, h.next hs ht, hi.mono fun k hk => ⟨Nat.le_trans h.bel.size hk.1, hk.2⟩, ht⟩
theorem mine_new {W : World} (hT : Met W) : Calls Tryd.prog 9 #[] W fun e w' => ∃ b F, e = .returned (.pointer (some ⟨b, 0, none⟩)) ∧ Mine W w' b F [] 0 :=
  (pnew_any W hT).mono fun e w' ⟨b, F, he, hs, hn, hb⟩ => ⟨b, F, he, hs, hn, hb⟩

set_option maxRecDepth 20000 in
set_option maxHeartbeats 4000000 in
theorem awake8_any (w : World) (hT : Met w) :
    Calls Tryd.prog 11 #[] w fun e w' => e = .returned (.bool true) ∧ Below w.heap.size w w' := by
  obtain ⟨W1, hW1⟩ : ∃ W, w.alloc (.cells #[.int .i64 1, .int .i64 0] 33) = W := ⟨_, rfl⟩
  obtain ⟨W2, hW2⟩ : ∃ W, W1.alloc (.cells #[.int .i64 2, .int .i64 0] 33) = W := ⟨_, rfl⟩
  have hb1 : Below w.heap.size w W1 := by rw [← hW1]; exact (Below.refl _ _).alloc (Nat.le_refl _) _
  have hs1 : W1.heap.size = w.heap.size + 1 := by rw [← hW1]; simp
  have hb2 : Below w.heap.size w W2 := by rw [← hW2]; exact hb1.alloc hb1.size _
  have hs2 : W2.heap.size = w.heap.size + 2 := by rw [← hW2]; simp [hs1]
  have ha1 : W1.heap[w.heap.size]? = some (.cells #[.int .i64 1, .int .i64 0] 33 (0, 0)) := by rw [← hW1]; exact heap_alloc_new w _
  have ha : W2.heap[w.heap.size]? = some (.cells #[.int .i64 1, .int .i64 0] 33 (0, 0)) := by rw [← hW2]; exact (Below.heap_alloc _ _ _ (by omega)).trans ha1
  have hb : W2.heap[w.heap.size + 1]? = some (.cells #[.int .i64 2, .int .i64 0] 33 (0, 0)) := by rw [← hW2, ← hs1]; exact heap_alloc_new W1 _
  have hcell : ∀ V, Below W2.heap.size W2 V → V.cell? ⟨w.heap.size, 0, none⟩ = some (.int .i64 1) ∧ V.cell? ⟨w.heap.size, 1, none⟩ = some (.int .i64 0) ∧ V.cell? ⟨w.heap.size + 1, 0, none⟩ = some (.int .i64 2) ∧ V.cell? ⟨w.heap.size + 1, 1, none⟩ = some (.int .i64 0) := fun V hV => by
    have h1 := (hV.block w.heap.size (by omega)).trans ha
    have h2 := (hV.block (w.heap.size + 1) (by omega)).trans hb
    exact ⟨by rw [cell_of_row _ _ _ _ _ _ h1]; rfl, by rw [cell_of_row _ _ _ _ _ _ h1]; rfl, by rw [cell_of_row _ _ _ _ _ _ h2]; rfl, by rw [cell_of_row _ _ _ _ _ _ h2]; rfl⟩
  have hT2 := hT.on hb2
  have i1 : ∀ V b F, Mine W2 V b F [] 0 → Calls Tryd.prog 12 #[.pointer (some ⟨b, 0, none⟩), .agg #[.int .i64 3, .int .i64 0, .int .i64 0, .int .i64 2, .int .i64 2, .int .i64 0, .bool false, .int .i64 1, .int .i64 0, .string ⟨#[98]⟩, .string ⟨#[]⟩]] V fun e w' => e = .returned (.int .i64 0) ∧ ∃ F', Mine W2 w' b F' [aw1] 0 := fun V b F h => by
    have := mine_insert h aw1 aw_wf.1 hT2
    rw [aw_one.1, aw_one.2.1, aw_one.2.2] at this
    exact this
  have i2 : ∀ V b F, Mine W2 V b F [aw1] 0 → Calls Tryd.prog 12 #[.pointer (some ⟨b, 0, none⟩), .agg #[.int .i64 1, .int .i64 0, .int .i64 0, .int .i64 1, .int .i64 1, .int .i64 0, .bool true, .int .i64 0, .int .i64 0, .string ⟨#[97]⟩, .string ⟨#[]⟩]] V fun e w' => e = .returned (.int .i64 0) ∧ ∃ F', Mine W2 w' b F' [aw2, aw1] 1 := fun V b F h => by
    have := mine_insert h aw2 aw_wf.2.1 hT2
    rw [aw_two.1, aw_two.2.1, aw_two.2.2] at this
    exact this
  have i3 : ∀ V b F, Mine W2 V b F [aw2, aw1] 1 → Calls Tryd.prog 12 #[.pointer (some ⟨b, 0, none⟩), .agg #[.int .i64 2, .int .i64 0, .int .i64 0, .int .i64 1, .int .i64 2, .int .i64 0, .bool false, .int .i64 0, .int .i64 0, .string ⟨#[98]⟩, .string ⟨#[]⟩]] V fun e w' => e = .returned (.int .i64 0) ∧ ∃ F', Mine W2 w' b F' [aw2, aw3, aw1] 1 := fun V b F h => by
    have := mine_insert h aw3 aw_wf.2.2 hT2
    rw [aw_three.1, aw_three.2.1, aw_three.2.2] at this
    exact this
  have hno : ∀ V b F, Mine W2 V b F [aw2, aw3, aw1] 1 → Calls Tryd.prog 18 #[.pointer (some ⟨b, 0, none⟩)] V fun e w' => ∃ g off c F', e = .returned (.slice (some ⟨g, off, none⟩) 2 c) ∧ 2 ≤ c ∧ w'.cell? ⟨g, off + 7 + 3, none⟩ = some (.int .i64 1) ∧ w'.cell? ⟨g, off + 7 + 4, none⟩ = some (.int .i64 0) ∧ Mine W2 w' b F' [aw2, aw3, aw1] 1 := fun V b F h =>
    (mine_nodes h hT2).mono fun e w' ⟨v, F', he, hn, hs, _, _⟩ => by
      rw [aw_fold] at hn
      obtain ⟨g, off, c, rfl, hc, hat⟩ := hn.form (by decide)
      have a2 := hat 1 _ rfl
      exact ⟨g, off, c, F', he, hc, (nd_cells a2).2.2.2.1, (nd_cells a2).2.2.2.2.1, hs⟩
  have HW1 := Go.Lib.hid hW1; have HW2 := Go.Lib.hid hW2; have HB2 := Go.Lib.hid hb2; have HCELL := Go.Lib.hid hcell; have I1 := Go.Lib.hid i1; have I2 := Go.Lib.hid i2; have I3 := Go.Lib.hid i3; have HNO := Go.Lib.hid hno; have HT2 := Go.Lib.hid hT2
  clear hW1 hW2 hb1 hs1 hb2 hs2 ha1 ha hb hcell i1 i2 i3 hno hT2 hT
  have q1 := fun w => eq_st ⟨1, 0⟩ ⟨1, 0⟩ w
  rw [decide_eq_true rfl] at q1
  go_enter Tryd.func11, Tryd.ntmps11
  go_wp2_with fail
  rw [HW1.out, HW2.out]
  refine (mine_new HT2.out).mono ?_; rintro e V1 ⟨b, F1, rfl, hm1⟩
  obtain ⟨c0, c1, c2, c3⟩ := HCELL.out V1 hm1.bel
  have HM1 := Go.Lib.hid hm1; clear hm1
  go_wp2_with fail
  refine (I1.out _ _ _ HM1.out).mono ?_; rintro e V2 ⟨rfl, F2, hm2⟩
  clear c0 c1 c2 c3
  obtain ⟨c0, c1, c2, c3⟩ := HCELL.out V2 hm2.bel
  have HM2 := Go.Lib.hid hm2; clear hm2
  go_wp2_with fail
  refine (I2.out _ _ _ HM2.out).mono ?_; rintro e V3 ⟨rfl, F3, hm3⟩
  clear c0 c1 c2 c3
  obtain ⟨c0, c1, c2, c3⟩ := HCELL.out V3 hm3.bel
  have HM3 := Go.Lib.hid hm3; clear hm3
  go_wp2_with fail
  refine (I3.out _ _ _ HM3.out).mono ?_; rintro e V4 ⟨rfl, F4, hm4⟩
  clear c0 c1 c2 c3
  have HM4 := Go.Lib.hid hm4; clear hm4
  go_wp2_with fail
  refine (HNO.out _ _ _ HM4.out).mono ?_; rintro e V5 ⟨g, off, cc, F5, rfl, hcc, n3, n4, hm5⟩
  obtain ⟨c0, c1, c2, c3⟩ := HCELL.out V5 hm5.bel
  have hl3 := World.block_lt_of_cell? V5 _ n3
  have hl0 := World.block_lt_of_cell? V5 _ c0
  have hr : ∀ z : BW V5.heap.size V5, Calls Tryd.prog 16 #[.pointer (some ⟨b, 0, none⟩)] z.w fun e w' => e = .returned (.int .i64 1) ∧ Below z.w.heap.size z.w w' := fun z => predone_st _ _ _ _ _ (hm5.more z.2).st
  have HM5 := Go.Lib.hid hm5; have HR := Go.Lib.hid hr; clear hm5 hr
  have hne := BW.ne V5.heap.size V5
  have p0 := fun z : BW V5.heap.size V5 => z.cell n3 hl3
  have p1 := fun z : BW V5.heap.size V5 => z.cell n4 hl3
  have p2 := fun z : BW V5.heap.size V5 => z.cell c0 hl0
  have p3 := fun z : BW V5.heap.size V5 => z.cell c1 hl0
  go_wp2_with fail
  refine wp_region_calm V5.heap.size V5 (Below.refl _ _) (by kernel_rfl) (by kernel_rfl) ?_
  repeat (go_big_quiet_step ((go_at_call 16; with_reducible exact bw_of (Nat.le_refl _) (HR.out _))))
  refine wpQuiet_nil ?_
  intro _ hw'
  obtain ⟨z, rfl⟩ := hw'
  go_wp2_with fail
  go_ret
  exact ⟨rfl, bstep HB2.out (bstep HM5.out.bel z.2)⟩
end Go.Proofs.YtjeijolblcodpaaDoor.W
end
