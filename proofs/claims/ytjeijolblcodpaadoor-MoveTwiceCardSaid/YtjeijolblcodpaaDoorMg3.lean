/- Parts of the proof that all the laws of this package share, in their order. Each says what is in it. -/
import Derived.Test.YtjeijolblcodpaaDoorMg2
import Derived.WalkSpells
import Derived.WalkLawsBesides
import Derived.Outline
import Derived.Lib.Hide
import Derived.Deep.QuietTactic
import Derived.BigQuiet
import Derived.Test.YtjeijolblcodpaaDoorMg1

/- The reference of trees: whether two lists of nodes are the same. -/
section
namespace Go.Proofs.YtjeijolblcodpaaDoor.W
set_option maxRecDepth 20000
set_option linter.unusedVariables false
open Go.RowKit Go.Proofs Arb

theorem Nods.form {w : World} {v : Value} {l : List Nod} (h : Nods w v l) (h0 : 0 < l.length) : ∃ b off c, v = .slice (some ⟨b, off, none⟩) l.length c ∧ l.length ≤ c ∧ ∀ j x, l[j]? = some x → NodAt w b (off + j * 7) x := by
  obtain ⟨A, n, c, rfl, rfl, hc, _, hr⟩ := h
  obtain ⟨b, off, rfl, hz⟩ := hr h0
  exact ⟨b, off, c, rfl, hc, hz⟩
/-- A value that is nodes, its length told. -/
theorem Nods.len {w : World} {v : Value} {l : List Nod} (h : Nods w v l) : ∃ A c, v = .slice A l.length c ∧ l.length ≤ c := by
  obtain ⟨A, n, c, rfl, rfl, hc, _⟩ := h
  exact ⟨A, c, rfl, hc⟩
theorem Nods.at {w : World} {A : Option Addr} {n c : Nat} {l : List Nod} (h : Nods w (.slice A n c) l) (k : Nat) (hk : k < n) : ∃ b off x, A = some ⟨b, off, none⟩ ∧ l[k]? = some x ∧ NodAt w b (off + k * 7) x := by
  obtain ⟨A', n', c', he, hl, _, _, hr⟩ := h
  cases he
  obtain ⟨b, off, rfl, hz⟩ := hr (by omega)
  have hg := List.getElem?_eq_getElem (l := l) (i := k) (by omega)
  exact ⟨b, off, _, rfl, hg, hz k _ hg⟩
theorem ne_nd' (x y : Nod) (w : World) : (binOp .neq 49 (.agg #[.int .i64 x.id.count, .int .i64 x.id.who, .bool x.dir, .int .i64 x.parent.count, .int .i64 x.parent.who, .string (BS x.name), .string (BS x.manifest)]) (.agg #[.int .i64 y.id.count, .int .i64 y.id.who, .bool y.dir, .int .i64 y.parent.count, .int .i64 y.parent.who, .string (BS y.name), .string (BS y.manifest)])).run Tryd.prog w = .ok (.bool (!decide (x = y))) w := ne_nd x y w
theorem eq_nd' (x y : Nod) (w : World) : (binOp .eql 49 (.agg #[.int .i64 x.id.count, .int .i64 x.id.who, .bool x.dir, .int .i64 x.parent.count, .int .i64 x.parent.who, .string (BS x.name), .string (BS x.manifest)]) (.agg #[.int .i64 y.id.count, .int .i64 y.id.who, .bool y.dir, .int .i64 y.parent.count, .int .i64 y.parent.who, .string (BS y.name), .string (BS y.manifest)])).run Tryd.prog w = .ok (.bool (decide (x = y))) w := eq_nd x y w

set_option maxRecDepth 20000 in
set_option maxHeartbeats 4000000 in
theorem rsamends_any (u v : Value) (a b : List Nod) (w : World) (hu : Nods w u a) (hv : Nods w v b) (ha : a.length ≤ 1000000) (hb : b.length ≤ 1000000) :
    Calls Tryd.prog 17 #[u, v] w fun e w' => e = .returned (.bool (decide (a = b))) ∧ Below w.heap.size w w' := by
  obtain ⟨r, hr⟩ : ∃ r, decide (a = b) = r := ⟨_, rfl⟩
  rw [hr]
  obtain ⟨A1, c1, rfl, hc1⟩ := hu.len
  obtain ⟨A2, c2, rfl, hc2⟩ := hv.len
  by_cases hl : a.length = b.length
  · rw [← hl] at hv hc2 ⊢
    obtain ⟨n, hn⟩ : ∃ n, a.length = n := ⟨_, rfl⟩
    have hn2 : b.length = n := by omega
    rw [hn] at hu hv hc1 hc2 ha
    rw [hn]
    have HU := Go.Lib.hid hu; clear hu
    have HV := Go.Lib.hid hv; clear hv
    have HR := Go.Lib.hid hr; clear hr
    have HN := Go.Lib.hid hn
    have HN2 := Go.Lib.hid hn2
    clear hl hn hn2 hb
    go_enter Tryd.func17, Tryd.ntmps17
    go_wp2_with fail
    go_loopw [5, 11, 12, 13, 14, 15, 16, 17, 18, 19, 20, 21, 22, 23, 24, 25] (fun i _ _ _ _ _ _ _ _ _ _ _ _ _ _ _ wr => ∃ k : Nat, k ≤ n ∧ i = .int .i64 (k : Int) ∧ (∀ j, j < k → a[j]? = b[j]?) ∧ Below w.heap.size w wr) (fun i _ _ _ _ _ _ _ _ _ _ _ _ _ _ _ _ => n - (intOf i).toNat)
    case atStart => exact ⟨0, by omega, rfl, fun _ h => by omega, Below.refl _ _⟩
    case round =>
      obtain ⟨k, hk, rfl, hall, hbw⟩ := hrel
      have HALL := Go.Lib.hid hall; clear hall
      by_cases hkn : k < n
      · have hkn' : (k : Int) < (n : Int) := by omega
        obtain ⟨b1, o1, x, rfl, hg1, hx⟩ := (HU.out.below hbw).at k hkn
        obtain ⟨b2, o2, y, rfl, hg2, hy⟩ := (HV.out.below hbw).at k hkn
        obtain ⟨c0, c1, c2, c3, c4, c5, c6⟩ := nd_cells hx
        obtain ⟨d0, d1, d2, d3, d4, d5, d6⟩ := nd_cells hy
        have hq := fun w => ne_nd' x y w
        obtain ⟨q, hqe⟩ : ∃ q, decide (x = y) = q := ⟨_, rfl⟩
        rw [hqe] at hq
        have HBW := Go.Lib.hid hbw; clear hbw
        have HG1 := Go.Lib.hid hg1; clear hg1
        have HG2 := Go.Lib.hid hg2; clear hg2
        have HQ := Go.Lib.hid hqe; clear hqe
        clear hx hy
        cases q
        · go_wp2_with fail
          first | (go_quiet (fail)) | skip
          go_wp2_with fail
          go_ret
          refine ⟨?_, below_drewN HBW.out _⟩
          have hab : ¬ a = b := fun h => by
            have h1 := HG1.out
            rw [h, HG2.out] at h1
            injection h1 with h1
            exact of_decide_eq_false HQ.out h1.symm
          rw [← HR.out, decide_eq_false hab]; rfl
        · go_wp2_with fail
          first | (go_quiet (fail)) | skip
          go_wp2_with fail
          refine ⟨⟨k + 1, by omega, by simp, fun j hj => ?_, below_drewN HBW.out _⟩, by simp [intOf]; omega⟩
          rcases Nat.lt_or_ge j k with h | h
          · exact HALL.out j h
          · obtain rfl : j = k := by omega
            rw [HG1.out, HG2.out, of_decide_eq_true HQ.out]
      · obtain rfl : k = n := by omega
        have HBW := Go.Lib.hid hbw; clear hbw
        go_wp2_with fail
        go_ret
        refine ⟨?_, HBW.out⟩
        have hab : a = b := eq_of_getElem a b (by rw [HN.out, HN2.out]) (by rw [HN.out]; exact HALL.out)
        rw [← HR.out, decide_eq_true hab]; rfl
  · have hrf : r = false := by rw [← hr]; simp; intro h; exact hl (by rw [h])
    subst hrf
    have hne : ((a.length : Int) != (b.length : Int)) = true := by simp; omega
    clear hr hu hv
    go_enter Tryd.func17, Tryd.ntmps17
    go_wp2_with fail
    go_ret
    exact ⟨rfl, Below.refl _ _⟩
end Go.Proofs.YtjeijolblcodpaaDoor.W
end

/- More mathematics of trees: chains, what stays, what is done twice. -/
section
namespace Arb
set_option maxRecDepth 20000
set_option linter.unusedVariables false

/-- A chain in a tree goes on to the root or the trash. -/
theorem chainGo_tree {l : List Nod} (hT : Tree l) (f : St → Nat) (hf : ∀ n ∈ l, isNode l n.parent → f n.parent < f n.id) : ∀ (k : Nat) (out : List St) (s : St),
    (l.filter fun y => decide (y.id ∉ out)).length < k → out ≠ [] → (isNode l s → ∀ u ∈ out, f s < f u) → (isNode l s ∨ s = St.zero ∨ s = St.trash) →
    ∃ r, chainGo l k out s = out ++ s :: r ∧ ((s :: r).getLast? = some St.zero ∨ (s :: r).getLast? = some St.trash)
  | 0, _, _, h, _, _, _ => by omega
  | k + 1, out, s, hk, h0, ho, hs => by
    cases hfd : findOf l s with
    | none =>
      refine ⟨[], by unfold chainGo; rw [hfd]; simp [h0], ?_⟩
      rcases hs with ⟨n, hn, he⟩ | h | h
      · exact absurd he (findOf_none.1 hfd n hn)
      · exact .inl (by rw [h]; rfl)
      · exact .inr (by rw [h]; rfl)
    | some n =>
      obtain ⟨hn, he⟩ := findOf_some hfd
      subst he
      have hout : n.id ∉ out := fun h => by have := ho ⟨n, hn, rfl⟩ _ h; omega
      have hlt := left_lt hn hout
      obtain ⟨r, h1, h2⟩ := chainGo_tree hT f hf k (out ++ [n.id]) n.parent (by omega) (by simp) (fun hp u hu => by
        have h4 := hf _ hn hp
        rcases List.mem_append.1 hu with hu | hu
        · have := ho ⟨_, hn, rfl⟩ u hu
          omega
        · rw [List.mem_singleton.1 hu]
          exact h4) (by
        rcases hT.par n hn with h | h | ⟨m, hm, h1, _⟩
        · exact .inr (.inl h)
        · exact .inr (.inr h)
        · exact .inl ⟨m, hm, h1⟩)
      refine ⟨n.parent :: r, ?_, ?_⟩
      · rw [show chainGo l (k + 1) out n.id = chainGo l k (out ++ [n.id]) n.parent by
          rw [chainGo, hfd]
          simp only [hout, if_false]]
        rw [h1]
        simp
      · rw [List.getLast?_cons_cons]
        exact h2
theorem Tree.chain {l : List Nod} (hT : Tree l) {n : Nod} (hn : n ∈ l) : ∃ r, chainOf l n.id = n.id :: n.parent :: r ∧ ((n.parent :: r).getLast? = some St.zero ∨ (n.parent :: r).getLast? = some St.trash) := by
  obtain ⟨f, hf⟩ := hT.high
  have hlt := left_lt (out := []) hn (by simp)
  obtain ⟨r, h1, h2⟩ := chainGo_tree hT f hf l.length [n.id] n.parent (by
      rw [List.nil_append] at hlt
      have := List.length_filter_le (fun y : Nod => decide (y.id ∉ ([] : List St))) l
      omega) (by simp) (fun hp u hu => by rw [List.mem_singleton.1 hu]; exact hf n hn hp) (by
    rcases hT.par n hn with h | h | ⟨m, hm, h1, _⟩
    · exact .inr (.inl h)
    · exact .inr (.inr h)
    · exact .inl ⟨m, hm, h1⟩)
  refine ⟨r, ?_, h2⟩
  unfold chainOf
  rw [chainGo, hT.rise.find hn]
  simp only [List.not_mem_nil, if_false, List.nil_append]
  rw [h1]
  rfl

theorem swap_rises {l1 l2 : List Nod} {n m : Nod} (h : Rises (l1 ++ n :: l2)) (hid : m.id = n.id) : Rises (l1 ++ m :: l2) := by
  have h1 : ((l1 ++ n :: l2).map Nod.id).Pairwise fun a b => a.less b = true := List.pairwise_map.2 h
  have h2 : (l1 ++ m :: l2).map Nod.id = (l1 ++ n :: l2).map Nod.id := by simp [hid]
  rw [← h2] at h1
  exact List.pairwise_map.1 h1
theorem Rises.step {l : List Nod} (h : Rises l) (x : Opn) : Rises (doOf l x) := by
  unfold doOf
  cases hf : findOf l x.node with
  | none =>
    show Rises (if x.kind = 1 then insNod l (madeOf l x) else l)
    split
    · exact insNod_rise l _ h (findOf_none.1 hf)
    · exact h
  | some n =>
    show Rises (if x.kind = 1 then l else l.set (atOf l x.node) (turnOf l x n))
    split
    · exact h
    · obtain ⟨l1, l2, h1, h2, h3, -⟩ := at_parts l x.node n hf
      rw [h2]
      have hid := turnOf_id l x n
      obtain ⟨m, hm⟩ : ∃ m, turnOf l x n = m := ⟨_, rfl⟩
      rw [hm] at hid ⊢
      rw [h1] at h ⊢
      rw [set_parts]
      exact swap_rises h hid
theorem doOf_length (l : List Nod) (x : Opn) : (doOf l x).length = l.length ∨ (doOf l x).length = l.length + 1 := by
  unfold doOf
  cases hf : findOf l x.node with
  | none =>
    show (if x.kind = 1 then insNod l (madeOf l x) else l).length = _ ∨ (if x.kind = 1 then insNod l (madeOf l x) else l).length = _
    split
    · exact .inr (insNod_length l _)
    · exact .inl rfl
  | some n =>
    show (if x.kind = 1 then l else l.set (atOf l x.node) (turnOf l x n)).length = _ ∨ (if x.kind = 1 then l else l.set (atOf l x.node) (turnOf l x n)).length = _
    split
    · exact .inl rfl
    · exact .inl (List.length_set ..)
/-- A node stays, and what it is; another one's stays as it is. -/
theorem Rises.stays {l : List Nod} (h : Rises l) (x : Opn) (y : Nod) (hy : y ∈ l) : ∃ m, findOf (doOf l x) y.id = some m ∧ m.dir = y.dir ∧ (m = y ∨ m.id = x.node) := by
  have hr := h.step x
  suffices hs : ∃ m ∈ doOf l x, m.id = y.id ∧ m.dir = y.dir ∧ (m = y ∨ m.id = x.node) by
    obtain ⟨m, h1, h2, h3, h4⟩ := hs
    exact ⟨m, by rw [← h2]; exact hr.find h1, h3, h4⟩
  clear hr
  unfold doOf
  cases hf : findOf l x.node with
  | none =>
    show ∃ m ∈ (if x.kind = 1 then insNod l (madeOf l x) else l), _
    split
    · exact ⟨y, (insNod_mem l _ y).2 (.inr hy), rfl, rfl, .inl rfl⟩
    · exact ⟨y, hy, rfl, rfl, .inl rfl⟩
  | some n =>
    show ∃ m ∈ (if x.kind = 1 then l else l.set (atOf l x.node) (turnOf l x n)), _
    split
    · exact ⟨y, hy, rfl, rfl, .inl rfl⟩
    · obtain ⟨l1, l2, h1, h2, h3, -⟩ := at_parts l x.node n hf
      rw [h2]
      have hid := turnOf_id l x n
      have hdir := turnOf_dir l x n
      obtain ⟨m, hm⟩ : ∃ m, turnOf l x n = m := ⟨_, rfl⟩
      rw [hm] at hid hdir ⊢
      rw [h1] at hy ⊢
      rw [set_parts]
      rcases List.mem_append.1 hy with k | k
      · exact ⟨y, List.mem_append_left _ k, rfl, rfl, .inl rfl⟩
      · rcases List.mem_cons.1 k with k | k
        · subst k
          exact ⟨m, List.mem_append_right _ (List.mem_cons_self ..), hid, hdir, .inr (hid.trans h3)⟩
        · exact ⟨y, List.mem_append_right _ (List.mem_cons_of_mem _ k), rfl, rfl, .inl rfl⟩

theorem turnOf_twice (l l' : List Nod) (x : Opn) (n : Nod) (h : turnOf l x n = n → l' = l) : turnOf l' x (turnOf l x n) = turnOf l x n := by
  by_cases he : turnOf l x n = n
  · rw [h he, he, he]
  · unfold turnOf at he ⊢
    by_cases h2 : x.kind = 2
    · rw [if_pos h2] at he ⊢
      rw [if_pos h2]
      split at he
      · exact absurd rfl he
      · rename_i hc
        rw [if_neg hc]
        split <;> rfl
    · rw [if_neg h2] at he ⊢
      rw [if_neg h2]
      by_cases h3 : x.kind = 3
      · rw [if_pos h3] at he ⊢
        rw [if_pos h3]
        split at he
        · exact absurd rfl he
        · rename_i hc
          rw [if_neg hc]
          split <;> rfl
      · rw [if_neg h3] at he ⊢
        rw [if_neg h3]
        split at he
        · rename_i h4
          rw [if_pos h4, if_pos h4]
        · exact absurd rfl he
theorem findOf_swap {l1 l2 : List Nod} {s : St} {m : Nod} (hid : m.id = s) (h : ∀ y ∈ l1, y.id ≠ s) : findOf (l1 ++ m :: l2) s = some m := by
  unfold findOf
  rw [List.find?_append]
  have : l1.find? (fun n => decide (n.id = s)) = none := by simpa using h
  rw [this]
  simp [hid]
theorem atOf_swap {l1 l2 : List Nod} {s : St} {m : Nod} (hid : m.id = s) (h : ∀ y ∈ l1, y.id ≠ s) : atOf (l1 ++ m :: l2) s = l1.length := by
  unfold atOf
  induction l1 with
  | nil => simp [List.findIdx_cons, hid]
  | cons a l1 ih =>
    rw [List.cons_append, List.findIdx_cons]
    have := h a (List.mem_cons_self ..)
    simp [this, ih fun y hy => h y (List.mem_cons_of_mem _ hy)]
/-- Done twice is as done once. -/
theorem doOf_twice (l : List Nod) (x : Opn) (hk : x.kind ≠ 1) : doOf (doOf l x) x = doOf l x := by
  cases hf : findOf l x.node with
  | none =>
    have h1 : doOf l x = l := by unfold doOf; rw [hf]; exact if_neg hk
    rw [h1, h1]
  | some n =>
    have h1 : doOf l x = l.set (atOf l x.node) (turnOf l x n) := by unfold doOf; rw [hf]; exact if_neg hk
    obtain ⟨l1, l2, k1, k2, k3, k4⟩ := at_parts l x.node n hf
    have hid : (turnOf l x n).id = x.node := (turnOf_id l x n).trans k3
    have h2 : doOf l x = l1 ++ turnOf l x n :: l2 := by
      rw [h1, k2]
      obtain ⟨m, hm⟩ : ∃ m, turnOf l x n = m := ⟨_, rfl⟩
      rw [hm, k1, set_parts]
    have h3 := turnOf_twice l (doOf l x) x n (fun he => by rw [h2, he, k1])
    rw [h2] at h3 ⊢
    conv => lhs; unfold doOf
    rw [findOf_swap hid k4]
    show (if x.kind = 1 then _ else _) = _
    rw [if_neg hk, atOf_swap hid k4, h3, set_parts]
end Arb
end

/- Rows of nodes: what is appended to them. -/
section
namespace Go.Proofs.YtjeijolblcodpaaDoor.W
set_option maxRecDepth 20000
set_option linter.unusedVariables false
open Go.RowKit Go.Proofs Arb

theorem info_nd : (Tryd.prog.info? 49).map (fun i => (i.zero, i.size, i.bytes)) = some (some (.agg #[.int .i64 0, .int .i64 0, .bool false, .int .i64 0, .int .i64 0, .string ⟨#[]⟩, .string ⟨#[]⟩]), 7, 72) := by kernel_rfl
/-- The cells of nodes, one behind the other. -/
def ndsCells (l : List Nod) : List Value := (l.map ndCells).flatten
theorem ndsCells_length (l : List Nod) : (ndsCells l).length = l.length * 7 := by
  induction l with
  | nil => rfl
  | cons x l ih =>
    show (ndCells x ++ ndsCells l).length = _
    rw [List.length_append, ih, List.length_cons]
    show 7 + l.length * 7 = _
    omega
theorem ndsCells_append (l m : List Nod) : ndsCells (l ++ m) = ndsCells l ++ ndsCells m := by simp [ndsCells]
theorem ndsCells_one (x : Nod) : ndsCells [x] = ndCells x := by simp [ndsCells]
theorem ndsCells_at : ∀ (l : List Nod) (j : Nat) (x : Nod), l[j]? = some x → ∀ (i : Nat) (v : Value), (ndCells x)[i]? = some v → (ndsCells l)[j * 7 + i]? = some v
  | [], j, x, h, _, _, _ => by simp at h
  | y :: l, j, x, h, i, v, hv => by
    have hi : i < 7 := (List.getElem?_eq_some_iff.1 hv).1
    show (ndCells y ++ ndsCells l)[j * 7 + i]? = some v
    cases j with
    | zero =>
      simp at h
      subst h
      rw [List.getElem?_append_left (by show 0 * 7 + i < 7; omega), Nat.zero_mul, Nat.zero_add]
      exact hv
    | succ j =>
      have h' : l[j]? = some x := by simpa using h
      have := ndsCells_at l j x h' i v hv
      rw [List.getElem?_append_right (by show 7 ≤ _; omega)]
      show (ndsCells l)[(j + 1) * 7 + i - 7]? = some v
      rw [show (j + 1) * 7 + i - 7 = j * 7 + i by omega]
      exact this
theorem Nods.of_row {w : World} {base : Nat} {e : TypeId} {v : Value} {n : Nat} {l : List Nod} (h : Row w base e 7 v n (ndsCells l)) : Nods w v l := by
  have hl : l.length = n := by have := h.1; rw [ndsCells_length] at this; omega
  rcases Nat.eq_zero_or_pos n with h0 | h0
  · subst h0
    rcases h.2 with ⟨rfl, _⟩ | ⟨g, cap, cur, fz, rfl, _⟩
    · exact ⟨none, 0, 0, rfl, hl, Nat.le_refl _, fun _ => rfl, fun h => by omega⟩
    · exact ⟨_, 0, cap, rfl, hl, Nat.zero_le _, nofun, fun h => by omega⟩
  · obtain ⟨g, cap, rfl, hc, _, _, hcell, _⟩ := h.open h0
    refine ⟨_, n, cap, rfl, hl, hc, nofun, fun _ => ⟨g, 0, rfl, fun j x hj => ?_⟩⟩
    intro i v hv
    rw [show 0 + j * 7 + i = j * 7 + i by omega]
    exact hcell _ _ (ndsCells_at l j x hj i v hv)
theorem nd_oneCell (x : Nod) : ∀ u ∈ ndCells x, u.oneCell' = true := by
  intro u hu
  simp only [ndCells, List.mem_cons, List.not_mem_nil, or_false] at hu
  rcases hu with rfl | rfl | rfl | rfl | rfl | rfl | rfl <;> simp [Value.oneCell']
theorem nds_oneCell (l : List Nod) : ∀ u ∈ ndsCells l, u.oneCell' = true := by
  intro u hu
  obtain ⟨c, hc, hu⟩ := List.mem_flatten.1 hu
  obtain ⟨x, _, rfl⟩ := List.mem_map.1 hc
  exact nd_oneCell x u hu
/-- The first k nodes, as a slice that is appended. -/
theorem Nods.rdTake {w : World} {A : Option Addr} {n c : Nat} {l : List Nod} (h : Nods w (.slice A n c) l) (k : Nat) (hk : k ≤ n) : Rd w 7 (.slice A k c) k (ndsCells (l.take k)) := by
  obtain ⟨A', n', c', he, hl, hc, hA, hr⟩ := h
  cases he
  refine ⟨by rw [ndsCells_length, List.length_take]; omega, ?_⟩
  cases A with
  | none =>
    left
    have := hA rfl
    have h0 : k = 0 := by omega
    rw [this, h0]
    exact ⟨rfl, rfl⟩
  | some a =>
    right
    refine ⟨a, c, rfl, fun j u hu => ?_⟩
    have hj : j < k * 7 := by have := (List.getElem?_eq_some_iff.1 hu).1; rw [ndsCells_length, List.length_take] at this; omega
    obtain ⟨b, off, he, hz⟩ := hr (by omega)
    cases he
    have hq : j / 7 < k := by omega
    have hx : (l.take k)[j / 7]? = l[j / 7]? := by rw [List.getElem?_take, if_pos hq]
    have hg := List.getElem?_eq_getElem (l := l) (i := j / 7) (by omega)
    have hop := hz _ _ hg
    have hc := ndsCells_at (l.take k) (j / 7) _ (hx.trans hg) (j % 7) ((ndCells (l[j / 7]'(by omega)))[j % 7]'(by show j % 7 < 7; omega)) (List.getElem?_eq_getElem _)
    rw [show j / 7 * 7 + j % 7 = j by omega, hu] at hc
    injection hc with hc
    rw [Go.Lib.addr_add, hc]
    have := hop (j % 7) _ (List.getElem?_eq_getElem (by show j % 7 < 7; omega))
    rw [show off + j / 7 * 7 + j % 7 = off + j by omega] at this
    exact this
/-- The nodes from the k-th on, as a slice that is appended. -/
theorem Nods.rdDrop {w : World} {b off : Nat} {n c : Nat} {l : List Nod} (h : Nods w (.slice (some ⟨b, off, none⟩) n c) l) (k : Nat) (hk : k ≤ n) (o : Nat) (ho : k < n → o = off + k * 7) (m : Nat) (hm : m = n - k) (c2 : Nat) : Rd w 7 (.slice (some ⟨b, o, none⟩) m c2) m (ndsCells (l.drop k)) := by
  obtain ⟨A', n', c', he, hl, hc, hA, hr⟩ := h
  cases he
  subst hm
  refine ⟨by rw [ndsCells_length, List.length_drop]; omega, .inr ⟨_, c2, rfl, fun j u hu => ?_⟩⟩
  have hj : j < (n - k) * 7 := by have := (List.getElem?_eq_some_iff.1 hu).1; rw [ndsCells_length, List.length_drop] at this; omega
  obtain ⟨b', off', he, hz⟩ := hr (by omega)
  cases he
  rw [ho (by omega)]
  have hg := List.getElem?_eq_getElem (l := l) (i := k + j / 7) (by omega)
  have hx : (l.drop k)[j / 7]? = l[k + j / 7]? := by rw [List.getElem?_drop]
  have hop := hz _ _ hg
  have hc := ndsCells_at (l.drop k) (j / 7) _ (hx.trans hg) (j % 7) ((ndCells (l[k + j / 7]'(by omega)))[j % 7]'(by show j % 7 < 7; omega)) (List.getElem?_eq_getElem _)
  rw [show j / 7 * 7 + j % 7 = j by omega, hu] at hc
  injection hc with hc
  rw [Go.Lib.addr_add, hc]
  have := hop (j % 7) _ (List.getElem?_eq_getElem (by show j % 7 < 7; omega))
  rw [show off + (k + j / 7) * 7 + j % 7 = off + k * 7 + j by omega] at this
  exact this

/-- 'append(s, l...)' of nodes. -/
theorem wpList_append_nds {ops : Array Oper} {rest : List Oper} {o : Oper} {a : Act} {w : World} {Q : Exit → Act → World → Prop} (hgd : o.guard = none) (s x : Operand)
    (ho : o.op = .call { callee := .builtin .append, args := #[s, x], argTypes := #[40, 40] })
    (base : Nat) (v : Value) (n : Nat) (l : List Nod) (hs : a.eval s = v) (hown : Row w base 49 7 v n (ndsCells l))
    (vx : Value) (m : Nat) (k : List Nod) (hx : a.eval x = vx) (hr : Rd w 7 vx m (ndsCells k))
    (h63 : n ≤ 1000000) (h64 : m ≤ 1000000) (hbase : base ≤ w.heap.size)
    (h : ∀ v' w', Row w' base 49 7 v' (n + m) (ndsCells (l ++ k)) → Below base w w' → wpList Tryd.prog ops Q rest (a.put o.dst v') w') :
    wpList Tryd.prog ops Q (o :: rest) a w := by
  obtain ⟨i0, hi, hz0, hz1, hz2⟩ := info_parts info_nd
  refine wpList_append_row hgd s x 40 ho base 49 i0 _ 7 72 Tryd.underlying40 hi hz0 hz1 hz2 rfl (by decide) v n _ hs hown vx m (ndsCells k) hx hr (nds_oneCell _) (by unfold maxLen; omega) (by omega) hbase ?_
  intro v' w' hr hg _
  exact h v' w' (by rw [ndsCells_append]; exact hr) ((Below.refl base w).grown hg hbase fun k hk => (hown.lt k hk).1)

/-- 'append(s, x)' of one node: x lies in a new block of its own first. -/
theorem wpList_append_nd {ops : Array Oper} {rest : List Oper} {o : Oper} {a : Act} {w : World} {Q : Exit → Act → World → Prop} (hgd : o.guard = none) (s x : Operand)
    (ho : o.op = .call { callee := .builtin .append, args := #[s, x], argTypes := #[40, 40] })
    (base : Nat) (v : Value) (n : Nat) (l : List Nod) (hs : a.eval s = v) (hown : Row w base 49 7 v n (ndsCells l))
    (y : Nod) (cs : Array Value) (hcs : cs = ndArr y) (hx : a.eval x = .slice (some ⟨w.heap.size, 0, none⟩) 1 1)
    (h63 : n ≤ 1000000) (hbase : base ≤ w.heap.size)
    (h : ∀ v' w', Row w' base 49 7 v' (n + 1) (ndsCells (l ++ [y])) → Below base w w' → wpList Tryd.prog ops Q rest (a.put o.dst v') w') :
    wpList Tryd.prog ops Q (o :: rest) a (w.alloc (.cells cs 49)) := by
  subst hcs
  obtain ⟨i0, hi, hz0, hz1, hz2⟩ := info_parts info_nd
  refine wpList_append_row hgd s x 40 ho base 49 i0 _ 7 72 Tryd.underlying40 hi hz0 hz1 hz2 rfl (by decide) v n _ hs (hown.alloc _) _ 1 (ndsCells [y]) hx ?_ (nds_oneCell _) (by unfold maxLen; omega) (by omega) (by simp; omega) ?_
  · have := Rd.new w (ndArr y) 49 1 1 7 rfl
    rw [ndsCells_one]
    simpa [ndArr] using this
  · intro v' w' hr hg _
    exact h v' w' (by rw [ndsCells_append]; exact hr) (((Below.refl base w).alloc hbase _).grown hg (by simp; omega) fun k hk => (hown.lt k hk).1)
end Go.Proofs.YtjeijolblcodpaaDoor.W
end

/- Rows of operations: what is appended to them. -/
section
namespace Go.Proofs.YtjeijolblcodpaaDoor.W
set_option maxRecDepth 20000
set_option linter.unusedVariables false
open Go.RowKit Go.Proofs Arb

theorem info_op : (Tryd.prog.info? 35).map (fun i => (i.zero, i.size, i.bytes)) = some (some (.agg #[.int .i64 0, .int .i64 0, .int .i64 0, .int .i64 0, .int .i64 0, .int .i64 0, .bool false, .int .i64 0, .int .i64 0, .string ⟨#[]⟩, .string ⟨#[]⟩]), 11, 104) := by kernel_rfl
/-- The cells of operations, one behind the other. -/
def opsCells (l : List Opn) : List Value := (l.map opCells).flatten
theorem opsCells_length (l : List Opn) : (opsCells l).length = l.length * 11 := by
  induction l with
  | nil => rfl
  | cons x l ih =>
    show (opCells x ++ opsCells l).length = _
    rw [List.length_append, ih, List.length_cons]
    show 11 + l.length * 11 = _
    omega
theorem opsCells_append (l m : List Opn) : opsCells (l ++ m) = opsCells l ++ opsCells m := by simp [opsCells]
theorem opsCells_one (x : Opn) : opsCells [x] = opCells x := by simp [opsCells]
theorem opsCells_at : ∀ (l : List Opn) (j : Nat) (x : Opn), l[j]? = some x → ∀ (i : Nat) (v : Value), (opCells x)[i]? = some v → (opsCells l)[j * 11 + i]? = some v
  | [], j, x, h, _, _, _ => by simp at h
  | y :: l, j, x, h, i, v, hv => by
    have hi : i < 11 := (List.getElem?_eq_some_iff.1 hv).1
    show (opCells y ++ opsCells l)[j * 11 + i]? = some v
    cases j with
    | zero =>
      simp at h
      subst h
      rw [List.getElem?_append_left (by show 0 * 11 + i < 11; omega), Nat.zero_mul, Nat.zero_add]
      exact hv
    | succ j =>
      have h' : l[j]? = some x := by simpa using h
      have := opsCells_at l j x h' i v hv
      rw [List.getElem?_append_right (by show 11 ≤ _; omega)]
      show (opsCells l)[(j + 1) * 11 + i - 11]? = some v
      rw [show (j + 1) * 11 + i - 11 = j * 11 + i by omega]
      exact this
theorem Opns.of_row {w : World} {base : Nat} {e : TypeId} {v : Value} {n : Nat} {l : List Opn} (h : Row w base e 11 v n (opsCells l)) : Opns w v l := by
  have hl : l.length = n := by have := h.1; rw [opsCells_length] at this; omega
  rcases Nat.eq_zero_or_pos n with h0 | h0
  · subst h0
    rcases h.2 with ⟨rfl, _⟩ | ⟨g, cap, cur, fz, rfl, _⟩
    · exact ⟨none, 0, 0, rfl, hl, Nat.le_refl _, fun _ => rfl, fun h => by omega⟩
    · exact ⟨_, 0, cap, rfl, hl, Nat.zero_le _, nofun, fun h => by omega⟩
  · obtain ⟨g, cap, rfl, hc, _, _, hcell, _⟩ := h.open h0
    refine ⟨_, n, cap, rfl, hl, hc, nofun, fun _ => ⟨g, 0, rfl, fun j x hj => ?_⟩⟩
    intro i v hv
    rw [show 0 + j * 11 + i = j * 11 + i by omega]
    exact hcell _ _ (opsCells_at l j x hj i v hv)
theorem op_oneCell (x : Opn) : ∀ u ∈ opCells x, u.oneCell' = true := by
  intro u hu
  simp only [opCells, List.mem_cons, List.not_mem_nil, or_false] at hu
  rcases hu with rfl | rfl | rfl | rfl | rfl | rfl | rfl | rfl | rfl | rfl | rfl <;> simp [Value.oneCell']
theorem ops_oneCell (l : List Opn) : ∀ u ∈ opsCells l, u.oneCell' = true := by
  intro u hu
  obtain ⟨c, hc, hu⟩ := List.mem_flatten.1 hu
  obtain ⟨x, _, rfl⟩ := List.mem_map.1 hc
  exact op_oneCell x u hu
/-- The first k operations, as a slice that is appended. -/
theorem Opns.rdTake {w : World} {A : Option Addr} {n c : Nat} {l : List Opn} (h : Opns w (.slice A n c) l) (k : Nat) (hk : k ≤ n) : Rd w 11 (.slice A k c) k (opsCells (l.take k)) := by
  obtain ⟨A', n', c', he, hl, hc, hA, hr⟩ := h
  cases he
  refine ⟨by rw [opsCells_length, List.length_take]; omega, ?_⟩
  cases A with
  | none =>
    left
    have := hA rfl
    have h0 : k = 0 := by omega
    rw [this, h0]
    exact ⟨rfl, rfl⟩
  | some a =>
    right
    refine ⟨a, c, rfl, fun j u hu => ?_⟩
    have hj : j < k * 11 := by have := (List.getElem?_eq_some_iff.1 hu).1; rw [opsCells_length, List.length_take] at this; omega
    obtain ⟨b, off, he, hz⟩ := hr (by omega)
    cases he
    have hq : j / 11 < k := by omega
    have hx : (l.take k)[j / 11]? = l[j / 11]? := by rw [List.getElem?_take, if_pos hq]
    have hg := List.getElem?_eq_getElem (l := l) (i := j / 11) (by omega)
    have hop := hz _ _ hg
    have hc := opsCells_at (l.take k) (j / 11) _ (hx.trans hg) (j % 11) ((opCells (l[j / 11]'(by omega)))[j % 11]'(by show j % 11 < 11; omega)) (List.getElem?_eq_getElem _)
    rw [show j / 11 * 11 + j % 11 = j by omega, hu] at hc
    injection hc with hc
    rw [Go.Lib.addr_add, hc]
    have := hop (j % 11) _ (List.getElem?_eq_getElem (by show j % 11 < 11; omega))
    rw [show off + j / 11 * 11 + j % 11 = off + j by omega] at this
    exact this
/-- The operations from the k-th on, as a slice that is appended. -/
theorem Opns.rdDrop {w : World} {b off : Nat} {n c : Nat} {l : List Opn} (h : Opns w (.slice (some ⟨b, off, none⟩) n c) l) (k : Nat) (hk : k ≤ n) (o : Nat) (ho : k < n → o = off + k * 11) (m : Nat) (hm : m = n - k) (c2 : Nat) : Rd w 11 (.slice (some ⟨b, o, none⟩) m c2) m (opsCells (l.drop k)) := by
  obtain ⟨A', n', c', he, hl, hc, hA, hr⟩ := h
  cases he
  subst hm
  refine ⟨by rw [opsCells_length, List.length_drop]; omega, .inr ⟨_, c2, rfl, fun j u hu => ?_⟩⟩
  have hj : j < (n - k) * 11 := by have := (List.getElem?_eq_some_iff.1 hu).1; rw [opsCells_length, List.length_drop] at this; omega
  obtain ⟨b', off', he, hz⟩ := hr (by omega)
  cases he
  rw [ho (by omega)]
  have hg := List.getElem?_eq_getElem (l := l) (i := k + j / 11) (by omega)
  have hx : (l.drop k)[j / 11]? = l[k + j / 11]? := by rw [List.getElem?_drop]
  have hop := hz _ _ hg
  have hc := opsCells_at (l.drop k) (j / 11) _ (hx.trans hg) (j % 11) ((opCells (l[k + j / 11]'(by omega)))[j % 11]'(by show j % 11 < 11; omega)) (List.getElem?_eq_getElem _)
  rw [show j / 11 * 11 + j % 11 = j by omega, hu] at hc
  injection hc with hc
  rw [Go.Lib.addr_add, hc]
  have := hop (j % 11) _ (List.getElem?_eq_getElem (by show j % 11 < 11; omega))
  rw [show off + (k + j / 11) * 11 + j % 11 = off + k * 11 + j by omega] at this
  exact this

/-- 'append(s, l...)' of operations. -/
theorem wpList_append_ops {ops : Array Oper} {rest : List Oper} {o : Oper} {a : Act} {w : World} {Q : Exit → Act → World → Prop} (hgd : o.guard = none) (s x : Operand)
    (ho : o.op = .call { callee := .builtin .append, args := #[s, x], argTypes := #[22, 22] })
    (base : Nat) (v : Value) (n : Nat) (l : List Opn) (hs : a.eval s = v) (hown : Row w base 35 11 v n (opsCells l))
    (vx : Value) (m : Nat) (k : List Opn) (hx : a.eval x = vx) (hr : Rd w 11 vx m (opsCells k))
    (h63 : n ≤ 1000000) (h64 : m ≤ 1000000) (hbase : base ≤ w.heap.size)
    (h : ∀ v' w', Row w' base 35 11 v' (n + m) (opsCells (l ++ k)) → Below base w w' → wpList Tryd.prog ops Q rest (a.put o.dst v') w') :
    wpList Tryd.prog ops Q (o :: rest) a w := by
  obtain ⟨i0, hi, hz0, hz1, hz2⟩ := info_parts info_op
  refine wpList_append_row hgd s x 22 ho base 35 i0 _ 11 104 Tryd.underlying22 hi hz0 hz1 hz2 rfl (by decide) v n _ hs hown vx m (opsCells k) hx hr (ops_oneCell _) (by unfold maxLen; omega) (by omega) hbase ?_
  intro v' w' hr hg _
  exact h v' w' (by rw [opsCells_append]; exact hr) ((Below.refl base w).grown hg hbase fun k hk => (hown.lt k hk).1)

/-- 'append(s, x)' of one operation: x lies in a new block of its own first. -/
theorem wpList_append_op {ops : Array Oper} {rest : List Oper} {o : Oper} {a : Act} {w : World} {Q : Exit → Act → World → Prop} (hgd : o.guard = none) (s x : Operand)
    (ho : o.op = .call { callee := .builtin .append, args := #[s, x], argTypes := #[22, 22] })
    (base : Nat) (v : Value) (n : Nat) (l : List Opn) (hs : a.eval s = v) (hown : Row w base 35 11 v n (opsCells l))
    (y : Opn) (cs : Array Value) (hcs : cs = opArr y) (hx : a.eval x = .slice (some ⟨w.heap.size, 0, none⟩) 1 1)
    (h63 : n ≤ 1000000) (hbase : base ≤ w.heap.size)
    (h : ∀ v' w', Row w' base 35 11 v' (n + 1) (opsCells (l ++ [y])) → Below base w w' → wpList Tryd.prog ops Q rest (a.put o.dst v') w') :
    wpList Tryd.prog ops Q (o :: rest) a (w.alloc (.cells cs 35)) := by
  subst hcs
  obtain ⟨i0, hi, hz0, hz1, hz2⟩ := info_parts info_op
  refine wpList_append_row hgd s x 22 ho base 35 i0 _ 11 104 Tryd.underlying22 hi hz0 hz1 hz2 rfl (by decide) v n _ hs (hown.alloc _) _ 1 (opsCells [y]) hx ?_ (ops_oneCell _) (by unfold maxLen; omega) (by omega) (by simp; omega) ?_
  · have := Rd.new w (opArr y) 35 1 1 11 rfl
    rw [opsCells_one]
    simpa [opArr] using this
  · intro v' w' hr hg _
    exact h v' w' (by rw [opsCells_append]; exact hr) (((Below.refl base w).alloc hbase _).grown hg (by simp; omega) fun k hk => (hown.lt k hk).1)
end Go.Proofs.YtjeijolblcodpaaDoor.W
end

/- More mathematics of trees: a chain step by step, folds step by step. -/
section
namespace Arb
set_option maxRecDepth 20000
set_option linter.unusedVariables false

theorem chainGo_none {l : List Nod} {s : St} (h : findOf l s = none) (k : Nat) (out : List St) : chainGo l (k + 1) out s = if out = [] then [] else out ++ [s] := by
  rw [chainGo, h]
theorem chainGo_again {l : List Nod} {s : St} {n : Nod} (h : findOf l s = some n) {out : List St} (hs : s ∈ out) (k : Nat) : chainGo l (k + 1) out s = out := by
  rw [chainGo, h]
  simp only [hs, if_true]
theorem chainGo_on {l : List Nod} {s : St} {n : Nod} (h : findOf l s = some n) {out : List St} (hs : s ∉ out) (k : Nat) : chainGo l (k + 1) out s = chainGo l k (out ++ [s]) n.parent := by
  rw [chainGo, h]
  simp only [hs, if_false]
/-- How many nodes were not gone through yet. -/
def stillOf (l : List Nod) (out : List St) : Nat := (l.filter fun y => decide (y.id ∉ out)).length
theorem stillOf_nil (l : List Nod) : stillOf l [] = l.length := by
  unfold stillOf
  simp
theorem stillOf_on {l : List Nod} {s : St} {n : Nod} (h : findOf l s = some n) {out : List St} (hs : s ∉ out) : stillOf l (out ++ [s]) < stillOf l out := by
  obtain ⟨h1, rfl⟩ := findOf_some h
  exact left_lt h1 hs
theorem chainGo_length (l : List Nod) : ∀ (k : Nat) (out : List St) (s : St), out.length + stillOf l out ≤ l.length → (chainGo l k out s).length ≤ l.length + 1
  | 0, out, s, h => by rw [chainGo]; omega
  | k + 1, out, s, h => by
    cases hf : findOf l s with
    | none =>
      rw [chainGo_none hf]
      split
      · simp
      · simp; omega
    | some n =>
      by_cases hs : s ∈ out
      · rw [chainGo_again hf hs]; omega
      · rw [chainGo_on hf hs]
        have := stillOf_on hf hs
        exact chainGo_length l k _ _ (by simp; omega)
theorem chainOf_length (l : List Nod) (s : St) : (chainOf l s).length ≤ l.length + 1 := chainGo_length l _ [] s (by rw [stillOf_nil]; simp)
theorem foldOf_take (l : List Opn) (k : Nat) (x : Opn) (h : l[k]? = some x) : foldOf (l.take (k + 1)) = doOf (foldOf (l.take k)) x := by
  unfold foldOf
  rw [List.take_add_one, h, List.foldl_append]
  rfl
theorem foldOf_length (l : List Opn) : (foldOf l).length ≤ l.length := by
  have key : ∀ (l : List Opn) (ns : List Nod), (l.foldl doOf ns).length ≤ ns.length + l.length := by
    intro l
    induction l with
    | nil => intro ns; exact Nat.le_refl _
    | cons x l ih =>
      intro ns
      rw [List.foldl_cons]
      have h1 := ih (doOf ns x)
      have h2 := doOf_length ns x
      rw [List.length_cons]
      omega
  simpa [foldOf] using key l []
/-- Whatever holds of the nodes that are there and of the one that is made. -/
theorem doOf_all {p : Nod → Prop} {l : List Nod} {x : Opn} (h : ∀ n ∈ l, p n) (hm : p (madeOf l x)) (ht : ∀ n ∈ l, p (turnOf l x n)) : ∀ n ∈ doOf l x, p n := by
  unfold doOf
  cases hf : findOf l x.node with
  | none =>
    show ∀ n ∈ (if x.kind = 1 then insNod l (madeOf l x) else l), p n
    split
    · intro n hn
      rcases (insNod_mem l _ n).1 hn with rfl | hn
      · exact hm
      · exact h n hn
    · exact h
  | some m =>
    show ∀ n ∈ (if x.kind = 1 then l else l.set (atOf l x.node) (turnOf l x m)), p n
    split
    · exact h
    · intro n hn
      rcases List.mem_or_eq_of_mem_set hn with h1 | rfl
      · exact h n h1
      · exact ht m (findOf_some hf).1
theorem insNod_at (l : List Nod) (n : Nod) (k : Nat) (hk : k ≤ l.length) (h1 : ∀ (j : Nat) (y : Nod), j < k → l[j]? = some y → n.id.less y.id = false) (h2 : ∀ y : Nod, l[k]? = some y → n.id.less y.id = true) : insNod l n = l.take k ++ n :: l.drop k := by
  have key : ∀ (l : List Nod) (k : Nat), k ≤ l.length → (∀ (j : Nat) (y : Nod), j < k → l[j]? = some y → n.id.less y.id = false) → (∀ y : Nod, l[k]? = some y → n.id.less y.id = true) →
      l.takeWhile (fun y => !n.id.less y.id) = l.take k ∧ l.dropWhile (fun y => !n.id.less y.id) = l.drop k := by
    intro l
    induction l with
    | nil => intro k _ _ _; simp
    | cons a l ih =>
      intro k hk h1 h2
      cases k with
      | zero =>
        have := h2 a rfl
        simp [this]
      | succ k =>
        have ha := h1 0 a (by omega) rfl
        obtain ⟨i1, i2⟩ := ih k (by simpa using hk) (fun j y hj hy => h1 (j + 1) y (by omega) (by simpa using hy)) (fun y hy => h2 y (by simpa using hy))
        simp [ha, i1, i2]
  obtain ⟨a, b⟩ := key l k hk h1 h2
  unfold insNod
  rw [a, b]
end Arb
end
