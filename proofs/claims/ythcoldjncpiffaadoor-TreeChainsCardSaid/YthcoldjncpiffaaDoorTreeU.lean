/- Rows of nodes: what is appended to them. -/
import Derived.Test.YthcoldjncpiffaaDoorTreeS
import Derived.Test.YthcoldjncpiffaaDoorTreeN
namespace Go.Proofs.YthcoldjncpiffaaDoor.W
set_option linter.unusedVariables false
open Go.RowKit Go.Proofs Arb

theorem info_nd : (Tryd.prog.info? 37).map (fun i => (i.zero, i.size, i.bytes)) = some (some (.agg #[.int .i64 0, .int .i64 0, .bool false, .int .i64 0, .int .i64 0, .string ⟨#[]⟩, .string ⟨#[]⟩]), 7, 72) := by kernel_rfl
/-- The cells of nodes, one behind the other. -/
def ndsCells (l : List Nod) : List Value := (l.map ndCells).flatten
theorem ndsCells_length (l : List Nod) : (ndsCells l).length = l.length * 7 := by
  induction l with
  | nil => rfl
  | cons x l ih =>
    show (ndCells x ++ ndsCells l).length = _
    rw [List.length_append, ih, List.length_cons]
    show 7 + l.length * 7 = _
    omega
theorem ndsCells_append (l m : List Nod) : ndsCells (l ++ m) = ndsCells l ++ ndsCells m := by simp [ndsCells]
theorem ndsCells_one (x : Nod) : ndsCells [x] = ndCells x := by simp [ndsCells]
theorem ndsCells_at : ∀ (l : List Nod) (j : Nat) (x : Nod), l[j]? = some x → ∀ (i : Nat) (v : Value), (ndCells x)[i]? = some v → (ndsCells l)[j * 7 + i]? = some v
  | [], j, x, h, _, _, _ => by simp at h
  | y :: l, j, x, h, i, v, hv => by
    have hi : i < 7 := (List.getElem?_eq_some_iff.1 hv).1
    show (ndCells y ++ ndsCells l)[j * 7 + i]? = some v
    cases j with
    | zero =>
      simp at h
      subst h
      rw [List.getElem?_append_left (by show 0 * 7 + i < 7; omega), Nat.zero_mul, Nat.zero_add]
      exact hv
    | succ j =>
      have h' : l[j]? = some x := by simpa using h
      have := ndsCells_at l j x h' i v hv
      rw [List.getElem?_append_right (by show 7 ≤ _; omega)]
      show (ndsCells l)[(j + 1) * 7 + i - 7]? = some v
      rw [show (j + 1) * 7 + i - 7 = j * 7 + i by omega]
      exact this
theorem Nods.of_row {w : World} {base : Nat} {e : TypeId} {v : Value} {n : Nat} {l : List Nod} (h : Row w base e 7 v n (ndsCells l)) : Nods w v l := by
  have hl : l.length = n := by have := h.1; rw [ndsCells_length] at this; omega
  rcases Nat.eq_zero_or_pos n with h0 | h0
  · subst h0
    rcases h.2 with ⟨rfl, _⟩ | ⟨g, cap, cur, fz, rfl, _⟩
    · exact ⟨none, 0, 0, rfl, hl, Nat.le_refl _, fun _ => rfl, fun h => by omega⟩
    · exact ⟨_, 0, cap, rfl, hl, Nat.zero_le _, nofun, fun h => by omega⟩
  · obtain ⟨g, cap, rfl, hc, _, _, hcell, _⟩ := h.open h0
    refine ⟨_, n, cap, rfl, hl, hc, nofun, fun _ => ⟨g, 0, rfl, fun j x hj => ?_⟩⟩
    intro i v hv
    rw [show 0 + j * 7 + i = j * 7 + i by omega]
    exact hcell _ _ (ndsCells_at l j x hj i v hv)
theorem nd_oneCell (x : Nod) : ∀ u ∈ ndCells x, u.oneCell' = true := by
  intro u hu
  simp only [ndCells, List.mem_cons, List.not_mem_nil, or_false] at hu
  rcases hu with rfl | rfl | rfl | rfl | rfl | rfl | rfl <;> simp [Value.oneCell']
theorem nds_oneCell (l : List Nod) : ∀ u ∈ ndsCells l, u.oneCell' = true := by
  intro u hu
  obtain ⟨c, hc, hu⟩ := List.mem_flatten.1 hu
  obtain ⟨x, _, rfl⟩ := List.mem_map.1 hc
  exact nd_oneCell x u hu
/-- The first k nodes, as a slice that is appended. -/
theorem Nods.rdTake {w : World} {A : Option Addr} {n c : Nat} {l : List Nod} (h : Nods w (.slice A n c) l) (k : Nat) (hk : k ≤ n) : Rd w 7 (.slice A k c) k (ndsCells (l.take k)) := by
  obtain ⟨A', n', c', he, hl, hc, hA, hr⟩ := h
  cases he
  refine ⟨by rw [ndsCells_length, List.length_take]; omega, ?_⟩
  cases A with
  | none =>
    left
    have := hA rfl
    have h0 : k = 0 := by omega
    rw [this, h0]
    exact ⟨rfl, rfl⟩
  | some a =>
    right
    refine ⟨a, c, rfl, fun j u hu => ?_⟩
    have hj : j < k * 7 := by have := (List.getElem?_eq_some_iff.1 hu).1; rw [ndsCells_length, List.length_take] at this; omega
    obtain ⟨b, off, he, hz⟩ := hr (by omega)
    cases he
    have hq : j / 7 < k := by omega
    have hx : (l.take k)[j / 7]? = l[j / 7]? := by rw [List.getElem?_take, if_pos hq]
    have hg := List.getElem?_eq_getElem (l := l) (i := j / 7) (by omega)
    have hop := hz _ _ hg
    have hc := ndsCells_at (l.take k) (j / 7) _ (hx.trans hg) (j % 7) ((ndCells (l[j / 7]'(by omega)))[j % 7]'(by show j % 7 < 7; omega)) (List.getElem?_eq_getElem _)
    rw [show j / 7 * 7 + j % 7 = j by omega, hu] at hc
    injection hc with hc
    rw [Go.Lib.addr_add, hc]
    have := hop (j % 7) _ (List.getElem?_eq_getElem (by show j % 7 < 7; omega))
    rw [show off + j / 7 * 7 + j % 7 = off + j by omega] at this
    exact this
/-- The nodes from the k-th on, as a slice that is appended. -/
theorem Nods.rdDrop {w : World} {b off : Nat} {n c : Nat} {l : List Nod} (h : Nods w (.slice (some ⟨b, off, none⟩) n c) l) (k : Nat) (hk : k ≤ n) (o : Nat) (ho : k < n → o = off + k * 7) (m : Nat) (hm : m = n - k) (c2 : Nat) : Rd w 7 (.slice (some ⟨b, o, none⟩) m c2) m (ndsCells (l.drop k)) := by
  obtain ⟨A', n', c', he, hl, hc, hA, hr⟩ := h
  cases he
  subst hm
  refine ⟨by rw [ndsCells_length, List.length_drop]; omega, .inr ⟨_, c2, rfl, fun j u hu => ?_⟩⟩
  have hj : j < (n - k) * 7 := by have := (List.getElem?_eq_some_iff.1 hu).1; rw [ndsCells_length, List.length_drop] at this; omega
  obtain ⟨b', off', he, hz⟩ := hr (by omega)
  cases he
  rw [ho (by omega)]
  have hg := List.getElem?_eq_getElem (l := l) (i := k + j / 7) (by omega)
  have hx : (l.drop k)[j / 7]? = l[k + j / 7]? := by rw [List.getElem?_drop]
  have hop := hz _ _ hg
  have hc := ndsCells_at (l.drop k) (j / 7) _ (hx.trans hg) (j % 7) ((ndCells (l[k + j / 7]'(by omega)))[j % 7]'(by show j % 7 < 7; omega)) (List.getElem?_eq_getElem _)
  rw [show j / 7 * 7 + j % 7 = j by omega, hu] at hc
  injection hc with hc
  rw [Go.Lib.addr_add, hc]
  have := hop (j % 7) _ (List.getElem?_eq_getElem (by show j % 7 < 7; omega))
  rw [show off + (k + j / 7) * 7 + j % 7 = off + k * 7 + j by omega] at this
  exact this

/-- 'append(s, l...)' of nodes. -/
theorem wpList_append_nds {ops : Array Oper} {rest : List Oper} {o : Oper} {a : Act} {w : World} {Q : Exit → Act → World → Prop} (hgd : o.guard = none) (s x : Operand)
    (ho : o.op = .call { callee := .builtin .append, args := #[s, x], argTypes := #[25, 25] })
    (base : Nat) (v : Value) (n : Nat) (l : List Nod) (hs : a.eval s = v) (hown : Row w base 37 7 v n (ndsCells l))
    (vx : Value) (m : Nat) (k : List Nod) (hx : a.eval x = vx) (hr : Rd w 7 vx m (ndsCells k))
    (h63 : n ≤ 1000000) (h64 : m ≤ 1000000) (hbase : base ≤ w.heap.size)
    (h : ∀ v' w', Row w' base 37 7 v' (n + m) (ndsCells (l ++ k)) → Below base w w' → wpList Tryd.prog ops Q rest (a.put o.dst v') w') :
    wpList Tryd.prog ops Q (o :: rest) a w := by
  obtain ⟨i0, hi, hz0, hz1, hz2⟩ := info_parts info_nd
  refine wpList_append_row hgd s x 25 ho base 37 i0 _ 7 72 Tryd.underlying25 hi hz0 hz1 hz2 rfl (by decide) v n _ hs hown vx m (ndsCells k) hx hr (nds_oneCell _) (by unfold maxLen; omega) (by omega) hbase ?_
  intro v' w' hr hg _
  exact h v' w' (by rw [ndsCells_append]; exact hr) ((Below.refl base w).grown hg hbase fun k hk => (hown.lt k hk).1)

/-- 'append(s, x)' of one node: x lies in a new block of its own first. -/
theorem wpList_append_nd {ops : Array Oper} {rest : List Oper} {o : Oper} {a : Act} {w : World} {Q : Exit → Act → World → Prop} (hgd : o.guard = none) (s x : Operand)
    (ho : o.op = .call { callee := .builtin .append, args := #[s, x], argTypes := #[25, 25] })
    (base : Nat) (v : Value) (n : Nat) (l : List Nod) (hs : a.eval s = v) (hown : Row w base 37 7 v n (ndsCells l))
    (y : Nod) (cs : Array Value) (hcs : cs = ndArr y) (hx : a.eval x = .slice (some ⟨w.heap.size, 0, none⟩) 1 1)
    (h63 : n ≤ 1000000) (hbase : base ≤ w.heap.size)
    (h : ∀ v' w', Row w' base 37 7 v' (n + 1) (ndsCells (l ++ [y])) → Below base w w' → wpList Tryd.prog ops Q rest (a.put o.dst v') w') :
    wpList Tryd.prog ops Q (o :: rest) a (w.alloc (.cells cs 37)) := by
  subst hcs
  obtain ⟨i0, hi, hz0, hz1, hz2⟩ := info_parts info_nd
  refine wpList_append_row hgd s x 25 ho base 37 i0 _ 7 72 Tryd.underlying25 hi hz0 hz1 hz2 rfl (by decide) v n _ hs (hown.alloc _) _ 1 (ndsCells [y]) hx ?_ (nds_oneCell _) (by unfold maxLen; omega) (by omega) (by simp; omega) ?_
  · have := Rd.new w (ndArr y) 37 1 1 7 rfl
    rw [ndsCells_one]
    simpa [ndArr] using this
  · intro v' w' hr hg _
    exact h v' w' (by rw [ndsCells_append]; exact hr) (((Below.refl base w).alloc hbase _).grown hg (by simp; omega) fun k hk => (hown.lt k hk).1)
end Go.Proofs.YthcoldjncpiffaaDoor.W
