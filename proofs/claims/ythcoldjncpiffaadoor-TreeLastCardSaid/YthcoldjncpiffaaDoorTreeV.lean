/- Lists of stamps: what lies in them, what is appended to them. -/
import Derived.Test.YthcoldjncpiffaaDoorTreeS
import Derived.Test.YthcoldjncpiffaaDoorTreeN
namespace Go.Proofs.YthcoldjncpiffaaDoor.W
set_option linter.unusedVariables false
open Go.RowKit Go.Proofs Arb

def stArr (s : St) : Array Value := (stCells s).toArray
theorem info_st : (Tryd.prog.info? 30).map (fun i => (i.zero, i.size, i.bytes)) = some (some (.agg #[.int .i64 0, .int .i64 0]), 2, 16) := by kernel_rfl
/-- The stamp x lies at offset o of block b. -/
def StAt (w : World) (b o : Nat) (x : St) : Prop := w.rangeAt b o (stCells x)
theorem StAt.lt {w : World} {b o : Nat} {x : St} (h : StAt w b o x) : b < w.heap.size := World.block_lt_of_cell? w _ (h 0 _ rfl)
theorem StAt.below {w w' : World} {b o : Nat} {x : St} (h : StAt w b o x) (hb : Below w.heap.size w w') : StAt w' b o x := fun j v hv => (hb.cell (p := ⟨b, o + j, none⟩) h.lt).trans (h j v hv)
theorem StAt.new (w : World) (x : St) (t : TypeId) : StAt (w.alloc (.cells (stArr x) t)) w.heap.size 0 x := fun j v hv => by
  rw [cell_of_row _ _ _ _ _ _ (heap_alloc_new w _), Nat.zero_add]
  simpa [stArr] using hv
theorem st_cells {w : World} {b o : Nat} {x : St} (h : StAt w b o x) : w.cell? ⟨b, o, none⟩ = some (.int .i64 x.count) ∧ w.cell? ⟨b, o + 1, none⟩ = some (.int .i64 x.who) := ⟨h 0 _ rfl, h 1 _ rfl⟩
theorem st_cells0 {w : World} {b : Nat} {x : St} (h : StAt w b 0 x) : w.cell? ⟨b, 0, none⟩ = some (.int .i64 x.count) ∧ w.cell? ⟨b, 1, none⟩ = some (.int .i64 x.who) := by
  have := st_cells h
  simpa only [Nat.zero_add] using this
/-- The value v is the stamps l. -/
def Sts (w : World) (v : Value) (l : List St) : Prop :=
  ∃ A n c, v = .slice A n c ∧ l.length = n ∧ n ≤ c ∧ (A = none → c = 0) ∧ (0 < n → ∃ b off, A = some ⟨b, off, none⟩ ∧ ∀ j x, l[j]? = some x → StAt w b (off + j * 2) x)
theorem Sts.below {w w' : World} {v : Value} {l : List St} (h : Sts w v l) (hb : Below w.heap.size w w') : Sts w' v l := by
  obtain ⟨A, n, c, hv, hl, hc, hA0, hr⟩ := h
  refine ⟨A, n, c, hv, hl, hc, hA0, fun h0 => ?_⟩
  obtain ⟨b, off, hA, hz⟩ := hr h0
  exact ⟨b, off, hA, fun j x hj => (hz j x hj).below hb⟩
theorem Sts.nil (w : World) : Sts w (.slice none 0 0) [] := ⟨none, 0, 0, rfl, rfl, Nat.le_refl _, fun _ => rfl, fun h => by omega⟩
theorem Sts.len {w : World} {v : Value} {l : List St} (h : Sts w v l) : ∃ A c, v = .slice A l.length c ∧ l.length ≤ c := by
  obtain ⟨A, n, c, rfl, rfl, hc, _⟩ := h
  exact ⟨A, c, rfl, hc⟩
theorem Sts.at {w : World} {A : Option Addr} {n c : Nat} {l : List St} (h : Sts w (.slice A n c) l) (k : Nat) (hk : k < n) : ∃ b off x, A = some ⟨b, off, none⟩ ∧ l[k]? = some x ∧ StAt w b (off + k * 2) x := by
  obtain ⟨A', n', c', he, hl, _, _, hr⟩ := h
  cases he
  obtain ⟨b, off, rfl, hz⟩ := hr (by omega)
  have hg := List.getElem?_eq_getElem (l := l) (i := k) (by omega)
  exact ⟨b, off, _, rfl, hg, hz k _ hg⟩
/-- The cells of stamps, one behind the other. -/
def stsCells (l : List St) : List Value := (l.map stCells).flatten
theorem stsCells_length (l : List St) : (stsCells l).length = l.length * 2 := by
  induction l with
  | nil => rfl
  | cons x l ih =>
    show (stCells x ++ stsCells l).length = _
    rw [List.length_append, ih, List.length_cons]
    show 2 + l.length * 2 = _
    omega
theorem stsCells_append (l m : List St) : stsCells (l ++ m) = stsCells l ++ stsCells m := by simp [stsCells]
theorem stsCells_one (x : St) : stsCells [x] = stCells x := by simp [stsCells]
theorem stsCells_at : ∀ (l : List St) (j : Nat) (x : St), l[j]? = some x → ∀ (i : Nat) (v : Value), (stCells x)[i]? = some v → (stsCells l)[j * 2 + i]? = some v
  | [], j, x, h, _, _, _ => by simp at h
  | y :: l, j, x, h, i, v, hv => by
    have hi : i < 2 := (List.getElem?_eq_some_iff.1 hv).1
    show (stCells y ++ stsCells l)[j * 2 + i]? = some v
    cases j with
    | zero =>
      simp at h
      subst h
      rw [List.getElem?_append_left (by show 0 * 2 + i < 2; omega), Nat.zero_mul, Nat.zero_add]
      exact hv
    | succ j =>
      have h' : l[j]? = some x := by simpa using h
      have := stsCells_at l j x h' i v hv
      rw [List.getElem?_append_right (by show 2 ≤ _; omega)]
      show (stsCells l)[(j + 1) * 2 + i - 2]? = some v
      rw [show (j + 1) * 2 + i - 2 = j * 2 + i by omega]
      exact this
theorem Sts.of_row {w : World} {base : Nat} {e : TypeId} {v : Value} {n : Nat} {l : List St} (h : Row w base e 2 v n (stsCells l)) : Sts w v l := by
  have hl : l.length = n := by have := h.1; rw [stsCells_length] at this; omega
  rcases Nat.eq_zero_or_pos n with h0 | h0
  · subst h0
    rcases h.2 with ⟨rfl, _⟩ | ⟨g, cap, cur, fz, rfl, _⟩
    · exact ⟨none, 0, 0, rfl, hl, Nat.le_refl _, fun _ => rfl, fun h => by omega⟩
    · exact ⟨_, 0, cap, rfl, hl, Nat.zero_le _, nofun, fun h => by omega⟩
  · obtain ⟨g, cap, rfl, hc, _, _, hcell, _⟩ := h.open h0
    refine ⟨_, n, cap, rfl, hl, hc, nofun, fun _ => ⟨g, 0, rfl, fun j x hj => ?_⟩⟩
    intro i v hv
    rw [show 0 + j * 2 + i = j * 2 + i by omega]
    exact hcell _ _ (stsCells_at l j x hj i v hv)
theorem st_oneCell (x : St) : ∀ u ∈ stCells x, u.oneCell' = true := by
  intro u hu
  simp only [stCells, List.mem_cons, List.not_mem_nil, or_false] at hu
  rcases hu with rfl | rfl <;> simp [Value.oneCell']
theorem sts_oneCell (l : List St) : ∀ u ∈ stsCells l, u.oneCell' = true := by
  intro u hu
  obtain ⟨c, hc, hu⟩ := List.mem_flatten.1 hu
  obtain ⟨x, _, rfl⟩ := List.mem_map.1 hc
  exact st_oneCell x u hu
/-- The first k stamps, as a slice that is appended. -/
theorem Sts.rdTake {w : World} {A : Option Addr} {n c : Nat} {l : List St} (h : Sts w (.slice A n c) l) (k : Nat) (hk : k ≤ n) : Rd w 2 (.slice A k c) k (stsCells (l.take k)) := by
  obtain ⟨A', n', c', he, hl, hc, hA, hr⟩ := h
  cases he
  refine ⟨by rw [stsCells_length, List.length_take]; omega, ?_⟩
  cases A with
  | none =>
    left
    have := hA rfl
    have h0 : k = 0 := by omega
    rw [this, h0]
    exact ⟨rfl, rfl⟩
  | some a =>
    right
    refine ⟨a, c, rfl, fun j u hu => ?_⟩
    have hj : j < k * 2 := by have := (List.getElem?_eq_some_iff.1 hu).1; rw [stsCells_length, List.length_take] at this; omega
    obtain ⟨b, off, he, hz⟩ := hr (by omega)
    cases he
    have hq : j / 2 < k := by omega
    have hx : (l.take k)[j / 2]? = l[j / 2]? := by rw [List.getElem?_take, if_pos hq]
    have hg := List.getElem?_eq_getElem (l := l) (i := j / 2) (by omega)
    have hop := hz _ _ hg
    have hc := stsCells_at (l.take k) (j / 2) _ (hx.trans hg) (j % 2) ((stCells (l[j / 2]'(by omega)))[j % 2]'(by show j % 2 < 2; omega)) (List.getElem?_eq_getElem _)
    rw [show j / 2 * 2 + j % 2 = j by omega, hu] at hc
    injection hc with hc
    rw [Go.Lib.addr_add, hc]
    have := hop (j % 2) _ (List.getElem?_eq_getElem (by show j % 2 < 2; omega))
    rw [show off + j / 2 * 2 + j % 2 = off + j by omega] at this
    exact this
/-- The stamps from the k-th on, as a slice that is appended. -/
theorem Sts.rdDrop {w : World} {b off : Nat} {n c : Nat} {l : List St} (h : Sts w (.slice (some ⟨b, off, none⟩) n c) l) (k : Nat) (hk : k ≤ n) (o : Nat) (ho : k < n → o = off + k * 2) (m : Nat) (hm : m = n - k) (c2 : Nat) : Rd w 2 (.slice (some ⟨b, o, none⟩) m c2) m (stsCells (l.drop k)) := by
  obtain ⟨A', n', c', he, hl, hc, hA, hr⟩ := h
  cases he
  subst hm
  refine ⟨by rw [stsCells_length, List.length_drop]; omega, .inr ⟨_, c2, rfl, fun j u hu => ?_⟩⟩
  have hj : j < (n - k) * 2 := by have := (List.getElem?_eq_some_iff.1 hu).1; rw [stsCells_length, List.length_drop] at this; omega
  obtain ⟨b', off', he, hz⟩ := hr (by omega)
  cases he
  rw [ho (by omega)]
  have hg := List.getElem?_eq_getElem (l := l) (i := k + j / 2) (by omega)
  have hx : (l.drop k)[j / 2]? = l[k + j / 2]? := by rw [List.getElem?_drop]
  have hop := hz _ _ hg
  have hc := stsCells_at (l.drop k) (j / 2) _ (hx.trans hg) (j % 2) ((stCells (l[k + j / 2]'(by omega)))[j % 2]'(by show j % 2 < 2; omega)) (List.getElem?_eq_getElem _)
  rw [show j / 2 * 2 + j % 2 = j by omega, hu] at hc
  injection hc with hc
  rw [Go.Lib.addr_add, hc]
  have := hop (j % 2) _ (List.getElem?_eq_getElem (by show j % 2 < 2; omega))
  rw [show off + (k + j / 2) * 2 + j % 2 = off + k * 2 + j by omega] at this
  exact this

/-- 'append(s, l...)' of stamps. -/
theorem wpList_append_sts {ops : Array Oper} {rest : List Oper} {o : Oper} {a : Act} {w : World} {Q : Exit → Act → World → Prop} (hgd : o.guard = none) (s x : Operand)
    (ho : o.op = .call { callee := .builtin .append, args := #[s, x], argTypes := #[41, 41] })
    (base : Nat) (v : Value) (n : Nat) (l : List St) (hs : a.eval s = v) (hown : Row w base 30 2 v n (stsCells l))
    (vx : Value) (m : Nat) (k : List St) (hx : a.eval x = vx) (hr : Rd w 2 vx m (stsCells k))
    (h63 : n ≤ 1000000) (h64 : m ≤ 1000000) (hbase : base ≤ w.heap.size)
    (h : ∀ v' w', Row w' base 30 2 v' (n + m) (stsCells (l ++ k)) → Below base w w' → wpList Tryd.prog ops Q rest (a.put o.dst v') w') :
    wpList Tryd.prog ops Q (o :: rest) a w := by
  obtain ⟨i0, hi, hz0, hz1, hz2⟩ := info_parts info_st
  refine wpList_append_row hgd s x 41 ho base 30 i0 _ 2 16 Tryd.underlying41 hi hz0 hz1 hz2 rfl (by decide) v n _ hs hown vx m (stsCells k) hx hr (sts_oneCell _) (by unfold maxLen; omega) (by omega) hbase ?_
  intro v' w' hr hg _
  exact h v' w' (by rw [stsCells_append]; exact hr) ((Below.refl base w).grown hg hbase fun k hk => (hown.lt k hk).1)

/-- 'append(s, x)' of one stamp: x lies in a new block of its own first. -/
theorem wpList_append_st {ops : Array Oper} {rest : List Oper} {o : Oper} {a : Act} {w : World} {Q : Exit → Act → World → Prop} (hgd : o.guard = none) (s x : Operand)
    (ho : o.op = .call { callee := .builtin .append, args := #[s, x], argTypes := #[41, 41] })
    (base : Nat) (v : Value) (n : Nat) (l : List St) (hs : a.eval s = v) (hown : Row w base 30 2 v n (stsCells l))
    (y : St) (cs : Array Value) (hcs : cs = stArr y) (hx : a.eval x = .slice (some ⟨w.heap.size, 0, none⟩) 1 1)
    (h63 : n ≤ 1000000) (hbase : base ≤ w.heap.size)
    (h : ∀ v' w', Row w' base 30 2 v' (n + 1) (stsCells (l ++ [y])) → Below base w w' → wpList Tryd.prog ops Q rest (a.put o.dst v') w') :
    wpList Tryd.prog ops Q (o :: rest) a (w.alloc (.cells cs 30)) := by
  subst hcs
  obtain ⟨i0, hi, hz0, hz1, hz2⟩ := info_parts info_st
  refine wpList_append_row hgd s x 41 ho base 30 i0 _ 2 16 Tryd.underlying41 hi hz0 hz1 hz2 rfl (by decide) v n _ hs (hown.alloc _) _ 1 (stsCells [y]) hx ?_ (sts_oneCell _) (by unfold maxLen; omega) (by omega) (by simp; omega) ?_
  · have := Rd.new w (stArr y) 30 1 1 2 rfl
    rw [stsCells_one]
    simpa [stArr] using this
  · intro v' w' hr hg _
    exact h v' w' (by rw [stsCells_append]; exact hr) (((Below.refl base w).alloc hbase _).grown hg (by simp; omega) fun k hk => (hown.lt k hk).1)
end Go.Proofs.YthcoldjncpiffaaDoor.W
