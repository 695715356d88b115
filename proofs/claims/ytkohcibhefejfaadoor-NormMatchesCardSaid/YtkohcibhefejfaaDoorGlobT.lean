/- Rules as arguments: what lies in their cells; texts in memory. -/
import Derived.Test.YtkohcibhefejfaaDoorProg
import Derived.Test.YtkohcibhefejfaaDoorChecked
import Derived.Test.YtkohcibhefejfaaDoorOwn
import Derived.Test.YtkohcibhefejfaaDoorCells
import Derived.Test.YtkohcibhefejfaaDoorMore
import Derived.Test.YtkohcibhefejfaaDoorGlobM
namespace Go.Proofs.YtkohcibhefejfaaDoor.W
set_option maxRecDepth 20000
set_option linter.unusedVariables false
open Go.RowKit Go.Proofs Arb Go.WideShapes

def rlCells (x : Rul) : List Value := [.int .i64 x.kind, .string (BS x.text)]
def rlArr (x : Rul) : Array Value := (rlCells x).toArray
def rlVal (x : Rul) : Value := .agg (rlArr x)
def rlWf (x : Rul) : Prop := (Lit.int .i64 x.kind).wf = true ∧ x.text.length ≤ 140737488351232

theorem cells_Rl {w : World} {f : Nat} {cs : List Value} (h : Cells Tryd.prog w f 29 cs) : ∃ x : Rul, cs = rlCells x ∧ rlWf x := by
  obtain ⟨hl, hf⟩ := cells_struct Tryd.underlying29 h
  rw [show Tryd.prog.cellsOf 29 = 2 by kernel_rfl] at hl
  match cs, hl with
  | [x0, x1], _ =>
    have hi : Tryd.prog.cellsOf 3 = 1 := by kernel_rfl
    have ht : Tryd.prog.cellsOf 9 = 1 := by kernel_rfl
    obtain ⟨f0, h0⟩ : ∃ f', Cells Tryd.prog w f' 3 [x0] := by
      obtain ⟨f', h⟩ := hf 0 _ rfl
      exact ⟨f', by simpa [hi] using h⟩
    obtain ⟨f1, h1⟩ : ∃ f', Cells Tryd.prog w f' 9 [x1] := by
      obtain ⟨f', h⟩ := hf 1 _ rfl
      exact ⟨f', by simpa [ht] using h⟩
    obtain ⟨k, ek, wk⟩ := cells_int Tryd.underlying3 h0
    obtain ⟨a, ea, wa⟩ := cells_string Tryd.underlying9 h1
    simp at ek ea
    exact ⟨⟨k, a⟩, by simp [rlCells, ek, ea], wk, wa⟩
theorem cells_Rls {w : World} {f : Nat} {cs : List Value} (h : Cells Tryd.prog w f 22 cs) :
    ∃ (A : Option Addr) (n c : Nat) (l : List Rul), cs = [.slice A n c] ∧ c * 24 ≤ 140737488351232 ∧ Sl w 2 A n c (l.map rlCells) ∧ (∀ x ∈ l, rlWf x) ∧ l.length = n := by
  obtain ⟨A, n, c, rows, rfl, hb, hr, hs⟩ := cells_slice Tryd.underlying22 (by rw [show Tryd.prog.cellsOf 29 = 2 by kernel_rfl]; omega) h
  rw [show Tryd.prog.bytesOf 29 = 24 by kernel_rfl] at hb
  rw [show Tryd.prog.cellsOf 29 = 2 by kernel_rfl] at hs
  obtain ⟨l, h1, h2, h3⟩ := sl_typed rlCells (q := rlWf) hs fun r hm => by
    obtain ⟨f', hf'⟩ := hr r hm
    exact cells_Rl hf'
  exact ⟨A, n, c, l, rfl, hb, h1, h2, h3⟩

theorem size_rl : (Tryd.prog.info? 29).map (·.size) = some 2 := by kernel_rfl
theorem info_rl : (Tryd.prog.info? 29).map (fun i => (i.zero, i.size, i.bytes)) = some (some (.agg #[.int .i64 0, .string ⟨#[]⟩]), 2, 24) := by kernel_rfl
theorem rlArr_one (x : Rul) : (rlArr x).all (·.oneCell') = true := by simp [rlArr, rlCells, Value.oneCell']

/-- The rule x lies at offset o of block b. -/
def RulAt (w : World) (b o : Nat) (x : Rul) : Prop := w.rangeAt b o (rlCells x)
theorem RulAt.lt {w : World} {b o : Nat} {x : Rul} (h : RulAt w b o x) : b < w.heap.size := World.block_lt_of_cell? w _ (h 0 _ rfl)
theorem RulAt.below {w w' : World} {b o : Nat} {x : Rul} (h : RulAt w b o x) (hb : Below w.heap.size w w') : RulAt w' b o x := fun j v hv => (hb.cell (p := ⟨b, o + j, none⟩) h.lt).trans (h j v hv)
theorem RulAt.new (w : World) (x : Rul) (t : TypeId) : RulAt (w.alloc (.cells (rlArr x) t)) w.heap.size 0 x := fun j v hv => by
  rw [cell_of_row _ _ _ _ _ _ (heap_alloc_new w _), Nat.zero_add]
  simpa [rlArr] using hv
theorem rl_cells {w : World} {b o : Nat} {x : Rul} (h : RulAt w b o x) : w.cell? ⟨b, o, none⟩ = some (.int .i64 x.kind) ∧ w.cell? ⟨b, o + 1, none⟩ = some (.string (BS x.text)) := ⟨h 0 _ rfl, h 1 _ rfl⟩
theorem rl_cells0 {w : World} {b : Nat} {x : Rul} (h : RulAt w b 0 x) : w.cell? ⟨b, 0, none⟩ = some (.int .i64 x.kind) ∧ w.cell? ⟨b, 1, none⟩ = some (.string (BS x.text)) := ⟨h 0 _ rfl, h 1 _ rfl⟩
/-- The value v is the rules l. -/
def Ruls (w : World) (v : Value) (l : List Rul) : Prop :=
  ∃ A n c, v = .slice A n c ∧ l.length = n ∧ n ≤ c ∧ (A = none → c = 0) ∧ (0 < n → ∃ b off, A = some ⟨b, off, none⟩ ∧ ∀ j x, l[j]? = some x → RulAt w b (off + j * 2) x)
theorem Ruls.below {w w' : World} {v : Value} {l : List Rul} (h : Ruls w v l) (hb : Below w.heap.size w w') : Ruls w' v l := by
  obtain ⟨A, n, c, hv, hl, hc, hA0, hr⟩ := h
  refine ⟨A, n, c, hv, hl, hc, hA0, fun h0 => ?_⟩
  obtain ⟨b, off, hA, hz⟩ := hr h0
  exact ⟨b, off, hA, fun j x hj => (hz j x hj).below hb⟩
theorem Ruls.nil (w : World) : Ruls w (.slice none 0 0) [] := ⟨none, 0, 0, rfl, rfl, Nat.le_refl _, fun _ => rfl, fun h => by omega⟩
theorem Ruls.of_sl {w : World} {A : Option Addr} {n c : Nat} {l : List Rul} (h : Sl w 2 A n c (l.map rlCells)) : Ruls w (.slice A n c) l := by
  refine ⟨A, n, c, rfl, by simpa using h.1, h.2.1, h.2.2.1, fun h0 => ?_⟩
  obtain ⟨b, off, hA, hr⟩ := h.2.2.2 h0
  refine ⟨b, off, hA, fun j x hj => ?_⟩
  have := (hr j (rlCells x) (by simp [hj])).2
  intro k v hv
  have h1 := this k v hv
  rw [show off + j * 2 + k = off + (j * 2 + k) by omega]
  first | exact h1 | (rw [← Nat.add_assoc]; exact h1)
theorem Ruls.len {w : World} {v : Value} {l : List Rul} (h : Ruls w v l) : ∃ A c, v = .slice A l.length c ∧ l.length ≤ c := by
  obtain ⟨A, n, c, rfl, rfl, hc, _⟩ := h
  exact ⟨A, c, rfl, hc⟩
theorem Ruls.at {w : World} {A : Option Addr} {n c : Nat} {l : List Rul} (h : Ruls w (.slice A n c) l) (k : Nat) (hk : k < n) : ∃ b off x, A = some ⟨b, off, none⟩ ∧ l[k]? = some x ∧ RulAt w b (off + k * 2) x := by
  obtain ⟨A', n', c', he, hl, _, _, hr⟩ := h
  cases he
  obtain ⟨b, off, rfl, hz⟩ := hr (by omega)
  have hg := List.getElem?_eq_getElem (l := l) (i := k) (by omega)
  exact ⟨b, off, _, rfl, hg, hz k _ hg⟩
def rlsCells (l : List Rul) : List Value := (l.map rlCells).flatten
theorem rlsCells_length (l : List Rul) : (rlsCells l).length = l.length * 2 := by
  induction l with
  | nil => rfl
  | cons x l ih =>
    unfold rlsCells at ih ⊢
    rw [List.map_cons, List.flatten_cons, List.length_append, ih, List.length_cons]
    show 2 + _ = _
    omega
theorem rlsCells_append (l m : List Rul) : rlsCells (l ++ m) = rlsCells l ++ rlsCells m := by simp [rlsCells]
theorem rlsCells_one (x : Rul) : rlsCells [x] = rlCells x := by simp [rlsCells]
theorem rlsCells_at : ∀ (l : List Rul) (j : Nat) (x : Rul), l[j]? = some x → ∀ (i : Nat) (v : Value), (rlCells x)[i]? = some v → (rlsCells l)[j * 2 + i]? = some v
  | [], j, x, h, _, _, _ => by simp at h
  | y :: l, 0, x, h, i, v, hv => by
    simp at h
    subst h
    have hi : i < 2 := (List.getElem?_eq_some_iff.1 hv).1
    unfold rlsCells
    rw [List.map_cons, List.flatten_cons, Nat.zero_mul, Nat.zero_add, List.getElem?_append_left (show i < 2 from hi)]
    exact hv
  | y :: l, j + 1, x, h, i, v, hv => by
    have := rlsCells_at l j x (by simpa using h) i v hv
    unfold rlsCells at this ⊢
    rw [List.map_cons, List.flatten_cons, List.getElem?_append_right (show 2 ≤ (j + 1) * 2 + i by omega)]
    rw [show (j + 1) * 2 + i - (rlCells y).length = j * 2 + i by show _ - 2 = _; omega]
    exact this
theorem Ruls.of_row {w : World} {base : Nat} {e : TypeId} {v : Value} {n : Nat} {l : List Rul} (h : Row w base e 2 v n (rlsCells l)) : Ruls w v l := by
  have hl : l.length = n := by have := h.1; rw [rlsCells_length] at this; omega
  rcases Nat.eq_zero_or_pos n with h0 | h0
  · subst h0
    rcases h.2 with ⟨rfl, _⟩ | ⟨g, cap, cur, fz, rfl, _⟩
    · exact ⟨none, 0, 0, rfl, hl, Nat.le_refl _, fun _ => rfl, fun h => by omega⟩
    · exact ⟨_, 0, cap, rfl, hl, Nat.zero_le _, (fun h => by cases h), fun h => by omega⟩
  · obtain ⟨g, cap, rfl, hc, _, _, hcs, _⟩ := h.open h0
    exact ⟨_, n, cap, rfl, hl, hc, (fun h => by cases h), fun _ => ⟨g, 0, rfl, fun j x hj i u hu => by rw [Nat.zero_add]; exact hcs _ u (rlsCells_at l j x hj i u hu)⟩⟩
theorem rls_oneCell (l : List Rul) : ∀ u ∈ rlsCells l, u.oneCell' = true := by
  intro u hu
  unfold rlsCells at hu
  rw [List.mem_flatten] at hu
  obtain ⟨r, hr, hu⟩ := hu
  obtain ⟨x, _, rfl⟩ := List.mem_map.1 hr
  simp [rlCells] at hu
  rcases hu with rfl | rfl <;> rfl
/-- 'append(s, x)' of one rule: x lies in a new block of its own first. -/
theorem wpList_append_rl {ops : Array Oper} {rest : List Oper} {o : Oper} {a : Act} {w : World} {Q : Exit → Act → World → Prop} (hgd : o.guard = none) (s x : Operand)
    (ho : o.op = .call { callee := .builtin .append, args := #[s, x], argTypes := #[22, 22] })
    (base : Nat) (v : Value) (n : Nat) (l : List Rul) (hs : a.eval s = v) (hown : Row w base 29 2 v n (rlsCells l))
    (y : Rul) (cs : Array Value) (hcs : cs = rlArr y) (hx : a.eval x = .slice (some ⟨w.heap.size, 0, none⟩) 1 1)
    (h63 : n ≤ 1000000) (hbase : base ≤ w.heap.size)
    (h : ∀ v' w', Row w' base 29 2 v' (n + 1) (rlsCells (l ++ [y])) → Below base w w' → wpList Tryd.prog ops Q rest (a.put o.dst v') w') :
    wpList Tryd.prog ops Q (o :: rest) a (w.alloc (.cells cs 29)) := by
  subst hcs
  obtain ⟨i0, hi, hz0, hz1, hz2⟩ := info_parts info_rl
  refine wpList_append_row hgd s x 22 ho base 29 i0 _ 2 24 Tryd.underlying22 hi hz0 hz1 hz2 rfl (by decide) v n _ hs (hown.alloc _) _ 1 (rlsCells [y]) hx ?_ (rls_oneCell _) (by unfold maxLen; omega) (by omega) (by simp; omega) ?_
  · have := Rd.new w (rlArr y) 29 1 1 2 rfl
    rw [rlsCells_one]
    simpa [rlArr] using this
  · intro v' w' hr hg _
    exact h v' w' (by rw [rlsCells_append]; exact hr) (((Below.refl base w).alloc hbase _).grown hg (by simp; omega) fun k hk => (hown.lt k hk).1)

theorem info_str : (Tryd.prog.info? 9).map (fun i => (i.zero, i.size, i.bytes)) = some (some (.string ⟨#[]⟩), 1, 16) := by kernel_rfl
def tx (l : List UInt8) : Value := .string (BS l)
/-- The value v is the texts ss. -/
def Txts (w : World) (v : Value) (ss : List (List UInt8)) : Prop :=
  ∃ A n c, v = .slice A n c ∧ ss.length = n ∧ n ≤ c ∧ (0 < n → ∃ b off, A = some ⟨b, off, none⟩ ∧ ∀ j s, ss[j]? = some s → w.cell? ⟨b, off + j, none⟩ = some (.string (BS s)))
theorem Txts.below {w w' : World} {v : Value} {ss : List (List UInt8)} (h : Txts w v ss) (hb : Below w.heap.size w w') : Txts w' v ss := by
  obtain ⟨A, n, c, hv, hl, hc, hr⟩ := h
  refine ⟨A, n, c, hv, hl, hc, fun h0 => ?_⟩
  obtain ⟨b, off, hA, hz⟩ := hr h0
  refine ⟨b, off, hA, fun j s hj => ?_⟩
  have h1 := hz j s hj
  exact (hb.cell (p := ⟨b, off + j, none⟩) (World.block_lt_of_cell? w _ h1)).trans h1
theorem Txts.of_row {w : World} {base : Nat} {e : TypeId} {v : Value} {n : Nat} {ss : List (List UInt8)} (h : Row w base e 1 v n (ss.map fun l => .string (BS l))) : Txts w v ss := by
  have hl : ss.length = n := by simpa using h.1
  rcases Nat.eq_zero_or_pos n with h0 | h0
  · subst h0
    rcases h.2 with ⟨rfl, _⟩ | ⟨g, cap, cur, fz, rfl, _⟩
    · exact ⟨none, 0, 0, rfl, hl, Nat.le_refl _, fun h => by omega⟩
    · exact ⟨_, 0, cap, rfl, hl, Nat.zero_le _, fun h => by omega⟩
  · obtain ⟨g, cap, rfl, hc, _, _, hcs, _⟩ := h.open h0
    exact ⟨_, n, cap, rfl, hl, hc, fun _ => ⟨g, 0, rfl, fun j s hj => by rw [Nat.zero_add]; exact hcs j _ (by simp [hj])⟩⟩
theorem Txts.at {w : World} {A : Option Addr} {n c : Nat} {ss : List (List UInt8)} (h : Txts w (.slice A n c) ss) (k : Nat) (hk : k < n) : ∃ b off s, A = some ⟨b, off, none⟩ ∧ ss[k]? = some s ∧ w.cell? ⟨b, off + k, none⟩ = some (.string (BS s)) := by
  obtain ⟨A', n', c', he, hl, _, hr⟩ := h
  cases he
  obtain ⟨b, off, rfl, hz⟩ := hr (by omega)
  have hg := List.getElem?_eq_getElem (l := ss) (i := k) (by omega)
  exact ⟨b, off, _, rfl, hg, hz k _ hg⟩
theorem Txts.len {w : World} {v : Value} {ss : List (List UInt8)} (h : Txts w v ss) : ∃ A c, v = .slice A ss.length c ∧ ss.length ≤ c := by
  obtain ⟨A, n, c, rfl, rfl, hc, _⟩ := h
  exact ⟨A, c, rfl, hc⟩
end Go.Proofs.YtkohcibhefejfaaDoor.W
