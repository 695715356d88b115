/- Operations as arguments: what lies in their cells. -/
import Derived.Test.YthcoldjncpiffaaDoorClockT
import Derived.Test.YthcoldjncpiffaaDoorOpsM
import Derived.Test.YthcoldjncpiffaaDoorOwn
import Derived.Deep.MidRow
import Derived.Laws.StructEq
import Derived.Laws.Rows
import Derived.Laws.Tables
import Derived.Laws.CopyOwn
namespace Go.Proofs.YthcoldjncpiffaaDoor.W
set_option linter.unusedVariables false
open Go.RowKit Go.Proofs Arb Go.WideShapes

def opCells (x : Opn) : List Value :=
  [.int .i64 x.stamp.count, .int .i64 x.stamp.who, .int .i64 x.seq, .int .i64 x.kind, .int .i64 x.node.count, .int .i64 x.node.who, .bool x.dir, .int .i64 x.parent.count, .int .i64 x.parent.who, .string (BS x.name), .string (BS x.manifest)]
def opArr (x : Opn) : Array Value := (opCells x).toArray
def opVal (x : Opn) : Value := .agg (opArr x)
def opWf (x : Opn) : Prop := stWf x.stamp ∧ (Lit.int .i64 x.seq).wf = true ∧ (Lit.int .i64 x.kind).wf = true ∧ stWf x.node ∧ stWf x.parent ∧ x.name.length ≤ 140737488351232 ∧ x.manifest.length ≤ 140737488351232

theorem cells_Op {w : World} {f : Nat} {cs : List Value} (h : Cells Tryd.prog w f 32 cs) : ∃ x : Opn, cs = opCells x ∧ opWf x := by
  obtain ⟨hl, hf⟩ := cells_struct Tryd.underlying32 h
  rw [show Tryd.prog.cellsOf 32 = 11 by kernel_rfl] at hl
  match cs, hl with
  | [x0, x1, x2, x3, x4, x5, x6, x7, x8, x9, x10], _ =>
    have hc : Tryd.prog.cellsOf 3 = 1 := by kernel_rfl
    have hs : Tryd.prog.cellsOf 30 = 2 := by kernel_rfl
    have hb : Tryd.prog.cellsOf 4 = 1 := by kernel_rfl
    have ht : Tryd.prog.cellsOf 9 = 1 := by kernel_rfl
    obtain ⟨f0, h0⟩ : ∃ f', Cells Tryd.prog w f' 30 [x0, x1] := by
      obtain ⟨f', h⟩ := hf 0 _ rfl
      exact ⟨f', by simpa [hs] using h⟩
    obtain ⟨f1, h1⟩ : ∃ f', Cells Tryd.prog w f' 3 [x2] := by
      obtain ⟨f', h⟩ := hf 1 _ rfl
      exact ⟨f', by simpa [hc] using h⟩
    obtain ⟨f2, h2⟩ : ∃ f', Cells Tryd.prog w f' 3 [x3] := by
      obtain ⟨f', h⟩ := hf 2 _ rfl
      exact ⟨f', by simpa [hc] using h⟩
    obtain ⟨f3, h3⟩ : ∃ f', Cells Tryd.prog w f' 30 [x4, x5] := by
      obtain ⟨f', h⟩ := hf 3 _ rfl
      exact ⟨f', by simpa [hs] using h⟩
    obtain ⟨f4, h4⟩ : ∃ f', Cells Tryd.prog w f' 4 [x6] := by
      obtain ⟨f', h⟩ := hf 4 _ rfl
      exact ⟨f', by simpa [hb] using h⟩
    obtain ⟨f5, h5⟩ : ∃ f', Cells Tryd.prog w f' 30 [x7, x8] := by
      obtain ⟨f', h⟩ := hf 5 _ rfl
      exact ⟨f', by simpa [hs] using h⟩
    obtain ⟨f6, h6⟩ : ∃ f', Cells Tryd.prog w f' 9 [x9] := by
      obtain ⟨f', h⟩ := hf 6 _ rfl
      exact ⟨f', by simpa [ht] using h⟩
    obtain ⟨f7, h7⟩ : ∃ f', Cells Tryd.prog w f' 9 [x10] := by
      obtain ⟨f', h⟩ := hf 7 _ rfl
      exact ⟨f', by simpa [ht] using h⟩
    obtain ⟨s, es, ws⟩ := cells_St h0
    obtain ⟨q, eq, wq⟩ := cells_int Tryd.underlying3 h1
    obtain ⟨k, ek, wk⟩ := cells_int Tryd.underlying3 h2
    obtain ⟨n, en, wn⟩ := cells_St h3
    obtain ⟨d, ed⟩ := cells_bool Tryd.underlying4 h4
    obtain ⟨p, ep, wp⟩ := cells_St h5
    obtain ⟨a, ea, wa⟩ := cells_string Tryd.underlying9 h6
    obtain ⟨m, em, wm⟩ := cells_string Tryd.underlying9 h7
    simp [stCells] at es eq ek en ed ep ea em
    exact ⟨⟨s, q, k, n, d, p, a, m⟩, by simp [opCells, es, eq, ek, en, ed, ep, ea, em], ws, wq, wk, wn, wp, wa, wm⟩

theorem cells_Ops {w : World} {f : Nat} {cs : List Value} (h : Cells Tryd.prog w f 22 cs) :
    ∃ (A : Option Addr) (n c : Nat) (l : List Opn), cs = [.slice A n c] ∧ c * 104 ≤ 140737488351232 ∧ Sl w 11 A n c (l.map opCells) ∧ (∀ x ∈ l, opWf x) ∧ l.length = n := by
  obtain ⟨A, n, c, rows, rfl, hb, hr, hs⟩ := cells_slice Tryd.underlying22 (by rw [show Tryd.prog.cellsOf 32 = 11 by kernel_rfl]; omega) h
  rw [show Tryd.prog.bytesOf 32 = 104 by kernel_rfl] at hb
  rw [show Tryd.prog.cellsOf 32 = 11 by kernel_rfl] at hs
  obtain ⟨l, h1, h2, h3⟩ := sl_typed opCells (q := opWf) hs fun r hm => by
    obtain ⟨f', hf'⟩ := hr r hm
    exact cells_Op hf'
  exact ⟨A, n, c, l, rfl, hb, h1, h2, h3⟩

theorem size_op : (Tryd.prog.info? 32).map (·.size) = some 11 := by kernel_rfl
theorem opArr_size (x : Opn) : (opArr x).size = 11 := rfl
theorem opArr_one (x : Opn) : (opArr x).all (·.oneCell') = true := by simp [opArr, opCells, Value.oneCell']
theorem BS_inj (l m : List UInt8) : ((BS l).toList == (BS m).toList) = decide (l = m) := by
  rw [Go.Lib.toList_data (BS m), BS_list]; exact BS_beq l m

set_option maxRecDepth 20000 in
set_option maxHeartbeats 1000000 in
/-- Two operations are compared. -/
theorem eq_op (x y : Opn) (w : World) : (binOp .eql 32 (opVal x) (opVal y)).run Tryd.prog w = .ok (.bool (decide (x = y))) w := by
  rw [opVal, opVal, run_eql_struct, run_equalIn_agg _ _ _ _ _ (by kernel_rfl) (by kernel_rfl)]
  unfold opArr opCells
  have u25 := Tryd.underlying32
  have u23 := Tryd.underlying30
  have u3 := Tryd.underlying3
  have u4 := Tryd.underlying4
  have u9 := Tryd.underlying9
  simp only [go_sem, u25]
  go_simp
  by_cases h : x = y
  · subst h; simp
  · rw [decide_eq_false h]
    have hb : ∀ l m : List UInt8, (BS l).toList = (BS m).toList → l = m := fun l m e => by
      rw [Go.Lib.toList_data, Go.Lib.toList_data, BS_list, BS_list] at e; exact e
    split
    · split
      · split
        · split
          · split
            · split
              · split
                · split
                  · split
                    · split
                      · split
                        · rename_i h0 h1 h2 h3 h4 h5 h6 h7 h8 h9 h10
                          exfalso
                          apply h
                          have e9 := hb _ _ h9
                          have e10 := hb _ _ h10
                          obtain ⟨⟨a, b⟩, c, d, ⟨e, f⟩, g, ⟨i, j⟩, k, l⟩ := x
                          obtain ⟨⟨a', b'⟩, c', d', ⟨e', f'⟩, g', ⟨i', j'⟩, k', l'⟩ := y
                          simp only at h0 h1 h2 h3 h4 h5 h6 h7 h8 e9 e10
                          subst h0; subst h1; subst h2; subst h3; subst h4; subst h5; subst h6; subst h7; subst h8; subst e9; subst e10
                          rfl
                        · rfl
                      · rfl
                    · rfl
                  · rfl
                · rfl
              · rfl
            · rfl
          · rfl
        · rfl
      · rfl
    · rfl

theorem ne_op (x y : Opn) (w : World) : (binOp .neq 32 (opVal x) (opVal y)).run Tryd.prog w = .ok (.bool (!decide (x = y))) w := by
  have h := eq_op x y w
  rw [opVal, opVal, run_eql_struct] at h
  rw [opVal, opVal, run_neq_struct]
  cases hr : (Op.equalIn 10000 32 (.agg (opArr x)) (.agg (opArr y))).run Tryd.prog w with
  | ok b w' =>
    rw [hr] at h
    simp only [Result.andThen_ok] at h ⊢
    injection h with h1 h2
    injection h1 with h1
    rw [h1, h2]
  | halt a w' =>
    rw [hr] at h
    simp [Result.andThen] at h

/-- The operation x lies at offset o of block b. -/
def OpAt (w : World) (b o : Nat) (x : Opn) : Prop := w.rangeAt b o (opCells x)
theorem OpAt.lt {w : World} {b o : Nat} {x : Opn} (h : OpAt w b o x) : b < w.heap.size := World.block_lt_of_cell? w _ (h 0 _ rfl)
theorem OpAt.below {w w' : World} {b o : Nat} {x : Opn} (h : OpAt w b o x) (hb : Below w.heap.size w w') : OpAt w' b o x := fun j v hv => (hb.cell (p := ⟨b, o + j, none⟩) h.lt).trans (h j v hv)
theorem OpAt.under {w w' : World} {B b o : Nat} {x : Opn} (h : OpAt w b o x) (hb : Below B w w') (hl : b < B) : OpAt w' b o x := fun j v hv => (hb.cell (p := ⟨b, o + j, none⟩) hl).trans (h j v hv)
theorem OpAt.new (w : World) (x : Opn) (t : TypeId) : OpAt (w.alloc (.cells (opArr x) t)) w.heap.size 0 x := fun j v hv => by
  rw [cell_of_row _ _ _ _ _ _ (heap_alloc_new w _), Nat.zero_add]
  simpa [opArr] using hv
theorem OpAt.of_block {w : World} {b : Nat} {x : Opn} {t : TypeId} {fr : Nat × Nat} (h : w.heap[b]? = some (.cells (opArr x) t fr)) : OpAt w b 0 x := fun j v hv => by
  rw [cell_of_row _ _ _ _ _ _ h, Nat.zero_add]
  simpa [opArr] using hv
theorem op_cells {w : World} {b o : Nat} {x : Opn} (h : OpAt w b o x) :
    w.cell? ⟨b, o, none⟩ = some (.int .i64 x.stamp.count) ∧ w.cell? ⟨b, o + 1, none⟩ = some (.int .i64 x.stamp.who) ∧ w.cell? ⟨b, o + 2, none⟩ = some (.int .i64 x.seq) ∧ w.cell? ⟨b, o + 3, none⟩ = some (.int .i64 x.kind) ∧
    w.cell? ⟨b, o + 4, none⟩ = some (.int .i64 x.node.count) ∧ w.cell? ⟨b, o + 5, none⟩ = some (.int .i64 x.node.who) ∧ w.cell? ⟨b, o + 6, none⟩ = some (.bool x.dir) ∧ w.cell? ⟨b, o + 7, none⟩ = some (.int .i64 x.parent.count) ∧
    w.cell? ⟨b, o + 8, none⟩ = some (.int .i64 x.parent.who) ∧ w.cell? ⟨b, o + 9, none⟩ = some (.string (BS x.name)) ∧ w.cell? ⟨b, o + 10, none⟩ = some (.string (BS x.manifest)) :=
  ⟨h 0 _ rfl, h 1 _ rfl, h 2 _ rfl, h 3 _ rfl, h 4 _ rfl, h 5 _ rfl, h 6 _ rfl, h 7 _ rfl, h 8 _ rfl, h 9 _ rfl, h 10 _ rfl⟩
theorem op_cells0 {w : World} {b : Nat} {x : Opn} (h : OpAt w b 0 x) :
    w.cell? ⟨b, 0, none⟩ = some (.int .i64 x.stamp.count) ∧ w.cell? ⟨b, 1, none⟩ = some (.int .i64 x.stamp.who) ∧ w.cell? ⟨b, 2, none⟩ = some (.int .i64 x.seq) ∧ w.cell? ⟨b, 3, none⟩ = some (.int .i64 x.kind) ∧
    w.cell? ⟨b, 4, none⟩ = some (.int .i64 x.node.count) ∧ w.cell? ⟨b, 5, none⟩ = some (.int .i64 x.node.who) ∧ w.cell? ⟨b, 6, none⟩ = some (.bool x.dir) ∧ w.cell? ⟨b, 7, none⟩ = some (.int .i64 x.parent.count) ∧
    w.cell? ⟨b, 8, none⟩ = some (.int .i64 x.parent.who) ∧ w.cell? ⟨b, 9, none⟩ = some (.string (BS x.name)) ∧ w.cell? ⟨b, 10, none⟩ = some (.string (BS x.manifest)) := by
  have := op_cells h
  simpa only [Nat.zero_add] using this
/-- The value v is the operations l. -/
def Opns (w : World) (v : Value) (l : List Opn) : Prop :=
  ∃ A n c, v = .slice A n c ∧ l.length = n ∧ n ≤ c ∧ (A = none → c = 0) ∧ (0 < n → ∃ b off, A = some ⟨b, off, none⟩ ∧ ∀ j x, l[j]? = some x → OpAt w b (off + j * 11) x)
theorem Opns.below {w w' : World} {v : Value} {l : List Opn} (h : Opns w v l) (hb : Below w.heap.size w w') : Opns w' v l := by
  obtain ⟨A, n, c, hv, hl, hc, hA0, hr⟩ := h
  refine ⟨A, n, c, hv, hl, hc, hA0, fun h0 => ?_⟩
  obtain ⟨b, off, hA, hz⟩ := hr h0
  exact ⟨b, off, hA, fun j x hj => (hz j x hj).below hb⟩
theorem Opns.nil (w : World) : Opns w (.slice none 0 0) [] := ⟨none, 0, 0, rfl, rfl, Nat.le_refl _, fun _ => rfl, fun h => by omega⟩
theorem Opns.of_sl {w : World} {A : Option Addr} {n c : Nat} {l : List Opn} (h : Sl w 11 A n c (l.map opCells)) : Opns w (.slice A n c) l := by
  refine ⟨A, n, c, rfl, by simpa using h.1, h.2.1, h.2.2.1, fun h0 => ?_⟩
  obtain ⟨b, off, hA, hr⟩ := h.2.2.2 h0
  refine ⟨b, off, hA, fun j x hj => ?_⟩
  have := (hr j (opCells x) (by simp [hj])).2
  intro k v hv
  have h1 := this k v hv
  rw [show off + j * 11 + k = off + (j * 11 + k) by omega]
  first | exact h1 | (rw [← Nat.add_assoc]; exact h1)
theorem Opns.form {w : World} {v : Value} {l : List Opn} (h : Opns w v l) (h0 : 0 < l.length) : ∃ b off c, v = .slice (some ⟨b, off, none⟩) l.length c ∧ l.length ≤ c ∧ ∀ j x, l[j]? = some x → OpAt w b (off + j * 11) x := by
  obtain ⟨A, n, c, rfl, rfl, hc, _, hr⟩ := h
  obtain ⟨b, off, rfl, hz⟩ := hr h0
  exact ⟨b, off, c, rfl, hc, hz⟩
/-- A value that is operations, its length told. -/
theorem Opns.len {w : World} {v : Value} {l : List Opn} (h : Opns w v l) : ∃ A c, v = .slice A l.length c ∧ l.length ≤ c := by
  obtain ⟨A, n, c, rfl, rfl, hc, _⟩ := h
  exact ⟨A, c, rfl, hc⟩
theorem Opns.at {w : World} {A : Option Addr} {n c : Nat} {l : List Opn} (h : Opns w (.slice A n c) l) (k : Nat) (hk : k < n) : ∃ b off x, A = some ⟨b, off, none⟩ ∧ l[k]? = some x ∧ OpAt w b (off + k * 11) x := by
  obtain ⟨A', n', c', he, hl, _, _, hr⟩ := h
  cases he
  obtain ⟨b, off, rfl, hz⟩ := hr (by omega)
  have hg := List.getElem?_eq_getElem (l := l) (i := k) (by omega)
  exact ⟨b, off, _, rfl, hg, hz k _ hg⟩
theorem eq_of_getElem {α : Type} (a b : List α) (hl : a.length = b.length) (h : ∀ j, j < a.length → a[j]? = b[j]?) : a = b := by
  apply List.ext_getElem?
  intro i
  rcases Nat.lt_or_ge i a.length with h1 | h1
  · exact h i h1
  · rw [List.getElem?_eq_none h1, List.getElem?_eq_none (by omega)]

/-- Two operations are compared, their cells written out. -/
theorem ne_op' (x y : Opn) (w : World) : (binOp .neq 32 (.agg #[.int .i64 x.stamp.count, .int .i64 x.stamp.who, .int .i64 x.seq, .int .i64 x.kind, .int .i64 x.node.count, .int .i64 x.node.who, .bool x.dir, .int .i64 x.parent.count, .int .i64 x.parent.who, .string (BS x.name), .string (BS x.manifest)]) (.agg #[.int .i64 y.stamp.count, .int .i64 y.stamp.who, .int .i64 y.seq, .int .i64 y.kind, .int .i64 y.node.count, .int .i64 y.node.who, .bool y.dir, .int .i64 y.parent.count, .int .i64 y.parent.who, .string (BS y.name), .string (BS y.manifest)])).run Tryd.prog w = .ok (.bool (!decide (x = y))) w := ne_op x y w
theorem eq_op' (x y : Opn) (w : World) : (binOp .eql 32 (.agg #[.int .i64 x.stamp.count, .int .i64 x.stamp.who, .int .i64 x.seq, .int .i64 x.kind, .int .i64 x.node.count, .int .i64 x.node.who, .bool x.dir, .int .i64 x.parent.count, .int .i64 x.parent.who, .string (BS x.name), .string (BS x.manifest)]) (.agg #[.int .i64 y.stamp.count, .int .i64 y.stamp.who, .int .i64 y.seq, .int .i64 y.kind, .int .i64 y.node.count, .int .i64 y.node.who, .bool y.dir, .int .i64 y.parent.count, .int .i64 y.parent.who, .string (BS y.name), .string (BS y.manifest)])).run Tryd.prog w = .ok (.bool (decide (x = y))) w := eq_op x y w
/-- Two stamps are compared, their numbers written out. -/
theorem eq_st (s t : St) (w : World) : (binOp .eql 30 (.agg #[.int .i64 s.count, .int .i64 s.who]) (.agg #[.int .i64 t.count, .int .i64 t.who])).run Tryd.prog w = .ok (.bool (decide (s = t))) w := by
  rw [run_eql_struct, run_equalIn_agg _ _ _ _ _ (by kernel_rfl) (by kernel_rfl)]
  have u23 := Tryd.underlying30
  have u3 := Tryd.underlying3
  simp only [go_sem, u23]
  go_simp
  by_cases h : s = t
  · subst h; simp
  · rw [decide_eq_false h]
    split
    · split
      · rename_i h0 h1
        exact absurd (by cases s; cases t; simp only at h0 h1; rw [h0, h1]) h
      · rfl
    · rfl
theorem ne_st (s t : St) (w : World) : (binOp .neq 30 (.agg #[.int .i64 s.count, .int .i64 s.who]) (.agg #[.int .i64 t.count, .int .i64 t.who])).run Tryd.prog w = .ok (.bool (!decide (s = t))) w := by
  have h := eq_st s t w
  rw [run_eql_struct] at h
  rw [run_neq_struct]
  cases hr : (Op.equalIn 10000 30 (.agg #[.int .i64 s.count, .int .i64 s.who]) (.agg #[.int .i64 t.count, .int .i64 t.who])).run Tryd.prog w with
  | ok b w' =>
    rw [hr] at h
    simp only [Result.andThen_ok] at h ⊢
    injection h with h1 h2
    injection h1 with h1
    rw [h1, h2]
  | halt a w' =>
    rw [hr] at h
    simp [Result.andThen] at h
/-- What a function gives whose results are a cell and a slot. -/
theorem results_cell_slot {P : Program} {fn : Func} {p q : Tmp} {ty : TypeId} (h : fn.results = #[.cell p ty, .tmp q]) (tmps : Array Value) (w : World) (g : Nat) (t : TypeId) (cs : Array Value) (fr : Nat × Nat) (d : TypeDesc)
    (hp : tmps.getD p undef = .pointer (some ⟨g, 0, none⟩)) (hg : w.heap[g]? = some (.cells cs t fr))
    (hu : P.underlying ty = some d) (hd : (match d with | .struct _ | .array _ _ => true | _ => false) = true) (hi : (P.info? ty).map (·.size) = some cs.size) {y : Value} (hq : tmps.getD q undef = y) :
    (results fn tmps).run P w = .ok (.tuple #[.agg cs, y]) w := by
  subst hq
  have hp' : tmps[p]?.getD undef = .pointer (some ⟨g, 0, none⟩) := by simpa using hp
  simp [results, h, hp', asAddr, run_loadVar_row w g t ty cs fr d hg hu hd hi]
end Go.Proofs.YthcoldjncpiffaaDoor.W
