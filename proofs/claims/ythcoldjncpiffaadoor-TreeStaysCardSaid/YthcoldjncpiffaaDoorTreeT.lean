/- Nodes as arguments: what lies in their cells. -/
import Derived.Test.YthcoldjncpiffaaDoorOpsT
import Derived.Test.YthcoldjncpiffaaDoorTreeM
namespace Go.Proofs.YthcoldjncpiffaaDoor.W
set_option linter.unusedVariables false
open Go.RowKit Go.Proofs Arb Go.WideShapes

def ndCells (x : Nod) : List Value :=
  [.int .i64 x.id.count, .int .i64 x.id.who, .bool x.dir, .int .i64 x.parent.count, .int .i64 x.parent.who, .string (BS x.name), .string (BS x.manifest)]
def ndArr (x : Nod) : Array Value := (ndCells x).toArray
def ndVal (x : Nod) : Value := .agg (ndArr x)
def ndWf (x : Nod) : Prop := stWf x.id ∧ stWf x.parent ∧ x.name.length ≤ 140737488351232 ∧ x.manifest.length ≤ 140737488351232

theorem cells_Nd {w : World} {f : Nat} {cs : List Value} (h : Cells Tryd.prog w f 37 cs) : ∃ x : Nod, cs = ndCells x ∧ ndWf x := by
  obtain ⟨hl, hf⟩ := cells_struct Tryd.underlying37 h
  rw [show Tryd.prog.cellsOf 37 = 7 by kernel_rfl] at hl
  match cs, hl with
  | [x0, x1, x2, x3, x4, x5, x6], _ =>
    have hs : Tryd.prog.cellsOf 30 = 2 := by kernel_rfl
    have hb : Tryd.prog.cellsOf 4 = 1 := by kernel_rfl
    have ht : Tryd.prog.cellsOf 9 = 1 := by kernel_rfl
    obtain ⟨f0, h0⟩ : ∃ f', Cells Tryd.prog w f' 30 [x0, x1] := by
      obtain ⟨f', h⟩ := hf 0 _ rfl
      exact ⟨f', by simpa [hs] using h⟩
    obtain ⟨f4, h4⟩ : ∃ f', Cells Tryd.prog w f' 4 [x2] := by
      obtain ⟨f', h⟩ := hf 1 _ rfl
      exact ⟨f', by simpa [hb] using h⟩
    obtain ⟨f5, h5⟩ : ∃ f', Cells Tryd.prog w f' 30 [x3, x4] := by
      obtain ⟨f', h⟩ := hf 2 _ rfl
      exact ⟨f', by simpa [hs] using h⟩
    obtain ⟨f6, h6⟩ : ∃ f', Cells Tryd.prog w f' 9 [x5] := by
      obtain ⟨f', h⟩ := hf 3 _ rfl
      exact ⟨f', by simpa [ht] using h⟩
    obtain ⟨f7, h7⟩ : ∃ f', Cells Tryd.prog w f' 9 [x6] := by
      obtain ⟨f', h⟩ := hf 4 _ rfl
      exact ⟨f', by simpa [ht] using h⟩
    obtain ⟨s, es, ws⟩ := cells_St h0
    obtain ⟨d, ed⟩ := cells_bool Tryd.underlying4 h4
    obtain ⟨p, ep, wp⟩ := cells_St h5
    obtain ⟨a, ea, wa⟩ := cells_string Tryd.underlying9 h6
    obtain ⟨m, em, wm⟩ := cells_string Tryd.underlying9 h7
    simp [stCells] at es ed ep ea em
    exact ⟨⟨s, d, p, a, m⟩, by simp [ndCells, es, ed, ep, ea, em], ws, wp, wa, wm⟩

theorem cells_Nds {w : World} {f : Nat} {cs : List Value} (h : Cells Tryd.prog w f 25 cs) :
    ∃ (A : Option Addr) (n c : Nat) (l : List Nod), cs = [.slice A n c] ∧ c * 72 ≤ 140737488351232 ∧ Sl w 7 A n c (l.map ndCells) ∧ (∀ x ∈ l, ndWf x) ∧ l.length = n := by
  obtain ⟨A, n, c, rows, rfl, hb, hr, hs⟩ := cells_slice Tryd.underlying25 (by rw [show Tryd.prog.cellsOf 37 = 7 by kernel_rfl]; omega) h
  rw [show Tryd.prog.bytesOf 37 = 72 by kernel_rfl] at hb
  rw [show Tryd.prog.cellsOf 37 = 7 by kernel_rfl] at hs
  obtain ⟨l, h1, h2, h3⟩ := sl_typed ndCells (q := ndWf) hs fun r hm => by
    obtain ⟨f', hf'⟩ := hr r hm
    exact cells_Nd hf'
  exact ⟨A, n, c, l, rfl, hb, h1, h2, h3⟩

theorem size_nd : (Tryd.prog.info? 37).map (·.size) = some 7 := by kernel_rfl
theorem ndArr_size (x : Nod) : (ndArr x).size = 7 := rfl
theorem ndArr_one (x : Nod) : (ndArr x).all (·.oneCell') = true := by simp [ndArr, ndCells, Value.oneCell']
set_option maxRecDepth 20000 in
set_option maxHeartbeats 1000000 in
/-- Two nodes are compared. -/
theorem eq_nd (x y : Nod) (w : World) : (binOp .eql 37 (ndVal x) (ndVal y)).run Tryd.prog w = .ok (.bool (decide (x = y))) w := by
  rw [ndVal, ndVal, run_eql_struct, run_equalIn_agg _ _ _ _ _ (by kernel_rfl) (by kernel_rfl)]
  unfold ndArr ndCells
  have u25 := Tryd.underlying37
  have u23 := Tryd.underlying30
  have u3 := Tryd.underlying3
  have u4 := Tryd.underlying4
  have u9 := Tryd.underlying9
  simp only [go_sem, u25]
  go_simp
  by_cases h : x = y
  · subst h; simp
  · rw [decide_eq_false h]
    have hb : ∀ l m : List UInt8, (BS l).toList = (BS m).toList → l = m := fun l m e => by
      rw [Go.Lib.toList_data, Go.Lib.toList_data, BS_list, BS_list] at e; exact e
    split
    · split
      · split
        · split
          · split
            · split
              · split
                · rename_i h0 h1 h2 h3 h4 h5 h6
                  exfalso
                  apply h
                  have e5 := hb _ _ h5
                  have e6 := hb _ _ h6
                  obtain ⟨⟨a, b⟩, g, ⟨i, j⟩, k, l⟩ := x
                  obtain ⟨⟨a', b'⟩, g', ⟨i', j'⟩, k', l'⟩ := y
                  simp only at h0 h1 h2 h3 h4 e5 e6
                  subst h0; subst h1; subst h2; subst h3; subst h4; subst e5; subst e6
                  rfl
                · rfl
              · rfl
            · rfl
          · rfl
        · rfl
      · rfl
    · rfl

theorem ne_nd (x y : Nod) (w : World) : (binOp .neq 37 (ndVal x) (ndVal y)).run Tryd.prog w = .ok (.bool (!decide (x = y))) w := by
  have h := eq_nd x y w
  rw [ndVal, ndVal, run_eql_struct] at h
  rw [ndVal, ndVal, run_neq_struct]
  cases hr : (Op.equalIn 10000 37 (.agg (ndArr x)) (.agg (ndArr y))).run Tryd.prog w with
  | ok b w' =>
    rw [hr] at h
    simp only [Result.andThen_ok] at h ⊢
    injection h with h1 h2
    injection h1 with h1
    rw [h1, h2]
  | halt a w' =>
    rw [hr] at h
    simp [Result.andThen] at h

/-- The node x lies at offset o of block b. -/
def NodAt (w : World) (b o : Nat) (x : Nod) : Prop := w.rangeAt b o (ndCells x)
theorem NodAt.lt {w : World} {b o : Nat} {x : Nod} (h : NodAt w b o x) : b < w.heap.size := World.block_lt_of_cell? w _ (h 0 _ rfl)
theorem NodAt.below {w w' : World} {b o : Nat} {x : Nod} (h : NodAt w b o x) (hb : Below w.heap.size w w') : NodAt w' b o x := fun j v hv => (hb.cell (p := ⟨b, o + j, none⟩) h.lt).trans (h j v hv)
theorem NodAt.under {w w' : World} {B b o : Nat} {x : Nod} (h : NodAt w b o x) (hb : Below B w w') (hl : b < B) : NodAt w' b o x := fun j v hv => (hb.cell (p := ⟨b, o + j, none⟩) hl).trans (h j v hv)
theorem NodAt.new (w : World) (x : Nod) (t : TypeId) : NodAt (w.alloc (.cells (ndArr x) t)) w.heap.size 0 x := fun j v hv => by
  rw [cell_of_row _ _ _ _ _ _ (heap_alloc_new w _), Nat.zero_add]
  simpa [ndArr] using hv
theorem NodAt.of_block {w : World} {b : Nat} {x : Nod} {t : TypeId} {fr : Nat × Nat} (h : w.heap[b]? = some (.cells (ndArr x) t fr)) : NodAt w b 0 x := fun j v hv => by
  rw [cell_of_row _ _ _ _ _ _ h, Nat.zero_add]
  simpa [ndArr] using hv
theorem nd_cells {w : World} {b o : Nat} {x : Nod} (h : NodAt w b o x) :
    w.cell? ⟨b, o, none⟩ = some (.int .i64 x.id.count) ∧ w.cell? ⟨b, o + 1, none⟩ = some (.int .i64 x.id.who) ∧ w.cell? ⟨b, o + 2, none⟩ = some (.bool x.dir) ∧ w.cell? ⟨b, o + 3, none⟩ = some (.int .i64 x.parent.count) ∧ w.cell? ⟨b, o + 4, none⟩ = some (.int .i64 x.parent.who) ∧ w.cell? ⟨b, o + 5, none⟩ = some (.string (BS x.name)) ∧ w.cell? ⟨b, o + 6, none⟩ = some (.string (BS x.manifest)) :=
  ⟨h 0 _ rfl, h 1 _ rfl, h 2 _ rfl, h 3 _ rfl, h 4 _ rfl, h 5 _ rfl, h 6 _ rfl⟩
theorem nd_cells0 {w : World} {b : Nat} {x : Nod} (h : NodAt w b 0 x) :
    w.cell? ⟨b, 0, none⟩ = some (.int .i64 x.id.count) ∧ w.cell? ⟨b, 1, none⟩ = some (.int .i64 x.id.who) ∧ w.cell? ⟨b, 2, none⟩ = some (.bool x.dir) ∧ w.cell? ⟨b, 3, none⟩ = some (.int .i64 x.parent.count) ∧ w.cell? ⟨b, 4, none⟩ = some (.int .i64 x.parent.who) ∧ w.cell? ⟨b, 5, none⟩ = some (.string (BS x.name)) ∧ w.cell? ⟨b, 6, none⟩ = some (.string (BS x.manifest)) := by
  have := nd_cells h
  simpa only [Nat.zero_add] using this
/-- The value v is the nodes l. -/
def Nods (w : World) (v : Value) (l : List Nod) : Prop :=
  ∃ A n c, v = .slice A n c ∧ l.length = n ∧ n ≤ c ∧ (A = none → c = 0) ∧ (0 < n → ∃ b off, A = some ⟨b, off, none⟩ ∧ ∀ j x, l[j]? = some x → NodAt w b (off + j * 7) x)
theorem Nods.below {w w' : World} {v : Value} {l : List Nod} (h : Nods w v l) (hb : Below w.heap.size w w') : Nods w' v l := by
  obtain ⟨A, n, c, hv, hl, hc, hA0, hr⟩ := h
  refine ⟨A, n, c, hv, hl, hc, hA0, fun h0 => ?_⟩
  obtain ⟨b, off, hA, hz⟩ := hr h0
  exact ⟨b, off, hA, fun j x hj => (hz j x hj).below hb⟩
theorem Nods.nil (w : World) : Nods w (.slice none 0 0) [] := ⟨none, 0, 0, rfl, rfl, Nat.le_refl _, fun _ => rfl, fun h => by omega⟩
theorem Nods.of_sl {w : World} {A : Option Addr} {n c : Nat} {l : List Nod} (h : Sl w 7 A n c (l.map ndCells)) : Nods w (.slice A n c) l := by
  refine ⟨A, n, c, rfl, by simpa using h.1, h.2.1, h.2.2.1, fun h0 => ?_⟩
  obtain ⟨b, off, hA, hr⟩ := h.2.2.2 h0
  refine ⟨b, off, hA, fun j x hj => ?_⟩
  have := (hr j (ndCells x) (by simp [hj])).2
  intro k v hv
  have h1 := this k v hv
  rw [show off + j * 7 + k = off + (j * 7 + k) by omega]
  first | exact h1 | (rw [← Nat.add_assoc]; exact h1)
end Go.Proofs.YthcoldjncpiffaaDoor.W
