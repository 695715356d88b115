/- slices.Insert of one node. -/
import Derived.Test.YtjeijolblcodpaaDoorMg3
import Derived.Test.YtjeijolblcodpaaDoorMg8
import Derived.Test.YtjeijolblcodpaaDoorMg10
import Derived.Lib.Overlaps
import Derived.Lib.AppendZerosOnto
import Derived.Shelf.Spec.SlicesInsert
namespace Go.Proofs.YtjeijolblcodpaaDoor.W
set_option maxRecDepth 20000
set_option linter.unusedVariables false
open Go.RowKit Go.Proofs Arb

theorem ndsCells_take (l : List Nod) (k : Nat) (hk : k ≤ l.length) : ndsCells (l.take k) = (ndsCells l).take (k * 7) := by
  have h : ndsCells l = ndsCells (l.take k) ++ ndsCells (l.drop k) := by rw [← ndsCells_append, List.take_append_drop]
  have hl : (ndsCells (l.take k)).length = k * 7 := by rw [ndsCells_length, List.length_take]; omega
  rw [h, ← hl, List.take_left]
theorem ndsCells_drop (l : List Nod) (k : Nat) (hk : k ≤ l.length) : ndsCells (l.drop k) = (ndsCells l).drop (k * 7) := by
  have h : ndsCells l = ndsCells (l.take k) ++ ndsCells (l.drop k) := by rw [← ndsCells_append, List.take_append_drop]
  have hl : (ndsCells (l.take k)).length = k * 7 := by rw [ndsCells_length, List.length_take]; omega
  rw [h, ← hl, List.drop_left]
theorem ndsCells_splice (l : List Nod) (y : Nod) (k : Nat) (hk : k ≤ l.length) : (ndsCells l).take (k * 7) ++ ndCells y ++ (ndsCells l).drop (k * 7) = ndsCells (l.take k ++ y :: l.drop k) := by
  rw [← ndsCells_take l k hk, ← ndsCells_drop l k hk, show l.take k ++ y :: l.drop k = l.take k ++ [y] ++ l.drop k by simp, ndsCells_append, ndsCells_append, ndsCells_one]

theorem row_fits {w : World} {base n c size : Nat} {e : TypeId} {A : Option Addr} {xs : List Value} (h : Row w base e size (.slice A n c) n xs) : n ≤ c := by
  rcases h.2 with ⟨h1, h2⟩ | ⟨g, cap, cur, fz, h1, _, _, _, h2, _⟩
  · omega
  · injection h1 with _ _ h1
    omega

set_option maxRecDepth 20000 in
set_option maxHeartbeats 4000000 in
/-- At the end. -/
theorem pinsert_end (base : Nat) (v : Value) (l : List Nod) (y : Nod) (vb : Nat) (w : World) (h : Row w base 49 7 v l.length (ndsCells l)) (hl : l.length ≤ 10000) (hy : NdB w vb y) (hbase : base ≤ w.heap.size) :
    Calls Tryd.prog 73 #[v, .int .i64 (l.length : Int), .slice (some ⟨vb, 0, none⟩) 1 1] w fun e w' => ∃ v', e = .returned v' ∧ Row w' base 49 7 v' (l.length + 1) (ndsCells (l ++ [y])) ∧ Below base w w' := by
  obtain ⟨A, c, rfl⟩ := row_form h
  have hnc : l.length ≤ c := row_fits h
  obtain ⟨n, hn⟩ : ∃ n, l.length = n := ⟨_, rfl⟩
  rw [hn] at h hl hnc
  rw [hn]
  have hrd : Rd w 7 (.slice (some ⟨vb, 0, none⟩) 1 1) 1 (ndsCells [y]) := by
    refine ⟨by simp [ndsCells, ndCells], .inr ⟨_, 1, rfl, fun j u hu => ?_⟩⟩
    rw [ndsCells_one] at hu
    rw [Go.Lib.addr_add, Nat.zero_add]
    have := hy.at j u hu
    rw [Nat.zero_add] at this
    exact this
  have HROW := Go.Lib.hid h; have HRD := Go.Lib.hid hrd
  clear h hrd hy hn
  go_enter Tryd.func73, Tryd.ntmps73
  go_wp2_with (at_builtin; refine wpList_append_nds rfl (.tmp 23) (.tmp 24) rfl base (.slice A n c) n l rfl HROW.out (.slice (some ⟨vb, 0, none⟩) 1 1) 1 [y] rfl HRD.out (by omega) (by omega) hbase ?_; intro v4 W4 hr4 hb4)
  all_goals (
    go_ret
    exact ⟨_, rfl, hr4, hb4⟩)

set_option maxRecDepth 20000 in
set_option maxHeartbeats 8000000 in
/-- Ahead of others, where there is room: in place. -/
theorem pinsert_shift (base g n cap k : Nat) (l : List Nod) (y : Nod) (vb : Nat) (w : World) (h : Row w base 49 7 (.slice (some ⟨g, 0, none⟩) n cap) n (ndsCells l)) (hln : l.length = n) (hl : n ≤ 10000) (hk : k < n) (hroom : n < cap) (hy : NdB w vb y) (hne : vb ≠ g) :
    Calls Tryd.prog 73 #[.slice (some ⟨g, 0, none⟩) n cap, .int .i64 (k : Int), .slice (some ⟨vb, 0, none⟩) 1 1] w fun e w' => e = .returned (.slice (some ⟨g, 0, none⟩) (n + 1) cap) ∧ w' = (w.drew.setCells g ((k + 1) * 7) ((ndsCells l).drop (k * 7))).setCells g (k * 7) (ndCells y) := by
  have hxl : (ndsCells l).length = n * 7 := by rw [ndsCells_length, hln]
  obtain ⟨cur, fz, hg, hfz, hcm, hcs, htk⟩ : ∃ cur fz, w.heap[g]? = some (.cells cur 49 fz) ∧ (fz.2 = 0 ∨ cur.size ≤ fz.1) ∧ cap ≤ maxLen ∧ cur.size = cap * 7 ∧ cur.toList.take (n * 7) = ndsCells l := by
    rcases h.2 with ⟨h1, h2⟩ | ⟨g', cap', cur, fz, h1, hb, hgg, hfz, hnc, hcm, hcs, ht⟩
    · cases h1
    · cases h1; exact ⟨cur, fz, hgg, hfz, hcm, hcs, ht⟩
  have hc63 : (cap : Int) ≤ 9223372036854775807 := by unfold maxLen at hcm; omega
  have hsp : ∀ (W : World) cur', W.heap[g]? = some (.cells cur' 49 fz) → cur'.size = cap * 7 → ∀ j, j < cap * 7 → (W.cell? ⟨g, j, none⟩).isSome = true ∧ W.frozen? ⟨g, j, none⟩ = false := fun W cur' hW hs j hj => by
    refine ⟨by rw [cell_of_row _ _ _ _ _ _ hW, Array.getElem?_eq_getElem (by omega)]; rfl, ?_⟩
    obtain ⟨lo, hi⟩ := fz
    simp only [World.frozen?, hW, Bool.and_eq_false_iff, decide_eq_false_iff_not]
    simp only at hfz
    omega
  have hov : ∀ o lb cb, (callFunc 84 #[.slice (some ⟨vb, 0, none⟩) 1 1, .slice (some ⟨g, o, none⟩) lb cb]).run Tryd.prog w = .ok (.value (.bool false)) w := fun o lb cb => by
    rw [run_callFunc_extern Tryd.func84 (by kernel_rfl) (by kernel_rfl) (by kernel_rfl) (e := Extern.SlicesOverlaps.overlaps #[40, 40] #[4]) (by kernel_rfl),
      Lib.run_overlaps_apart w 40 4 49 Tryd.underlying40 7 Tryd.sizeOf49 ⟨vb, 0, none⟩ ⟨g, o, none⟩ 1 1 lb cb hne 49 49 7 (cap * 7) (by simp only [World.shape?]; rw [hy]; rfl) (by simp only [World.shape?]; rw [hg, ← hcs]) (by omega) (frozen_of_row _ _ _ _ _ hy) (frozen_of_row _ _ _ _ _ hy)]
    rfl
  have hdl : ((ndsCells l).drop (k * 7)).length = (n - k) * 7 := by rw [List.length_drop, hxl]; omega
  have hcp1 : ∀ ty dc sc, (Builtin.copy_ #[40, 40] ty #[.slice (some ⟨g, (k + 1) * 7, none⟩) (n - k) dc, .slice (some ⟨g, k * 7, none⟩) (n + 1 - k) sc]).run Tryd.prog w.drew = .ok (goInt (n - k : Nat)) (w.drew.setCells g ((k + 1) * 7) ((ndsCells l).drop (k * 7))) := fun ty dc sc =>
    run_copy_sized w.drew _ _ ty 49 7 (n - k) g ((k + 1) * 7) (n - k) dc ⟨g, k * 7, none⟩ (n + 1 - k) sc _ Tryd.underlying40 size_nd (by simp only [Nat.min_def]; split <;> omega) hdl
      (fun j v hj => by
        rw [Go.Lib.addr_add]
        rw [List.getElem?_drop, ← htk, List.getElem?_take] at hj
        split at hj
        · have := cell_of_row w g (k * 7 + j) cur 49 fz hg
          exact this.trans (by simpa using hj)
        · cases hj)
      (fun j hj => (hsp w cur hg hcs _ (by omega)).1) (fun j hj => (hsp w cur hg hcs _ (by omega)).2) (fun v hv => nds_oneCell l v (List.mem_of_mem_drop hv))
  obtain ⟨W1, hW1⟩ : ∃ W, w.drew.setCells g ((k + 1) * 7) ((ndsCells l).drop (k * 7)) = W := ⟨_, rfl⟩
  have hg1 : W1.heap[g]? = some (.cells (layAt cur ((k + 1) * 7) ((ndsCells l).drop (k * 7))) 49 fz) := by rw [← hW1]; exact heap_setCells_same _ _ w.drew cur hg
  have hy1 : NdB W1 vb y := by rw [← hW1]; exact (heap_setCells_other hne _ _ w.drew).trans hy
  have hcp2 : ∀ (W : World), W.heap = W1.heap → ∀ ty dl dc, 1 ≤ dl → (Builtin.copy_ #[40, 40] ty #[.slice (some ⟨g, k * 7, none⟩) dl dc, .slice (some ⟨vb, 0, none⟩) 1 1]).run Tryd.prog W = .ok (goInt (1 : Nat)) (W.setCells g (k * 7) (ndCells y)) := fun W hW ty dl dc hdl =>
    run_copy_sized W _ _ ty 49 7 1 g (k * 7) dl dc ⟨vb, 0, none⟩ 1 1 _ Tryd.underlying40 size_nd (by simp only [Nat.min_def]; split <;> omega) rfl
      (fun j v hj => by
        rw [Go.Lib.addr_add]
        have h9 : NdB W vb y := by unfold NdB; rw [hW]; exact hy1
        have := h9.at j v hj
        exact this)
      (fun j hj => (hsp W _ (by rw [hW]; exact hg1) (by rw [layAt_size]; exact hcs) _ (by change j < 7 at hj; omega)).1) (fun j hj => (hsp W _ (by rw [hW]; exact hg1) (by rw [layAt_size]; exact hcs) _ (by change j < 7 at hj; omega)).2) (nd_oneCell y)
  rw [hW1] at hcp1 ⊢
  have HCP1 := Go.Lib.hid hcp1; have HCP2 := Go.Lib.hid hcp2; have HOV := Go.Lib.hid hov
  have hw1 : IntKind.i64.wrap ((k : Int) + 1) = (k : Int) + 1 := by rw [IntKind.wrap_i64]; omega
  have hw2 : IntKind.i64.wrap ((n : Int) + 1) = (n : Int) + 1 := by rw [IntKind.wrap_i64]; omega
  have hb1 : ¬ ((k : Int) = (n : Int)) := by omega
  have hb2 : ¬ (cap = k + 1) := by omega
  have hb3 : ¬ ((cap : Int) < (n : Int) + 1) := by omega
  have hb4 : ¬ (cap = k) := by omega
  have hb5 : (0 : Int) ≤ (k : Int) + 1 := by omega
  have hin : k ≤ n := by omega
  have hb6 : (k : Int) ≤ (n : Int) + 1 := by omega
  have hb7 : k ≤ n + 1 := by omega
  clear hcp1 hcp2 hov hsp hg hfz hcs htk hg1 hy1 hy hxl hdl h hW1 hcm
  go_enter Tryd.func73, Tryd.ntmps73
  have hov := HOV.out
  go_wp2_with (simp only [hov])
  clear hov
  have mixed : Tryd.prog.follows .mixedOrders = true := by kernel_rfl
  go_region_law_o (refine step_copy_runI rfl _ _ 40 40 rfl (.slice (some ⟨g, (k + 1) * 7, none⟩) (n - k) (cap - (k + 1))) (.slice (some ⟨g, k * 7, none⟩) (n + 1 - k) (cap - k)) (by simp [Act.eval, Act.put]) (by simp [Act.eval, Act.put]) (HCP1.out _ _ _) ?_)
  go_wp2_with fail
  simp only [HCP2.out W1 rfl _ _ _ (show 1 ≤ n + 1 - k by omega)]
  go_wp2_with fail
  go_ret
  exact ⟨rfl, rfl⟩

set_option maxRecDepth 20000 in
set_option maxHeartbeats 8000000 in
/-- Ahead of others, where there is no room: a new row. -/
theorem pinsert_grow (base g n cap k : Nat) (l : List Nod) (y : Nod) (vb : Nat) (w : World) (h : Row w base 49 7 (.slice (some ⟨g, 0, none⟩) n cap) n (ndsCells l)) (hln : l.length = n) (hl : n ≤ 10000) (hk : k < n) (hcap : cap ≤ n) (hy : NdB w vb y) (hbase : base ≤ w.heap.size) :
    Calls Tryd.prog 73 #[.slice (some ⟨g, 0, none⟩) n cap, .int .i64 (k : Int), .slice (some ⟨vb, 0, none⟩) 1 1] w fun e w' => ∃ v', e = .returned v' ∧ Row w' base 49 7 v' (n + 1) (ndsCells (l.take k ++ y :: l.drop k)) ∧ Below base w w' := by
  have hxl : (ndsCells l).length = n * 7 := by rw [ndsCells_length, hln]
  have hnc : n ≤ cap := row_fits h
  obtain ⟨g', cap', he, -, hbg, hlt, hcell, -⟩ := h.open (by omega)
  cases he
  obtain ⟨i0, hi, hz0, hz1, hz2⟩ := info_parts info_nd
  obtain ⟨z, hzz⟩ : ∃ z : Value, z = .agg #[.int .i64 0, .int .i64 0, .bool false, .int .i64 0, .int .i64 0, .string ⟨#[]⟩, .string ⟨#[]⟩] := ⟨_, rfl⟩
  rw [← hzz] at hz0
  have hzc : z.cells.size = 7 := by rw [hzz]; rfl
  clear hzz
  have hkk : (n : Int) + 1 - (k : Int) = ((n + 1 - k : Nat) : Int) := by omega
  have hik : k + (n + 1 - k) = n + 1 := by omega
  have hold : (Builtin.firstCells i0.size k (.slice (some ⟨g, 0, none⟩) k cap)).run Tryd.prog w.drew = .ok ((ndsCells l).take (k * 7)).toArray w.drew := by
    rw [hz1]
    exact run_firstCells_some (P := Tryd.prog) (w := w.drew) 7 k ⟨g, 0, none⟩ k cap ((ndsCells l).take (k * 7)) (by rw [List.length_take]; omega) (fun j v hj => by
      rw [Go.Lib.addr_add, Nat.zero_add]
      rw [List.getElem?_take] at hj
      split at hj
      · exact hcell j v hj
      · cases hj)
  have hrz : ∀ ty, (Builtin.append_ #[40, 3] ty #[.slice (some ⟨g, 0, none⟩) k cap, .int .i64 ((n : Int) + 1 - (k : Int))]).run Tryd.prog w =
      .ok (.slice (some ⟨w.heap.size, 0, none⟩) (n + 1) (grownCap w (n + 1) cap 49)) (w.drew.alloc (.cells (((ndsCells l).take (k * 7)).toArray ++ Builtin.zeroCells z.cells (n + 1 - k) ++ Builtin.zeroCells z.cells (grownCap w (n + 1) cap 49 - (n + 1))) 49)) := fun ty => by
    have h := Lib.run_append_grow_zeros (P := Tryd.prog) w 40 3 ty 49 i0 z .i64 .i64 Tryd.underlying40 Tryd.underlying3 hi hz0 (some ⟨g, 0, none⟩) k cap _ hold (n + 1 - k) (by omega) (by rw [hz1]; omega) (by omega) (by omega) (by rw [hz2]; omega) (by rw [hz2, hik]; exact growslice_fits (by omega) (by omega))
    rw [hik] at h
    rw [hkk]
    exact h
  have hGn : n + 1 ≤ grownCap w (n + 1) cap 49 := grownCap_ge w _ _ _
  have hGm : grownCap w (n + 1) cap 49 ≤ maxLen := grownCap_le_maxLen w (n + 1) cap 49 (by unfold maxLen; omega)
  obtain ⟨G, hG⟩ : ∃ G, grownCap w (n + 1) cap 49 = G := ⟨_, rfl⟩
  rw [hG] at hrz hGn hGm
  obtain ⟨ROW, hROW⟩ : ∃ R : Array Value, ((ndsCells l).take (k * 7)).toArray ++ Builtin.zeroCells z.cells (n + 1 - k) ++ Builtin.zeroCells z.cells (G - (n + 1)) = R := ⟨_, rfl⟩
  rw [hROW] at hrz
  have hRs : ROW.size = G * 7 := by
    rw [← hROW]
    simp only [Array.size_append, List.size_toArray, size_zeroCells, hzc, List.length_take, hxl]
    omega
  have hRp : ∀ j, j < k * 7 → ROW[j]? = (ndsCells l)[j]? := fun j hj => by
    have h1 : j < ((ndsCells l).take (k * 7)).toArray.size := by simp [hxl]; omega
    rw [← hROW, Array.append_assoc, Array.getElem?_append_left h1]
    simp [hj]
  obtain ⟨gN, hgN⟩ : ∃ b, w.heap.size = b := ⟨_, rfl⟩
  have hvb : vb < gN := by rw [← hgN]; exact hy.lt
  have hgl : g < gN := by rw [← hgN]; exact hlt
  obtain ⟨W1, hW1⟩ : ∃ W, w.drew.alloc (.cells ROW 49) = W := ⟨_, rfl⟩
  rw [hW1] at hrz
  have h1N : W1.heap[gN]? = some (.cells ROW 49 (0, 0)) := by rw [← hW1, ← hgN]; exact heap_alloc_new w.drew _
  have h1o : ∀ j, j < gN → W1.heap[j]? = w.heap[j]? := fun j hj => by rw [← hW1]; exact Below.heap_alloc w.drew _ j (by rw [← hgN] at hj; exact hj)
  have hb1 : Below base w W1 := by rw [← hW1]; exact (Below.refl base w).drew.alloc hbase _
  have hsp : ∀ (W : World) cur', W.heap[gN]? = some (.cells cur' 49 (0, 0)) → cur'.size = G * 7 → ∀ j, j < G * 7 → (W.cell? ⟨gN, j, none⟩).isSome = true ∧ W.frozen? ⟨gN, j, none⟩ = false := fun W cur' hW hs j hj =>
    ⟨by rw [cell_of_row _ _ _ _ _ _ hW, Array.getElem?_eq_getElem (by omega)]; rfl, frozen_of_row _ _ _ _ _ hW⟩
  have hcpA : ∀ ty dl dc, 1 ≤ dl → (Builtin.copy_ #[40, 40] ty #[.slice (some ⟨gN, k * 7, none⟩) dl dc, .slice (some ⟨vb, 0, none⟩) 1 1]).run Tryd.prog W1 = .ok (goInt (1 : Nat)) (W1.setCells gN (k * 7) (ndCells y)) := fun ty dl dc hdl =>
    run_copy_sized W1 _ _ ty 49 7 1 gN (k * 7) dl dc ⟨vb, 0, none⟩ 1 1 _ Tryd.underlying40 size_nd (by simp only [Nat.min_def]; split <;> omega) rfl
      (fun j v hj => by
        rw [Go.Lib.addr_add]
        have h9 : NdB W1 vb y := (h1o vb hvb).trans hy
        exact h9.at j v hj)
      (fun j hj => (hsp W1 _ h1N hRs _ (by change j < 7 at hj; omega)).1) (fun j hj => (hsp W1 _ h1N hRs _ (by change j < 7 at hj; omega)).2) (nd_oneCell y)
  obtain ⟨W2, hW2⟩ : ∃ W, W1.setCells gN (k * 7) (ndCells y) = W := ⟨_, rfl⟩
  rw [hW2] at hcpA
  have h2N : W2.heap[gN]? = some (.cells (layAt ROW (k * 7) (ndCells y)) 49 (0, 0)) := by rw [← hW2]; exact heap_setCells_same _ _ W1 ROW h1N
  have h2o : ∀ j, j < gN → W2.heap[j]? = w.heap[j]? := fun j hj => by rw [← hW2, heap_setCells_other (by omega)]; exact h1o j hj
  have hbN : base ≤ gN := by rw [← hgN]; exact hbase
  have hb2 : Below base w W2 := by rw [← hW2]; exact below_setCells hbN _ _ _ hb1
  have hdl : ((ndsCells l).drop (k * 7)).length = (n - k) * 7 := by rw [List.length_drop, hxl]; omega
  have hcpB : ∀ ty dc sc, (Builtin.copy_ #[40, 40] ty #[.slice (some ⟨gN, (k + 1) * 7, none⟩) (n - k) dc, .slice (some ⟨g, k * 7, none⟩) (n - k) sc]).run Tryd.prog W2.drew = .ok (goInt (n - k : Nat)) (W2.drew.setCells gN ((k + 1) * 7) ((ndsCells l).drop (k * 7))) := fun ty dc sc =>
    run_copy_sized W2.drew _ _ ty 49 7 (n - k) gN ((k + 1) * 7) (n - k) dc ⟨g, k * 7, none⟩ (n - k) sc _ Tryd.underlying40 size_nd (by simp only [Nat.min_def]; split <;> omega) hdl
      (fun j v hj => by
        rw [Go.Lib.addr_add]
        rw [List.getElem?_drop] at hj
        have h9 := hcell _ _ hj
        rw [show W2.drew.cell? ⟨g, k * 7 + j, none⟩ = w.cell? ⟨g, k * 7 + j, none⟩ from World.cell?_of_block (w := w) (h2o g hgl)]
        exact h9)
      (fun j hj => (hsp W2 _ h2N (by rw [layAt_size]; exact hRs) _ (by omega)).1) (fun j hj => (hsp W2 _ h2N (by rw [layAt_size]; exact hRs) _ (by omega)).2) (fun v hv => nds_oneCell l v (List.mem_of_mem_drop hv))
  obtain ⟨W3, hW3⟩ : ∃ W, W2.drew.setCells gN ((k + 1) * 7) ((ndsCells l).drop (k * 7)) = W := ⟨_, rfl⟩
  rw [hW3] at hcpB
  have h3N : W3.heap[gN]? = some (.cells (layAt (layAt ROW (k * 7) (ndCells y)) ((k + 1) * 7) ((ndsCells l).drop (k * 7))) 49 (0, 0)) := by rw [← hW3]; exact heap_setCells_same _ _ W2.drew _ h2N
  have hb3 : Below base w W3 := by rw [← hW3]; exact below_setCells hbN _ _ _ hb2.drew
  obtain ⟨hs1, hs2⟩ := lay_splice (cur := ROW) (cur2 := layAt (layAt ROW (k * 7) (ndCells y)) ((k + 1) * 7) ((ndsCells l).drop (k * 7))) (xs := ndsCells l) (ys := ndCells y) (p := k * 7) (q := 7) (m := (n + 1) * 7) rfl (by omega) (by omega) (by omega) hRp (.inr (by rw [show (k + 1) * 7 = k * 7 + 7 by omega]))
  rw [ndsCells_splice l y k (by omega)] at hs1
  have hrow3 : Row W3 base 49 7 (.slice (some ⟨gN, 0, none⟩) (n + 1) G) (n + 1) (ndsCells (l.take k ++ y :: l.drop k)) :=
    ⟨by rw [ndsCells_length]; simp; omega, .inr ⟨gN, G, _, (0, 0), rfl, hbN, h3N, .inl rfl, hGn, hGm, by rw [hs2, hRs], hs1⟩⟩
  have HROW3 := Go.Lib.hid hrow3; have HB3 := Go.Lib.hid hb3; have HRZ := Go.Lib.hid hrz; have HCPA := Go.Lib.hid hcpA; have HCPB := Go.Lib.hid hcpB
  have hw1 : IntKind.i64.wrap ((k : Int) + 1) = (k : Int) + 1 := by rw [IntKind.wrap_i64]; omega
  have hw2 : IntKind.i64.wrap ((n : Int) + 1) = (n : Int) + 1 := by rw [IntKind.wrap_i64]; omega
  have hw3 : IntKind.i64.wrap ((n : Int) + 1 - (k : Int)) = (n : Int) + 1 - (k : Int) := by rw [IntKind.wrap_i64]; omega
  have hc63 : (cap : Int) ≤ 9223372036854775807 := by omega
  have hG63 : (G : Int) ≤ 9223372036854775807 := by unfold maxLen at hGm; omega
  have e1 : ¬ ((k : Int) = (n : Int)) := by omega
  have e2 : ¬ (G = k + 1) := by omega
  have e3 : (cap : Int) < (n : Int) + 1 := by omega
  have e4 : ¬ (cap = k) := by omega
  have e5 : (0 : Int) ≤ (k : Int) + 1 := by omega
  have e6 : k ≤ n := by omega
  have e7 : (k : Int) ≤ (n : Int) + 1 := by omega
  have e8 : k ≤ n + 1 := by omega
  have e9 : ¬ (G = k) := by omega
  have e10 : k ≤ cap := by omega
  clear hrow3 hb3 hrz hcpA hcpB hs1 hs2 h3N hW3 hb2 h2o h2N hW2 hsp hb1 h1o h1N hW1 hRp hRs hROW hG hold hkk hcell h hxl hy hdl hi hz0 hz1 hz2 hzc hGm hbN hvb hgl hlt hbg
  go_enter Tryd.func73, Tryd.ntmps73
  go_wp2_with (at_builtin; refine Lib.wpList_append_run _ rfl _ _ _ _ rfl _ _ rfl rfl _ _ (HRZ.out _) ?_)
  simp only [HCPA.out _ _ _ (show 1 ≤ n + 1 - k by omega)]
  go_wp2_with fail
  have mixed : Tryd.prog.follows .mixedOrders = true := by kernel_rfl
  go_region_law_o (refine step_copy_runI rfl _ _ 40 40 rfl (.slice (some ⟨gN, (k + 1) * 7, none⟩) (n - k) (G - (k + 1))) (.slice (some ⟨g, k * 7, none⟩) (n - k) (cap - k)) (by simp [Act.eval, Act.put]) (by simp [Act.eval, Act.put]) (HCPB.out _ _ _) ?_)
  go_wp2_with fail
  go_ret
  exact ⟨_, rfl, HROW3.out, HB3.out⟩

/-- slices.Insert of one node into a row of the call's own. -/
theorem pinsert_any (base : Nat) (v : Value) (l : List Nod) (k : Nat) (y : Nod) (vb : Nat) (w : World) (h : Row w base 49 7 v l.length (ndsCells l)) (hl : l.length ≤ 10000) (hk : k ≤ l.length) (hy : NdB w vb y) (hvb : v.ownBlock ≠ some vb) (hbase : base ≤ w.heap.size) :
    Calls Tryd.prog 73 #[v, .int .i64 (k : Int), .slice (some ⟨vb, 0, none⟩) 1 1] w fun e w' => ∃ v', e = .returned v' ∧ Row w' base 49 7 v' (l.length + 1) (ndsCells (l.take k ++ y :: l.drop k)) ∧ Below base w w' := by
  rcases Nat.lt_or_ge k l.length with hlt | hge
  · obtain ⟨g, cap, rfl, hnc, hbg, hgl, -, -⟩ := h.open (by omega)
    have hne : vb ≠ g := fun e => hvb (by simp [Value.ownBlock, e])
    rcases Nat.lt_or_ge l.length cap with hroom | hno
    · refine (pinsert_shift base g _ cap k l y vb w h rfl hl hlt hroom hy hne).mono ?_
      rintro e w' ⟨rfl, rfl⟩
      rcases h.2 with ⟨h1, h2⟩ | ⟨g', cap', cur, fz, h1, hb, hg, hfz, hnc, hcm, hcs, ht⟩
      · cases h1
      · cases h1
        have hxl : (ndsCells l).length = l.length * 7 := ndsCells_length l
        have hg1 := heap_setCells_same ((ndsCells l).drop (k * 7)) ((k + 1) * 7) w.drew cur hg
        have hg2 := heap_setCells_same (ndCells y) (k * 7) _ _ hg1
        obtain ⟨hs1, hs2⟩ := lay_splice (cur := cur) (cur2 := layAt (layAt cur ((k + 1) * 7) ((ndsCells l).drop (k * 7))) (k * 7) (ndCells y)) (xs := ndsCells l) (ys := ndCells y) (p := k * 7) (q := 7) (m := (l.length + 1) * 7) rfl (by omega) (by omega) (by omega) (fun j hj => by
          rw [← ht, List.getElem?_take, if_pos (by omega), Array.getElem?_toList]) (.inl (by rw [show (k + 1) * 7 = k * 7 + 7 by omega]))
        rw [ndsCells_splice l y k (by omega)] at hs1
        refine ⟨_, rfl, ⟨by rw [ndsCells_length]; simp; omega, .inr ⟨g, cap, _, fz, rfl, hbg, hg2, by rw [hs2]; exact hfz, hroom, hcm, by rw [hs2, hcs], hs1⟩⟩, below_setCells hbg _ _ _ (below_setCells hbg _ _ _ (Below.refl base w).drew)⟩
    · exact pinsert_grow base g _ cap k l y vb w h rfl hl hlt hno hy hbase
  · obtain rfl : k = l.length := by omega
    rw [List.take_length, List.drop_length]
    exact pinsert_end base v l y vb w h hl hy hbase
end Go.Proofs.YtjeijolblcodpaaDoor.W
