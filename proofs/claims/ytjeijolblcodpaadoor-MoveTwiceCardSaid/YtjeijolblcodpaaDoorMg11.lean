/- Parts of the proof that all the laws of this package share, in their order. Each says what is in it. -/
import Derived.Test.YtjeijolblcodpaaDoorMg4
import Derived.Test.YtjeijolblcodpaaDoorMg10
import Derived.Lib.Overlaps
import Derived.Lib.AppendZerosOnto
import Derived.Shelf.Spec.SlicesInsert
import Derived.Test.YtjeijolblcodpaaDoorMg2
import Derived.Test.YtjeijolblcodpaaDoorMg3
import Derived.Test.YtjeijolblcodpaaDoorMg9
import Derived.Test.YtjeijolblcodpaaDoorMg5
import Derived.Test.YtjeijolblcodpaaDoorShelf
import Derived.Test.YtjeijolblcodpaaDoorMg1

/- slices.Insert of one step. -/
section
namespace Go.Proofs.YtjeijolblcodpaaDoor.W
set_option maxRecDepth 20000
set_option linter.unusedVariables false
open Go.RowKit Go.Proofs Arb

theorem stpsCells_take (l : List Stp) (k : Nat) (hk : k ≤ l.length) : stpsCells (l.take k) = (stpsCells l).take (k * 19) := by
  have h : stpsCells l = stpsCells (l.take k) ++ stpsCells (l.drop k) := by rw [← stpsCells_append, List.take_append_drop]
  have hl : (stpsCells (l.take k)).length = k * 19 := by rw [stpsCells_length, List.length_take]; omega
  rw [h, ← hl, List.take_left]
theorem stpsCells_drop (l : List Stp) (k : Nat) (hk : k ≤ l.length) : stpsCells (l.drop k) = (stpsCells l).drop (k * 19) := by
  have h : stpsCells l = stpsCells (l.take k) ++ stpsCells (l.drop k) := by rw [← stpsCells_append, List.take_append_drop]
  have hl : (stpsCells (l.take k)).length = k * 19 := by rw [stpsCells_length, List.length_take]; omega
  rw [h, ← hl, List.drop_left]
theorem stpsCells_splice (l : List Stp) (y : Stp) (k : Nat) (hk : k ≤ l.length) : (stpsCells l).take (k * 19) ++ stpCells y ++ (stpsCells l).drop (k * 19) = stpsCells (l.take k ++ y :: l.drop k) := by
  rw [← stpsCells_take l k hk, ← stpsCells_drop l k hk, show l.take k ++ y :: l.drop k = l.take k ++ [y] ++ l.drop k by simp, stpsCells_append, stpsCells_append, stpsCells_one]

theorem row_fits8 {w : World} {base n c size : Nat} {e : TypeId} {A : Option Addr} {xs : List Value} (h : Row w base e size (.slice A n c) n xs) : n ≤ c := by
  rcases h.2 with ⟨h1, h2⟩ | ⟨g, cap, cur, fz, h1, _, _, _, h2, _⟩
  · omega
  · injection h1 with _ _ h1
    omega

set_option maxRecDepth 20000 in
set_option maxHeartbeats 4000000 in
/-- At the end. -/
theorem psinsert_end (base : Nat) (v : Value) (l : List Stp) (y : Stp) (vb : Nat) (w : World) (h : Row w base 58 19 v l.length (stpsCells l)) (hl : l.length ≤ 10000) (hy : SpB w vb y) (hbase : base ≤ w.heap.size) :
    Calls Tryd.prog 26 #[v, .int .i64 (l.length : Int), .slice (some ⟨vb, 0, none⟩) 1 1] w fun e w' => ∃ v', e = .returned v' ∧ Row w' base 58 19 v' (l.length + 1) (stpsCells (l ++ [y])) ∧ w.grownBy w' v.ownBlock ∧ (v'.ownBlock = v.ownBlock ∨ v'.ownBlock = some w.heap.size) := by
  obtain ⟨A, c, rfl⟩ := row_form h
  have hnc : l.length ≤ c := row_fits8 h
  obtain ⟨n, hn⟩ : ∃ n, l.length = n := ⟨_, rfl⟩
  rw [hn] at h hl hnc
  rw [hn]
  have hrd : Rd w 19 (.slice (some ⟨vb, 0, none⟩) 1 1) 1 (stpsCells [y]) := by
    refine ⟨by rw [stpsCells_length]; rfl, .inr ⟨_, 1, rfl, fun j u hu => ?_⟩⟩
    rw [stpsCells_one] at hu
    rw [Go.Lib.addr_add, Nat.zero_add]
    have := hy.at j u hu
    rw [Nat.zero_add] at this
    exact this
  obtain ⟨ob, hob⟩ : ∃ ob, (Value.slice A n c).ownBlock = ob := ⟨_, rfl⟩
  rw [hob]
  have HROW := Go.Lib.hid h; have HRD := Go.Lib.hid hrd; have HOB := Go.Lib.hid hob
  clear h hrd hy hn hob
  go_enter Tryd.func26, Tryd.ntmps26
  go_wp2_with (at_builtin; refine wpList_append_stps rfl (.tmp 23) (.tmp 24) rfl base (.slice A n c) n l rfl HROW.out (.slice (some ⟨vb, 0, none⟩) 1 1) 1 [y] rfl HRD.out (by omega) (by omega) hbase ?_; intro v4 W4 hr4 hb4 ho4; rw [HOB.out] at hb4 ho4)
  all_goals (
    go_ret
    exact ⟨_, rfl, hr4, hb4, ho4⟩)

set_option maxRecDepth 20000 in
set_option maxHeartbeats 8000000 in
/-- Ahead of others, where there is room: in place. -/
theorem psinsert_shift (base g n cap k : Nat) (l : List Stp) (y : Stp) (vb : Nat) (w : World) (h : Row w base 58 19 (.slice (some ⟨g, 0, none⟩) n cap) n (stpsCells l)) (hln : l.length = n) (hl : n ≤ 10000) (hk : k < n) (hroom : n < cap) (hy : SpB w vb y) (hne : vb ≠ g) :
    Calls Tryd.prog 26 #[.slice (some ⟨g, 0, none⟩) n cap, .int .i64 (k : Int), .slice (some ⟨vb, 0, none⟩) 1 1] w fun e w' => e = .returned (.slice (some ⟨g, 0, none⟩) (n + 1) cap) ∧ w' = (w.drew.setCells g ((k + 1) * 19) ((stpsCells l).drop (k * 19))).setCells g (k * 19) (stpCells y) := by
  have hxl : (stpsCells l).length = n * 19 := by rw [stpsCells_length, hln]
  obtain ⟨cur, fz, hg, hfz, hcm, hcs, htk⟩ : ∃ cur fz, w.heap[g]? = some (.cells cur 58 fz) ∧ (fz.2 = 0 ∨ cur.size ≤ fz.1) ∧ cap ≤ maxLen ∧ cur.size = cap * 19 ∧ cur.toList.take (n * 19) = stpsCells l := by
    rcases h.2 with ⟨h1, h2⟩ | ⟨g', cap', cur, fz, h1, hb, hgg, hfz, hnc, hcm, hcs, ht⟩
    · cases h1
    · cases h1; exact ⟨cur, fz, hgg, hfz, hcm, hcs, ht⟩
  have hc63 : (cap : Int) ≤ 9223372036854775807 := by unfold maxLen at hcm; omega
  have hsp : ∀ (W : World) cur', W.heap[g]? = some (.cells cur' 58 fz) → cur'.size = cap * 19 → ∀ j, j < cap * 19 → (W.cell? ⟨g, j, none⟩).isSome = true ∧ W.frozen? ⟨g, j, none⟩ = false := fun W cur' hW hs j hj => by
    refine ⟨by rw [cell_of_row _ _ _ _ _ _ hW, Array.getElem?_eq_getElem (by omega)]; rfl, ?_⟩
    obtain ⟨lo, hi⟩ := fz
    simp only [World.frozen?, hW, Bool.and_eq_false_iff, decide_eq_false_iff_not]
    simp only at hfz
    omega
  have hov : ∀ o lb cb, (callFunc 40 #[.slice (some ⟨vb, 0, none⟩) 1 1, .slice (some ⟨g, o, none⟩) lb cb]).run Tryd.prog w = .ok (.value (.bool false)) w := fun o lb cb => by
    rw [run_callFunc_extern Tryd.func40 (by kernel_rfl) (by kernel_rfl) (by kernel_rfl) (e := Extern.SlicesOverlaps.overlaps #[52, 52] #[4]) (by kernel_rfl),
      Lib.run_overlaps_apart w 52 4 58 Tryd.underlying52 19 Tryd.sizeOf58 ⟨vb, 0, none⟩ ⟨g, o, none⟩ 1 1 lb cb hne 58 58 19 (cap * 19) (by simp only [World.shape?]; rw [hy]; rfl) (by simp only [World.shape?]; rw [hg, ← hcs]) (by omega) (frozen_of_row _ _ _ _ _ hy) (frozen_of_row _ _ _ _ _ hy)]
    rfl
  have hdl : ((stpsCells l).drop (k * 19)).length = (n - k) * 19 := by rw [List.length_drop, hxl]; omega
  have hcp1 : ∀ ty dc sc, (Builtin.copy_ #[52, 52] ty #[.slice (some ⟨g, (k + 1) * 19, none⟩) (n - k) dc, .slice (some ⟨g, k * 19, none⟩) (n + 1 - k) sc]).run Tryd.prog w.drew = .ok (goInt (n - k : Nat)) (w.drew.setCells g ((k + 1) * 19) ((stpsCells l).drop (k * 19))) := fun ty dc sc =>
    run_copy_sized w.drew _ _ ty 58 19 (n - k) g ((k + 1) * 19) (n - k) dc ⟨g, k * 19, none⟩ (n + 1 - k) sc _ Tryd.underlying52 size_stp (by simp only [Nat.min_def]; split <;> omega) hdl
      (fun j v hj => by
        rw [Go.Lib.addr_add]
        rw [List.getElem?_drop, ← htk, List.getElem?_take] at hj
        split at hj
        · have := cell_of_row w g (k * 19 + j) cur 58 fz hg
          exact this.trans (by simpa using hj)
        · cases hj)
      (fun j hj => (hsp w cur hg hcs _ (by omega)).1) (fun j hj => (hsp w cur hg hcs _ (by omega)).2) (fun v hv => stps_oneCell l v (List.mem_of_mem_drop hv))
  obtain ⟨W1, hW1⟩ : ∃ W, w.drew.setCells g ((k + 1) * 19) ((stpsCells l).drop (k * 19)) = W := ⟨_, rfl⟩
  have hg1 : W1.heap[g]? = some (.cells (layAt cur ((k + 1) * 19) ((stpsCells l).drop (k * 19))) 58 fz) := by rw [← hW1]; exact heap_setCells_same _ _ w.drew cur hg
  have hy1 : SpB W1 vb y := by rw [← hW1]; exact (heap_setCells_other hne _ _ w.drew).trans hy
  have hcp2 : ∀ (W : World), W.heap = W1.heap → ∀ ty dl dc, 1 ≤ dl → (Builtin.copy_ #[52, 52] ty #[.slice (some ⟨g, k * 19, none⟩) dl dc, .slice (some ⟨vb, 0, none⟩) 1 1]).run Tryd.prog W = .ok (goInt (1 : Nat)) (W.setCells g (k * 19) (stpCells y)) := fun W hW ty dl dc hdl =>
    run_copy_sized W _ _ ty 58 19 1 g (k * 19) dl dc ⟨vb, 0, none⟩ 1 1 _ Tryd.underlying52 size_stp (by simp only [Nat.min_def]; split <;> omega) rfl
      (fun j v hj => by
        rw [Go.Lib.addr_add]
        have h9 : SpB W vb y := by unfold SpB; rw [hW]; exact hy1
        have := h9.at j v hj
        exact this)
      (fun j hj => (hsp W _ (by rw [hW]; exact hg1) (by rw [layAt_size]; exact hcs) _ (by change j < 19 at hj; omega)).1) (fun j hj => (hsp W _ (by rw [hW]; exact hg1) (by rw [layAt_size]; exact hcs) _ (by change j < 19 at hj; omega)).2) (stp_oneCell y)
  rw [hW1] at hcp1 ⊢
  have HCP1 := Go.Lib.hid hcp1; have HCP2 := Go.Lib.hid hcp2; have HOV := Go.Lib.hid hov
  have hw1 : IntKind.i64.wrap ((k : Int) + 1) = (k : Int) + 1 := by rw [IntKind.wrap_i64]; omega
  have hw2 : IntKind.i64.wrap ((n : Int) + 1) = (n : Int) + 1 := by rw [IntKind.wrap_i64]; omega
  have hb1 : ¬ ((k : Int) = (n : Int)) := by omega
  have hb2 : ¬ (cap = k + 1) := by omega
  have hb3 : ¬ ((cap : Int) < (n : Int) + 1) := by omega
  have hb4 : ¬ (cap = k) := by omega
  have hb5 : (0 : Int) ≤ (k : Int) + 1 := by omega
  have hin : k ≤ n := by omega
  have hb6 : (k : Int) ≤ (n : Int) + 1 := by omega
  have hb7 : k ≤ n + 1 := by omega
  clear hcp1 hcp2 hov hsp hg hfz hcs htk hg1 hy1 hy hxl hdl h hW1 hcm
  go_enter Tryd.func26, Tryd.ntmps26
  have hov := HOV.out
  go_wp2_with (simp only [hov])
  clear hov
  have mixed : Tryd.prog.follows .mixedOrders = true := by kernel_rfl
  go_region_law_o (refine step_copy_runI rfl _ _ 52 52 rfl (.slice (some ⟨g, (k + 1) * 19, none⟩) (n - k) (cap - (k + 1))) (.slice (some ⟨g, k * 19, none⟩) (n + 1 - k) (cap - k)) (by simp [Act.eval, Act.put]) (by simp [Act.eval, Act.put]) (HCP1.out _ _ _) ?_)
  go_wp2_with fail
  simp only [HCP2.out W1 rfl _ _ _ (show 1 ≤ n + 1 - k by omega)]
  go_wp2_with fail
  go_ret
  exact ⟨rfl, rfl⟩

set_option maxRecDepth 20000 in
set_option maxHeartbeats 8000000 in
/-- Ahead of others, where there is no room: a new row. -/
theorem psinsert_grow (base0 base g n cap k : Nat) (l : List Stp) (y : Stp) (vb : Nat) (w : World) (h : Row w base0 58 19 (.slice (some ⟨g, 0, none⟩) n cap) n (stpsCells l)) (hln : l.length = n) (hl : n ≤ 10000) (hk : k < n) (hcap : cap ≤ n) (hy : SpB w vb y) (hbase : base ≤ w.heap.size) :
    Calls Tryd.prog 26 #[.slice (some ⟨g, 0, none⟩) n cap, .int .i64 (k : Int), .slice (some ⟨vb, 0, none⟩) 1 1] w fun e w' => ∃ v', e = .returned v' ∧ Row w' base 58 19 v' (n + 1) (stpsCells (l.take k ++ y :: l.drop k)) ∧ Below base w w' := by
  have hxl : (stpsCells l).length = n * 19 := by rw [stpsCells_length, hln]
  have hnc : n ≤ cap := row_fits8 h
  obtain ⟨g', cap', he, -, hbg, hlt, hcell, -⟩ := h.open (by omega)
  cases he
  obtain ⟨i0, hi, hz0, hz1, hz2⟩ := info_parts info_stp
  obtain ⟨z, hzz⟩ : ∃ z : Value, z = stpVal Stp.zero := ⟨_, rfl⟩
  rw [← hzz] at hz0
  have hzc : z.cells.size = 19 := by rw [hzz]; rfl
  clear hzz
  have hkk : (n : Int) + 1 - (k : Int) = ((n + 1 - k : Nat) : Int) := by omega
  have hik : k + (n + 1 - k) = n + 1 := by omega
  have hold : (Builtin.firstCells i0.size k (.slice (some ⟨g, 0, none⟩) k cap)).run Tryd.prog w.drew = .ok ((stpsCells l).take (k * 19)).toArray w.drew := by
    rw [hz1]
    exact run_firstCells_some (P := Tryd.prog) (w := w.drew) 19 k ⟨g, 0, none⟩ k cap ((stpsCells l).take (k * 19)) (by rw [List.length_take]; omega) (fun j v hj => by
      rw [Go.Lib.addr_add, Nat.zero_add]
      rw [List.getElem?_take] at hj
      split at hj
      · exact hcell j v hj
      · cases hj)
  have hrz : ∀ ty, (Builtin.append_ #[52, 3] ty #[.slice (some ⟨g, 0, none⟩) k cap, .int .i64 ((n : Int) + 1 - (k : Int))]).run Tryd.prog w =
      .ok (.slice (some ⟨w.heap.size, 0, none⟩) (n + 1) (grownCap w (n + 1) cap 58)) (w.drew.alloc (.cells (((stpsCells l).take (k * 19)).toArray ++ Builtin.zeroCells z.cells (n + 1 - k) ++ Builtin.zeroCells z.cells (grownCap w (n + 1) cap 58 - (n + 1))) 58)) := fun ty => by
    have h := Lib.run_append_grow_zeros (P := Tryd.prog) w 52 3 ty 58 i0 z .i64 .i64 Tryd.underlying52 Tryd.underlying3 hi hz0 (some ⟨g, 0, none⟩) k cap _ hold (n + 1 - k) (by omega) (by rw [hz1]; omega) (by omega) (by omega) (by rw [hz2]; omega) (by rw [hz2, hik]; exact growslice_fits (by omega) (by omega))
    rw [hik] at h
    rw [hkk]
    exact h
  have hGn : n + 1 ≤ grownCap w (n + 1) cap 58 := grownCap_ge w _ _ _
  have hGm : grownCap w (n + 1) cap 58 ≤ maxLen := grownCap_le_maxLen w (n + 1) cap 58 (by unfold maxLen; omega)
  obtain ⟨G, hG⟩ : ∃ G, grownCap w (n + 1) cap 58 = G := ⟨_, rfl⟩
  rw [hG] at hrz hGn hGm
  obtain ⟨ROW, hROW⟩ : ∃ R : Array Value, ((stpsCells l).take (k * 19)).toArray ++ Builtin.zeroCells z.cells (n + 1 - k) ++ Builtin.zeroCells z.cells (G - (n + 1)) = R := ⟨_, rfl⟩
  rw [hROW] at hrz
  have hRs : ROW.size = G * 19 := by
    rw [← hROW]
    simp only [Array.size_append, List.size_toArray, size_zeroCells, hzc, List.length_take, hxl]
    omega
  have hRp : ∀ j, j < k * 19 → ROW[j]? = (stpsCells l)[j]? := fun j hj => by
    have h1 : j < ((stpsCells l).take (k * 19)).toArray.size := by simp [hxl]; omega
    rw [← hROW, Array.append_assoc, Array.getElem?_append_left h1]
    simp [hj]
  obtain ⟨gN, hgN⟩ : ∃ b, w.heap.size = b := ⟨_, rfl⟩
  have hvb : vb < gN := by rw [← hgN]; exact hy.lt
  have hgl : g < gN := by rw [← hgN]; exact hlt
  obtain ⟨W1, hW1⟩ : ∃ W, w.drew.alloc (.cells ROW 58) = W := ⟨_, rfl⟩
  rw [hW1] at hrz
  have h1N : W1.heap[gN]? = some (.cells ROW 58 (0, 0)) := by rw [← hW1, ← hgN]; exact heap_alloc_new w.drew _
  have h1o : ∀ j, j < gN → W1.heap[j]? = w.heap[j]? := fun j hj => by rw [← hW1]; exact Below.heap_alloc w.drew _ j (by rw [← hgN] at hj; exact hj)
  have hb1 : Below base w W1 := by rw [← hW1]; exact (Below.refl base w).drew.alloc hbase _
  have hsp : ∀ (W : World) cur', W.heap[gN]? = some (.cells cur' 58 (0, 0)) → cur'.size = G * 19 → ∀ j, j < G * 19 → (W.cell? ⟨gN, j, none⟩).isSome = true ∧ W.frozen? ⟨gN, j, none⟩ = false := fun W cur' hW hs j hj =>
    ⟨by rw [cell_of_row _ _ _ _ _ _ hW, Array.getElem?_eq_getElem (by omega)]; rfl, frozen_of_row _ _ _ _ _ hW⟩
  have hcpA : ∀ ty dl dc, 1 ≤ dl → (Builtin.copy_ #[52, 52] ty #[.slice (some ⟨gN, k * 19, none⟩) dl dc, .slice (some ⟨vb, 0, none⟩) 1 1]).run Tryd.prog W1 = .ok (goInt (1 : Nat)) (W1.setCells gN (k * 19) (stpCells y)) := fun ty dl dc hdl =>
    run_copy_sized W1 _ _ ty 58 19 1 gN (k * 19) dl dc ⟨vb, 0, none⟩ 1 1 _ Tryd.underlying52 size_stp (by simp only [Nat.min_def]; split <;> omega) rfl
      (fun j v hj => by
        rw [Go.Lib.addr_add]
        have h9 : SpB W1 vb y := (h1o vb hvb).trans hy
        exact h9.at j v hj)
      (fun j hj => (hsp W1 _ h1N hRs _ (by change j < 19 at hj; omega)).1) (fun j hj => (hsp W1 _ h1N hRs _ (by change j < 19 at hj; omega)).2) (stp_oneCell y)
  obtain ⟨W2, hW2⟩ : ∃ W, W1.setCells gN (k * 19) (stpCells y) = W := ⟨_, rfl⟩
  rw [hW2] at hcpA
  have h2N : W2.heap[gN]? = some (.cells (layAt ROW (k * 19) (stpCells y)) 58 (0, 0)) := by rw [← hW2]; exact heap_setCells_same _ _ W1 ROW h1N
  have h2o : ∀ j, j < gN → W2.heap[j]? = w.heap[j]? := fun j hj => by rw [← hW2, heap_setCells_other (by omega)]; exact h1o j hj
  have hbN : base ≤ gN := by rw [← hgN]; exact hbase
  have hb2 : Below base w W2 := by rw [← hW2]; exact below_setCells hbN _ _ _ hb1
  have hdl : ((stpsCells l).drop (k * 19)).length = (n - k) * 19 := by rw [List.length_drop, hxl]; omega
  have hcpB : ∀ ty dc sc, (Builtin.copy_ #[52, 52] ty #[.slice (some ⟨gN, (k + 1) * 19, none⟩) (n - k) dc, .slice (some ⟨g, k * 19, none⟩) (n - k) sc]).run Tryd.prog W2.drew = .ok (goInt (n - k : Nat)) (W2.drew.setCells gN ((k + 1) * 19) ((stpsCells l).drop (k * 19))) := fun ty dc sc =>
    run_copy_sized W2.drew _ _ ty 58 19 (n - k) gN ((k + 1) * 19) (n - k) dc ⟨g, k * 19, none⟩ (n - k) sc _ Tryd.underlying52 size_stp (by simp only [Nat.min_def]; split <;> omega) hdl
      (fun j v hj => by
        rw [Go.Lib.addr_add]
        rw [List.getElem?_drop] at hj
        have h9 := hcell _ _ hj
        rw [show W2.drew.cell? ⟨g, k * 19 + j, none⟩ = w.cell? ⟨g, k * 19 + j, none⟩ from World.cell?_of_block (w := w) (h2o g hgl)]
        exact h9)
      (fun j hj => (hsp W2 _ h2N (by rw [layAt_size]; exact hRs) _ (by omega)).1) (fun j hj => (hsp W2 _ h2N (by rw [layAt_size]; exact hRs) _ (by omega)).2) (fun v hv => stps_oneCell l v (List.mem_of_mem_drop hv))
  obtain ⟨W3, hW3⟩ : ∃ W, W2.drew.setCells gN ((k + 1) * 19) ((stpsCells l).drop (k * 19)) = W := ⟨_, rfl⟩
  rw [hW3] at hcpB
  have h3N : W3.heap[gN]? = some (.cells (layAt (layAt ROW (k * 19) (stpCells y)) ((k + 1) * 19) ((stpsCells l).drop (k * 19))) 58 (0, 0)) := by rw [← hW3]; exact heap_setCells_same _ _ W2.drew _ h2N
  have hb3 : Below base w W3 := by rw [← hW3]; exact below_setCells hbN _ _ _ hb2.drew
  obtain ⟨hs1, hs2⟩ := lay_splice (cur := ROW) (cur2 := layAt (layAt ROW (k * 19) (stpCells y)) ((k + 1) * 19) ((stpsCells l).drop (k * 19))) (xs := stpsCells l) (ys := stpCells y) (p := k * 19) (q := 19) (m := (n + 1) * 19) rfl (by omega) (by omega) (by omega) hRp (.inr (by rw [show (k + 1) * 19 = k * 19 + 19 by omega]))
  rw [stpsCells_splice l y k (by omega)] at hs1
  have hrow3 : Row W3 base 58 19 (.slice (some ⟨gN, 0, none⟩) (n + 1) G) (n + 1) (stpsCells (l.take k ++ y :: l.drop k)) :=
    ⟨by rw [stpsCells_length]; simp; omega, .inr ⟨gN, G, _, (0, 0), rfl, hbN, h3N, .inl rfl, hGn, hGm, by rw [hs2, hRs], hs1⟩⟩
  have HROW3 := Go.Lib.hid hrow3; have HB3 := Go.Lib.hid hb3; have HRZ := Go.Lib.hid hrz; have HCPA := Go.Lib.hid hcpA; have HCPB := Go.Lib.hid hcpB
  have hw1 : IntKind.i64.wrap ((k : Int) + 1) = (k : Int) + 1 := by rw [IntKind.wrap_i64]; omega
  have hw2 : IntKind.i64.wrap ((n : Int) + 1) = (n : Int) + 1 := by rw [IntKind.wrap_i64]; omega
  have hw3 : IntKind.i64.wrap ((n : Int) + 1 - (k : Int)) = (n : Int) + 1 - (k : Int) := by rw [IntKind.wrap_i64]; omega
  have hc63 : (cap : Int) ≤ 9223372036854775807 := by omega
  have hG63 : (G : Int) ≤ 9223372036854775807 := by unfold maxLen at hGm; omega
  have e1 : ¬ ((k : Int) = (n : Int)) := by omega
  have e2 : ¬ (G = k + 1) := by omega
  have e3 : (cap : Int) < (n : Int) + 1 := by omega
  have e4 : ¬ (cap = k) := by omega
  have e5 : (0 : Int) ≤ (k : Int) + 1 := by omega
  have e6 : k ≤ n := by omega
  have e7 : (k : Int) ≤ (n : Int) + 1 := by omega
  have e8 : k ≤ n + 1 := by omega
  have e9 : ¬ (G = k) := by omega
  have e10 : k ≤ cap := by omega
  clear hrow3 hb3 hrz hcpA hcpB hs1 hs2 h3N hW3 hb2 h2o h2N hW2 hsp hb1 h1o h1N hW1 hRp hRs hROW hG hold hkk hcell h hxl hy hdl hi hz0 hz1 hz2 hzc hGm hbN hvb hgl hlt hbg
  go_enter Tryd.func26, Tryd.ntmps26
  go_wp2_with (at_builtin; refine Lib.wpList_append_run _ rfl _ _ _ _ rfl _ _ rfl rfl _ _ (HRZ.out _) ?_)
  simp only [HCPA.out _ _ _ (show 1 ≤ n + 1 - k by omega)]
  go_wp2_with fail
  have mixed : Tryd.prog.follows .mixedOrders = true := by kernel_rfl
  go_region_law_o (refine step_copy_runI rfl _ _ 52 52 rfl (.slice (some ⟨gN, (k + 1) * 19, none⟩) (n - k) (G - (k + 1))) (.slice (some ⟨g, k * 19, none⟩) (n - k) (cap - k)) (by simp [Act.eval, Act.put]) (by simp [Act.eval, Act.put]) (HCPB.out _ _ _) ?_)
  go_wp2_with fail
  go_ret
  exact ⟨_, rfl, HROW3.out, HB3.out⟩

theorem kept_setCells {F : Nat → Prop} {a : World} {g : Nat} (hg : F g) : ∀ (vs : List Value) (o : Nat) (w : World), Kept F a w → Kept F a (w.setCells g o vs)
  | [], _, _, h => h
  | v :: r, o, w, h => by rw [World.setCells]; exact kept_setCells hg r _ _ (h.setCell hg v)
/-- slices.Insert of one step into a row. -/
theorem psinsert_any (base : Nat) (v : Value) (l : List Stp) (k : Nat) (y : Stp) (vb : Nat) (w : World) (h : Row w base 58 19 v l.length (stpsCells l)) (hl : l.length ≤ 10000) (hk : k ≤ l.length) (hy : SpB w vb y) (hvb : v.ownBlock ≠ some vb) (hbase : base ≤ w.heap.size) :
    Calls Tryd.prog 26 #[v, .int .i64 (k : Int), .slice (some ⟨vb, 0, none⟩) 1 1] w fun e w' => ∃ v', e = .returned v' ∧ Row w' base 58 19 v' (l.length + 1) (stpsCells (l.take k ++ y :: l.drop k)) ∧ Kept (fun k => v.ownBlock = some k) w w' ∧ (∀ k, v'.ownBlock = some k → v.ownBlock = some k ∨ w.heap.size ≤ k) := by
  rcases Nat.lt_or_ge k l.length with hlt | hge
  · obtain ⟨g, cap, rfl, hnc, hbg, hgl, -, -⟩ := h.open (by omega)
    have hne : vb ≠ g := fun e => hvb (by simp [Value.ownBlock, e])
    rcases Nat.lt_or_ge l.length cap with hroom | hno
    · refine (psinsert_shift base g _ cap k l y vb w h rfl hl hlt hroom hy hne).mono ?_
      rintro e w' ⟨rfl, rfl⟩
      rcases h.2 with ⟨h1, h2⟩ | ⟨g', cap', cur, fz, h1, hb, hg, hfz, hnc, hcm, hcs, ht⟩
      · cases h1
      · cases h1
        have hxl : (stpsCells l).length = l.length * 19 := stpsCells_length l
        have hg1 := heap_setCells_same ((stpsCells l).drop (k * 19)) ((k + 1) * 19) w.drew cur hg
        have hg2 := heap_setCells_same (stpCells y) (k * 19) _ _ hg1
        obtain ⟨hs1, hs2⟩ := lay_splice (cur := cur) (cur2 := layAt (layAt cur ((k + 1) * 19) ((stpsCells l).drop (k * 19))) (k * 19) (stpCells y)) (xs := stpsCells l) (ys := stpCells y) (p := k * 19) (q := 19) (m := (l.length + 1) * 19) rfl (by omega) (by omega) (by omega) (fun j hj => by
          rw [← ht, List.getElem?_take, if_pos (by omega), Array.getElem?_toList]) (.inl (by rw [show (k + 1) * 19 = k * 19 + 19 by omega]))
        rw [stpsCells_splice l y k (by omega)] at hs1
        refine ⟨_, rfl, ⟨by rw [stpsCells_length]; simp; omega, .inr ⟨g, cap, _, fz, rfl, hbg, hg2, by rw [hs2]; exact hfz, hroom, hcm, by rw [hs2, hcs], hs1⟩⟩, kept_setCells (F := fun k => (Value.slice (some ⟨g, 0, none⟩) l.length cap).ownBlock = some k) rfl _ _ _ (kept_setCells (F := fun k => (Value.slice (some ⟨g, 0, none⟩) l.length cap).ownBlock = some k) rfl _ _ _ (Kept.refl _ w).drew), fun k hk => .inl hk⟩
    · refine (psinsert_grow base w.heap.size g _ cap k l y vb w h rfl hl hlt hno hy (Nat.le_refl _)).mono ?_
      rintro e w' ⟨v', rfl, hr, hb⟩
      exact ⟨v', rfl, hr.weaken hbase, Kept.of_new hb, fun k hk => .inr (hr.lt k hk).1⟩
  · obtain rfl : k = l.length := by omega
    rw [List.take_length, List.drop_length]
    refine (psinsert_end base v l y vb w h hl hy hbase).mono ?_
    rintro e w' ⟨v', rfl, hr, hg, ho⟩
    refine ⟨v', rfl, hr, ⟨hg.os, hg.tape, hg.output, hg.size, fun k hk hne => hg.block k hk (fun e => hne e.symm)⟩, fun k hk => ?_⟩
    rcases ho with ho | ho
    · exact .inl (by rw [← ho]; exact hk)
    · rw [ho] at hk
      injection hk with hk
      exact .inr (by omega)
end Go.Proofs.YtjeijolblcodpaaDoor.W
end

/- What trees of whole operations hold is whole. -/
section
namespace Go.Proofs.YtjeijolblcodpaaDoor.W
set_option maxRecDepth 20000
set_option linter.unusedVariables false
open Go.RowKit Go.Proofs Arb

theorem trash_wf : stWf St.trash := ⟨rfl, rfl⟩
theorem doOf_wf {l : List Nod} {x : Opn} (h : ∀ n ∈ l, ndWf n) (hx : opWf x) : ∀ n ∈ doOf l x, ndWf n := by
  refine doOf_all h ⟨hx.2.2.2.1, ?_, hx.2.2.2.2.2.1, hx.2.2.2.2.2.2⟩ (fun n hn => ?_)
  · show stWf (if mayOf l x.parent = true then x.parent else St.trash)
    split
    · exact hx.2.2.2.2.1
    · exact trash_wf
  · have h0 := h n hn
    unfold turnOf
    split
    · split
      · exact h0
      · exact ⟨h0.1, hx.2.2.2.2.1, hx.2.2.2.2.2.1, h0.2.2.2⟩
    · split
      · split
        · exact h0
        · exact ⟨h0.1, h0.2.1, h0.2.2.1, hx.2.2.2.2.2.2⟩
      · split
        · exact ⟨h0.1, trash_wf, h0.2.2.1, h0.2.2.2⟩
        · exact h0
theorem foldOf_wf {l : List Opn} (h : ∀ x ∈ l, opWf x) : ∀ n ∈ foldOf l, ndWf n := by
  have key : ∀ (l : List Opn) (ns : List Nod), (∀ x ∈ l, opWf x) → (∀ n ∈ ns, ndWf n) → ∀ n ∈ l.foldl doOf ns, ndWf n := by
    intro l
    induction l with
    | nil => intro ns _ h2; exact h2
    | cons x l ih =>
      intro ns h1 h2
      rw [List.foldl_cons]
      exact ih _ (fun y hy => h1 y (List.mem_cons_of_mem _ hy)) (doOf_wf h2 (h1 x (List.mem_cons_self ..)))
  exact key l [] h (by simp)
end Go.Proofs.YtjeijolblcodpaaDoor.W
end

/- The program's states: what one is. -/
section
namespace Go.Proofs.YtjeijolblcodpaaDoor.W
set_option maxRecDepth 20000
set_option linter.unusedVariables false
open Go.RowKit Go.Proofs Arb

/-- What is known of the package's variables. -/
abbrev Met (w : World) : Prop := MMet w
/-- The state in block b: its steps' slice, its map. -/
structure PIn (w : World) (b : Nat) (v : Value) (mb : Nat) (L : List Nod) (l : List Opn) (n : Int) : Prop where
  st : S8 w b v mb n
  row : Row w 0 58 19 v l.length (stpsCells (stpsOf l))
  map : NdMap w mb L
  perm : L.Perm (foldOf l)
  apart : v.ownBlock ≠ some b
/-- The pointer to block b is a state: the operations l, n of them done again; its blocks are those of F. -/
structure PSt (w : World) (b : Nat) (F : Nat → Prop) (l : List Opn) (n : Int) : Prop where
  own : F b
  lt : ∀ k, F k → k < w.heap.size
  rise : Rising l
  wf : ∀ x ∈ l, opWf x
  len : l.length ≤ 400
  gt : ¬ F 1
  gr : ¬ F 2
  all : ∃ v mb L, PIn w b v mb L l n ∧ F mb ∧ ∀ q, v.ownBlock = some q → F q
theorem PIn.kept {w w' : World} {b : Nat} {v : Value} {mb : Nat} {L : List Nod} {l : List Opn} {n : Int} {G : Nat → Prop} (h : PIn w b v mb L l n) (hk : Kept G w w') (h1 : ¬ G b) (h2 : ¬ G mb) (h3 : ∀ q, v.ownBlock = some q → ¬ G q) : PIn w' b v mb L l n :=
  ⟨h.st.kept hk h1, Row.same_block h.row fun q hq => hk.block q (h.row.lt q hq).2 (h3 q hq), h.map.kept hk h2, h.perm, h.apart⟩
theorem PIn.below {w w' : World} {b : Nat} {v : Value} {mb : Nat} {L : List Nod} {l : List Opn} {n : Int} (h : PIn w b v mb L l n) (hb : Below w.heap.size w w') : PIn w' b v mb L l n :=
  h.kept (Kept.of_new (F := fun _ => False) hb) (fun h => h) (fun h => h) (fun _ _ h => h)
theorem PSt.kept {w w' : World} {b : Nat} {F G : Nat → Prop} {l : List Opn} {n : Int} (h : PSt w b F l n) (hk : Kept G w w') (hG : ∀ k, F k → ¬ G k) : PSt w' b F l n := by
  obtain ⟨v, mb, L, h1, h2, h3⟩ := h.all
  exact ⟨h.own, fun k hF => Nat.lt_of_lt_of_le (h.lt k hF) hk.size, h.rise, h.wf, h.len, h.gt, h.gr, v, mb, L, h1.kept hk (hG b h.own) (hG mb h2) (fun q hq => hG q (h3 q hq)), h2, h3⟩
/-- What a call may turn of a state, and what its blocks are then. -/
structure Turned (w w' : World) (F F' : Nat → Prop) : Prop where
  kept : Kept F w w'
  grow : ∀ k, F' k → F k ∨ w.heap.size ≤ k
section
variable {w w' : World} {F F' G : Nat → Prop}
theorem Turned.size (h : Turned w w' F F') : w.heap.size ≤ w'.heap.size := h.kept.size
/-- New blocks of a call from base on: all below has not turned. -/
theorem Turned.below {base : Nat} (h : Turned w w' F F') (hF : ∀ k, F k → base ≤ k) (hb : base ≤ w.heap.size) : Below base w w' := h.kept.below hF hb
theorem Turned.above {base : Nat} (h : Turned w w' F F') (hF : ∀ k, F k → base ≤ k) (hb : base ≤ w.heap.size) : ∀ k, F' k → base ≤ k := fun k hk => by
  rcases h.grow k hk with h1 | h1
  · exact hF k h1
  · omega
/-- Another state stays. -/
theorem PSt.aside {b : Nat} {l : List Opn} {n : Int} (h : PSt w b G l n) (ht : Turned w w' F F') (hd : ∀ k, G k → ¬ F k) : PSt w' b G l n ∧ ∀ k, G k → ¬ F' k :=
  ⟨h.kept ht.kept hd, fun k hg hf => by
    rcases ht.grow k hf with h1 | h1
    · exact hd k hg h1
    · have := h.lt k hg; omega⟩
theorem PSt.new {b : Nat} {l : List Opn} {n : Int} (h : PSt w b F l n) (hb : Below w.heap.size w w') : PSt w' b F l n := h.kept (Kept.of_new (F := fun _ => False) hb) fun _ _ h => h
theorem PSt.bl {b : Nat} {l : List Opn} {n : Int} (h : PSt w b F l n) : b < w.heap.size := h.lt b h.own
end

set_option maxHeartbeats 2000000 in
theorem pnew_any (w : World) (hT : Met w) : Calls Tryd.prog 9 #[] w fun e w' => ∃ b F, e = .returned (.pointer (some ⟨b, 0, none⟩)) ∧ PSt w' b F [] 0 ∧ (∀ k, F k → w.heap.size ≤ k) ∧ Below w.heap.size w w' := by
  have hm := NdMap.made w
  have hs : (w.alloc (.map #[] 0)).heap.size = w.heap.size + 1 := by simp
  have hst : S8 ((w.alloc (.map #[] 0)).alloc (.cells #[.slice none 0 0, .map (some w.heap.size), .int .i64 0] 54)) (w.heap.size + 1) (.slice none 0 0) w.heap.size 0 := by
    have := heap_alloc_new (w.alloc (.map #[] 0)) (.cells #[.slice none 0 0, .map (some w.heap.size), .int .i64 0] 54)
    rw [hs] at this
    exact this
  have hfin : PSt ((w.alloc (.map #[] 0)).alloc (.cells #[.slice none 0 0, .map (some w.heap.size), .int .i64 0] 54)) (w.heap.size + 1) (fun k => k = w.heap.size ∨ k = w.heap.size + 1) [] 0 :=
    ⟨.inr rfl, fun k hk => by simp; omega, List.Pairwise.nil, by simp, by simp, fun h => by have := hT.size.1; omega, fun h => by have := hT.size.2; omega,
      .slice none 0 0, w.heap.size, [], ⟨hst, Row.nil _ _ _ _, hm.below ((Below.refl _ _).alloc (Nat.le_refl _) _), List.Perm.refl _, by simp [Value.ownBlock]⟩, .inl rfl, fun q hq => by simp [Value.ownBlock] at hq⟩
  have hb : Below w.heap.size w ((w.alloc (.map #[] 0)).alloc (.cells #[.slice none 0 0, .map (some w.heap.size), .int .i64 0] 54)) := ((Below.refl _ _).alloc (Nat.le_refl _) _).alloc (by simp) _
  have hmm := @run_makeMap Tryd.prog
  have HF := Go.Lib.hid hfin; have HB := Go.Lib.hid hb
  clear hm hs hst hfin hb hT
  go_enter Tryd.func9, Tryd.ntmps9
  go_wp2_with fail
  go_ret
  exact ⟨_, _, rfl, HF.out, fun k hk => by omega, HB.out⟩
theorem predone_st (w : World) (b : Nat) (F : Nat → Prop) (l : List Opn) (n : Int) (h : PSt w b F l n) :
    Calls Tryd.prog 16 #[.pointer (some ⟨b, 0, none⟩)] w fun e w' => e = .returned (.int .i64 n) ∧ Below w.heap.size w w' := by
  obtain ⟨v, mb, L, h1, -, -⟩ := h.all
  have c2 := h1.st.cells.2.2.1
  clear h h1
  go_enter Tryd.func16, Tryd.ntmps16
  go_wp2_with fail
  go_ret
  exact ⟨rfl, Below.refl _ _⟩
theorem predone_nil (w : World) : Calls Tryd.prog 16 #[.pointer none] w fun e w' => e = .returned (.int .i64 0) ∧ Below w.heap.size w w' := by
  go_enter Tryd.func16, Tryd.ntmps16
  go_wp2_with fail
  go_ret
  exact ⟨rfl, Below.refl _ _⟩
theorem pnodes_nil (w : World) : Calls Tryd.prog 18 #[.pointer none] w fun e w' => e = .returned (.slice none 0 0) ∧ Below w.heap.size w w' := by
  go_enter Tryd.func18, Tryd.ntmps18
  go_wp2_with fail
  go_ret
  exact ⟨rfl, Below.refl _ _⟩
theorem pops_nil (w : World) : Calls Tryd.prog 15 #[.pointer none] w fun e w' => e = .returned (.slice none 0 0) ∧ Below w.heap.size w w' := by
  go_enter Tryd.func15, Tryd.ntmps15
  go_wp2_with fail
  go_ret
  exact ⟨rfl, Below.refl _ _⟩
set_option maxHeartbeats 2000000 in
theorem pinsert_nil (w : World) (x : Opn) (hT : Met w) : Calls Tryd.prog 12 #[.pointer none, opVal x] w fun e w' => e = .returned (.int .i64 2) ∧ Below w.heap.size w w' := by
  have hb : Below w.heap.size w (w.alloc (.cells (opArr x) 35)) := (Below.refl _ _).alloc (Nat.le_refl _) _
  unfold opVal
  unfold opArr opCells at hb ⊢
  have HB := Go.Lib.hid hb; clear hb
  go_enter Tryd.func12, Tryd.ntmps12
  go_wp2_with fail
  go_ret
  exact ⟨rfl, HB.out⟩
end Go.Proofs.YtjeijolblcodpaaDoor.W
end

/- The program's stamps: contracts. -/
section
namespace Go.Proofs.YtjeijolblcodpaaDoor.W
set_option maxRecDepth 20000
set_option linter.unusedVariables false
open Go.RowKit Go.Proofs Arb

set_option maxHeartbeats 1000000 in
theorem pdevice_any (p : Int) (w : World) :
    Calls Tryd.prog 38 #[.int .i64 p] w fun e w' => e = .returned (.bool (decide (0 ≤ p ∧ p < 15))) ∧ w = w' := by
  obtain ⟨r, hr⟩ : ∃ r, decide (0 ≤ p ∧ p < 15) = r := ⟨_, rfl⟩
  rw [hr]
  have HR := Go.Lib.hid hr; clear hr
  by_cases h1 : 0 ≤ p
  · by_cases h2 : p < 15
    · go_enter Tryd.func38, Tryd.ntmps38
      go_wp2_with fail
      go_ret
      exact ⟨by rw [← HR.out]; simp [h1, h2], rfl⟩
    · go_enter Tryd.func38, Tryd.ntmps38
      go_wp2_with fail
      go_ret
      exact ⟨by rw [← HR.out]; simp [h2], rfl⟩
  · go_enter Tryd.func38, Tryd.ntmps38
    go_wp2_with fail
    go_ret
    exact ⟨by rw [← HR.out]; simp; omega, rfl⟩

set_option maxRecDepth 20000 in
set_option maxHeartbeats 1000000 in
theorem pright_any (s : St) (w : World) :
    Calls Tryd.prog 22 #[.agg (stCells s).toArray] w fun e w' => e = .returned (.int .i64 s.right) ∧ Below w.heap.size w w' := by
  obtain ⟨a, b⟩ := s
  show Calls Tryd.prog 22 #[.agg #[.int .i64 a, .int .i64 b]] w _
  have hB : Below w.heap.size w (w.alloc (.cells #[.int .i64 a, .int .i64 b] 33)) := (Below.refl _ _).alloc (Nat.le_refl _) _
  obtain ⟨r, hr⟩ : ∃ r, St.right ⟨a, b⟩ = r := ⟨_, rfl⟩
  rw [hr]
  have HB := Go.Lib.hid hB; clear hB
  have HR := Go.Lib.hid hr; clear hr
  by_cases h1 : a < 1
  · go_enter Tryd.func22, Tryd.ntmps22
    go_wp2_with fail
    go_ret
    exact ⟨by rw [← HR.out]; simp [St.right, h1], HB.out⟩
  · by_cases h2 : 1099511627776 < a
    · go_enter Tryd.func22, Tryd.ntmps22
      go_wp2_with fail
      go_ret
      exact ⟨by rw [← HR.out]; simp [St.right, h2], HB.out⟩
    · obtain ⟨d, hd⟩ : ∃ d, decide (0 ≤ b ∧ b < 15) = d := ⟨_, rfl⟩
      have hdv := pdevice_any b
      rw [hd] at hdv
      have HD := Go.Lib.hid hd; clear hd
      have HDV := Go.Lib.hid hdv; clear hdv
      have H1 := Go.Lib.hid h1
      have H2 := Go.Lib.hid h2
      cases d
      · go_enter Tryd.func22, Tryd.ntmps22
        go_wp2_with fail
        refine (HDV.out _).mono ?_; rintro e w1 ⟨rfl, rfl⟩
        go_wp2_with fail
        go_ret
        have := of_decide_eq_false HD.out
        have := H1.out
        have := H2.out
        exact ⟨by rw [← HR.out]; simp [St.right]; omega, HB.out⟩
      · go_enter Tryd.func22, Tryd.ntmps22
        go_wp2_with fail
        refine (HDV.out _).mono ?_; rintro e w1 ⟨rfl, rfl⟩
        go_wp2_with fail
        go_ret
        have := of_decide_eq_true HD.out
        have := H1.out
        have := H2.out
        exact ⟨by rw [← HR.out]; simp [St.right]; omega, HB.out⟩

end Go.Proofs.YtjeijolblcodpaaDoor.W
end

/- strings.Clone, over the shelf's Clone. -/
section
namespace Go.Proofs.YtjeijolblcodpaaDoor.W
set_option maxRecDepth 20000
set_option linter.unusedVariables false
open Go.RowKit Go.Proofs Arb

theorem clone_any (s : ByteArray) (w : World) (hlim : s.size ≤ 281474976710656) :
    Calls Tryd.prog 42 #[.string s] w fun e w' => e = .returned (.string s) ∧ Below w.heap.size w w' := by
  go_enter Tryd.func42, Tryd.ntmps42
  go_wp2_with (go_at_call 54; refine (Tryd.stringslite_Clone s _ hlim).mono ?_; rintro e w' ⟨rfl, hb⟩)
  go_ret
  exact ⟨rfl, hb⟩
end Go.Proofs.YtjeijolblcodpaaDoor.W
end
