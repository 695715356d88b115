/- The chapter's examples of layer 7. -/
import Derived.Test.YthcoldjncpiffaaDoorTreePJ
import Derived.Test.YthcoldjncpiffaaDoorTreeY3
import Derived.Test.YthcoldjncpiffaaDoorTreeW
namespace Go.Proofs.YthcoldjncpiffaaDoor.W
set_option linter.unusedVariables false
open Go.RowKit Go.Proofs Arb

theorem TMet.far {w w' : World} (h : TMet w) (hb : Hid (Below w.heap.size w w')) : TMet w' := h.on hb
def mkOp (c p : Int) : Opn := ⟨⟨c, 0⟩, 0, 1, ⟨c, 0⟩, true, ⟨p, 0⟩, [110], []⟩
def mvOp : Opn := ⟨⟨0, 0⟩, 0, 2, ⟨1, 0⟩, false, ⟨2, 0⟩, [109], []⟩
def drOp : Opn := ⟨⟨0, 0⟩, 0, 4, ⟨1, 0⟩, false, ⟨0, 0⟩, [], []⟩
def nd1 : Nod := ⟨⟨1, 0⟩, true, ⟨0, 0⟩, [110], []⟩
def nd2 : Nod := ⟨⟨2, 0⟩, true, ⟨1, 0⟩, [110], []⟩
def nd1' : Nod := ⟨⟨1, 0⟩, true, ⟨0, 1⟩, [110], []⟩
theorem fold_three : foldOf [mkOp 1 0, mkOp 2 1, mvOp] = [nd1, nd2] := by decide +kernel
theorem do_drop : doOf [nd1, nd2] drOp = [nd1', nd2] := by decide +kernel
theorem chain_three : chainOf [nd1', nd2] ⟨2, 0⟩ = [⟨2, 0⟩, ⟨1, 0⟩, ⟨0, 1⟩] := by decide +kernel
theorem nd1_wf : ndWf nd1 := ⟨⟨rfl, rfl⟩, ⟨rfl, rfl⟩, by decide, by decide⟩
theorem nd2_wf : ndWf nd2 := ⟨⟨rfl, rfl⟩, ⟨rfl, rfl⟩, by decide, by decide⟩
theorem nd1'_wf : ndWf nd1' := ⟨⟨rfl, rfl⟩, ⟨rfl, rfl⟩, by decide, by decide⟩
theorem mk1_wf : opWf (mkOp 1 0) := ⟨⟨rfl, rfl⟩, rfl, rfl, ⟨rfl, rfl⟩, ⟨rfl, rfl⟩, by decide, by decide⟩
theorem mk2_wf : opWf (mkOp 2 1) := ⟨⟨rfl, rfl⟩, rfl, rfl, ⟨rfl, rfl⟩, ⟨rfl, rfl⟩, by decide, by decide⟩
theorem mv_wf : opWf mvOp := ⟨⟨rfl, rfl⟩, rfl, rfl, ⟨rfl, rfl⟩, ⟨rfl, rfl⟩, by decide, by decide⟩
theorem dr_wf : opWf drOp := ⟨⟨rfl, rfl⟩, rfl, rfl, ⟨rfl, rfl⟩, ⟨rfl, rfl⟩, by decide, by decide⟩

theorem flat_at : ∀ (l : List Opn) (j : Nat) (x : Opn), l[j]? = some x → ∀ (i : Nat) (v : Value), (opCells x)[i]? = some v → ((l.map opCells).flatten)[j * 11 + i]? = some v
  | [], j, x, h, _, _, _ => by simp at h
  | y :: l, j, x, h, i, v, hv => by
    have hi : i < 11 := (List.getElem?_eq_some_iff.1 hv).1
    show (opCells y ++ (l.map opCells).flatten)[j * 11 + i]? = some v
    cases j with
    | zero =>
      simp at h
      subst h
      rw [List.getElem?_append_left (by show 0 * 11 + i < 11; omega), Nat.zero_mul, Nat.zero_add]
      exact hv
    | succ j =>
      have h' : l[j]? = some x := by simpa using h
      have := flat_at l j x h' i v hv
      rw [List.getElem?_append_right (by show 11 ≤ _; omega)]
      show ((l.map opCells).flatten)[(j + 1) * 11 + i - 11]? = some v
      rw [show (j + 1) * 11 + i - 11 = j * 11 + i by omega]
      exact this
/-- Operations that lie one behind the other in a block. -/
theorem Opns.ofBlock {w : World} {g : Nat} {t : TypeId} {fr : Nat × Nat} {cs : Array Value} (l : List Opn) (n : Nat) (hn : l.length = n) (h : w.heap[g]? = some (.cells cs t fr)) (hc : cs.toList = (l.map opCells).flatten) : Opns w (.slice (some ⟨g, 0, none⟩) n n) l := by
  refine ⟨_, n, n, rfl, hn, Nat.le_refl _, nofun, fun _ => ⟨g, 0, rfl, fun j x hj i v hv => ?_⟩⟩
  rw [cell_of_row _ _ _ _ _ _ h, show 0 + j * 11 + i = j * 11 + i by omega, ← Array.getElem?_toList, hc]
  exact flat_at l j x hj i v hv

set_option maxRecDepth 20000 in
set_option maxHeartbeats 2000000 in
theorem rmk_any (c p : Int) (w : World) :
    Calls Tryd.prog 30 #[.int .i64 c, .int .i64 p] w fun e w' => e = .returned (.agg #[.int .i64 c, .int .i64 0, .int .i64 0, .int .i64 1, .int .i64 c, .int .i64 0, .bool true, .int .i64 p, .int .i64 0, .string ⟨#[110]⟩, .string ⟨#[]⟩]) ∧ Below w.heap.size w w' := by
  have hg := heap_alloc_new w (.cells #[.int .i64 c, .int .i64 0, .int .i64 0, .int .i64 1, .int .i64 c, .int .i64 0, .bool true, .int .i64 p, .int .i64 0, .string ⟨#[110]⟩, .string ⟨#[]⟩] 32)
  have hb : Below w.heap.size w (w.alloc (.cells #[.int .i64 c, .int .i64 0, .int .i64 0, .int .i64 1, .int .i64 c, .int .i64 0, .bool true, .int .i64 p, .int .i64 0, .string ⟨#[110]⟩, .string ⟨#[]⟩] 32)) := (Below.refl _ _).alloc (Nat.le_refl _) _
  have HG := Go.Lib.hid hg; have HB := Go.Lib.hid hb
  clear hg hb
  go_enter Tryd.func30, Tryd.ntmps30
  go_wp2_with fail
  exact bodyPost_ret (v := .agg #[.int .i64 c, .int .i64 0, .int .i64 0, .int .i64 1, .int .i64 c, .int .i64 0, .bool true, .int .i64 p, .int .i64 0, .string ⟨#[110]⟩, .string ⟨#[]⟩]) (results_cell_row rfl _ _ w.heap.size 32 #[.int .i64 c, .int .i64 0, .int .i64 0, .int .i64 1, .int .i64 c, .int .i64 0, .bool true, .int .i64 p, .int .i64 0, .string ⟨#[110]⟩, .string ⟨#[]⟩] (0, 0) _ rfl HG.out Tryd.underlying32 rfl (size_op.trans (by rfl))) rfl ⟨rfl, HB.out⟩

set_option maxRecDepth 20000 in
set_option maxHeartbeats 4000000 in
theorem awake_any (w : World) (hT : TMet w) :
    Calls Tryd.prog 15 #[] w fun e w' => e = .returned (.bool true) ∧ Below w.heap.size w w' := by
  have HTM := Go.Lib.hid hT
  clear hT
  have hF : ∀ w v, Opns w v [mkOp 1 0, mkOp 2 1, mvOp] → TMet w → Calls Tryd.prog 13 #[v] w fun e w' => ∃ v', e = .returned v' ∧ Nods w' v' [nd1, nd2] ∧ Below w.heap.size w w' := fun w v h hT => by
    have := ptfold_any v _ w h (by decide) (by simp [mk1_wf, mk2_wf, mv_wf]) hT
    rw [fold_three] at this
    exact this
  have hD : ∀ w v, Nods w v [nd1, nd2] → TMet w → Calls Tryd.prog 17 #[v, .agg #[.int .i64 0, .int .i64 0, .int .i64 0, .int .i64 4, .int .i64 1, .int .i64 0, .bool false, .int .i64 0, .int .i64 0, .string ⟨#[]⟩, .string ⟨#[]⟩]] w fun e w' => ∃ v', e = .returned v' ∧ Nods w' v' [nd1', nd2] ∧ Below w.heap.size w w' := fun w v h hT => by
    have := ptdo_any v _ drOp w h (by decide) (by simp [nd1_wf, nd2_wf]) dr_wf hT
    rw [do_drop] at this
    exact this
  have hC : ∀ w v, Nods w v [nd1', nd2] → Calls Tryd.prog 22 #[v, .agg #[.int .i64 2, .int .i64 0]] w fun e w' => ∃ v', e = .returned v' ∧ Sts w' v' [⟨2, 0⟩, ⟨1, 0⟩, ⟨0, 1⟩] ∧ Below w.heap.size w w' := fun w v h => by
    have := ptchain_any v _ ⟨2, 0⟩ w h (by decide) (by simp [nd1'_wf, nd2_wf])
    rw [chain_three] at this
    exact this
  have HF := Go.Lib.hid hF; have HD := Go.Lib.hid hD; have HC := Go.Lib.hid hC
  clear hF hD hC
  go_enter Tryd.func15, Tryd.ntmps15
  go_wp2_with fail
  refine (rmk_any 1 0 _).mono ?_; rintro e w1 ⟨rfl, hb1⟩
  go_wp2_with fail
  refine (rmk_any 2 1 _).mono ?_; rintro e w2 ⟨rfl, hb2⟩
  have HB2 := Go.Lib.hid (bstep hb1 hb2)
  clear hb1 hb2
  have hO := Opns.ofBlock [mkOp 1 0, mkOp 2 1, mvOp] 3 rfl (heap_alloc_new w2 (.cells (([mkOp 1 0, mkOp 2 1, mvOp].map opCells).flatten).toArray 32)) (by simp)
  have hB3 : Below w.heap.size w (w2.alloc (.cells (([mkOp 1 0, mkOp 2 1, mvOp].map opCells).flatten).toArray 32)) := HB2.out.alloc HB2.out.size _
  have HO := Go.Lib.hid hO; have HB3 := Go.Lib.hid hB3
  clear hO hB3
  go_wp2_with fail
  refine (HF.out _ _ HO.out (HTM.out.far HB3)).mono ?_; rintro e w4 ⟨v4, rfl, hn4, hb4⟩
  have HB4 := Go.Lib.hid (bstep HB3.out hb4)
  have HN4 := Go.Lib.hid hn4
  obtain ⟨b, off, c, rfl, hc2, hat⟩ := hn4.form (by decide)
  have a1 := hat 0 nd1 rfl
  have a2 := hat 1 nd2 rfl
  have p0 : w4.cell? ⟨b, off + 3, none⟩ = some (.int .i64 0) := (nd_cells a1).2.2.2.1
  have p1 : w4.cell? ⟨b, off + 4, none⟩ = some (.int .i64 0) := (nd_cells a1).2.2.2.2.1
  have p2 : w4.cell? ⟨b, off + 5, none⟩ = some (.string ⟨#[110]⟩) := (nd_cells a1).2.2.2.2.2.1
  have p3 : w4.cell? ⟨b, off + 7 + 3, none⟩ = some (.int .i64 1) := (nd_cells a2).2.2.2.1
  have p4 : w4.cell? ⟨b, off + 7 + 4, none⟩ = some (.int .i64 0) := (nd_cells a2).2.2.2.2.1
  have q1 := fun w => ne_st ⟨0, 0⟩ ⟨0, 0⟩ w
  have q2 := fun w => ne_st ⟨1, 0⟩ ⟨1, 0⟩ w
  have q3 := fun w => eq_st ⟨0, 1⟩ ⟨0, 1⟩ w
  rw [decide_eq_true rfl] at q1 q2 q3
  clear hat a1 a2 hb4 hn4
  go_wp2_with fail
  refine (HD.out _ _ HN4.out (HTM.out.far HB4)).mono ?_; rintro e w5 ⟨v5, rfl, hn5, hb5⟩
  have HN5 := Go.Lib.hid hn5; have HB5 := Go.Lib.hid (bstep HB4.out hb5)
  clear hn5 hb5 p0 p1 p2 p3 p4
  go_wp2_with fail
  refine (HC.out _ _ HN5.out).mono ?_; rintro e w6 ⟨v6, rfl, hs6, hb6⟩
  have HB6 := Go.Lib.hid (bstep HB5.out hb6)
  obtain ⟨A6, c6, rfl, hc6⟩ := hs6.len
  obtain ⟨b6, o6, x6, rfl, hx6, hat6⟩ := hs6.at 2 (by decide)
  cases hx6
  have p0 : w6.cell? ⟨b6, o6 + 4, none⟩ = some (.int .i64 0) := (st_cells hat6).1
  have p1 : w6.cell? ⟨b6, o6 + 4 + 1, none⟩ = some (.int .i64 1) := (st_cells hat6).2
  clear hb6 hs6 hat6
  simp only [List.length_cons, List.length_nil] at *
  go_wp2_with fail
  go_ret
  exact ⟨rfl, HB6.out⟩
end Go.Proofs.YthcoldjncpiffaaDoor.W
