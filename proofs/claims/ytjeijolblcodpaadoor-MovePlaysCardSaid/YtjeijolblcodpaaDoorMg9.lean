/- Parts of the proof that all the laws of this package share, in their order. Each says what is in it. -/
import Derived.Test.YtjeijolblcodpaaDoorMg8
import Derived.Test.YtjeijolblcodpaaDoorMg6
import Derived.RangeFuncNested
import Derived.RangeFuncBound
import Derived.RangeFuncCalls
import Derived.RangeFuncLeaves
import Derived.Shelf.Abstract
import Derived.Shelf.RegionOpen
import Derived.WalkKit
import Derived.OwnWalkIn
import Derived.TacticsInMore
import Derived.LoopNIn
import Derived.LoopIn
import Derived.Maps.OwnIn

/- The program's states: a node behind an operation on it that is no Move. -/
section
namespace Go.Proofs.YtjeijolblcodpaaDoor.W
set_option maxRecDepth 20000
set_option linter.unusedVariables false
open Go.RowKit Go.Proofs Arb

theorem new3 (w : World) (a b c : Obj) : (((w.alloc a).alloc b).alloc c).heap[w.heap.size + 2]? = some c := by
  have := heap_alloc_new ((w.alloc a).alloc b) c
  rw [show ((w.alloc a).alloc b).heap.size = w.heap.size + 2 by simp] at this
  exact this
theorem below3 (w : World) (a b c : Obj) : Below w.heap.size w (((w.alloc a).alloc b).alloc c) := (((Below.refl _ _).alloc (Nat.le_refl _) _).alloc (by simp) _).alloc (by simp; omega) _
set_option maxHeartbeats 8000000 in
/-- No Move. -/
theorem pchanged_other (b : Nat) (L : List Nod) (n : Nod) (x : Opn) (w : World) (hT : MMet w) (hk : x.kind ≠ 2) :
    Calls Tryd.prog 43 #[.pointer (some ⟨b, 0, none⟩), ndVal n, opVal x] w fun e w' => e = .returned (ndVal (chgOf L x n)) ∧ Below w.heap.size w w' := by
  have h3 := chg_start w n x
  obtain ⟨t0, t1, -, -⟩ := hT.on h3.bel
  have hres : chgOf L x n = if x.kind = 3 then (if n.dir = true then n else { n with manifest := x.manifest }) else if x.kind = 4 then { n with parent := St.trash } else n := by
    unfold chgOf
    rw [if_neg hk]
  rw [hres]
  have hbk : (x.kind == 2) = false := by simp [hk]
  unfold opVal opArr opCells ndVal ndArr
  rw [show ndCells n = [.int .i64 n.id.count, .int .i64 n.id.who, .bool n.dir, .int .i64 n.parent.count, .int .i64 n.parent.who, .string (BS n.name), .string (BS n.manifest)] from rfl]
  obtain ⟨c0, c1, c2, c3, c4, c5, c6, c7, c8, c9, c10⟩ := op_cells0 h3.op
  obtain ⟨e2, e3, e4, e5, e6, f3, f4, f5, f6⟩ := h3.nd.cells
  have H3 := Go.Lib.hid h3
  clear h3 hT hres
  by_cases hk3 : x.kind = 3
  · have hbk3 : (x.kind == 3) = true := by simp [hk3]
    have hbk4 : (x.kind == 4) = false := by simp [hk3]
    rw [if_pos hk3]
    obtain ⟨ni, d, np, nn, nm⟩ := n
    cases d
    · rw [if_neg (by simp)]
      dsimp only at e2 e3 e4 e5 e6 f3 f4 f5 f6 c0 c1 c2 c3 c4 c5 c6 c7 c8 c9 c10 ⊢
      clear hk hk3
      go_enter Tryd.func43, Tryd.ntmps43
      go_wp2_with fail
      exact bodyPost_ret (v := ndVal ⟨ni, false, np, nn, x.manifest⟩) (results_cell_row rfl _ _ (w.heap.size + 2) 49 (ndArr ⟨ni, false, np, nn, x.manifest⟩) (0, 0) _ rfl (new3 _ _ _ _) Tryd.underlying49 rfl (size_nd.trans (by rfl))) rfl ⟨rfl, below3 _ _ _ _⟩
    · rw [if_pos rfl]
      dsimp only at e2 e3 e4 e5 e6 f3 f4 f5 f6 c0 c1 c2 c3 c4 c5 c6 c7 c8 c9 c10 ⊢
      clear hk hk3
      go_enter Tryd.func43, Tryd.ntmps43
      go_wp2_with fail
      exact bodyPost_ret (v := ndVal ⟨ni, true, np, nn, nm⟩) (results_cell_row rfl _ _ (w.heap.size + 2) 49 (ndArr ⟨ni, true, np, nn, nm⟩) (0, 0) _ rfl (new3 _ _ _ _) Tryd.underlying49 rfl (size_nd.trans (by rfl))) rfl ⟨rfl, below3 _ _ _ _⟩
  · have hbk3 : (x.kind == 3) = false := by simp [hk3]
    rw [if_neg hk3]
    by_cases hk4 : x.kind = 4
    · have hbk4 : (x.kind == 4) = true := by simp [hk4]
      rw [if_pos hk4]
      clear hk hk3 hk4
      go_enter Tryd.func43, Tryd.ntmps43
      go_wp2_with fail
      exact bodyPost_ret (v := ndVal { n with parent := St.trash }) (results_cell_row rfl _ _ (w.heap.size + 2) 49 (ndArr { n with parent := St.trash }) (0, 0) _ rfl (new3 _ _ _ _) Tryd.underlying49 rfl (size_nd.trans (by rfl))) rfl ⟨rfl, below3 _ _ _ _⟩
    · have hbk4 : (x.kind == 4) = false := by simp [hk4]
      rw [if_neg hk4]
      clear hk hk3 hk4
      go_enter Tryd.func43, Tryd.ntmps43
      go_wp2_with fail
      exact bodyPost_ret (v := ndVal n) (results_cell_row rfl _ _ (w.heap.size + 2) 49 (ndArr n) (0, 0) _ rfl (new3 _ _ _ _) Tryd.underlying49 rfl (size_nd.trans (by rfl))) rfl ⟨rfl, below3 _ _ _ _⟩
theorem pchanged_any (b : Nat) (v : Value) (mb : Nat) (k : Int) (L : List Nod) (n : Nod) (x : Opn) (w : World) (hS : S8 w b v mb k) (hM : NdMap w mb L) (hl : L.length ≤ 1000000) (hT : MMet w) (hn : ndWf n) (hx : opWf x) :
    Calls Tryd.prog 43 #[.pointer (some ⟨b, 0, none⟩), ndVal n, opVal x] w fun e w' => e = .returned (ndVal (chgOf L x n)) ∧ Below w.heap.size w w' := by
  by_cases hk : x.kind = 2
  · exact pchanged_move b v mb k L n x w hS hM hl hT hn hx hk
  · exact pchanged_other b L n x w hT hk
end Go.Proofs.YtjeijolblcodpaaDoor.W
end

/- The program's states: redo. -/
section
namespace Go.Proofs.YtjeijolblcodpaaDoor.W
set_option maxRecDepth 20000
set_option linter.unusedVariables false
open Go.RowKit Go.Proofs Arb

theorem step_nd_put {w : World} {b : Nat} {L : List Nod} {ops : Array Oper} {o : Oper} {a : Act} {K : Act → World → Prop} {Q : Exit → Act → World → Prop} {E : Prop} (h : NdMap w b L)
    (hg : o.guard = none) (m k v : Operand) (hop : o.op = Op.mapUpdate 51 m k v) (hm : a.eval m = .map (some b)) (hn : L.length ≤ 1000000) (x : Nod) (hx : ndWf x) (s : St) (hs : x.id = s) (hk : a.eval k = .agg #[.int .i64 s.count, .int .i64 s.who]) (hv : a.eval v = ndVal x)
    (hK : ∀ (w' : World) (L' : List Nod), NdMap w' b L' → L'.Perm (x :: wipe L s) → w.grownBy w' (some b) → K (a.put o.dst undef) w') :
    if Region.wanted o (yielded ops a.tmps) = true then Oper.wp Tryd.prog o a w K Q else E := by
  rw [if_pos (by simp [Region.wanted, hg])]
  subst hs
  obtain ⟨w', L', hrun, h1, h2, h3⟩ := h.put hn x hx
  have hfin := hK w' L' h1 h2 h3
  unfold Oper.wp
  simp [execOp, hop, hm, hk, hv, hrun, Result.andThen]
  exact hfin
theorem NdMap.noCell {w : World} {m : Nat} {L : List Nod} (h : NdMap w m L) (j : Nat) : w.cell? ⟨m, j, none⟩ = none := by
  obtain ⟨⟨es, clock, hb, _⟩, _, _⟩ := h
  simp [World.cell?, hb]
theorem MMet.ne {w : World} {m : Nat} {L : List Nod} (hT : MMet w) (h : NdMap w m L) : 1 ≠ m ∧ 2 ≠ m :=
  ⟨fun e => (by have := hT.t0; rw [e, h.noCell] at this; cases this), fun e => (by have := hT.r0; rw [e, h.noCell] at this; cases this)⟩
theorem MMet.kept {F : Nat → Prop} {w w' : World} (h : MMet w) (hk : Kept F w w') (h1 : ¬ F 1) (h2 : ¬ F 2) : MMet w' :=
  ⟨hk.cell h.t0 h1, hk.cell h.t1 h1, hk.cell h.r0 h2, hk.cell h.r1 h2⟩
theorem Row.same_block {w w' : World} {base : Nat} {e : TypeId} {size : Nat} {v : Value} {n : Nat} {xs : List Value} (h : Row w base e size v n xs) (hb : ∀ q, v.ownBlock = some q → w'.heap[q]? = w.heap[q]?) : Row w' base e size v n xs := by
  refine ⟨h.1, ?_⟩
  rcases h.2 with hn | ⟨g, cap, cur, fz, rfl, h1, hg, rest⟩
  · exact .inl hn
  · exact .inr ⟨g, cap, cur, fz, rfl, h1, (hb g rfl).trans hg, rest⟩
/-- No map lies where a row of something lies. -/
theorem Row.neMap {w : World} {base : Nat} {e : TypeId} {size : Nat} {v : Value} {n : Nat} {xs : List Value} (h : Row w base e size v n xs) {m : Nat} {L : List Nod} (hm : NdMap w m L) : v.ownBlock ≠ some m := by
  intro hv
  rcases h.2 with ⟨rfl, _⟩ | ⟨g, cap, cur, fz, rfl, h1, hg, rest⟩
  · cases hv
  · cases hv
    obtain ⟨⟨es, clock, hb, _⟩, _, _⟩ := hm
    rw [hb] at hg
    cases hg

/-- While operations are done again: those ahead of the j-th are. -/
structure RdIn (w wr : World) (mb : Nat) (v : Value) (ops : List Opn) (j : Nat) (S : List Stp) (L : List Nod) : Prop where
  row : Row wr 0 58 19 v ops.length (stpsCells S)
  op : S.map (·.op) = ops
  pre : S.take j = (stpsOf ops).take j
  map : NdMap wr mb L
  perm : L.Perm (foldOf (ops.take j))
  kept : Kept (fun q => q = mb ∨ v.ownBlock = some q) w wr
theorem RdIn.last {w wr : World} {mb : Nat} {v : Value} {ops : List Opn} {S : List Stp} {L : List Nod} (h : RdIn w wr mb v ops ops.length S L) : Row wr 0 58 19 v ops.length (stpsCells (stpsOf ops)) ∧ L.Perm (foldOf ops) := by
  have h1 := h.row; have h2 := h.pre; have h3 := h.perm
  have hl : S.length = ops.length := by rw [← h.op, List.length_map]
  rw [List.take_of_length_le (by omega), List.take_of_length_le (by rw [stpsOf_length]; omega)] at h2
  rw [List.take_of_length_le (Nat.le_refl _)] at h3
  rw [h2] at h1
  exact ⟨h1, h3⟩
theorem RdIn.at {w wr : World} {mb : Nat} {v : Value} {ops : List Opn} {S : List Stp} {L : List Nod} {j : Nat} (h : RdIn w wr mb v ops j S L) (hj : j < ops.length) : ∃ s x, S[j]? = some s ∧ ops[j]? = some x ∧ s.op = x := by
  have hl : S.length = ops.length := by rw [← h.op, List.length_map]
  have hg := List.getElem?_eq_getElem (l := S) (i := j) (by omega)
  have := congrArg (fun l => l[j]?) h.op
  simp only [List.getElem?_map, hg] at this
  exact ⟨_, _, hg, this.symm, rfl⟩
/-- What one operation changed is laid; the map is as it is then. -/
theorem RdIn.next {w wr V : World} {mb : Nat} {v : Value} {ops : List Opn} {S : List Stp} {L L' : List Nod} {j : Nat} {x : Opn} {s : Stp} (h : RdIn w wr mb v ops j S L) (hj : j < ops.length) (hs : S[j]? = some s) (hx : ops[j]? = some x) (hsx : s.op = x)
    (hrow : Row V 0 58 19 v ops.length (stpsCells (S.set j ⟨x, (findOf L x.node).getD Nod.zero, (findOf L x.node).isSome⟩))) (hm : NdMap V mb L') (hp : L'.Perm (doOf (foldOf (ops.take j)) x)) (hk : Kept (fun q => q = mb ∨ v.ownBlock = some q) wr V) :
    RdIn w V mb v ops (j + 1) (S.set j (stpAt (foldOf (ops.take j)) x)) L' := by
  have hu := (foldOf_rises (ops.take j)).uni
  have hl : S.length = ops.length := by rw [← h.op, List.length_map]
  have hf : findOf L x.node = findOf (foldOf (ops.take j)) x.node := findOf_perm hu h.perm.symm _
  rw [hf] at hrow
  refine ⟨hrow, ?_, ?_, hm, ?_, h.kept.trans hk fun _ _ h => h⟩
  · rw [List.map_set]
    show (S.map (·.op)).set j x = ops
    rw [h.op]
    obtain ⟨hlt, he⟩ := List.getElem?_eq_some_iff.1 hx
    rw [← he, List.set_getElem_self hlt]
  · rw [List.take_add_one, List.take_set_of_le (Nat.le_refl _), h.pre, List.getElem?_set_self (by omega), List.take_add_one, stpsOf_at, hx]
    rfl
  · rw [foldOf_take _ _ _ hx]
    exact hp

/-- What stands while a round of redo's loop goes on. -/
structure RdAt (V : World) (b mb g cap n j : Nat) (k : Int) (S : List Stp) (x : Opn) (y : Nod) (th : Bool) (L : List Nod) : Prop where
  st : S8 V b (.slice (some ⟨g, 0, none⟩) n cap) mb k
  row : Row V 0 58 19 (.slice (some ⟨g, 0, none⟩) n cap) n (stpsCells S)
  here : S[j]? = some ⟨x, y, th⟩
  map : NdMap V mb L
  met : MMet V
theorem RdAt.step {V : World} {b mb g cap n j : Nat} {k : Int} {S : List Stp} {x : Opn} {y : Nod} {th : Bool} {L : List Nod} (h : RdAt V b mb g cap n j k S x y th L) (hn : 0 < n) : StpAt V g (j * 19) ⟨x, y, th⟩ := fun i u hu => by
  obtain ⟨g', cap', he, -, -, -, hcell, -⟩ := h.row.open hn
  cases he
  exact hcell _ _ (stpsCells_at S j _ h.here i u hu)
theorem RdAt.on {V V' : World} {b mb g cap n j : Nat} {k : Int} {S : List Stp} {x : Opn} {y : Nod} {th : Bool} {L : List Nod} (h : RdAt V b mb g cap n j k S x y th L) (hb : Below V.heap.size V V') : RdAt V' b mb g cap n j k S x y th L :=
  ⟨h.st.below hb, h.row.below hb, h.here, h.map.below hb, h.met.on hb⟩
end Go.Proofs.YtjeijolblcodpaaDoor.W
end

/- The program's states: redo, walked. -/
section
namespace Go.Proofs.YtjeijolblcodpaaDoor.W
set_option maxRecDepth 20000
set_option linter.unusedVariables false
open Go.RowKit Go.Proofs Arb

theorem chgOf_id (L : List Nod) (x : Opn) (y : Nod) : (chgOf L x y).id = y.id := by
  unfold chgOf
  repeat' split
  all_goals rfl
theorem chgOf_wf {L : List Nod} {x : Opn} {y : Nod} (hx : opWf x) (hy : ndWf y) : ndWf (chgOf L x y) := by
  obtain ⟨h1, h2, h3, h4⟩ := hy
  obtain ⟨-, -, -, -, g5, g6, g7⟩ := hx
  unfold chgOf
  split
  · split
    · exact ⟨h1, g5, g6, h4⟩
    · exact ⟨h1, h2, h3, h4⟩
  · split
    · split
      · exact ⟨h1, h2, h3, h4⟩
      · exact ⟨h1, h2, h3, g7⟩
    · split
      · exact ⟨h1, ⟨rfl, rfl⟩, h3, h4⟩
      · exact ⟨h1, h2, h3, h4⟩
theorem rd_next {w wr V : World} {b mb g cap n j : Nat} {k : Int} {ops : List Opn} {S : List Stp} {L L6 : List Nod} {x : Opn} {y0 y : Nod} {t0 th : Bool} (h : RdIn w wr mb (.slice (some ⟨g, 0, none⟩) n cap) ops j S L) (hlen : ops.length = n) (hj : j < n) (hs : S[j]? = some ⟨x, y0, t0⟩) (hx : ops[j]? = some x)
    (hA : RdAt V b mb g cap n j k (S.set j ⟨x, y, th⟩) x y th L6) (hy : (findOf L x.node).getD Nod.zero = y) (hth : (findOf L x.node).isSome = th) (hp : L6.Perm (doOf (foldOf (ops.take j)) x)) (hk : Kept (fun q => q = mb ∨ (Value.slice (some ⟨g, 0, none⟩) n cap).ownBlock = some q) wr V) :
    RdIn w V mb (.slice (some ⟨g, 0, none⟩) n cap) ops (j + 1) (S.set j (stpAt (foldOf (ops.take j)) x)) L6 := by
  refine h.next (by omega) hs hx rfl ?_ hA.map hp hk
  rw [hy, hth, hlen]
  exact hA.row
theorem use_once {P Q : Prop} (h : P → Q) (hP : P) : Q := h hP
theorem cell_ne {w : World} {b b' j j' : Nat} (u : Value) (hne : b' ≠ b ∨ j' ≠ j) : (w.setCell ⟨b, j, none⟩ u).cell? ⟨b', j', none⟩ = w.cell? ⟨b', j', none⟩ := by
  refine World.cell?_setCell_other _ _ _ _ ?_
  intro e
  simp only [Addr.mk.injEq] at e
  omega
theorem RdAt.limbs {V : World} {b mb g cap n j : Nat} {k : Int} {S : List Stp} {x : Opn} {y : Nod} {th : Bool} {L : List Nod} (h : RdAt V b mb g cap n j k S x y th L) (hn : 0 < n) : V.cell? ⟨b, 1, none⟩ = some (.map (some mb)) ∧ V.cell? ⟨g, j * 19, none⟩ = some (.int .i64 x.stamp.count) ∧ V.cell? ⟨g, j * 19 + 1, none⟩ = some (.int .i64 x.stamp.who) ∧ V.cell? ⟨g, j * 19 + 2, none⟩ = some (.int .i64 x.seq) ∧ V.cell? ⟨g, j * 19 + 3, none⟩ = some (.int .i64 x.kind) ∧ V.cell? ⟨g, j * 19 + 4, none⟩ = some (.int .i64 x.node.count) ∧ V.cell? ⟨g, j * 19 + 5, none⟩ = some (.int .i64 x.node.who) ∧ V.cell? ⟨g, j * 19 + 6, none⟩ = some (.bool x.dir) ∧ V.cell? ⟨g, j * 19 + 7, none⟩ = some (.int .i64 x.parent.count) ∧ V.cell? ⟨g, j * 19 + 8, none⟩ = some (.int .i64 x.parent.who) ∧ V.cell? ⟨g, j * 19 + 9, none⟩ = some (.string (BS x.name)) ∧ V.cell? ⟨g, j * 19 + 10, none⟩ = some (.string (BS x.manifest)) ∧ V.cell? ⟨g, j * 19 + 11, none⟩ = some (.int .i64 y.id.count) ∧ V.cell? ⟨g, j * 19 + 12, none⟩ = some (.int .i64 y.id.who) ∧ V.cell? ⟨g, j * 19 + 13, none⟩ = some (.bool y.dir) ∧ V.cell? ⟨g, j * 19 + 14, none⟩ = some (.int .i64 y.parent.count) ∧ V.cell? ⟨g, j * 19 + 15, none⟩ = some (.int .i64 y.parent.who) ∧ V.cell? ⟨g, j * 19 + 16, none⟩ = some (.string (BS y.name)) ∧ V.cell? ⟨g, j * 19 + 17, none⟩ = some (.string (BS y.manifest)) :=
  ⟨h.st.cells.2.1, h.step hn 0 _ rfl, h.step hn 1 _ rfl, h.step hn 2 _ rfl, h.step hn 3 _ rfl, h.step hn 4 _ rfl, h.step hn 5 _ rfl, h.step hn 6 _ rfl, h.step hn 7 _ rfl, h.step hn 8 _ rfl, h.step hn 9 _ rfl, h.step hn 10 _ rfl, h.step hn 11 _ rfl, h.step hn 12 _ rfl, h.step hn 13 _ rfl, h.step hn 14 _ rfl, h.step hn 15 _ rfl, h.step hn 16 _ rfl, h.step hn 17 _ rfl⟩
theorem RdAt.put {V V' : World} {b mb g cap n j : Nat} {k : Int} {S : List Stp} {x : Opn} {y : Nod} {th : Bool} {L L' : List Nod} (h : RdAt V b mb g cap n j k S x y th L) (hg : V.grownBy V' (some mb)) (hm : NdMap V' mb L') : RdAt V' b mb g cap n j k S x y th L' :=
  ⟨h.st.at (hg.block _ h.st.lt (fun e => h.st.ne h.map (Option.some.inj e))), h.row.kept hg (.inr (Row.neMap h.row h.map)), h.here, hm, h.met.kept (Kept.of_grown hg) (h.met.ne h.map).1 (h.met.ne h.map).2⟩

/-- What a round of redo's loop comes to, before the map is turned. -/
structure RdRound (w : World) (b mb g cap n j : Nat) (k : Int) (ops : List Opn) (S : List Stp) (L : List Nod) (x : Opn) : Prop where
  lt : j < n
  len : n = ops.length
  big : n ≤ 10000
  op : ops[j]? = some x
  wf : opWf x

set_option maxHeartbeats 16000000 in
theorem predo_any (b : Nat) (v : Value) (mb : Nat) (k : Int) (L : List Nod) (ops : List Opn) (S : List Stp) (i : Nat) (w : World) (hS8 : S8 w b v mb k) (h0 : RdIn w w mb v ops i S L) (hi : i ≤ ops.length) (hl : ops.length ≤ 10000) (hw : ∀ x ∈ ops, opWf x) (hT : MMet w) (hvb : v.ownBlock ≠ some b) (hg : ∀ q, v.ownBlock = some q → q ≠ 1 ∧ q ≠ 2) :
    Calls Tryd.prog 28 #[.pointer (some ⟨b, 0, none⟩), .int .i64 (i : Int)] w fun e w' => e = .returned (.tuple #[]) ∧ ∃ L', Row w' 0 58 19 v ops.length (stpsCells (stpsOf ops)) ∧ NdMap w' mb L' ∧ L'.Perm (foldOf ops) ∧ Kept (fun q => q = mb ∨ v.ownBlock = some q) w w' := by
  have hbm : b ≠ mb := hS8.ne h0.map
  have hTm := hT.ne h0.map
  have hst : ∀ W, Kept (fun q => q = mb ∨ v.ownBlock = some q) w W → S8 W b v mb k := fun W hk => hS8.kept hk (fun h => by rcases h with h | h; exact hbm h; exact hvb h)
  have hmt : ∀ W, Kept (fun q => q = mb ∨ v.ownBlock = some q) w W → MMet W := fun W hk => hT.kept hk (fun h => by rcases h with h | h; exact hTm.1 h; exact (hg _ h).1 rfl) (fun h => by rcases h with h | h; exact hTm.2 h; exact (hg _ h).2 rfl)
  obtain ⟨A, c, hAc⟩ := row_form h0.row
  obtain ⟨n, hn⟩ : ∃ n, ops.length = n := ⟨_, rfl⟩
  have m0 := hS8.cells.2.1
  have HST := Go.Lib.hid hst; have HMT := Go.Lib.hid hmt; have H0 := Go.Lib.hid h0; have HN := Go.Lib.hid hn; have HW := Go.Lib.hid hw; have HAC := Go.Lib.hid hAc
  have hin : i ≤ n := by omega
  have hnb : n ≤ 10000 := by omega
  clear hst hmt h0 hw hAc hS8 hT hvb hg hbm hTm hl hi hn
  have qM : ∀ W : World, (binOp .eql 51 (.map (some mb)) (.map none)).run Tryd.prog W = .ok (.bool false) W := fun W => run_eql_map_nil W _ _ _ (some mb) Tryd.underlying51
  go_enter Tryd.func28, Tryd.ntmps28
  go_wp2_with fail
  go_loopw [4, 5] (fun s4 _ wr => ∃ (j : Nat) (S' : List Stp) (L' : List Nod), s4 = .int .i64 (j : Int) ∧ j ≤ n ∧ Hid (RdIn w wr mb v ops j S' L')) (fun s4 _ _ => n - (intOf s4).toNat)
  case atStart => exact ⟨i, S, L, rfl, hin, H0⟩
  case round =>
    obtain ⟨j, S', L', rfl, hjn, HI⟩ := hrel
    have v1 := (HST.out wr HI.out.kept).cells.1
    rw [HAC.out, HN.out] at v1
    by_cases hj : j < n
    · have hji : (j : Int) < (n : Int) := by omega
      have hlen : ops.length = n := HN.out
      obtain ⟨s, x, hs, hx, hsx⟩ := HI.out.at (by omega)
      have hrow := HI.out.row
      obtain ⟨g, cap, hvv, hnc, -, hgl, hcell, hfro⟩ := hrow.open (by omega)
      rw [hlen] at hvv
      have hAC := HAC.out
      rw [hlen, hvv] at hAC
      injection hAC with hA1 hA2 hA3
      subst hA1; subst hA3
      clear hA2
      subst hvv
      rw [hlen] at hrow
      have hwx : opWf x := HW.out x (List.mem_of_getElem? hx)
      obtain ⟨s0, y0, t0⟩ := s
      obtain rfl : s0 = x := hsx
      have hst0 := HST.out wr HI.out.kept; have hmt0 := HMT.out wr HI.out.kept
      have A0 : RdAt wr b mb g cap n j k S' s0 y0 t0 L' := ⟨hst0, hrow, hs, HI.out.map, hmt0⟩
      obtain ⟨y, hy⟩ : ∃ y, (findOf L' s0.node).getD Nod.zero = y := ⟨_, rfl⟩
      obtain ⟨th, hth⟩ : ∃ th, (findOf L' s0.node).isSome = th := ⟨_, rfl⟩
      have hyw : ndWf y := by
        rw [← hy]
        cases hf : findOf L' s0.node with
        | none => exact ⟨⟨rfl, rfl⟩, ⟨rfl, rfl⟩, by decide, by decide⟩
        | some m => exact HI.out.map.wf m (findOf_some hf).1
      have hlk : (Instr.lookup 51 (.map (some mb)) (.agg #[.int .i64 s0.node.count, .int .i64 s0.node.who]) true).run Tryd.prog wr.drew = .ok (.tuple #[.agg #[.int .i64 y.id.count, .int .i64 y.id.who, .bool y.dir, .int .i64 y.parent.count, .int .i64 y.parent.who, .string (BS y.name), .string (BS y.manifest)], .bool th]) wr.drew := by
        have := (HI.out.map.below (Below.refl _ _).drew).look s0.node hwx.2.2.2.1
        rw [hy, hth] at this
        exact this
      have hfz : ∀ q, q < n * 19 → wr.frozen? ⟨g, q, none⟩ = false := fun q hq => hfro q (by rw [hlen]; exact hq)
      have hjn19 : j * 19 + 18 < n * 19 := by omega
      obtain ⟨z0, l0, l1, l2, l3, l4, l5, l6, l7, l8, l9, l10, l11, l12, l13, l14, l15, l16, l17⟩ := A0.limbs (by omega)
      have l18 := (A0.step (by omega)).there
      have f11 := hfz (j * 19 + 11) (by omega); have f12 := hfz (j * 19 + 12) (by omega); have f13 := hfz (j * 19 + 13) (by omega); have f14 := hfz (j * 19 + 14) (by omega); have f15 := hfz (j * 19 + 15) (by omega); have f16 := hfz (j * 19 + 16) (by omega); have f17 := hfz (j * 19 + 17) (by omega); have f18 := hfz (j * 19 + 18) (by omega)
      have hgm : mb ≠ g := fun e => Row.neMap hrow HI.out.map (by rw [e]; rfl)
      have hR2 : Row ((((((((wr.setCell ⟨g, j * 19 + 11, none⟩ (.int .i64 y.id.count)).setCell ⟨g, j * 19 + 11 + 1, none⟩ (.int .i64 y.id.who)).setCell ⟨g, j * 19 + 11 + 2, none⟩ (.bool y.dir)).setCell ⟨g, j * 19 + 11 + 3, none⟩ (.int .i64 y.parent.count)).setCell ⟨g, j * 19 + 11 + 4, none⟩ (.int .i64 y.parent.who)).setCell ⟨g, j * 19 + 11 + 5, none⟩ (.string (BS y.name))).setCell ⟨g, j * 19 + 11 + 6, none⟩ (.string (BS y.manifest))).setCell ⟨g, j * 19 + 18, none⟩ (.bool th)) 0 58 19 (.slice (some ⟨g, 0, none⟩) n cap) n (stpsCells (S'.set j ⟨s0, y, th⟩)) := Row.putStep hrow hs y th
      obtain ⟨V, hV⟩ : ∃ V, ((((((((wr.setCell ⟨g, j * 19 + 11, none⟩ (.int .i64 y.id.count)).setCell ⟨g, j * 19 + 11 + 1, none⟩ (.int .i64 y.id.who)).setCell ⟨g, j * 19 + 11 + 2, none⟩ (.bool y.dir)).setCell ⟨g, j * 19 + 11 + 3, none⟩ (.int .i64 y.parent.count)).setCell ⟨g, j * 19 + 11 + 4, none⟩ (.int .i64 y.parent.who)).setCell ⟨g, j * 19 + 11 + 5, none⟩ (.string (BS y.name))).setCell ⟨g, j * 19 + 11 + 6, none⟩ (.string (BS y.manifest))).setCell ⟨g, j * 19 + 18, none⟩ (.bool th)) = V := ⟨_, rfl⟩
      rw [hV] at hR2
      have hK2 : Kept (fun q => q = mb ∨ (Value.slice (some ⟨g, 0, none⟩) n cap).ownBlock = some q) wr V := by rw [← hV]; exact (((((((((Kept.refl (fun q => q = mb ∨ (Value.slice (some ⟨g, 0, none⟩) n cap).ownBlock = some q) wr)).setCell (b := g) (.inr rfl) _).setCell (b := g) (.inr rfl) _).setCell (b := g) (.inr rfl) _).setCell (b := g) (.inr rfl) _).setCell (b := g) (.inr rfl) _).setCell (b := g) (.inr rfl) _).setCell (b := g) (.inr rfl) _).setCell (b := g) (.inr rfl) _
      have A1 : RdAt V b mb g cap n j k (S'.set j ⟨s0, y, th⟩) s0 y th L' := ⟨HST.out V (HI.out.kept.trans hK2 fun _ _ h => h), hR2, List.getElem?_set_self (by have := (List.getElem?_eq_some_iff.1 hs).1; exact this), HI.out.map.at (by rw [← hV]; exact ((heap_setCell_other _ _ _ _ hgm).trans ((heap_setCell_other _ _ _ _ hgm).trans ((heap_setCell_other _ _ _ _ hgm).trans ((heap_setCell_other _ _ _ _ hgm).trans ((heap_setCell_other _ _ _ _ hgm).trans ((heap_setCell_other _ _ _ _ hgm).trans ((heap_setCell_other _ _ _ _ hgm).trans (heap_setCell_other _ _ _ _ hgm))))))))), HMT.out V (HI.out.kept.trans hK2 fun _ _ h => h)⟩
      have HA0 := Go.Lib.hid A0; have HA1 := Go.Lib.hid A1; have HV := Go.Lib.hid hV; have HS := Go.Lib.hid hs; have HX := Go.Lib.hid hx; have HWX := Go.Lib.hid hwx; have HY := Go.Lib.hid hy; have HTH := Go.Lib.hid hth; have HYW := Go.Lib.hid hyw; have HK2 := Go.Lib.hid hK2; have HLEN := Go.Lib.hid hlen
      clear A0 A1 hV hs hx hwx hy hth hyw hK2 hR2 hcell hfro hfz hst0 hmt0 hrow hlen
      go_wp2_with fail
      apply use_once
      · intro hP
        go_region_with (first | simp only [hlk])
        all_goals exact hP
      rw [HV.out]
      have hn0 : 0 < n := by omega
      have hAU := HA1.out.on ((Below.refl _ _).drew)
      have hKU : Kept (fun q => q = mb ∨ (Value.slice (some ⟨g, 0, none⟩) n cap).ownBlock = some q) wr V.drew := HK2.out.drew
      obtain ⟨U, hU⟩ : ∃ U, V.drew = U := ⟨_, rfl⟩
      rw [hU] at hAU hKU ⊢
      clear HA1 HK2 hU HV
      have HA1 := Go.Lib.hid hAU; have HKU := Go.Lib.hid hKU
      clear hAU hKU
      have hB0 := HA1.out.limbs hn0
      have B0 := hB0
      obtain ⟨z0, -, -, h2, h3, h4, h5, -⟩ := hB0
      have h18 := (HA1.out.step hn0).there
      have hu := HI.out.map.uni
      cases hf : findOf L' s0.node with
      | some m =>
        obtain rfl : y = m := by have := HY.out; rw [hf] at this; exact this.symm
        obtain rfl : th = true := by have := HTH.out; rw [hf] at this; exact this.symm
        have hid := (findOf_some hf).2
        have hft : findOf (foldOf (ops.take j)) s0.node = some y := (findOf_perm HI.out.map.uni HI.out.perm _).trans hf
        have hchg := chgOf_turn (foldOf_rises (ops.take j)).uni HI.out.perm hft
        have hl6 : L'.length ≤ 1000000 := by have h1 := HI.out.perm.length_eq; have h2 := foldOf_length (ops.take j); rw [List.length_take] at h2; omega
        have hcw : ndWf (chgOf L' s0 y) := chgOf_wf HWX.out HYW.out
        have hci : (chgOf L' s0 y).id = s0.node := (chgOf_id L' s0 y).trans hid
        have hc : ∀ W, RdAt W b mb g cap n j k (S'.set j ⟨s0, y, true⟩) s0 y true L' → Calls Tryd.prog 43 #[.pointer (some ⟨b, 0, none⟩), .agg #[.int .i64 y.id.count, .int .i64 y.id.who, .bool y.dir, .int .i64 y.parent.count, .int .i64 y.parent.who, .string (BS y.name), .string (BS y.manifest)], .agg #[.int .i64 s0.stamp.count, .int .i64 s0.stamp.who, .int .i64 s0.seq, .int .i64 s0.kind, .int .i64 s0.node.count, .int .i64 s0.node.who, .bool s0.dir, .int .i64 s0.parent.count, .int .i64 s0.parent.who, .string (BS s0.name), .string (BS s0.manifest)]] W fun e w' => e = .returned (ndVal (chgOf L' s0 y)) ∧ Below W.heap.size W w' :=
          fun W hA => pchanged_any b _ mb k L' y s0 W hA.st hA.map hl6 hA.met HYW.out HWX.out
        have HC := Go.Lib.hid hc; have HCW := Go.Lib.hid hcw; have HCI := Go.Lib.hid hci; have HCHG := Go.Lib.hid hchg; have HFT := Go.Lib.hid hft; have HL6 := Go.Lib.hid hl6; have HU := Go.Lib.hid hu
        clear hc hcw hci hchg hft hl6 hu hid hf
        go_wp2_with fail
        go_region_held3 (fun W => W.cell? ⟨b, 1, none⟩ = some (.map (some mb)) ∧ W.cell? ⟨g, j * 19, none⟩ = some (.int .i64 s0.stamp.count) ∧ W.cell? ⟨g, j * 19 + 1, none⟩ = some (.int .i64 s0.stamp.who) ∧ W.cell? ⟨g, j * 19 + 2, none⟩ = some (.int .i64 s0.seq) ∧ W.cell? ⟨g, j * 19 + 3, none⟩ = some (.int .i64 s0.kind) ∧ W.cell? ⟨g, j * 19 + 4, none⟩ = some (.int .i64 s0.node.count) ∧ W.cell? ⟨g, j * 19 + 5, none⟩ = some (.int .i64 s0.node.who) ∧ W.cell? ⟨g, j * 19 + 6, none⟩ = some (.bool s0.dir) ∧ W.cell? ⟨g, j * 19 + 7, none⟩ = some (.int .i64 s0.parent.count) ∧ W.cell? ⟨g, j * 19 + 8, none⟩ = some (.int .i64 s0.parent.who) ∧ W.cell? ⟨g, j * 19 + 9, none⟩ = some (.string (BS s0.name)) ∧ W.cell? ⟨g, j * 19 + 10, none⟩ = some (.string (BS s0.manifest)) ∧ W.cell? ⟨g, j * 19 + 11, none⟩ = some (.int .i64 y.id.count) ∧ W.cell? ⟨g, j * 19 + 12, none⟩ = some (.int .i64 y.id.who) ∧ W.cell? ⟨g, j * 19 + 13, none⟩ = some (.bool y.dir) ∧ W.cell? ⟨g, j * 19 + 14, none⟩ = some (.int .i64 y.parent.count) ∧ W.cell? ⟨g, j * 19 + 15, none⟩ = some (.int .i64 y.parent.who) ∧ W.cell? ⟨g, j * 19 + 16, none⟩ = some (.string (BS y.name)) ∧ W.cell? ⟨g, j * 19 + 17, none⟩ = some (.string (BS y.manifest))) (first | exact B0 | exact B1 | exact B2) (first
          | (go_at_call 43; with_reducible refine (HC.out U.drew (HA1.out.on ((Below.refl _ _).drew))).mono ?_; rintro e w5 ⟨rfl, hb5⟩; have hb6 : Below U.heap.size U w5 := bstep ((Below.refl _ U).drew) hb5; have A2 := HA1.out.on hb6; have B1 := A2.limbs hn0; obtain ⟨w6, L6, hrun, hM6, hp6, hg6⟩ := A2.map.put HL6.out (chgOf L' s0 y) HCW.out; rw [HCI.out] at hrun hp6; have A3 := A2.put hg6 hM6; have B2 := A3.limbs hn0; have HA3 := Go.Lib.hid A3; have HB6 := Go.Lib.hid hb6; have HP6 := Go.Lib.hid hp6; have HG6 := Go.Lib.hid hg6; clear A2 A3 hb5 hb6 hp6 hg6 hM6))
        go_wp2_with fail
        refine ⟨⟨j + 1, _, L6, by simp, by omega, Go.Lib.hid (rd_next HI.out HLEN.out hj HS.out HX.out HA3.out HY.out HTH.out (do_put (foldOf_rises _).uni HI.out.perm HFT.out (HCHG.out ▸ HP6.out)) ((HKU.out.trans (Kept.of_new HB6.out) fun _ _ h => h).trans (Kept.of_grown HG6.out) fun _ _ h => .inl h))⟩, by simp [intOf]; omega⟩
      | none =>
        obtain rfl : th = false := by have := HTH.out; rw [hf] at this; exact this.symm
        have hft : findOf (foldOf (ops.take j)) s0.node = none := (findOf_perm HI.out.map.uni HI.out.perm _).trans hf
        have HFT := Go.Lib.hid hft
        by_cases hk1 : s0.kind = 1
        · have hbk : (s0.kind == 1) = true := by simp [hk1]
          have hl6 : L'.length ≤ 1000000 := by have h1 := HI.out.perm.length_eq; have h2 := foldOf_length (ops.take j); rw [List.length_take] at h2; omega
          have hcw : ndWf (mdeOf L' s0) := ⟨HWX.out.2.2.2.1, (by show stWf (if _ then _ else _); split; exact HWX.out.2.2.2.2.1; exact ⟨rfl, rfl⟩), HWX.out.2.2.2.2.2.1, HWX.out.2.2.2.2.2.2⟩
          have hci : (mdeOf L' s0).id = s0.node := rfl
          have hc : ∀ W, RdAt W b mb g cap n j k (S'.set j ⟨s0, y, false⟩) s0 y false L' → Calls Tryd.prog 44 #[.pointer (some ⟨b, 0, none⟩), .agg #[.int .i64 s0.stamp.count, .int .i64 s0.stamp.who, .int .i64 s0.seq, .int .i64 s0.kind, .int .i64 s0.node.count, .int .i64 s0.node.who, .bool s0.dir, .int .i64 s0.parent.count, .int .i64 s0.parent.who, .string (BS s0.name), .string (BS s0.manifest)]] W fun e w' => e = .returned (ndVal (mdeOf L' s0)) ∧ Below W.heap.size W w' :=
            fun W hA => pmade_any b _ mb k L' s0 W hA.st hA.map hA.met HWX.out
          have hmk := mdeOf_made (foldOf_rises (ops.take j)).uni HI.out.perm s0
          have HC := Go.Lib.hid hc; have HCW := Go.Lib.hid hcw; have HCI := Go.Lib.hid hci; have HL6 := Go.Lib.hid hl6; have HK1 := Go.Lib.hid hk1; have HMK := Go.Lib.hid hmk
          clear hc hcw hci hft hl6 hu hf hk1 hmk
          go_wp2_with fail
          go_region_held3 (fun W => W.cell? ⟨b, 1, none⟩ = some (.map (some mb)) ∧ W.cell? ⟨g, j * 19, none⟩ = some (.int .i64 s0.stamp.count) ∧ W.cell? ⟨g, j * 19 + 1, none⟩ = some (.int .i64 s0.stamp.who) ∧ W.cell? ⟨g, j * 19 + 2, none⟩ = some (.int .i64 s0.seq) ∧ W.cell? ⟨g, j * 19 + 3, none⟩ = some (.int .i64 s0.kind) ∧ W.cell? ⟨g, j * 19 + 4, none⟩ = some (.int .i64 s0.node.count) ∧ W.cell? ⟨g, j * 19 + 5, none⟩ = some (.int .i64 s0.node.who) ∧ W.cell? ⟨g, j * 19 + 6, none⟩ = some (.bool s0.dir) ∧ W.cell? ⟨g, j * 19 + 7, none⟩ = some (.int .i64 s0.parent.count) ∧ W.cell? ⟨g, j * 19 + 8, none⟩ = some (.int .i64 s0.parent.who) ∧ W.cell? ⟨g, j * 19 + 9, none⟩ = some (.string (BS s0.name)) ∧ W.cell? ⟨g, j * 19 + 10, none⟩ = some (.string (BS s0.manifest)) ∧ W.cell? ⟨g, j * 19 + 11, none⟩ = some (.int .i64 y.id.count) ∧ W.cell? ⟨g, j * 19 + 12, none⟩ = some (.int .i64 y.id.who) ∧ W.cell? ⟨g, j * 19 + 13, none⟩ = some (.bool y.dir) ∧ W.cell? ⟨g, j * 19 + 14, none⟩ = some (.int .i64 y.parent.count) ∧ W.cell? ⟨g, j * 19 + 15, none⟩ = some (.int .i64 y.parent.who) ∧ W.cell? ⟨g, j * 19 + 16, none⟩ = some (.string (BS y.name)) ∧ W.cell? ⟨g, j * 19 + 17, none⟩ = some (.string (BS y.manifest))) (first | exact B0 | exact B1 | exact B2) (first
            | (go_at_call 44; with_reducible refine (HC.out U.drew (HA1.out.on ((Below.refl _ _).drew))).mono ?_; rintro e w5 ⟨rfl, hb5⟩; have hb6 : Below U.heap.size U w5 := bstep ((Below.refl _ U).drew) hb5; have A2 := HA1.out.on hb6; have B1 := A2.limbs hn0; obtain ⟨w6, L6, hrun, hM6, hp6, hg6⟩ := A2.map.put HL6.out (mdeOf L' s0) HCW.out; rw [HCI.out] at hrun hp6; have A3 := A2.put hg6 hM6; have B2 := A3.limbs hn0; have HA3 := Go.Lib.hid A3; have HB6 := Go.Lib.hid hb6; have HP6 := Go.Lib.hid hp6; have HG6 := Go.Lib.hid hg6; clear A2 A3 hb5 hb6 hp6 hg6 hM6))
          go_wp2_with fail
          refine ⟨⟨j + 1, _, L6, by simp, by omega, Go.Lib.hid (rd_next HI.out HLEN.out hj HS.out HX.out HA3.out HY.out HTH.out (do_make (foldOf_rises _).uni HI.out.perm HFT.out HK1.out (HMK.out ▸ HP6.out)) ((HKU.out.trans (Kept.of_new HB6.out) fun _ _ h => h).trans (Kept.of_grown HG6.out) fun _ _ h => .inl h))⟩, by simp [intOf]; omega⟩
        · have hbk : (s0.kind == 1) = false := by simp [hk1]
          have HK1 := Go.Lib.hid hk1
          clear hft hu hf hk1
          go_wp2_with fail
          refine ⟨⟨j + 1, _, L', by simp, by omega, Go.Lib.hid (rd_next HI.out HLEN.out hj HS.out HX.out HA1.out HY.out HTH.out (by rw [do_still HFT.out HK1.out]; exact HI.out.perm) HKU.out)⟩, by simp [intOf]; omega⟩
    · obtain rfl : j = n := by omega
      have hnj : ¬ ((j : Int) < (j : Int)) := by omega
      have HI2 := HI
      rw [← HN.out] at HI2
      go_wp2_with fail
      go_end0
      exact ⟨rfl, HI2.out.last.1, L', HI2.out.map, HI2.out.last.2, HI2.out.kept⟩
end Go.Proofs.YtjeijolblcodpaaDoor.W
end

/- slices.Backward of steps: the library's iterator, read behind rounds that turn one block. -/
section
namespace Go.Proofs.YtjeijolblcodpaaDoor.W
set_option maxRecDepth 100000
set_option linter.unusedVariables false
open Go.RowKit Go.Proofs Arb Go.Shelf
attribute [local go_sem] Oper.semAt_some

/-- None of the blocks below n₀ has turned but one. -/
structure Stay (n₀ mb : Nat) (A B : World) : Prop where
  os : B.os = A.os
  tape : B.tape = A.tape
  output : B.output = A.output
  size : A.heap.size ≤ B.heap.size
  block : ∀ k, k < n₀ → k ≠ mb → B.heap[k]? = A.heap[k]?
theorem Stay.refl (n₀ mb : Nat) (A : World) : Stay n₀ mb A A := ⟨rfl, rfl, rfl, Nat.le_refl _, fun _ _ _ => rfl⟩
theorem Stay.trans {n₀ mb : Nat} {A B C : World} (h : Stay n₀ mb A B) (k : Stay n₀ mb B C) : Stay n₀ mb A C :=
  ⟨k.os.trans h.os, k.tape.trans h.tape, k.output.trans h.output, Nat.le_trans h.size k.size, fun i hi hm => (k.block i hi hm).trans (h.block i hi hm)⟩
theorem Stay.grown {n₀ mb : Nat} {A B : World} {row : Option Nat} (hg : A.grownBy B row) (hn : n₀ ≤ A.heap.size) (hr : ∀ r, row = some r → n₀ ≤ r ∨ r = mb) : Stay n₀ mb A B :=
  ⟨hg.os, hg.tape, hg.output, hg.size, fun k hk hm => hg.block k (by omega) fun e => by rcases hr k e.symm with h | h; omega; exact hm h⟩
theorem Stay.cell {n₀ mb : Nat} {A B : World} (h : Stay n₀ mb A B) {p : Addr} {u : Value} (hc : A.cell? p = some u) (hp : p.block < n₀) (hm : p.block ≠ mb) : B.cell? p = some u :=
  (World.cell?_of_block (h.block _ hp hm)).trans hc
theorem Stay.putObj {n₀ mb : Nat} {w : World} (hn : n₀ ≤ w.heap.size) (W : World) (l : Nat) (o o' : Obj) (hl : w.heap.size ≤ l) (h : W.heap[l]? = some o) (_ : o.isCells = false) (_ : o.isWalk = false) : Stay n₀ mb W (W.putObj l o') :=
  Stay.grown (grownBy_putObj' W l o') (by have := (Array.getElem?_eq_some_iff.1 h).1; omega) fun r e => .inl (by injection e with e; omega)

/-- A step, with its number, whose stamp may be a key. -/
abbrev IStp := { p : Nat × Stp // opWf p.2.op ∧ ndWf p.2.before ∧ (p.2.there = true → p.2.before.id = p.2.op.node) }
abbrev iEnc (x : IStp) : Array Value := #[.int .i64 (x.1.1 : Int), stpVal x.1.2]

theorem wpListIn_load {P : Program} {F : Fence} {nF : Nat} {w : World} {ops : Array Oper} {rest : List Oper} {o : Oper} {a : Act} {Q : Exit → Act → World → Prop} (hg : o.guard = none) (ty : TypeId) (x : Operand) (ho : o.op = .load ty x) (p : Addr) (hx : a.eval x = .pointer (some p)) (v : Value)
    (hl : (loadVar ty p).run P w = .ok v w) (h : wpListIn F nF P ops Q rest (a.put o.dst v) w) : wpListIn F nF P ops Q (o :: rest) a w := by
  refine wpListIn_plain hg fun K' hK' => ?_
  unfold Oper.wpIn
  refine ⟨by simp [Oper.about, ho], ?_⟩
  rw [Oper.semAt_plain F _ _ (by rw [ho]; intro c hc'; cases hc')]
  simp [execOp, ho, hx, Instr.loadAt, Instr.sureAddr, hl, Result.andThen]
  exact hK' _ _ h

set_option maxHeartbeats 4000000 in
theorem pbwd1_in (F : Fence) (n : Nat) (hF : F.fn 52) (hro : F.round = none) (hn : 1 ≤ n) (l Bs n₀ mb bb o c N : Nat) (X : List IStp) (hX : X.length = N) (hN : N ≤ 10000) (J Jx : List IStp → World → Prop)
    (hY : ∀ pre x W, J pre W → pre.length < N → YieldAt F (n - 1) Tryd.prog l (iEnc x) W fun e W' =>
      (e = .returned (.bool true) ∧ J (pre ++ [x]) W' ∧ Stay n₀ mb W W') ∨ (e = .returned (.bool false) ∧ Jx (pre ++ [x]) W'))
    (W : World) (hBs : W.cell? ⟨Bs, 0, none⟩ = some (.slice (some ⟨bb, o, none⟩) N c)) (hBl : Bs < n₀) (hBm : Bs ≠ mb) (hbl : bb < n₀) (hbm : bb ≠ mb) (hix : ∀ (j : Nat) (x : IStp), X[j]? = some x → x.1.1 = j) (hc : ∀ (j : Nat) (x : IStp), X[j]? = some x → StpAt W bb (o + j * 19) x.1.2) (h0 : J [] W) :
    CallsIn F n Tryd.prog 52 #[.func (.yield l) #[] #[], .pointer (some ⟨Bs, 0, none⟩)] W fun e W' => (∃ v, e = .returned v) ∧
      ((∃ ys, ys = X.reverse ∧ J ys W') ∨ (∃ pre, True ∧ Jx pre W')) := by
  refine callsIn_of_wp Tryd.func52 rfl hF ?_ hro
  simp only [Tryd.ntmps52, List.size_toArray, List.length_cons, List.length_nil, Nat.reduceAdd, Nat.reduceSub, Array.replicate_succ, Array.replicate_zero, List.push_toArray, List.append_toArray, List.nil_append, List.cons_append]
  gi_wp2
  gi_loopw [3] (fun i wr => ∃ k : Nat, k ≤ N ∧ i = .int .i64 ((k : Int) - 1) ∧ J ((X.drop k).reverse) wr ∧ Stay n₀ mb W wr)
    (fun i _ => (intOf i + 1).toNat)
  case atStart => exact ⟨N, Nat.le_refl _, rfl, by rw [List.drop_of_length_le (by omega)]; exact h0, Stay.refl _ _ _⟩
  case round =>
    obtain ⟨k, hk, rfl, hJs, hst⟩ := hrel
    have hcs := hst.cell hBs hBl hBm
    by_cases h1 : 0 < k
    · obtain ⟨j, rfl⟩ : ∃ j, k = j + 1 := ⟨k - 1, by omega⟩
      have hj : ((j + 1 : Nat) : Int) - 1 = (j : Int) := by omega
      rw [hj]
      have hjN : j < N := by omega
      obtain ⟨x, hx⟩ : ∃ x, X[j]? = some x := ⟨_, List.getElem?_eq_getElem (by omega)⟩
      have hsx : StpAt wr bb (o + j * 19) x.1.2 := fun i u hu => hst.cell (hc j x hx i u hu) hbl hbm
      have hld := hsx.load
      obtain ⟨sv, hsv⟩ : ∃ sv, stpVal x.1.2 = sv := ⟨_, rfl⟩
      rw [hsv] at hld
      obtain ⟨fn, tmps, assign, body, hy, hR⟩ := hY _ x wr hJs (by rw [List.length_reverse, List.length_drop]; omega)
      unfold iEnc at hy
      rw [hix j x hx, hsv] at hy
      have hji : 0 ≤ (j : Int) := by omega
      have hnx : (X.drop j).reverse = (X.drop (j + 1)).reverse ++ [x] := by
        obtain ⟨hlt, he⟩ := List.getElem?_eq_some_iff.1 hx
        rw [← List.reverse_cons, ← he, ← List.drop_eq_getElem_cons hlt]
      have HLD := Go.Lib.hid hld; have HNX := Go.Lib.hid hnx; have HST := Go.Lib.hid hst
      clear hld hsv hsx hx hnx hst hJs hj
      gi_wp2_with (refine wpListIn_load rfl 58 _ rfl _ rfl sv HLD.out ?_)
      refine hR.mono ?_
      rintro e W3 (⟨rfl, hJ3, hk3⟩ | ⟨rfl, hJx3⟩)
      · gi_wp2
        go_roundw
        case rel => exact ⟨j, by omega, by simp, by rw [HNX.out]; exact hJ3, HST.out.trans hk3⟩
        case measure => simp [intOf]
      · gi_wp2
        refine bodyPost_ret (results_none rfl _ _ _) rfl ?_
        exact ⟨⟨_, rfl⟩, .inr ⟨_, trivial, hJx3⟩⟩
    · obtain rfl : k = 0 := by omega
      gi_wp2
      go_end0
      exact ⟨⟨_, rfl⟩, .inl ⟨_, by simp, hJs⟩⟩
end Go.Proofs.YtjeijolblcodpaaDoor.W
end

/- The program's states: undo. -/
section
namespace Go.Proofs.YtjeijolblcodpaaDoor.W
set_option maxRecDepth 100000
set_option linter.unusedVariables false
open Go.RowKit Go.Proofs Arb Go.Shelf
attribute [local go_sem] Oper.semAt_some

def undoStep (L : List Nod) (s : Stp) : List Nod := if s.there = true then s.before :: wipe L s.op.node else wipe L s.op.node
def undoAll (L : List Nod) (ys : List Stp) : List Nod := ys.foldl undoStep L
theorem undoStep_perm {L L' : List Nod} (h : L.Perm L') (s : Stp) : (undoStep L s).Perm (undoStep L' s) := by
  unfold undoStep
  split
  · exact (wipe_perm h _).cons _
  · exact wipe_perm h _
theorem undoAll_perm : ∀ (ys : List Stp) {L L' : List Nod}, L.Perm L' → (undoAll L ys).Perm (undoAll L' ys)
  | [], _, _, h => h
  | s :: ys, _, _, h => undoAll_perm ys (undoStep_perm h s)
theorem undoStep_length (L : List Nod) (s : Stp) : (undoStep L s).length ≤ L.length + 1 := by
  have : (wipe L s.op.node).length ≤ L.length := List.length_filter_le _ _
  unfold undoStep
  split
  · simp; omega
  · omega
theorem undoAll_length : ∀ (ys : List Stp) (L : List Nod), (undoAll L ys).length ≤ L.length + ys.length
  | [], L => by simp [undoAll]
  | s :: ys, L => by
    have h1 := undoAll_length ys (undoStep L s)
    have h2 := undoStep_length L s
    show (undoAll (undoStep L s) ys).length ≤ _
    rw [List.length_cons]
    omega
theorem undoStep_at {t L : List Nod} {x : Opn} (h : Uni t) (hL : L.Perm (doOf t x)) : (undoStep L (stpAt t x)).Perm t := by
  unfold undoStep stpAt
  cases hf : findOf t x.node with
  | none => exact undo_del h hL hf (List.Perm.refl _)
  | some n => exact undo_put h hL hf (List.Perm.refl _)
theorem undo_math (ops : List Opn) (i : Nat) : ∀ (d : Nat), i + d ≤ ops.length → ∀ L : List Nod, L.Perm (foldOf (ops.take (i + d))) → (undoAll L (((stpsOf ops).take (i + d)).drop i).reverse).Perm (foldOf (ops.take i))
  | 0, hd, L, hL => by
    rw [List.drop_of_length_le (by rw [List.length_take]; omega)]
    exact hL
  | d + 1, hd, L, hL => by
    obtain ⟨x, hx⟩ : ∃ x, ops[i + d]? = some x := ⟨_, List.getElem?_eq_getElem (by omega)⟩
    have hs : (stpsOf ops)[i + d]? = some (stpAt (foldOf (ops.take (i + d))) x) := by rw [stpsOf_at, hx]; rfl
    have e : (((stpsOf ops).take (i + (d + 1))).drop i).reverse = stpAt (foldOf (ops.take (i + d))) x :: (((stpsOf ops).take (i + d)).drop i).reverse := by
      rw [show i + (d + 1) = i + d + 1 by omega, List.take_add_one, hs, List.drop_append_of_le_length (by rw [List.length_take, stpsOf_length]; omega)]
      simp
    rw [e]
    show (undoAll (undoStep L _) _).Perm _
    refine undo_math ops i d (by omega) _ (undoStep_at (foldOf_rises _).uni ?_)
    rw [← foldOf_take _ _ _ hx]
    exact hL
theorem undo_all (ops : List Opn) (i : Nat) (hi : i ≤ ops.length) (L : List Nod) (hL : L.Perm (foldOf ops)) : (undoAll L (((stpsOf ops).drop i)).reverse).Perm (foldOf (ops.take i)) := by
  have := undo_math ops i (ops.length - i) (by omega) L (by rw [show i + (ops.length - i) = ops.length by omega, List.take_of_length_le (Nat.le_refl _)]; exact hL)
  rw [show i + (ops.length - i) = ops.length by omega, List.take_of_length_le (by rw [stpsOf_length]; omega)] at this
  exact this
/-- What is asked of a step that is undone. -/
def SpOk (s : Stp) : Prop := opWf s.op ∧ ndWf s.before ∧ (s.there = true → s.before.id = s.op.node)
theorem stpsOf_ok (ops : List Opn) (hw : ∀ x ∈ ops, opWf x) (hn : ∀ i, ∀ y ∈ foldOf (ops.take i), ndWf y) : ∀ s ∈ stpsOf ops, SpOk s := by
  intro s hs
  obtain ⟨i, hi⟩ := List.getElem?_of_mem hs
  rw [stpsOf_at] at hi
  cases hx : ops[i]? with
  | none => rw [hx] at hi; cases hi
  | some x =>
    rw [hx] at hi
    injection hi with hi
    subst hi
    refine ⟨hw x (List.mem_of_getElem? hx), ?_, fun h => ?_⟩
    · show ndWf ((findOf _ _).getD Nod.zero)
      cases hf : findOf (foldOf (ops.take i)) x.node with
      | none => exact ⟨⟨rfl, rfl⟩, ⟨rfl, rfl⟩, by decide, by decide⟩
      | some m => exact hn i m (findOf_some hf).1
    · change (findOf _ _).isSome = true at h
      show ((findOf _ _).getD Nod.zero).id = x.node
      cases hf : findOf (foldOf (ops.take i)) x.node with
      | none => rw [hf] at h; cases h
      | some m => exact (findOf_some hf).2
def mkX : (i : Nat) → (l : List Stp) → (∀ s ∈ l, SpOk s) → List IStp
  | _, [], _ => []
  | i, s :: l, h => ⟨(i, s), h s (List.mem_cons_self ..)⟩ :: mkX (i + 1) l fun t ht => h t (List.mem_cons_of_mem _ ht)
theorem mkX_at : ∀ (l : List Stp) (i : Nat) (h : ∀ s ∈ l, SpOk s) (j : Nat) (x : IStp), (mkX i l h)[j]? = some x → x.1.1 = i + j ∧ l[j]? = some x.1.2
  | [], i, h, j, x, hx => by simp [mkX] at hx
  | s :: l, i, h, 0, x, hx => by
    simp [mkX] at hx
    subst hx
    exact ⟨rfl, rfl⟩
  | s :: l, i, h, j + 1, x, hx => by
    simp only [mkX, List.getElem?_cons_succ] at hx
    obtain ⟨h1, h2⟩ := mkX_at l (i + 1) _ j x hx
    exact ⟨by omega, by simpa using h2⟩
theorem mkX_length : ∀ (l : List Stp) (i : Nat) (h : ∀ s ∈ l, SpOk s), (mkX i l h).length = l.length
  | [], _, _ => rfl
  | s :: l, i, h => by rw [mkX, List.length_cons, List.length_cons, mkX_length l]
theorem mkX_map : ∀ (l : List Stp) (i : Nat) (h : ∀ s ∈ l, SpOk s), (mkX i l h).map (·.1.2) = l
  | [], _, _ => rfl
  | s :: l, i, h => by rw [mkX, List.map_cons, mkX_map l]

theorem new_row (W : World) (z cs : Array Value) (t : TypeId) : W.grownBy ((W.alloc (.cells z t)).setRow W.heap.size cs) none ∧ ((W.alloc (.cells z t)).setRow W.heap.size cs).heap[W.heap.size]? = some (.cells cs t (0, 0)) :=
  ⟨⟨rfl, rfl, rfl, by simp, fun k hk _ => (setRow_other _ _ _ _ (by omega)).trans (Below.heap_alloc W _ k hk)⟩, setRow_heap _ _ _ _ _ _ (heap_alloc_new W _)⟩
theorem wpListIn_store_row {P : Program} {F : Fence} {nF : Nat} {w : World} {ops : Array Oper} {rest : List Oper} {o : Oper} {a : Act} {Q : Exit → Act → World → Prop} (hgd : o.guard = none) (ty : TypeId) (x y : Operand) (ho : o.op = .store ty x y)
    (g : Nat) (cells : Array Value) (hx : a.eval x = .pointer (some ⟨g, 0, none⟩)) (hy : a.eval y = .agg cells)
    (t : TypeId) (old : Array Value) (hg : w.heap[g]? = some (.cells old t (0, 0))) (hi : (P.info? ty).map (·.size) = some cells.size)
    (hold : old.size = cells.size) (h1 : cells.all (·.oneCell') = true)
    (h : wpListIn F nF P ops Q rest (a.put o.dst undef) (w.setRow g cells)) : wpListIn F nF P ops Q (o :: rest) a w := by
  refine wpListIn_plain hgd fun K' hK' => ?_
  unfold Oper.wpIn
  refine ⟨by simp [Oper.about, ho], ?_⟩
  rw [Oper.semAt_plain F _ _ (by rw [ho]; intro c hc'; cases hc')]
  simp [execOp, ho, hx, hy, Instr.storeAt, Instr.sureAddr, run_storeVar_row w g t ty old cells hg hi hold h1, Result.andThen]
  exact hK' _ _ h
theorem stpArr_one (x : Stp) : (stpArr x).all (·.oneCell') = true := by simp [stpArr, stpCells, opCells, ndCells, Value.oneCell']

set_option maxHeartbeats 2000000 in
/-- slices.Backward: the slice is boxed. -/
theorem pbwd_in (F : Fence) (n : Nat) (hF : F.fn 39) (hro : F.round = none) (A : Option Addr) (len cap : Nat) (w : World) :
    CallsIn F n Tryd.prog 39 #[.slice A len cap] w fun e w' => e = .returned (.func (.func 52) #[] #[.pointer (some ⟨w.heap.size, 0, none⟩)]) ∧ w' = w.alloc (.cells #[.slice A len cap] 52) := by
  refine callsIn_of_wp Tryd.func39 rfl hF ?_ hro
  simp only [Tryd.ntmps39, List.size_toArray, List.length_cons, List.length_nil, Nat.reduceAdd, Nat.reduceSub, Array.replicate_succ, Array.replicate_zero, List.push_toArray, List.append_toArray, List.nil_append, List.cons_append]
  gi_wp2
  go_ret
  exact ⟨rfl, rfl⟩
set_option maxHeartbeats 2000000 in
/-- .. of nothing: no round. -/
theorem pbwd0_in (F : Fence) (n : Nat) (hF : F.fn 52) (hro : F.round = none) (l Bs : Nat) (A : Option Addr) (c : Nat) (J : List IStp → World → Prop) (W : World) (hBs : W.cell? ⟨Bs, 0, none⟩ = some (.slice A 0 c)) (h0 : J [] W) :
    CallsIn F n Tryd.prog 52 #[.func (.yield l) #[] #[], .pointer (some ⟨Bs, 0, none⟩)] W fun e W' => (∃ v, e = .returned v) ∧ J [] W' := by
  refine callsIn_of_wp Tryd.func52 rfl hF ?_ hro
  simp only [Tryd.ntmps52, List.size_toArray, List.length_cons, List.length_nil, Nat.reduceAdd, Nat.reduceSub, Array.replicate_succ, Array.replicate_zero, List.push_toArray, List.append_toArray, List.nil_append, List.cons_append]
  gi_wp2
  gi_loopw [3] (fun i wr => i = .int .i64 (-1) ∧ J [] wr) (fun _ _ => 0)
  case atStart => exact ⟨by first | rfl | simp, h0⟩
  case round =>
    obtain ⟨rfl, hJs⟩ := hrel
    gi_wp2
    go_end0
    exact ⟨⟨_, rfl⟩, hJs⟩
/-- Whatever the slice of steps: all of them, the last one first. -/
theorem pbwd_stops (F : Fence) (n : Nat) (hF : F.fn 52) (hro : F.round = none) (hn : 1 ≤ n) (Bs n₀ mb : Nat) (sv : Value) (S : List Stp) (hS : ∀ s ∈ S, SpOk s) (hN : S.length ≤ 10000) (w : World) (hBs : Bs < n₀) (hBm : Bs ≠ mb) (hn₀ : n₀ ≤ w.heap.size)
    (hc : w.cell? ⟨Bs, 0, none⟩ = some sv) (hI : Stps w sv S) (hin : InSet (fun q => q < n₀ ∧ q ≠ mb) sv) :
    SeqStopsK F n Tryd.prog 52 #[.pointer (some ⟨Bs, 0, none⟩)] iEnc (Stay n₀ mb) (fun ys => ys = (mkX 0 S hS).reverse) (fun _ => True) S.length w := fun l J Jx W hW _ _ hY h0 => by
  obtain ⟨A, c, rfl, hlc⟩ := hI.len
  have hc' := (hW.cell (p := ⟨Bs, 0, none⟩) (by show Bs < w.heap.size; omega)).trans hc
  have hI' := hI.below hW
  rcases Nat.eq_zero_or_pos S.length with h | h
  · have hS0 : S = [] := List.eq_nil_of_length_eq_zero h
    subst hS0
    exact (pbwd0_in F n hF hro l Bs A c J W hc' h0).mono fun e W' ⟨he, hj⟩ => ⟨he, .inl ⟨_, rfl, hj⟩⟩
  · obtain ⟨A', n', c', he, hl, hcc, hA, hr⟩ := hI'
    cases he
    obtain ⟨bb, o, rfl, hz⟩ := hr h
    have hbb := hin _ _ _ rfl
    refine pbwd1_in F n hF hro hn l Bs n₀ mb bb o c S.length (mkX 0 S hS) (mkX_length _ _ _) hN J Jx hY W hc' hBs hBm hbb.1 hbb.2 (fun j x hx => by have := (mkX_at S 0 hS j x hx).1; omega) (fun j x hx => hz j _ (mkX_at S 0 hS j x hx).2) h0
end Go.Proofs.YtjeijolblcodpaaDoor.W
end
