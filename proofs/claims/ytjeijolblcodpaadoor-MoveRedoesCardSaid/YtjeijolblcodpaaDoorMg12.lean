/- Parts of the proof that all the laws of this package share, in their order. Each says what is in it. -/
import Derived.Test.YtjeijolblcodpaaDoorMg3
import Derived.Test.YtjeijolblcodpaaDoorMg2
import Derived.Test.YtjeijolblcodpaaDoorMg6
import Derived.Test.YtjeijolblcodpaaDoorMg11
import Derived.Test.YtjeijolblcodpaaDoorMg5
import Derived.Test.YtjeijolblcodpaaDoorShelf
import Derived.Shelf.SlSortCmp.WholeK

/- The program's fresh operations and nodes: texts of their own. -/
section
namespace Go.Proofs.YtjeijolblcodpaaDoor.W
set_option maxRecDepth 20000
set_option linter.unusedVariables false
open Go.RowKit Go.Proofs Arb

set_option maxRecDepth 20000 in
set_option maxHeartbeats 4000000 in
theorem pfreshNd8_any (y : Nod) (w : World) (hw : ndWf y) :
    Calls Tryd.prog 31 #[.agg #[.int .i64 y.id.count, .int .i64 y.id.who, .bool y.dir, .int .i64 y.parent.count, .int .i64 y.parent.who, .string (BS y.name), .string (BS y.manifest)]] w fun e w' => e = .returned (.agg #[.int .i64 y.id.count, .int .i64 y.id.who, .bool y.dir, .int .i64 y.parent.count, .int .i64 y.parent.who, .string (BS y.name), .string (BS y.manifest)]) ∧ Below w.heap.size w w' := by
  have hC1 := fun w => clone_any (BS y.name) w (by rw [BS_size]; have := hw.2.2.1; omega)
  have hC2 := fun w => clone_any (BS y.manifest) w (by rw [BS_size]; have := hw.2.2.2; omega)
  obtain ⟨W1, hW1⟩ : ∃ W, ((w.alloc (.cells (ndArr y) 49)).alloc (.cells (ndArr Nod.zero) 49)) = W := ⟨_, rfl⟩
  have hb0 : Below w.heap.size w W1 := by rw [← hW1]; exact ((Below.refl _ _).alloc (Nat.le_refl _) _).alloc (by simp) _
  have hbx : W1.heap[w.heap.size]? = some (.cells (ndArr y) 49 (0, 0)) := by
    rw [← hW1]
    have h1 := heap_alloc_new w (.cells (ndArr y) 49)
    exact (Below.heap_alloc _ _ _ (Array.getElem?_eq_some_iff.1 h1).1).trans h1
  have hrs : W1.heap[w.heap.size + 1]? = some (.cells (ndArr Nod.zero) 49 (0, 0)) := by
    rw [← hW1]
    have := heap_alloc_new (w.alloc (.cells (ndArr y) 49)) (.cells (ndArr Nod.zero) 49)
    simpa using this
  have hsz : w.heap.size < W1.heap.size := (Array.getElem?_eq_some_iff.1 hbx).1
  have hsz1 : w.heap.size + 1 < W1.heap.size := (Array.getElem?_eq_some_iff.1 hrs).1
  unfold ndArr ndCells Nod.zero St.zero at hW1
  have hz : ∀ z : BW W1.heap.size W1, z.w.heap[w.heap.size]? = some (.cells (ndArr y) 49 (0, 0)) := fun z => (z.2.block _ hsz).trans hbx
  have hzr : ∀ z : BW W1.heap.size W1, z.w.heap[w.heap.size + 1]? = some (.cells (ndArr Nod.zero) 49 (0, 0)) := fun z => (z.2.block _ hsz1).trans hrs
  have HZ := Go.Lib.hid hz; have HZR := Go.Lib.hid hzr; have HW1 := Go.Lib.hid hW1; have HB0 := Go.Lib.hid hb0
  have HC1 := Go.Lib.hid hC1; have HC2 := Go.Lib.hid hC2
  clear hz hzr hW1 hb0 hC1 hC2 hbx hrs hsz hsz1
  go_enter Tryd.func31, Tryd.ntmps31
  go_wp2_with fail
  first | rw [show ((w.alloc (.cells #[.int .i64 y.id.count, .int .i64 y.id.who, .bool y.dir, .int .i64 y.parent.count, .int .i64 y.parent.who, .string (BS y.name), .string (BS y.manifest)] 49)).alloc (.cells #[.int .i64 0, .int .i64 0, .bool false, .int .i64 0, .int .i64 0, .string ⟨#[]⟩, .string ⟨#[]⟩] 49)) = W1 from HW1.out] | skip
  have hne := BW.ne W1.heap.size W1
  have q5 : ∀ z : BW W1.heap.size W1, z.w.cell? ⟨w.heap.size, 5, none⟩ = some (.string (BS y.name)) := fun z => by rw [cell_of_row _ _ _ _ _ _ (HZ.out z)]; rfl
  have q6 : ∀ z : BW W1.heap.size W1, z.w.cell? ⟨w.heap.size, 6, none⟩ = some (.string (BS y.manifest)) := fun z => by rw [cell_of_row _ _ _ _ _ _ (HZ.out z)]; rfl
  have f5 : ∀ z : BW W1.heap.size W1, z.w.frozen? ⟨w.heap.size, 5, none⟩ = false := fun z => frozen_of_row _ _ _ _ _ (HZ.out z)
  have f6 : ∀ z : BW W1.heap.size W1, z.w.frozen? ⟨w.heap.size, 6, none⟩ = false := fun z => frozen_of_row _ _ _ _ _ (HZ.out z)
  have r5 : ∀ z : BW W1.heap.size W1, z.w.setCell ⟨w.heap.size, 5, none⟩ (.string (BS y.name)) = z.w := fun z => setCell_same (HZ.out z) rfl
  have r6 : ∀ z : BW W1.heap.size W1, z.w.setCell ⟨w.heap.size, 6, none⟩ (.string (BS y.manifest)) = z.w := fun z => setCell_same (HZ.out z) rfl
  refine wp_region_calm W1.heap.size W1 (Below.refl _ _) (by kernel_rfl) (by kernel_rfl) ?_
  repeat (go_big_quiet_step (first | (go_at_call 42; first | with_reducible exact bw_of (Nat.le_refl _) (HC1.out _) | with_reducible exact bw_of (Nat.le_refl _) (HC2.out _))))
  refine wpQuiet_nil ?_
  intro _ hw'
  obtain ⟨z, rfl⟩ := hw'
  obtain ⟨V, hV⟩ : ∃ V, z.w = V := ⟨_, rfl⟩
  have hzb := HZ.out z
  have hzn := HZR.out z
  have hvb : Below w.heap.size w V := by rw [← hV]; exact bstep HB0.out z.2
  rw [hV] at hzb hzn ⊢
  obtain ⟨c0, c1, c2, c3, c4, c5, c6⟩ := nd_cells0 (NodAt.of_block hzb)
  have HN := Go.Lib.hid hzn; have HVB := Go.Lib.hid hvb
  clear hne q5 q6 f5 f6 r5 r6 hV hzb hzn hvb
  go_wp2_with (refine wpList_store_row rfl 49 (.tmp 2) (.tmp 11) rfl (w.heap.size + 1) (ndArr y) rfl rfl 49 _ (HN.out) (size_nd.trans (by rfl)) (by rfl) (ndArr_one _) ?_)
  exact bodyPost_ret (v := ndVal y) (results_cell_row rfl _ _ (w.heap.size + 1) 49 (ndArr y) (0, 0) _ rfl (setRow_heap _ _ _ _ _ _ HN.out) Tryd.underlying49 rfl (size_nd.trans (by rfl))) rfl ⟨rfl, below_setRow HVB.out (by omega) _⟩

set_option maxRecDepth 20000 in
set_option maxHeartbeats 4000000 in
theorem pfreshOp8_any (y : Opn) (w : World) (hw : opWf y) :
    Calls Tryd.prog 27 #[.agg #[.int .i64 y.stamp.count, .int .i64 y.stamp.who, .int .i64 y.seq, .int .i64 y.kind, .int .i64 y.node.count, .int .i64 y.node.who, .bool y.dir, .int .i64 y.parent.count, .int .i64 y.parent.who, .string (BS y.name), .string (BS y.manifest)]] w fun e w' => e = .returned (.agg #[.int .i64 y.stamp.count, .int .i64 y.stamp.who, .int .i64 y.seq, .int .i64 y.kind, .int .i64 y.node.count, .int .i64 y.node.who, .bool y.dir, .int .i64 y.parent.count, .int .i64 y.parent.who, .string (BS y.name), .string (BS y.manifest)]) ∧ Below w.heap.size w w' := by
  have hC1 := fun w => clone_any (BS y.name) w (by rw [BS_size]; have := hw.2.2.2.2.2.1; omega)
  have hC2 := fun w => clone_any (BS y.manifest) w (by rw [BS_size]; have := hw.2.2.2.2.2.2; omega)
  obtain ⟨W1, hW1⟩ : ∃ W, ((w.alloc (.cells (opArr y) 35)).alloc (.cells (opArr Opn.zero) 35)) = W := ⟨_, rfl⟩
  have hb0 : Below w.heap.size w W1 := by rw [← hW1]; exact ((Below.refl _ _).alloc (Nat.le_refl _) _).alloc (by simp) _
  have hbx : W1.heap[w.heap.size]? = some (.cells (opArr y) 35 (0, 0)) := by
    rw [← hW1]
    have h1 := heap_alloc_new w (.cells (opArr y) 35)
    exact (Below.heap_alloc _ _ _ (Array.getElem?_eq_some_iff.1 h1).1).trans h1
  have hrs : W1.heap[w.heap.size + 1]? = some (.cells (opArr Opn.zero) 35 (0, 0)) := by
    rw [← hW1]
    have := heap_alloc_new (w.alloc (.cells (opArr y) 35)) (.cells (opArr Opn.zero) 35)
    simpa using this
  have hsz : w.heap.size < W1.heap.size := (Array.getElem?_eq_some_iff.1 hbx).1
  have hsz1 : w.heap.size + 1 < W1.heap.size := (Array.getElem?_eq_some_iff.1 hrs).1
  unfold opArr opCells Opn.zero St.zero at hW1
  have hz : ∀ z : BW W1.heap.size W1, z.w.heap[w.heap.size]? = some (.cells (opArr y) 35 (0, 0)) := fun z => (z.2.block _ hsz).trans hbx
  have hzr : ∀ z : BW W1.heap.size W1, z.w.heap[w.heap.size + 1]? = some (.cells (opArr Opn.zero) 35 (0, 0)) := fun z => (z.2.block _ hsz1).trans hrs
  have HZ := Go.Lib.hid hz; have HZR := Go.Lib.hid hzr; have HW1 := Go.Lib.hid hW1; have HB0 := Go.Lib.hid hb0
  have HC1 := Go.Lib.hid hC1; have HC2 := Go.Lib.hid hC2
  clear hz hzr hW1 hb0 hC1 hC2 hbx hrs hsz hsz1
  go_enter Tryd.func27, Tryd.ntmps27
  go_wp2_with fail
  first | rw [show ((w.alloc (.cells #[.int .i64 y.stamp.count, .int .i64 y.stamp.who, .int .i64 y.seq, .int .i64 y.kind, .int .i64 y.node.count, .int .i64 y.node.who, .bool y.dir, .int .i64 y.parent.count, .int .i64 y.parent.who, .string (BS y.name), .string (BS y.manifest)] 35)).alloc (.cells #[.int .i64 0, .int .i64 0, .int .i64 0, .int .i64 0, .int .i64 0, .int .i64 0, .bool false, .int .i64 0, .int .i64 0, .string ⟨#[]⟩, .string ⟨#[]⟩] 35)) = W1 from HW1.out] | skip
  have hne := BW.ne W1.heap.size W1
  have q5 : ∀ z : BW W1.heap.size W1, z.w.cell? ⟨w.heap.size, 9, none⟩ = some (.string (BS y.name)) := fun z => by rw [cell_of_row _ _ _ _ _ _ (HZ.out z)]; rfl
  have q6 : ∀ z : BW W1.heap.size W1, z.w.cell? ⟨w.heap.size, 10, none⟩ = some (.string (BS y.manifest)) := fun z => by rw [cell_of_row _ _ _ _ _ _ (HZ.out z)]; rfl
  have f5 : ∀ z : BW W1.heap.size W1, z.w.frozen? ⟨w.heap.size, 9, none⟩ = false := fun z => frozen_of_row _ _ _ _ _ (HZ.out z)
  have f6 : ∀ z : BW W1.heap.size W1, z.w.frozen? ⟨w.heap.size, 10, none⟩ = false := fun z => frozen_of_row _ _ _ _ _ (HZ.out z)
  have r5 : ∀ z : BW W1.heap.size W1, z.w.setCell ⟨w.heap.size, 9, none⟩ (.string (BS y.name)) = z.w := fun z => setCell_same (HZ.out z) rfl
  have r6 : ∀ z : BW W1.heap.size W1, z.w.setCell ⟨w.heap.size, 10, none⟩ (.string (BS y.manifest)) = z.w := fun z => setCell_same (HZ.out z) rfl
  refine wp_region_calm W1.heap.size W1 (Below.refl _ _) (by kernel_rfl) (by kernel_rfl) ?_
  repeat (go_big_quiet_step (first | (go_at_call 42; first | with_reducible exact bw_of (Nat.le_refl _) (HC1.out _) | with_reducible exact bw_of (Nat.le_refl _) (HC2.out _))))
  refine wpQuiet_nil ?_
  intro _ hw'
  obtain ⟨z, rfl⟩ := hw'
  obtain ⟨V, hV⟩ : ∃ V, z.w = V := ⟨_, rfl⟩
  have hzb := HZ.out z
  have hzn := HZR.out z
  have hvb : Below w.heap.size w V := by rw [← hV]; exact bstep HB0.out z.2
  rw [hV] at hzb hzn ⊢
  obtain ⟨c0, c1, c2, c3, c4, c5, c6, c7, c8, c9, c10⟩ := op_cells0 (OpAt.of_block hzb)
  have HN := Go.Lib.hid hzn; have HVB := Go.Lib.hid hvb
  clear hne q5 q6 f5 f6 r5 r6 hV hzb hzn hvb
  go_wp2_with (refine wpList_store_row rfl 35 (.tmp 2) (.tmp 11) rfl (w.heap.size + 1) (opArr y) rfl rfl 35 _ (HN.out) (size_op.trans (by rfl)) (by rfl) (opArr_one _) ?_)
  exact bodyPost_ret (v := opVal y) (results_cell_row rfl _ _ (w.heap.size + 1) 35 (opArr y) (0, 0) _ rfl (setRow_heap _ _ _ _ _ _ HN.out) Tryd.underlying35 rfl (size_op.trans (by rfl))) rfl ⟨rfl, below_setRow HVB.out (by omega) _⟩

end Go.Proofs.YtjeijolblcodpaaDoor.W
end

/- The program's states: Insert. -/
section
namespace Go.Proofs.YtjeijolblcodpaaDoor.W
set_option maxRecDepth 20000
set_option linter.unusedVariables false
open Go.RowKit Go.Proofs Arb

theorem use_all {Q : Prop} {C P : World → Option Addr → Nat → World → Prop} (h : (∀ a v c b, C a v c b → P a v c b) → Q) (hP : ∀ a v c b, C a v c b → P a v c b) : Q := h hP
theorem any_stps (l : List Opn) (t : St) : ((stpsOf l).any fun y => decide (y.op.stamp = t)) = l.any fun y => decide (y.stamp = t) := by
  have h : ((stpsOf l).map (·.op)).any (fun y => decide (y.stamp = t)) = l.any fun y => decide (y.stamp = t) := by rw [stpsOf_op]
  rw [← h, List.any_map]
  rfl
/-- A state's word on what the search says. -/
theorem ins_place {l : List Opn} {x : Opn} {k : Nat} (hk : k ≤ l.length) (h1 : ∀ (j : Nat) (y : Stp), j < k → (stpsOf l)[j]? = some y → y.op.stamp.less x.stamp = true) (h2 : ∀ (j : Nat) (y : Stp), k ≤ j → (stpsOf l)[j]? = some y → y.op.stamp.less x.stamp = false) (hne : ∀ y ∈ l, y.stamp ≠ x.stamp) :
    insAt l x = l.take k ++ x :: l.drop k ∧ mvBehind l x = l.length - k := by
  refine insOp_at l x k hk (fun j y hj hy => ?_) (fun y hy => ?_)
  · have := h1 j (stpAt (foldOf (l.take j)) y) hj (by rw [stpsOf_at, hy]; rfl)
    exact St.less_asymm this
  · have h3 := h2 k (stpAt (foldOf (l.take k)) y) (Nat.le_refl _) (by rw [stpsOf_at, hy]; rfl)
    rcases St.less_total (hne y (List.mem_of_getElem? hy)) with h4 | h4
    · rw [show y.stamp.less x.stamp = _ from h3] at h4; cases h4
    · exact h4
/-- The state while operations are to be done again. -/
theorem ins_rd {w : World} {mb : Nat} {v : Value} {l : List Opn} {x : Opn} {k : Nat} {L : List Nod} {y : Nod} {t : Bool} (hk : k ≤ l.length) (hr : Row w 0 58 19 v (l.length + 1) (stpsCells ((stpsOf l).take k ++ ⟨x, y, t⟩ :: (stpsOf l).drop k))) (hm : NdMap w mb L) (hp : L.Perm (foldOf (l.take k))) :
    RdIn w w mb v (l.take k ++ x :: l.drop k) k ((stpsOf l).take k ++ ⟨x, y, t⟩ :: (stpsOf l).drop k) L := by
  have hlt : (l.take k).length = k := by rw [List.length_take]; omega
  have e0 : (l.take k ++ x :: l.drop k).take k = l.take k := by rw [List.take_append_of_le_length (by omega), List.take_of_length_le (by omega)]
  refine ⟨?_, ?_, ?_, hm, by rw [e0]; exact hp, Kept.refl _ _⟩
  · have : (l.take k ++ x :: l.drop k).length = l.length + 1 := by simp; omega
    rw [this]
    exact hr
  · rw [List.map_append, List.map_cons, List.map_take, List.map_drop, stpsOf_op]
  · rw [List.take_append_of_le_length (by rw [List.length_take, stpsOf_length]; omega), List.take_of_length_le (by rw [List.length_take]; omega)]
    exact stpsOf_take _ _ k e0.symm

set_option maxHeartbeats 16000000 in
theorem pinsert_st (w : World) (b : Nat) (F : Nat → Prop) (l : List Opn) (n : Int) (x : Opn) (h : PSt w b F l n) (hx : opWf x) (hT : Met w) :
    Calls Tryd.prog 12 #[.pointer (some ⟨b, 0, none⟩), opVal x] w fun e w' => e = .returned (.int .i64 (mvErr l x)) ∧ ∃ F', PSt w' b F' (mvAdd l x) (mvRedo l x n) ∧ Turned w w' F F' := by
  obtain ⟨v, mb, L, hP, hFm, hFv⟩ := h.all
  obtain ⟨A, c, rfl⟩ := row_form hP.row
  have hB : Below w.heap.size w (w.alloc (.cells (opArr x) 35)) := (Below.refl _ _).alloc (Nat.le_refl _) _
  have hop := OpAt.new w x 35
  have hc1 := fun w => pright_any x.stamp w
  simp only [stCells] at hc1
  obtain ⟨sv, hsv⟩ : ∃ s, x.stamp.right = s := ⟨_, rfl⟩
  rw [hsv] at hc1
  obtain ⟨W0, hW0⟩ : ∃ W, w.alloc (.cells (opArr x) 35) = W := ⟨_, rfl⟩
  rw [hW0] at hB hop
  have hs0 : W0.heap.size = w.heap.size + 1 := by rw [← hW0]; simp
  unfold opVal
  unfold opArr opCells at hW0 ⊢
  -- the state where nothing of it has turned
  have hsame : ∀ W', Below w.heap.size w W' → mvErr l x ≠ 0 → ∃ F', PSt W' b F' (mvAdd l x) (mvRedo l x n) ∧ Turned w W' F F' := fun W' hb he => by
    refine ⟨F, ?_, Kept.of_new hb, fun k hk => .inl hk⟩
    unfold mvAdd mvRedo
    rw [if_neg he, if_neg he]
    exact h.new hb
  have HC1 := Go.Lib.hid hc1; have HB := Go.Lib.hid hB; have HOP := Go.Lib.hid hop; have HW0 := Go.Lib.hid hW0; have HS := Go.Lib.hid hsame; have HP := Go.Lib.hid hP; have HST := Go.Lib.hid h; have HX := Go.Lib.hid hx; have HT := Go.Lib.hid hT
  clear hc1 hB hop hW0 hsame hP h hx hT
  obtain ⟨c0, c1, c2, c3, c4, c5, c6, c7, c8, c9, c10⟩ := op_cells0 HOP.out
  by_cases h0 : sv = 0
  · subst h0
    have HSV := Go.Lib.hid hsv
    clear hsv
    have hl400 := HST.out.len
    go_enter Tryd.func12, Tryd.ntmps12
    go_wp2_with fail
    rw [HW0.out]
    go_wp2_with fail
    refine (HC1.out _).mono ?_; rintro e w1 ⟨rfl, hb1⟩
    have hb1' := bstep HB.out hb1
    have hp1 := HP.out.below hb1'
    obtain ⟨s0, m0, n0, fz0, fz2⟩ := hp1.st.cells
    have hop1 := HOP.out.below hb1
    clear c0 c1 c2 c3 c4 c5 c6 c7 c8 c9 c10
    obtain ⟨c0, c1, c2, c3, c4, c5, c6, c7, c8, c9, c10⟩ := op_cells0 hop1
    have hbs := fun W (hW : Below w1.heap.size w1 W) => pbs_any (.slice A l.length c) (stpsOf l) x.stamp W (Stps.of_row (hp1.below hW).row) (by rw [stpsOf_length]; omega) (by rw [stpsOf_op]; exact HST.out.rise)
    rw [stpsOf_length, any_stps] at hbs
    have hl0 : w.heap.size < w1.heap.size := by have := hop1.lt; exact this
    have HB1 := Go.Lib.hid hb1'; have HP1 := Go.Lib.hid hp1; have HOP1 := Go.Lib.hid hop1; have HBS := Go.Lib.hid hbs
    clear hb1 hb1' hp1 hop1 hbs
    obtain ⟨tw, htw⟩ : ∃ tw, (l.any fun y => decide (y.stamp = x.stamp)) = tw := ⟨_, rfl⟩
    have hbs := HBS.out w1.drew (Below.refl _ _).drew
    rw [htw] at hbs
    have HB6 := Go.Lib.hid hbs
    clear hbs HBS
    go_wp2_with fail
    go_region_held3 (fun W => W.cell? ⟨b, 0, none⟩ = some (.slice A l.length c) ∧ W.cell? ⟨w.heap.size, 0, none⟩ = some (.int .i64 x.stamp.count) ∧ W.cell? ⟨w.heap.size, 1, none⟩ = some (.int .i64 x.stamp.who)) (first | exact ⟨s0, c0, c1⟩ | exact ⟨s2, d0, d1⟩) (first
      | (go_at_call 23; refine HB6.out.mono ?_; rintro e w2 ⟨k, hk, hlo, hhi, rfl, hbd⟩; have hb2 : Below w1.heap.size w1 w2 := bstep ((Below.refl _ w1).drew) hbd; clear hbd; have hbw2 := bstep HB1.out hb2; have hp2 := HP.out.below hbw2; have s2 := hp2.st.cells.1; obtain ⟨d0, d1, -⟩ := op_cells0 (HOP1.out.below hb2); have HB2 := Go.Lib.hid hbw2; have HP2 := Go.Lib.hid hp2; have HLO := Go.Lib.hid hlo; have HHI := Go.Lib.hid hhi; have HOP2 := Go.Lib.hid (HOP1.out.below hb2); clear hb2 hbw2 hp2 hlo hhi))
    cases tw
    · by_cases hbig : 400 ≤ l.length
      · have he : mvErr l x = 40 := by
          unfold mvErr
          rw [if_neg (by rw [HSV.out]; simp), if_neg (by show ¬ (l.any _ = true); rw [htw]; simp), if_pos hbig]
        have HE := Go.Lib.hid he
        have hbi : (400 : Int) ≤ (l.length : Int) := by omega
        clear he htw
        go_wp2_with fail
        go_ret
        exact ⟨by rw [HE.out]; rfl, HS.out _ HB2.out (by rw [HE.out]; decide)⟩
      · have he : mvErr l x = 0 := by
          unfold mvErr
          rw [if_neg (by rw [HSV.out]; simp), if_neg (by show ¬ (l.any _ = true); rw [htw]; simp), if_neg hbig]
        obtain ⟨-, hne, -⟩ := mvErr_ok he
        have hbi : ¬ ((400 : Int) ≤ (l.length : Int)) := by omega
        have hwl := HST.out.wf
        have hun := pundo_any b _ mb n L l k w2 HP2.out.st HP2.out.row (fun a n' c' he => by
            have h1 := HP2.out.row.lt a.block (by rw [he]; rfl)
            exact ⟨h1.2, fun e => Row.neMap HP2.out.row HP2.out.map (by rw [he, ← e]; rfl)⟩) HP2.out.map HP2.out.perm hk (by omega) (stpsOf_ok l hwl fun i y hy => foldOf_wf (fun z hz => hwl z (List.mem_of_mem_take hz)) y hy)
        have HUN := Go.Lib.hid hun; have HE := Go.Lib.hid he; have HNE := Go.Lib.hid hne
        clear hun he hne htw hwl
        go_wp2_with fail
        refine HUN.out.mono ?_; rintro e w3 ⟨rfl, L3, hM3, hp3, hk3⟩
        have hmb : mb < w.heap.size := HST.out.lt mb hFm
        have hst3 := HP2.out.st.kept hk3 (HP2.out.st.ne HP2.out.map)
        have hrow3 := Row.same_block HP2.out.row fun q hq => hk3.block q (HP2.out.row.lt q hq).2 (fun e => Row.neMap HP2.out.row HP2.out.map (by rw [hq, e]))
        have hx3 : OpAt w3 w.heap.size 0 x := fun j u hu => hk3.cell (HOP2.out j u hu) (by show ¬ w.heap.size = mb; omega)
        obtain ⟨s3, -, -, fz3, -⟩ := hst3.cells
        clear c0 c1 c2 c3 c4 c5 c6 c7 c8 c9 c10 s0 s2 d0 d1 m0 n0 fz0 fz2
        obtain ⟨c0, c1, c2, c3, c4, c5, c6, c7, c8, c9, c10⟩ := op_cells0 hx3
        have hfo := fun W => pfreshOp8_any x W HX.out
        have hins : ∀ w4, Below w3.heap.size w3 w4 → Calls Tryd.prog 26 #[.slice A l.length c, .int .i64 (k : Int), .slice (some ⟨w4.heap.size, 0, none⟩) 1 1] (w4.alloc (.cells #[.int .i64 x.stamp.count, .int .i64 x.stamp.who, .int .i64 x.seq, .int .i64 x.kind, .int .i64 x.node.count, .int .i64 x.node.who, .bool x.dir, .int .i64 x.parent.count, .int .i64 x.parent.who, .string (BS x.name), .string (BS x.manifest), .int .i64 0, .int .i64 0, .bool false, .int .i64 0, .int .i64 0, .string ⟨#[]⟩, .string ⟨#[]⟩, .bool false] 58)) fun e w' => ∃ v', e = .returned v' ∧ Row w' 0 58 19 v' (l.length + 1) (stpsCells ((stpsOf l).take k ++ ⟨x, Nod.zero, false⟩ :: (stpsOf l).drop k)) ∧ Kept (fun q => (Value.slice A l.length c).ownBlock = some q) w3 w' ∧ (∀ q, v'.ownBlock = some q → (Value.slice A l.length c).ownBlock = some q ∨ w3.heap.size ≤ q) := fun w4 h4 => by
          have hrw := (hrow3.below h4).alloc (.cells (stpArr ⟨x, Nod.zero, false⟩) 58)
          rw [← stpsOf_length l] at hrw
          have := psinsert_any 0 _ (stpsOf l) k ⟨x, Nod.zero, false⟩ w4.heap.size _ hrw (by rw [stpsOf_length]; omega) (by rw [stpsOf_length]; exact hk) (SpB.new w4 _) (fun e => by have h1 := (hrow3.lt _ (by rw [stpsOf_length] at e; exact e)).2; have := h4.size; omega) (Nat.zero_le _)
          rw [stpsOf_length] at this
          refine Calls.mono (show Calls Tryd.prog _ _ (w4.alloc (.cells #[.int .i64 x.stamp.count, .int .i64 x.stamp.who, .int .i64 x.seq, .int .i64 x.kind, .int .i64 x.node.count, .int .i64 x.node.who, .bool x.dir, .int .i64 x.parent.count, .int .i64 x.parent.who, .string (BS x.name), .string (BS x.manifest), .int .i64 0, .int .i64 0, .bool false, .int .i64 0, .int .i64 0, .string ⟨#[]⟩, .string ⟨#[]⟩, .bool false] 58)) _ from this) ?_
          rintro e w' ⟨v', he, hr, hkk, hg⟩
          refine ⟨v', he, hr, ((Kept.of_new h4).alloc _).trans hkk fun _ _ h => h, fun q hq => ?_⟩
          rcases hg q hq with h1 | h1
          · exact .inl h1
          · exact .inr (by have := h4.size; simp at h1; omega)
        have hlx : w.heap.size < w3.heap.size := hx3.lt
        have hbl3 : b < w3.heap.size := hst3.lt
        have HPA := Go.Lib.hid HP2.out.apart; have HFO := Go.Lib.hid hfo; have HINS := Go.Lib.hid hins; have HST3 := Go.Lib.hid hst3; have HROW3 := Go.Lib.hid hrow3; have HM3 := Go.Lib.hid hM3; have HP3 := Go.Lib.hid hp3; have HK3 := Go.Lib.hid hk3; have HLX := Go.Lib.hid hlx; have HBL3 := Go.Lib.hid hbl3
        clear hfo hins hst3 hrow3 hM3 hp3 hk3 hx3 hlx hbl3
        go_wp2_with fail
        apply use_all (C := fun w4 A5 c5 w5 => Below w3.heap.size w3 w4 ∧ Row w5 0 58 19 (.slice A5 (l.length + 1) c5) (l.length + 1) (stpsCells ((stpsOf l).take k ++ ⟨x, Nod.zero, false⟩ :: (stpsOf l).drop k)) ∧ Kept (fun q => (Value.slice A l.length c).ownBlock = some q) w3 w5 ∧ (∀ q, (Value.slice A5 (l.length + 1) c5).ownBlock = some q → (Value.slice A l.length c).ownBlock = some q ∨ w3.heap.size ≤ q))
        · intro hP
          go_region_with (first
            | (go_at_call 27; with_reducible refine (HFO.out _).mono ?_; rintro e w4 ⟨rfl, hb4⟩; have h4 : Below w3.heap.size w3 w4 := bstep ((Below.refl _ w3).drew) hb4; have s4 := (HST3.out.below h4).cells.1; have e4 := cell_more (o := .cells #[.int .i64 x.stamp.count, .int .i64 x.stamp.who, .int .i64 x.seq, .int .i64 x.kind, .int .i64 x.node.count, .int .i64 x.node.who, .bool x.dir, .int .i64 x.parent.count, .int .i64 x.parent.who, .string (BS x.name), .string (BS x.manifest), .int .i64 0, .int .i64 0, .bool false, .int .i64 0, .int .i64 0, .string ⟨#[]⟩, .string ⟨#[]⟩, .bool false] 58) s4; have HB4 := Go.Lib.hid h4; clear hb4 h4)
            | (go_at_call 26; with_reducible refine (HINS.out w4 HB4.out).mono ?_; rintro e w5 ⟨v', rfl, hr5, hk5, hg5⟩; obtain ⟨A5, c5, rfl⟩ := row_form hr5; have hs5 := HST3.out.kept hk5 HPA.out; have s5 := hs5.cells.1; have fz5 := hs5.cells.2.2.2.1; have HC5 := Go.Lib.hid (And.intro HB4.out (And.intro hr5 (And.intro hk5 hg5))); clear hr5 hk5 hg5 hs5))
          all_goals exact hP _ _ _ _ HC5.out
        · intro w4 A5 c5 w5 hC5
          obtain ⟨hB4, hr5, hk5, hg5⟩ := hC5
          have hst5 := HST3.out.kept hk5 HPA.out
          have hbv : (Value.slice A5 (l.length + 1) c5).ownBlock ≠ some b := fun e => by
            rcases hg5 b e with h1 | h1
            · exact HPA.out h1
            · have := HBL3.out; omega
          have hbmb : b ≠ mb := HST3.out.ne HM3.out
          have hst6 := hst5.putL (.slice A5 (l.length + 1) c5)
          have hr6 := Row.same_block (w' := w5.setCell ⟨b, 0, none⟩ (.slice A5 (l.length + 1) c5)) hr5 fun q hq => heap_setCell_other _ _ _ _ (fun e => hbv (by rw [hq]; exact congrArg some e))
          have hm6 : NdMap (w5.setCell ⟨b, 0, none⟩ (.slice A5 (l.length + 1) c5)) mb L3 := (HM3.out.kept hk5 (Row.neMap HROW3.out HM3.out)).at (heap_setCell_other _ _ _ _ (fun e => hbmb e.symm))
          have hKF : Kept F w (w5.setCell ⟨b, 0, none⟩ (.slice A5 (l.length + 1) c5)) :=
            (((Kept.of_new (F := F) HB2.out).trans HK3.out (fun q _ e => by rw [e]; exact hFm)).trans hk5 (fun q _ e => hFv q e)).setCell HST.out.own _
          have hT6 := HT.out.kept hKF HST.out.gt HST.out.gr
          obtain ⟨hia, hbh⟩ := ins_place hk HLO.out HHI.out HNE.out
          have hrd := ins_rd hk hr6 hm6 HP3.out
          rw [← hia] at hrd
          have hil := insAt_length l x
          have hwi : ∀ y ∈ insAt l x, opWf y := fun y hy => by
            rcases (ins_mem l x y).1 hy with rfl | hy
            · exact HX.out
            · exact HST.out.wf y hy
          have hw3 : w.heap.size ≤ w3.heap.size := Nat.le_trans HB2.out.size HK3.out.size
          have hre := predo_any b _ mb n L3 (insAt l x) _ k _ hst6 hrd (by omega) (by omega) hwi hT6 hbv (fun q hq => by
            rcases hg5 q hq with h1 | h1
            · exact ⟨fun e => HST.out.gt (e ▸ hFv q h1), fun e => HST.out.gr (e ▸ hFv q h1)⟩
            · have := HT.out.size; exact ⟨by omega, by omega⟩)
          have hgf : ∀ q, (Value.slice A5 (l.length + 1) c5).ownBlock = some q → F q ∨ w.heap.size ≤ q := fun q hq => by
            rcases hg5 q hq with h1 | h1
            · exact .inl (hFv q h1)
            · exact .inr (by omega)
          have HRE := Go.Lib.hid hre; have HST6 := Go.Lib.hid hst6; have HKF := Go.Lib.hid hKF; have HIA := Go.Lib.hid hia; have HBH := Go.Lib.hid hbh; have HBV := Go.Lib.hid hbv; have HGF := Go.Lib.hid hgf; have HWI := Go.Lib.hid hwi; have HIL := Go.Lib.hid hil
          clear hre hst5 hst6 hr5 hk5 hg5 hB4 hr6 hm6 hKF hT6 hia hbh hrd hbv hgf hwi hil s3 fz3 c0 c1 c2 c3 c4 c6 c7 c8 c9 c10
          go_wp2_with fail
          refine HRE.out.mono ?_; rintro e w7 ⟨rfl, L7, hr7, hm7, hp7, hk7⟩
          have hst7 := HST6.out.kept hk7 (fun h => by rcases h with h | h; exact hbmb h; exact HBV.out h)
          obtain ⟨s7, m7, n7, fz7, fz72⟩ := hst7.cells
          have HST7 := Go.Lib.hid hst7; have HR7 := Go.Lib.hid hr7; have HM7 := Go.Lib.hid hm7; have HP7 := Go.Lib.hid hp7; have HK7 := Go.Lib.hid hk7
          clear hst7 hr7 hm7 hp7 hk7
          go_wp2_with fail
          go_ret
          have hw7 : w.heap.size ≤ w7.heap.size := Nat.le_trans HKF.out.size HK7.out.size
          refine ⟨by rw [HE.out]; rfl, fun q => F q ∨ (Value.slice A5 (l.length + 1) c5).ownBlock = some q, ?_, ?_, ?_⟩
          · have e1 : mvAdd l x = insAt l x := if_pos HE.out
            have e2 : mvRedo l x n = (l.length : Int) + 1 - (k : Int) - 1 := by
              unfold mvRedo
              rw [if_pos HE.out, HBH.out]
              omega
            rw [e1, e2]
            have hbw : ∀ q, q ≠ b → (w7.setCell ⟨b, 2, none⟩ (.int .i64 ((l.length : Int) + 1 - (k : Int) - 1))).heap[q]? = w7.heap[q]? := fun q hq => heap_setCell_other _ _ _ _ hq
            refine ⟨.inl HST.out.own, fun q hq => ?_, ins_rise l x HST.out.rise HNE.out, HWI.out, by rw [HIL.out]; omega, fun h => ?_, fun h => ?_, _, mb, L7, ⟨HST7.out.putN _, Row.same_block HR7.out fun q hq => hbw q (fun e => HBV.out (by rw [hq, e])), HM7.out.at (hbw mb (fun e => hbmb e.symm)), HP7.out, HBV.out⟩, .inl hFm, fun q hq => .inr hq⟩
            · rcases hq with h1 | h1
              · have := HST.out.lt q h1; simp; omega
              · have := (HR7.out.lt q h1).2; simpa using this
            · rcases h with h1 | h1
              · exact HST.out.gt h1
              · rcases HGF.out _ h1 with h2 | h2
                · exact HST.out.gt h2
                · have := HT.out.size.1; omega
            · rcases h with h1 | h1
              · exact HST.out.gr h1
              · rcases HGF.out _ h1 with h2 | h2
                · exact HST.out.gr h2
                · have := HT.out.size.2; omega
          · refine (HKF.out.trans HK7.out fun q hq h => ?_).setCell HST.out.own _
            rcases h with h1 | h1
            · rw [h1]; exact hFm
            · rcases HGF.out q h1 with h2 | h2
              · exact h2
              · omega
          · intro q hq
            rcases hq with h1 | h1
            · exact .inl h1
            · exact HGF.out q h1
    · have he : mvErr l x = 24 := by
        unfold mvErr
        rw [if_neg (by rw [HSV.out]; simp), if_pos (show mvTwice l x = true from htw)]
      have HE := Go.Lib.hid he
      clear he htw
      go_wp2_with fail
      go_ret
      exact ⟨by rw [HE.out]; rfl, HS.out _ HB2.out (by rw [HE.out]; decide)⟩
  · have he : mvErr l x = 20 := by
      unfold mvErr
      rw [if_pos (by rw [hsv]; exact h0)]
    have HE := Go.Lib.hid he
    have hbs : (sv != 0) = true := by simpa using h0
    clear he hsv
    go_enter Tryd.func12, Tryd.ntmps12
    go_wp2_with fail
    rw [HW0.out]
    go_wp2_with fail
    refine (HC1.out _).mono ?_; rintro e w1 ⟨rfl, hb1⟩
    have HB1 := Go.Lib.hid (bstep HB.out hb1); clear hb1
    go_wp2_with fail
    go_ret
    exact ⟨by rw [HE.out]; rfl, HS.out _ HB1.out (by rw [HE.out]; decide)⟩
end Go.Proofs.YtjeijolblcodpaaDoor.W
end

/- The program's states: Ops. -/
section
namespace Go.Proofs.YtjeijolblcodpaaDoor.W
set_option maxRecDepth 20000
set_option linter.unusedVariables false
open Go.RowKit Go.Proofs Arb

theorem wpList_load_at {P : Program} {ops : Array Oper} {rest : List Oper} {o : Oper} {a : Act} {w : World} {Q : Exit → Act → World → Prop} (hg : o.guard = none) (ty : TypeId) (x : Operand) (ho : o.op = .load ty x) (p : Addr) (hx : a.eval x = .pointer (some p)) (v : Value)
    (hl : (loadVar ty p).run P w = .ok v w) (h : wpList P ops Q rest (a.put o.dst v) w) : wpList P ops Q (o :: rest) a w := by
  refine wpList_plain hg fun K' hK' => ?_
  unfold Oper.wp
  simp [execOp, ho, hx, Instr.loadAt, Instr.sureAddr, hl, Result.andThen]
  exact hK' _ _ h
theorem stpsOf_get {l : List Opn} {k : Nat} {x : Stp} (h : (stpsOf l)[k]? = some x) : l[k]? = some x.op := by
  rw [stpsOf_at] at h
  obtain ⟨y, hy, rfl⟩ := Option.map_eq_some_iff.1 h
  exact hy
theorem take_one {α : Type} {l : List α} {k : Nat} {x : α} (h : l[k]? = some x) : l.take k ++ [x] = l.take (k + 1) := by
  rw [List.take_add_one, h]; rfl

set_option maxHeartbeats 8000000 in
theorem pops_st (w : World) (b : Nat) (F : Nat → Prop) (l : List Opn) (n : Int) (h : PSt w b F l n) (hT : Met w) :
    Calls Tryd.prog 15 #[.pointer (some ⟨b, 0, none⟩)] w fun e w' => ∃ v F', e = .returned v ∧ Opns w' v l ∧ InSet (fun k => w.heap.size ≤ k ∧ ¬ F' k) v ∧ PSt w' b F' l n ∧ Turned w w' F F' := by
  have hwf := h.wf
  have hlen := h.len
  have hend : ∀ W v, Below w.heap.size w W → Row W w.heap.size 35 11 v l.length (opsCells l) → ∃ u F', Ending.returned v = Ending.returned u ∧ Opns W u l ∧ InSet (fun k => w.heap.size ≤ k ∧ ¬ F' k) u ∧ PSt W b F' l n ∧ Turned w W F F' := fun W v hb hr =>
    ⟨v, F, rfl, Opns.of_row hr, hr.inSet.mono fun k hk => ⟨hk.1, fun hF => by have := h.lt k hF; omega⟩, h.new hb, Kept.of_new hb, fun k hk => .inl hk⟩
  obtain ⟨v, mb, L, hP, -, -⟩ := h.all
  obtain ⟨A, c, rfl⟩ := row_form hP.row
  obtain ⟨s0, m0, n0, fz0, fz2⟩ := hP.st.cells
  obtain ⟨i0, hi, hz0, hz1, hz2⟩ := info_parts info_op
  obtain ⟨z0, hzz⟩ : ∃ z : Value, z = .agg #[.int .i64 0, .int .i64 0, .int .i64 0, .int .i64 0, .int .i64 0, .int .i64 0, .bool false, .int .i64 0, .int .i64 0, .string ⟨#[]⟩, .string ⟨#[]⟩] := ⟨_, rfl⟩
  rw [← hzz] at hz0
  have hfo := fun x (hx : opWf x) W => pfreshOp8_any x W hx
  have htl : l.take l.length = l := List.take_of_length_le (Nat.le_refl _)
  obtain ⟨m, hm⟩ : ∃ m, l.length = m := ⟨_, rfl⟩
  rw [hm] at htl hend hlen s0 hP
  have HP := Go.Lib.hid hP; have HE := Go.Lib.hid hend; have HWF := Go.Lib.hid hwf; have HFO := Go.Lib.hid hfo; have HTL := Go.Lib.hid htl; have HZZ := Go.Lib.hid hzz; have HM := Go.Lib.hid hm
  clear hP hend hwf hfo htl hzz h hT hm
  go_enter Tryd.func15, Tryd.ntmps15
  go_wp2_with (refine wpList_make_own _ rfl (.const (.int .i64 0)) (.tmp 12) 22 rfl w.heap.size 35 i0 z0 11 Tryd.underlying22 hi hz0 hz1 .i64 .i64 _ m rfl rfl rfl (by rw [hz2]; omega) (by unfold maxLen; omega) (Nat.le_refl _) ?_; intro w1 hr1 hg1; have hb1 : Below w.heap.size w w1 := (Below.refl _ _).grown hg1 (Nat.le_refl _) (fun _ e => by cases e); have hp1 := HP.out.below hb1; obtain ⟨s1, m1, n1, fz1, fz3⟩ := hp1.st.cells; have HR1 := Go.Lib.hid (Row.of hr1); have HB1 := Go.Lib.hid hb1; clear hr1 hg1 hb1 hp1)
  go_loopw [3, 5, 19, 20, 21, 22, 23, 24, 25, 26, 27, 28, 29] (fun vo _ i _ _ _ _ _ _ _ _ _ _ wr => ∃ k : Nat, k ≤ m ∧ i = .int .i64 (k : Int) ∧ Row wr w.heap.size 35 11 vo k (opsCells (l.take k)) ∧ Below w.heap.size w wr) (fun _ _ i _ _ _ _ _ _ _ _ _ _ _ => m - (intOf i).toNat)
  case atStart => exact ⟨0, by omega, rfl, HR1.out, HB1.out⟩
  case round =>
    obtain ⟨k, hk, rfl, hrow, hb⟩ := hrel
    by_cases hkm : k < m
    · have hkm' : (k : Int) < (m : Int) := by omega
      obtain ⟨g1, o1, x, rfl, hx, hsx⟩ := (Stps.of_row (HP.out.below hb).row).at k hkm
      have hld := hsx.load
      have hxo := stpsOf_get hx
      have hfx := fun W => HFO.out x.op (HWF.out x.op (List.mem_of_getElem? hxo)) W
      obtain ⟨sv, hsv⟩ : ∃ sv, stpVal x = sv := ⟨_, rfl⟩
      rw [hsv] at hld
      have HLD := Go.Lib.hid hld; have HROW := Go.Lib.hid hrow; have HB := Go.Lib.hid hb; have HXO := Go.Lib.hid hxo; have HFX := Go.Lib.hid hfx; have HSV := Go.Lib.hid hsv
      clear hld hrow hb hxo hfx hsv hsx hx
      go_wp2_with (first | (refine wpList_load_at rfl 58 _ rfl _ rfl sv HLD.out ?_) | (refine wpList_store_row rfl 58 (.tmp 5) (.tmp 22) rfl wr.heap.size (stpArr x) rfl HSV.out.symm 58 _ (heap_alloc_new wr _) (size_stp.trans (by rfl)) (by rfl) (stpArr_one _) ?_; obtain ⟨hg2, hn2⟩ := new_row wr _ (stpArr x) 58; generalize (wr.alloc _).setRow wr.heap.size (stpArr x) = W2 at hg2 hn2 ⊢; have hb2 : Below w.heap.size w W2 := HB.out.grown hg2 HB.out.size (fun _ e => by cases e); have hr2 : Row W2 w.heap.size 35 11 u3 k (opsCells (l.take k)) := HROW.out.still hg2; have hsp : SpB W2 wr.heap.size x := hn2; obtain ⟨c0, c1, c2, c3, c4, c5, c6, c7, c8, c9, c10⟩ := op_cells0 hsp.at.op; have HB2 := Go.Lib.hid hb2; have HR2 := Go.Lib.hid hr2; clear hg2 hn2 hb2 hr2 hsp))
      refine (HFX.out _).mono ?_; rintro e w4 ⟨rfl, hb4⟩
      have hr4 := HR2.out.below hb4
      have hb4' := bstep HB2.out hb4
      have HR4 := Go.Lib.hid hr4; have HB4 := Go.Lib.hid hb4'
      clear hb4 hb4' hr4 c0 c1 c2 c3 c4 c5 c6 c7 c8 c9 c10
      go_wp2_with (at_builtin; refine wpList_append_op rfl (.tmp 23) (.tmp 27) rfl w.heap.size u3 k (l.take k) rfl HR4.out x.op _ rfl rfl (by omega) HB4.out.size ?_; intro v5 w5 hr5 hb5; rw [take_one HXO.out] at hr5; have HR5 := Go.Lib.hid hr5; have HB5 := Go.Lib.hid (HB4.out.trans hb5); clear hr5 hb5)
      exact ⟨⟨k + 1, by omega, by simp, HR5.out, HB5.out⟩, by simp [intOf]; omega⟩
    · obtain rfl : k = m := by omega
      rw [HTL.out] at hrow
      have hfin := HE.out wr u3 hb hrow
      have HF := Go.Lib.hid hfin
      clear hrow hb hfin
      go_wp2_with fail
      go_ret
      exact HF.out
end Go.Proofs.YtjeijolblcodpaaDoor.W
end

/- The program's states: the nodes of a map, collected and sorted by their stamps. -/
section
namespace Go.Proofs.YtjeijolblcodpaaDoor.W
set_option maxRecDepth 20000
set_option linter.unusedVariables false
open Go.RowKit Go.Proofs Arb Go.Sort Go.Maps Go.WideMaps Go.Lib

/-- Of a map's nodes, C have come; those that 'left' says are still to come. -/
structure Got (L C : List Nod) (left : Lit → Bool) : Prop where
  sub : ∀ kl, left kl = true → Maps.has (DataW.map (L.map ent)) kl = true
  perm : (C ++ L.filter fun z => left (.string (kst z.id))).Perm L
theorem has_in {L : List Nod} {kl : Lit} (h : Maps.has (DataW.map (L.map ent)) kl = true) : ∃ z ∈ L, kl = .string (kst z.id) := by
  rw [Maps.has_eq, List.any_eq_true] at h
  obtain ⟨p, hp, he⟩ := h
  obtain ⟨z, hz, rfl⟩ := List.mem_map.1 hp
  refine ⟨z, hz, ?_⟩
  by_cases hk : (ent z).1 = kl
  · exact hk.symm
  · rw [sameKey_ne hk] at he; cases he
theorem Got.start {L : List Nod} (hw : ∀ x ∈ L, ndWf x) : Got L [] (Maps.has (DataW.map (L.map ent))) := by
  refine ⟨fun _ h => h, ?_⟩
  rw [List.nil_append, List.filter_eq_self.2]
  intro z hz
  rw [has_ent z.id (hw z hz).1 L hw]
  cases hf : findOf L z.id with
  | none => exact absurd rfl (findOf_none.1 hf z hz)
  | some _ => rfl
theorem wipe_cons {L : List Nod} (hu : Uni L) {c : Nod} (hc : c ∈ L) : L.Perm (c :: wipe L c.id) := by
  obtain ⟨l1, l2, rfl⟩ := List.append_of_mem hc
  rw [wipe_parts hu]
  exact List.perm_middle
theorem Got.step {L C : List Nod} {left : Lit → Bool} (h : Got L C left) (hu : Uni L) (hw : ∀ x ∈ L, ndWf x) {kl : Lit} (hl : left kl = true) {c : Nod} {y : DataW Unit × List MemPlace} (hR : rNod (ndVal c) = some y) (hat : ∀ zd, (DataW.map (L.map ent)).atKey kl zd = y.1) :
    c ∈ L ∧ Got L (C ++ [c]) (fun z => left z && !z.sameKey kl) := by
  obtain ⟨z, hz, rfl⟩ := has_in (h.sub _ hl)
  rw [rNod_mk] at hR
  cases hR
  have h1 := hat (dNod Nod.zero)
  rw [at_ent z.id (hw z hz).1 L hw, hu.find hz] at h1
  have h2 : z = c := dNod_inj h1
  subst h2
  refine ⟨hz, fun kl hk => h.sub kl (by rw [Bool.and_eq_true] at hk; exact hk.1), ?_⟩
  have h3 : (L.filter fun q => left (.string (kst q.id)) && !(Lit.string (kst q.id)).sameKey (.string (kst z.id))) = wipe (L.filter fun q => left (.string (kst q.id))) z.id := by
    unfold wipe
    rw [List.filter_filter]
    refine List.filter_congr fun q hq => ?_
    have := key_ent q z.id (hw q hq).1 (hw z hz).1
    unfold ent at this
    rw [this, Bool.and_comm]
  rw [h3]
  have h4 : Uni (L.filter fun q => left (.string (kst q.id))) := List.Pairwise.filter _ hu
  have h5 := wipe_cons h4 (c := z) (List.mem_filter.2 ⟨hz, hl⟩)
  refine List.Perm.trans ?_ h.perm
  rw [List.append_assoc]
  exact List.Perm.append_left C h5.symm
theorem Got.done {L C : List Nod} {left : Lit → Bool} (h : Got L C left) (h0 : ∀ kl, left kl = false) : C.Perm L := by
  have := h.perm
  rw [List.filter_eq_nil_iff.2 (by intro q _; rw [h0]; simp), List.append_nil] at this
  exact this

instance : Inhabited Nod := ⟨Nod.zero⟩
theorem swo_nd : SWO (ltOf fun x y : Nod => ordI x.id y.id) := by
  have e : ∀ x y : Nod, ltOf (fun x y : Nod => ordI x.id y.id) x y = x.id.less y.id := fun x y => ordI_neg x.id y.id
  refine ⟨fun x => by rw [e]; exact St.less_irrefl _, fun x y z h1 h2 => by rw [e] at *; exact St.less_trans h1 h2, fun x y z h1 h2 => ?_⟩
  rw [e] at *
  cases h3 : x.id.less z.id with
  | false => rfl
  | true =>
    by_cases hxy : x.id = y.id
    · rw [← hxy, h3] at h2; cases h2
    · rcases St.less_total hxy with h4 | h4
      · rw [h4] at h1; cases h1
      · rw [St.less_trans h4 h3] at h2; cases h2
theorem flat_nds (d : Array Nod) (j : Nat) (x : Nod) (hx : d.toList[j]? = some x) (i : Nat) (u : Value) (hu : (ndCells x)[i]? = some u) : (flatK ndCells 7 d)[j * 7 + i]! = u := by
  have hj : j < d.size := by have := (List.getElem?_eq_some_iff.1 hx).1; simpa using this
  have hi : i < 7 := (List.getElem?_eq_some_iff.1 hu).1
  have hjx : d[j]! = x := by
    rw [getElem!_pos d j hj]
    have := (List.getElem?_eq_some_iff.1 hx).2
    simpa using this
  rw [get_flatK _ _ _ _ (by omega), show (j * 7 + i) / 7 = j by omega, show (j * 7 + i) % 7 = i by omega, hjx]
  obtain ⟨h1, h2⟩ := List.getElem?_eq_some_iff.1 hu
  rw [getElem!_pos (ndCells x) i h1]
  exact h2
theorem ndsCells_split (l : List Nod) (t : Nat) (ht : t < l.length * 7) : ∃ x u, l[t / 7]? = some x ∧ (ndCells x)[t % 7]? = some u := by
  obtain ⟨x, hx⟩ : ∃ x, l[t / 7]? = some x := ⟨_, List.getElem?_eq_getElem (by omega)⟩
  exact ⟨x, _, hx, List.getElem?_eq_getElem (show t % 7 < 7 by omega)⟩
theorem holds_nds {w : World} {base g cap : Nat} {C : List Nod} (h : Row w base 49 7 (.slice (some ⟨g, 0, none⟩) C.length cap) C.length (ndsCells C)) : HoldsK ndCells 7 w g 0 C.toArray := by
  intro t ht
  rw [size_flatK] at ht
  have ht' : t < C.length * 7 := by simpa using ht
  obtain ⟨g', cap', he, -, -, -, hc, hf⟩ := h.open (by omega)
  cases he
  obtain ⟨x, u, hx, hu⟩ := ndsCells_split C t ht'
  have h1 := ndsCells_at C (t / 7) x hx (t % 7) u hu
  rw [show t / 7 * 7 + t % 7 = t by omega] at h1
  have h2 := flat_nds C.toArray (t / 7) x (by simpa using hx) (t % 7) u hu
  rw [show t / 7 * 7 + t % 7 = t by omega] at h2
  rw [Nat.zero_add, h2]
  exact ⟨hc t u h1, hf t ht'⟩
theorem rises_sorted {d : Array Nod} (hs : SortedIn (ltOf fun x y : Nod => ordI x.id y.id) 0 d.size d) (hu : Uni d.toList) : Rises d.toList := by
  unfold Rises
  unfold Uni at hu
  rw [List.pairwise_iff_getElem] at hu ⊢
  intro i j hi hj hij
  have h1 := hs i j (Nat.zero_le _) hij (by simpa using hj)
  have e : ltOf (fun x y : Nod => ordI x.id y.id) d[j]! d[i]! = d[j]!.id.less d[i]!.id := ordI_neg _ _
  rw [e, getElem!_pos d j (by simpa using hj), getElem!_pos d i (by simpa using hi)] at h1
  have h2 := hu i j hi hj hij
  simp only [Array.getElem_toList] at h2 ⊢
  rcases St.less_total h2 with h3 | h3
  · exact h3
  · rw [h3] at h1; cases h1
theorem below_sorted {w : World} {base g n : Nat} (d : Array Nod) (os : Array Obj) (hg : base ≤ g) (hb : base ≤ w.heap.size) : Below base w (sortWorldK ndCells 7 w g 0 n d os) := by
  refine ⟨rfl, rfl, rfl, by unfold sortWorldK; rw [size_grow, size_putRowK]; show w.heap.size ≤ w.heap.size + _; omega, fun k hk => ?_⟩
  unfold sortWorldK
  have hkw : k < w.heap.size := by omega
  rw [heap_grow_old _ _ (by rw [size_putRowK]; exact hkw)]
  have : g ≠ k := by omega
  simp [putRowK, putRow, mapBlock, Sort.ahead, Array.getElem?_modify, this]

set_option maxHeartbeats 2000000 in
/-- slices.SortFunc of nodes, by their stamps. -/
theorem psort_nds (base g cap : Nat) (C : List Nod) (w : World) (h : Row w base 49 7 (.slice (some ⟨g, 0, none⟩) C.length cap) C.length (ndsCells C)) (hu : Uni C) (hn : C.length ≤ 1000000) (hb : base ≤ w.heap.size) :
    Calls Tryd.prog 32 #[.slice (some ⟨g, 0, none⟩) C.length cap, .func (.func 33) #[] #[]] w fun e w' => e = .returned (.tuple #[]) ∧ ∃ S : List Nod, S.Perm C ∧ Rises S ∧ Nods w' (.slice (some ⟨g, 0, none⟩) C.length cap) S ∧ Below base w w' := by
  have hH := holds_nds h
  have hg := h.lt g rfl
  have hcap : C.length ≤ cap := by
    rcases h.2 with ⟨h1, -⟩ | ⟨_, _, _, _, h1, _, _, _, h2, _⟩
    · cases h1
    · cases h1; exact h2
  have eg : ∀ args w, (callFunc 33 args).run Tryd.prog w = .ok (.enter 33 args) w := enters_of Tryd.func33 (by kernel_rfl) rfl
  have hcmp : CmpLays Tryd.prog 33 #[] ndCells 7 (fun x y => ordI x.id y.id) g 0 C.toArray.size w := fun m os dk hs x y => (pcmp_gr x y _).mono fun e w' ⟨he, os', hw⟩ => ⟨he, 0, os', hw⟩
  have hcon := AnyQ.slices_SortFunc Tryd.sortNode 7 Tryd.isAgg49 Tryd.sizeOf49 ndCells (fun _ => rfl) (fun x v hv => nd_oneCell x v hv) (fun x y => ordI x.id y.id) swo_nd 33 #[] g 0 cap C.toArray w eg hcmp hH hg.2 (by simp; omega)
  rw [List.size_toArray] at hcon
  refine Calls.mono (show Calls Tryd.prog 32 _ _ _ from hcon) ?_
  rintro e w' ⟨he, d', n, os, hp, hs, rfl⟩
  have hsz : d'.size = C.length := by simpa using hp.1
  have hperm : d'.toList.Perm C := by
    have := hp.2.2
    rw [show d'.extract 0 C.length = d' by rw [← hsz]; simp, show C.toArray.extract 0 C.length = C.toArray by simp] at this
    simpa using this
  refine ⟨he, d'.toList, hperm, rises_sorted (by rw [hsz]; exact hs) (hu.perm hperm.symm), ?_, below_sorted d' os hg.1 hb⟩
  have hh : HoldsK ndCells 7 (sortWorldK ndCells 7 w g 0 n d' os) g 0 d' := SWK.holds ⟨n, os, rfl⟩ hg.2 hH (by simpa using hsz)
  refine ⟨_, _, _, rfl, by simpa using hsz, hcap, (fun h0 => by cases h0), fun h0 => ⟨g, 0, rfl, fun j x hx i u hu => ?_⟩⟩
  have hj : j < d'.size := by have := (List.getElem?_eq_some_iff.1 hx).1; simpa using this
  have hi : i < 7 := (List.getElem?_eq_some_iff.1 hu).1
  have h1 := (hh (j * 7 + i) (by rw [size_flatK]; omega)).1
  rw [flat_nds d' j x hx i u hu] at h1
  rw [Nat.zero_add]
  rw [Nat.zero_add] at h1
  exact h1
end Go.Proofs.YtjeijolblcodpaaDoor.W
end

/- The program's states: Nodes. -/
section
namespace Go.Proofs.YtjeijolblcodpaaDoor.W
set_option maxRecDepth 20000
set_option linter.unusedVariables false
open Go.RowKit Go.Proofs Arb Go.Maps Go.WideMaps

/-- 'append(s, x)' of one node, with the block that turns. -/
theorem wpList_append_nd_g {ops : Array Oper} {rest : List Oper} {o : Oper} {a : Act} {w : World} {Q : Exit → Act → World → Prop} (hgd : o.guard = none) (s x : Operand)
    (ho : o.op = .call { callee := .builtin .append, args := #[s, x], argTypes := #[40, 40] })
    (base : Nat) (v : Value) (n : Nat) (l : List Nod) (hs : a.eval s = v) (hown : Row w base 49 7 v n (ndsCells l))
    (y : Nod) (cs : Array Value) (hcs : cs = ndArr y) (hx : a.eval x = .slice (some ⟨w.heap.size, 0, none⟩) 1 1)
    (h63 : n ≤ 1000000) (hbase : base ≤ w.heap.size)
    (h : ∀ v' w', Row w' base 49 7 v' (n + 1) (ndsCells (l ++ [y])) → Below base w w' → (w.alloc (.cells cs 49)).grownBy w' v.ownBlock → (∀ k, v'.ownBlock = some k → v.ownBlock = some k ∨ w.heap.size ≤ k) → wpList Tryd.prog ops Q rest (a.put o.dst v') w') :
    wpList Tryd.prog ops Q (o :: rest) a (w.alloc (.cells cs 49)) := by
  subst hcs
  obtain ⟨i0, hi, hz0, hz1, hz2⟩ := info_parts info_nd
  refine wpList_append_row hgd s x 40 ho base 49 i0 _ 7 72 Tryd.underlying40 hi hz0 hz1 hz2 rfl (by decide) v n _ hs (hown.alloc _) _ 1 (ndsCells [y]) hx ?_ (nds_oneCell _) (by unfold maxLen; omega) (by omega) (by simp; omega) ?_
  · have := Rd.new w (ndArr y) 49 1 1 7 rfl
    rw [ndsCells_one]
    simpa [ndArr] using this
  · intro v' w' hr hg hv
    refine h v' w' (by rw [ndsCells_append]; exact hr) (((Below.refl base w).alloc hbase _).grown hg (by simp; omega) fun k hk => (hown.lt k hk).1) hg fun k hk => ?_
    rcases hv with hv | hv
    · exact .inl (hv.symm.trans hk)
    · rw [hv] at hk
      injection hk with hk
      simp at hk
      exact .inr (by omega)

/-- Where a round of the loop stands. -/
structure Ranged (w wr : World) (mb r : Nat) (L C : List Nod) (left : Lit → Bool) (cnt : Nat) (vo : Value) : Prop where
  rng : wr.ranges Tryd.prog 33 rNod mb r L.length (.map (L.map ent)) left cnt
  got : Got L C left
  row : Row wr w.heap.size 49 7 vo C.length (ndsCells C)
  ne : ∀ k, vo.ownBlock = some k → k ≠ r
  form : ∃ g cap, vo = .slice (some ⟨g, 0, none⟩) C.length cap
  below : Below w.heap.size w wr
  map : mb < w.heap.size
  far : w.heap.size ≤ r

/-- The map's step has turned its iterator alone. -/
theorem Ranged.step {w wr w3 : World} {mb r cnt cnt3 : Nat} {L C : List Nod} {left left' : Lit → Bool} {vo : Value} (h : Ranged w wr mb r L C left cnt vo) (hrg : w3.ranges Tryd.prog 33 rNod mb r L.length (.map (L.map ent)) left' cnt3) (hg : wr.grownBy w3 (some r)) :
    Row w3 w.heap.size 49 7 vo C.length (ndsCells C) ∧ Below w.heap.size w w3 :=
  ⟨h.row.kept hg (by
    rcases hv : vo.ownBlock with _ | k
    · exact .inl rfl
    · exact .inr fun e => h.ne k hv (Option.some.inj e)), h.below.grown hg h.below.size fun k e => by cases e; exact h.far⟩
/-- A node has been laid behind the others. -/
theorem Ranged.next {w w3 W4 w5 w6 : World} {mb r cnt3 : Nat} {L C : List Nod} {left' : Lit → Bool} {c : Nod} {vo v6 : Value} {o : Obj} (hrg : w3.ranges Tryd.prog 33 rNod mb r L.length (.map (L.map ent)) left' cnt3) (hg4 : w3.grownBy W4 none) (hb5 : Below W4.heap.size W4 w5) (hg6 : (w5.alloc o).grownBy w6 vo.ownBlock) (hv6 : ∀ k, v6.ownBlock = some k → vo.ownBlock = some k ∨ w5.heap.size ≤ k)
    (hgot : Got L (C ++ [c]) left') (hrow : Row w6 w.heap.size 49 7 v6 (C.length + 1) (ndsCells (C ++ [c]))) (hne : ∀ k, vo.ownBlock = some k → w.heap.size ≤ k ∧ k ≠ r) (hbel : Below w.heap.size w w6) (hmb : mb < w.heap.size) (hfar : w.heap.size ≤ r) :
    Ranged w w6 mb r L (C ++ [c]) left' cnt3 v6 := by
  have h5 : w3.grownBy w5 none := ⟨hb5.os.trans hg4.os, hb5.tape.trans hg4.tape, hb5.output.trans hg4.output, Nat.le_trans hg4.size hb5.size, fun k hk hn => (hb5.block k (Nat.lt_of_lt_of_le hk hg4.size)).trans (hg4.block k hk hn)⟩
  have r5 := hrg.kept h5 (by simp) (by simp)
  have hr5 := r5.lt
  refine ⟨(r5.alloc o).kept hg6 (fun e => ?_) (fun e => ?_), hgot, by simpa using hrow, fun k hk => ?_, ?_, hbel, hmb, hfar⟩
  · have := (hne mb e.symm).1; omega
  · exact (hne r e.symm).2 rfl
  · rcases hv6 k hk with h | h
    · exact (hne k h).2
    · omega
  · obtain ⟨g, cap, he, -⟩ := hrow.open (by omega)
    exact ⟨g, cap, by simpa using he⟩

set_option maxHeartbeats 8000000 in
theorem pnodes_st (w : World) (b : Nat) (F : Nat → Prop) (l : List Opn) (n : Int) (h : PSt w b F l n) (hT : Met w) :
    Calls Tryd.prog 18 #[.pointer (some ⟨b, 0, none⟩)] w fun e w' => ∃ v F', e = .returned v ∧ Nods w' v (foldOf l) ∧ InSet (fun k => w.heap.size ≤ k ∧ ¬ F' k) v ∧ PSt w' b F' l n ∧ Turned w w' F F' := by
  have hlen := h.len
  have hend : ∀ W v, Below w.heap.size w W → Nods W v (foldOf l) → InSet (fun k => w.heap.size ≤ k) v → ∃ u F', Ending.returned v = Ending.returned u ∧ Nods W u (foldOf l) ∧ InSet (fun k => w.heap.size ≤ k ∧ ¬ F' k) u ∧ PSt W b F' l n ∧ Turned w W F F' := fun W v hb hr hi =>
    ⟨v, F, rfl, hr, hi.mono fun k hk => ⟨hk, fun hF => by have := h.lt k hF; omega⟩, h.new hb, Kept.of_new hb, fun k hk => .inl hk⟩
  obtain ⟨v, mb, L, hP, -, -⟩ := h.all
  obtain ⟨A, c, rfl⟩ := row_form hP.row
  have hfl := foldOf_length l
  have hLl : L.length = (foldOf l).length := hP.perm.length_eq
  have hpm := hP.perm
  have hM := hP.map
  have hml := fun W (hW : Below w.heap.size w W) ty => (hM.below hW).len ty
  have hml0 := fun ty => hml w (Below.refl _ _) ty
  obtain ⟨s0, m0, n0, fz0, fz2⟩ := hP.st.cells
  obtain ⟨i0, hi, hz0, hz1, hz2⟩ := info_parts info_nd
  obtain ⟨z0, hzz⟩ : ∃ z : Value, z = .agg #[.int .i64 0, .int .i64 0, .bool false, .int .i64 0, .int .i64 0, .string ⟨#[]⟩, .string ⟨#[]⟩] := ⟨_, rfl⟩
  rw [← hzz] at hz0
  have hfo := fun x (hx : ndWf x) W => pfreshNd8_any x W hx
  obtain ⟨m, hm⟩ : ∃ m, L.length = m := ⟨_, rfl⟩
  have hm4 : m ≤ 400 := by omega
  have HP := Go.Lib.hid hP; have HE := Go.Lib.hid hend; have HFO := Go.Lib.hid hfo; have HZZ := Go.Lib.hid hzz; have HM := Go.Lib.hid hM; have HPM := Go.Lib.hid hpm; have HLM := Go.Lib.hid hm
  rw [hm] at hml0
  clear hP hend hfo hzz h hT hM hpm hml hLl hfl hlen hm
  go_enter Tryd.func18, Tryd.ntmps18
  go_wp2_with (first
    | (refine wpList_make_own _ rfl (.const (.int .i64 0)) (.tmp 12) 40 rfl w.heap.size 49 i0 z0 7 Tryd.underlying40 hi hz0 hz1 .i64 .i64 _ m rfl rfl rfl (by rw [hz2]; omega) (by unfold maxLen; omega) (Nat.le_refl _) ?_; intro w1 hr1 hg1; have hs1 := (Row.of hr1).lt w.heap.size rfl; have hb1 : Below w.heap.size w w1 := (Below.refl _ _).grown hg1 (Nat.le_refl _) (fun _ e => by cases e); have hp1 := HP.out.below hb1; obtain ⟨s1, m1, n1, fz1, fz3⟩ := hp1.st.cells; have HR1 := Go.Lib.hid (Row.of hr1); have HB1 := Go.Lib.hid hb1; have HS1 := Go.Lib.hid hs1; clear hr1 hg1 hb1 hp1 hs1)
    | (at_range; refine wpList_range_own _ rfl _ 51 rfl 33 49 (Keyed.of_law law_st) Tryd.underlying51 rNod mb L.length (.map (L.map ent)) rfl (HM.out.below HB1.out).owns ?_; intro w2 hrg2 hg2 hs2; have hb2 : Below w.heap.size w w2 := HB1.out.grown hg2 HB1.out.size (fun _ e => by cases e))); go_frame
  have hst : Ranged w w2 mb w1.heap.size L [] (has (DataW.map (L.map ent))) (size (DataW.map (L.map ent))) (.slice (some ⟨w.heap.size, 0, none⟩) 0 m) :=
    ⟨hrg2, Got.start HM.out.wf, HR1.out.still hg2, fun k hk => by cases hk; exact Nat.ne_of_lt HS1.out.2, ⟨_, _, rfl⟩, hb2, HM.out.lt, Nat.le_of_lt HS1.out.2⟩
  obtain ⟨r, hr⟩ : ∃ r, w1.heap.size = r := ⟨_, rfl⟩
  rw [hr] at hst ⊢
  have HST := Go.Lib.hid hst
  clear hst hr hrg2 hg2 hs2 hb2
  go_loopw [3, 5, 19, 20, 21, 22, 23, 24, 25, 26, 27] (fun vo _ _ _ _ _ _ _ _ _ _ wr => ∃ left cnt C, Ranged w wr mb r L C left cnt vo) (fun _ _ _ _ _ _ _ _ _ _ _ wr => wr.rangeLeft mb r)
  case atStart => exact ⟨_, _, _, HST.out⟩
  case round =>
    obtain ⟨left, cnt, C, hR⟩ := hrel
    obtain ⟨g, cap, rfl⟩ := hR.form
    have HR := Go.Lib.hid hR
    clear hR
    go_wp2_with (at_next; refine wpList_next_ranges _ rfl (.tmp 18) rfl 33 (Keyed.of_law law_st) rNod (fun x : Value => x) ndVal (fun key kl _ => ⟨key, rfl⟩) (fun v y hv => by obtain ⟨x, rfl, _⟩ := rNod_inv hv; exact ⟨x, rfl⟩) mb r L.length _ left cnt rfl HR.out.rng ?_ ?_)
    · intro hc0 hl0
      have hCL := HR.out.got.done hl0
      have hCU := HM.out.uni.perm hCL.symm
      have hso := psort_nds w.heap.size g cap C wr HR.out.row hCU (by have := hCL.length_eq; have := HLM.out; omega) HR.out.below.size
      have HCL := Go.Lib.hid hCL; have HSO := Go.Lib.hid hso
      clear hc0 hl0 hCL hCU hso
      go_wp2_with fail
      refine HSO.out.mono ?_; rintro e w5 ⟨rfl, S, hS1, hS2, hS3, hS4⟩
      obtain rfl : S = foldOf l := Rises.eq_of_perm hS2 (foldOf_rises l) (hS1.trans (HCL.out.trans HPM.out))
      have hfin := HE.out w5 _ (HR.out.below.trans hS4) hS3 (fun a n' c' he => by cases he; exact (HR.out.row.lt g rfl).1)
      have HF := Go.Lib.hid hfin
      clear hS1 hS2 hS3 hS4 hfin
      go_wp2_with fail
      go_ret
      exact HF.out
    · intro x c kl y1 y2 w3 cnt3 hkey hlk hrn hat hrg3 hlt3 hg3 hs3 hen
      obtain ⟨hcL, hgot⟩ := HR.out.got.step HM.out.uni HM.out.wf hlk hrn hat
      obtain ⟨hrow3, hbel3⟩ := HR.out.step hrg3 hg3
      have hfx := HFO.out c (HM.out.wf c hcL)
      obtain ⟨W4, hW4⟩ : ∃ W, w3.alloc (.cells (ndArr c) 49) = W := ⟨_, rfl⟩
      have hb4 : Below w.heap.size w W4 := by rw [← hW4]; exact hbel3.alloc hbel3.size _
      have hg4 : w3.grownBy W4 none := by rw [← hW4]; exact World.grownBy_alloc _ _ _
      have hn4 : NodAt W4 w3.heap.size 0 c := by rw [← hW4]; exact NodAt.new _ _ _
      have hr4 : Row W4 w.heap.size 49 7 (.slice (some ⟨g, 0, none⟩) C.length cap) C.length (ndsCells C) := by rw [← hW4]; exact hrow3.alloc _
      have hcn : C.length ≤ 1000000 := by have := HR.out.got.perm.length_eq; have := HLM.out; rw [List.length_append] at *; omega
      obtain ⟨c0, c1, c2, c3, c4, c5, c6⟩ := nd_cells0 hn4
      have HFX := Go.Lib.hid hfx; have HW4 := Go.Lib.hid hW4; have HB4 := Go.Lib.hid hb4; have HG4 := Go.Lib.hid hg4; have HR4 := Go.Lib.hid hr4; have HGOT := Go.Lib.hid hgot; have HRG3 := Go.Lib.hid hrg3; have HLT := Go.Lib.hid hlt3
      unfold ndVal at hen ⊢
      unfold ndArr ndCells at hen hW4 ⊢
      clear hkey hlk hrn hat hrg3 hlt3 hg3 hs3 hcL hgot hrow3 hbel3 hfx hb4 hg4 hn4 hr4
      rw [show (ndArr c) = #[.int .i64 c.id.count, .int .i64 c.id.who, .bool c.dir, .int .i64 c.parent.count, .int .i64 c.parent.who, .string (BS c.name), .string (BS c.manifest)] from rfl] at HW4
      clear hW4
      go_wp2_with fail
      rw [show w3.alloc (.cells #[.int .i64 c.id.count, .int .i64 c.id.who, .bool c.dir, .int .i64 c.parent.count, .int .i64 c.parent.who, .string (BS c.name), .string (BS c.manifest)] 49) = W4 from HW4.out]
      refine (HFX.out _).mono ?_; rintro e w5 ⟨rfl, hb5⟩
      have hr5 := HR4.out.below hb5
      have hbl5 := bstep HB4.out hb5
      have HR5 := Go.Lib.hid hr5; have HBL5 := Go.Lib.hid hbl5; have HB5 := Go.Lib.hid hb5
      clear hb5 hr5 hbl5 c0 c1 c2 c3 c4 c5 c6 hen
      go_wp2_with (at_builtin; refine wpList_append_nd_g rfl (.tmp 23) (.tmp 26) rfl w.heap.size (.slice (some ⟨g, 0, none⟩) C.length cap) C.length C rfl HR5.out c _ rfl rfl hcn HBL5.out.size ?_; intro v6 w6 hr6 hb6 hg6 hv6)
      have hfin : Ranged w w6 mb r L (C ++ [c]) _ cnt3 v6 := Ranged.next HRG3.out HG4.out HB5.out hg6 hv6 HGOT.out hr6 (fun k hk => ⟨(HR.out.row.lt k hk).1, HR.out.ne k hk⟩) (HBL5.out.trans hb6) HR.out.map HR.out.far
      exact ⟨⟨_, _, _, hfin⟩, by rw [hfin.rng.left_eq, HR.out.rng.left_eq]; exact HLT.out⟩
end Go.Proofs.YtjeijolblcodpaaDoor.W
end
