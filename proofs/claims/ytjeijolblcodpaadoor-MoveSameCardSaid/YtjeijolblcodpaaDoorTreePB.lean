/- The program's trees: texts of their own, slices.Clone of nodes. -/
import Derived.Test.YtjeijolblcodpaaDoorMg3
import Derived.Test.YtjeijolblcodpaaDoorMg2
import Derived.Test.YtjeijolblcodpaaDoorMg6
import Derived.Test.YtjeijolblcodpaaDoorMg11
namespace Go.Proofs.YtjeijolblcodpaaDoor.W
set_option maxRecDepth 20000
set_option linter.unusedVariables false
open Go.RowKit Go.Proofs Arb

set_option maxRecDepth 20000 in
set_option maxHeartbeats 4000000 in
theorem pfreshNode_any (y : Nod) (w : World) (hw : ndWf y) :
    Calls Tryd.prog 51 #[.agg #[.int .i64 y.id.count, .int .i64 y.id.who, .bool y.dir, .int .i64 y.parent.count, .int .i64 y.parent.who, .string (BS y.name), .string (BS y.manifest)]] w fun e w' => e = .returned (.agg #[.int .i64 y.id.count, .int .i64 y.id.who, .bool y.dir, .int .i64 y.parent.count, .int .i64 y.parent.who, .string (BS y.name), .string (BS y.manifest)]) ∧ Below w.heap.size w w' := by
  have hC1 := fun w => clone_any (BS y.name) w (by rw [BS_size]; have := hw.2.2.1; omega)
  have hC2 := fun w => clone_any (BS y.manifest) w (by rw [BS_size]; have := hw.2.2.2; omega)
  obtain ⟨W1, hW1⟩ : ∃ W, ((w.alloc (.cells (ndArr y) 49)).alloc (.cells (ndArr Nod.zero) 49)) = W := ⟨_, rfl⟩
  have hb0 : Below w.heap.size w W1 := by rw [← hW1]; exact ((Below.refl _ _).alloc (Nat.le_refl _) _).alloc (by simp) _
  have hbx : W1.heap[w.heap.size]? = some (.cells (ndArr y) 49 (0, 0)) := by
    rw [← hW1]
    have h1 := heap_alloc_new w (.cells (ndArr y) 49)
    exact (Below.heap_alloc _ _ _ (Array.getElem?_eq_some_iff.1 h1).1).trans h1
  have hrs : W1.heap[w.heap.size + 1]? = some (.cells (ndArr Nod.zero) 49 (0, 0)) := by
    rw [← hW1]
    have := heap_alloc_new (w.alloc (.cells (ndArr y) 49)) (.cells (ndArr Nod.zero) 49)
    simpa using this
  have hsz : w.heap.size < W1.heap.size := (Array.getElem?_eq_some_iff.1 hbx).1
  have hsz1 : w.heap.size + 1 < W1.heap.size := (Array.getElem?_eq_some_iff.1 hrs).1
  unfold ndArr ndCells Nod.zero St.zero at hW1
  have hz : ∀ z : BW W1.heap.size W1, z.w.heap[w.heap.size]? = some (.cells (ndArr y) 49 (0, 0)) := fun z => (z.2.block _ hsz).trans hbx
  have hzr : ∀ z : BW W1.heap.size W1, z.w.heap[w.heap.size + 1]? = some (.cells (ndArr Nod.zero) 49 (0, 0)) := fun z => (z.2.block _ hsz1).trans hrs
  have HZ := Go.Lib.hid hz; have HZR := Go.Lib.hid hzr; have HW1 := Go.Lib.hid hW1; have HB0 := Go.Lib.hid hb0
  have HC1 := Go.Lib.hid hC1; have HC2 := Go.Lib.hid hC2
  clear hz hzr hW1 hb0 hC1 hC2 hbx hrs hsz hsz1
  go_enter Tryd.func51, Tryd.ntmps51
  go_wp2_with fail
  first | rw [show ((w.alloc (.cells #[.int .i64 y.id.count, .int .i64 y.id.who, .bool y.dir, .int .i64 y.parent.count, .int .i64 y.parent.who, .string (BS y.name), .string (BS y.manifest)] 49)).alloc (.cells #[.int .i64 0, .int .i64 0, .bool false, .int .i64 0, .int .i64 0, .string ⟨#[]⟩, .string ⟨#[]⟩] 49)) = W1 from HW1.out] | skip
  have hne := BW.ne W1.heap.size W1
  have q5 : ∀ z : BW W1.heap.size W1, z.w.cell? ⟨w.heap.size, 5, none⟩ = some (.string (BS y.name)) := fun z => by rw [cell_of_row _ _ _ _ _ _ (HZ.out z)]; rfl
  have q6 : ∀ z : BW W1.heap.size W1, z.w.cell? ⟨w.heap.size, 6, none⟩ = some (.string (BS y.manifest)) := fun z => by rw [cell_of_row _ _ _ _ _ _ (HZ.out z)]; rfl
  have f5 : ∀ z : BW W1.heap.size W1, z.w.frozen? ⟨w.heap.size, 5, none⟩ = false := fun z => frozen_of_row _ _ _ _ _ (HZ.out z)
  have f6 : ∀ z : BW W1.heap.size W1, z.w.frozen? ⟨w.heap.size, 6, none⟩ = false := fun z => frozen_of_row _ _ _ _ _ (HZ.out z)
  have r5 : ∀ z : BW W1.heap.size W1, z.w.setCell ⟨w.heap.size, 5, none⟩ (.string (BS y.name)) = z.w := fun z => setCell_same (HZ.out z) rfl
  have r6 : ∀ z : BW W1.heap.size W1, z.w.setCell ⟨w.heap.size, 6, none⟩ (.string (BS y.manifest)) = z.w := fun z => setCell_same (HZ.out z) rfl
  refine wp_region_calm W1.heap.size W1 (Below.refl _ _) (by kernel_rfl) (by kernel_rfl) ?_
  repeat (go_big_quiet_step (first | (go_at_call 42; first | with_reducible exact bw_of (Nat.le_refl _) (HC1.out _) | with_reducible exact bw_of (Nat.le_refl _) (HC2.out _))))
  refine wpQuiet_nil ?_
  intro _ hw'
  obtain ⟨z, rfl⟩ := hw'
  obtain ⟨V, hV⟩ : ∃ V, z.w = V := ⟨_, rfl⟩
  have hzb := HZ.out z
  have hzn := HZR.out z
  have hvb : Below w.heap.size w V := by rw [← hV]; exact bstep HB0.out z.2
  rw [hV] at hzb hzn ⊢
  obtain ⟨c0, c1, c2, c3, c4, c5, c6⟩ := nd_cells0 (NodAt.of_block hzb)
  have HN := Go.Lib.hid hzn; have HVB := Go.Lib.hid hvb
  clear hne q5 q6 f5 f6 r5 r6 hV hzb hzn hvb
  go_wp2_with (refine wpList_store_row rfl 49 (.tmp 2) (.tmp 11) rfl (w.heap.size + 1) (ndArr y) rfl rfl 49 _ (HN.out) (size_nd.trans (by rfl)) (by rfl) (ndArr_one _) ?_)
  exact bodyPost_ret (v := ndVal y) (results_cell_row rfl _ _ (w.heap.size + 1) 49 (ndArr y) (0, 0) _ rfl (setRow_heap _ _ _ _ _ _ HN.out) Tryd.underlying49 rfl (size_nd.trans (by rfl))) rfl ⟨rfl, below_setRow HVB.out (by omega) _⟩

set_option maxRecDepth 20000 in
set_option maxHeartbeats 4000000 in
theorem pfresh_any (base : Nat) (v : Value) (l : List Nod) (w : World) (h : Row w base 49 7 v l.length (ndsCells l)) (hn : l.length ≤ 200000) (hwf : ∀ y ∈ l, ndWf y) :
    Calls Tryd.prog 37 #[v] w fun e w' => e = .returned v ∧ Below w.heap.size w w' := by
  obtain ⟨n, hnn⟩ : ∃ n, l.length = n := ⟨_, rfl⟩
  rw [hnn] at h hn
  rcases Nat.eq_zero_or_pos n with h0 | h0
  · subst h0
    obtain ⟨A, c, rfl⟩ := row_form h
    clear h
    go_enter Tryd.func37, Tryd.ntmps37
    go_wp2_with fail
    go_loopw [3, 4, 7, 8, 9, 10, 11, 12, 13, 14, 15, 16, 17] (fun _ _ i _ _ _ _ _ _ _ _ _ _ wr => i = .int .i64 0 ∧ wr = w) (fun _ _ i _ _ _ _ _ _ _ _ _ _ _ => 0)
    case atStart => exact ⟨rfl, rfl⟩
    case round =>
      obtain ⟨rfl, rfl⟩ := hrel
      go_wp2_with fail
      go_ret
      exact ⟨rfl, Below.refl _ _⟩
  · obtain ⟨g, cap, rfl, hnc, hbg, hlt, -, -⟩ := h.open h0
    have HROW := Go.Lib.hid h; have HN := Go.Lib.hid hnn; have HWF := Go.Lib.hid hwf
    clear h hnn hwf
    go_enter Tryd.func37, Tryd.ntmps37
    go_wp2_with fail
    go_loopw [3, 4, 7, 8, 9, 10, 11, 12, 13, 14, 15, 16, 17] (fun _ _ i _ _ _ _ _ _ _ _ _ _ wr => ∃ k : Nat, k ≤ n ∧ i = .int .i64 (k : Int) ∧ Below w.heap.size w wr) (fun _ _ i _ _ _ _ _ _ _ _ _ _ _ => n - (intOf i).toNat)
    case atStart => exact ⟨0, by omega, rfl, Below.refl _ _⟩
    case round =>
      obtain ⟨k, hk, rfl, hb⟩ := hrel
      by_cases hkn : k < n
      · have hkn' : (k : Int) < (n : Int) := by omega
        have hkl : k < l.length := by have := HN.out; omega
        obtain ⟨y, hg1⟩ : ∃ y, l[k]? = some y := ⟨_, List.getElem?_eq_getElem hkl⟩
        have hw := HWF.out y (List.mem_of_getElem? hg1)
        have hat := ndsCells_at l k y hg1
        obtain ⟨g', cap', he, -, -, -, hcell, -⟩ := (HROW.out.below hb).open h0
        cases he
        have hy : NodAt wr g (k * 7) y := fun j u hu => hcell _ _ (hat j u hu)
        obtain ⟨c0, c1, c2, c3, c4, c5, c6⟩ := nd_cells hy
        have hb2 : Below w.heap.size w (wr.alloc (.cells (ndArr y) 49)) := hb.alloc hb.size _
        have hnew := NodAt.new wr y 49
        have hC := fun w => pfreshNode_any y w hw
        have hfold : ∀ V : World, Below w.heap.size w V → ∀ i u, (ndCells y)[i]? = some u → V.setCell ⟨g, k * 7 + i, none⟩ u = V ∧ V.cell? ⟨g, k * 7 + i, none⟩ = some u ∧ V.frozen? ⟨g, k * 7 + i, none⟩ = false := fun V hV i u hu => by
          have hr := HROW.out.below hV
          have hi : i < 7 := (List.getElem?_eq_some_iff.1 hu).1
          refine ⟨Row.same hr (hat i u hu), ?_, ?_⟩
          · obtain ⟨g', cap', he, -, -, -, hcell, -⟩ := hr.open h0
            cases he
            exact hcell _ _ (hat i u hu)
          · obtain ⟨g', cap', he, -, -, -, -, hf⟩ := hr.open h0
            cases he
            exact hf _ (by omega)
        obtain ⟨W, hW⟩ : ∃ W, wr.alloc (.cells (ndArr y) 49) = W := ⟨_, rfl⟩
        rw [hW] at hb2 hnew
        unfold ndArr ndCells at hW
        have HW := Go.Lib.hid hW; have HB2 := Go.Lib.hid hb2; have HNEW := Go.Lib.hid hnew; have HC := Go.Lib.hid hC; have HF := Go.Lib.hid hfold
        clear hW hb2 hnew hC hfold hcell hy hat hg1 hw hb
        go_wp2_with fail
        rw [HW.out]
        clear c0 c1 c2 c3 c4 c5 c6
        obtain ⟨e0, e1, e2, e3, e4, e5, e6⟩ := nd_cells0 HNEW.out
        go_wp2_with fail
        refine (HC.out _).mono ?_; rintro e w2 ⟨rfl, hb2⟩
        have hbw := bstep HB2.out hb2
        have HBW := Go.Lib.hid hbw
        obtain ⟨r0, s0, f0⟩ := HF.out w2 hbw 0 _ rfl
        obtain ⟨r1, s1, f1⟩ := HF.out w2 hbw 1 _ rfl
        obtain ⟨r2, s2, f2⟩ := HF.out w2 hbw 2 _ rfl
        obtain ⟨r3, s3, f3⟩ := HF.out w2 hbw 3 _ rfl
        obtain ⟨r4, s4, f4⟩ := HF.out w2 hbw 4 _ rfl
        obtain ⟨r5, s5, f5⟩ := HF.out w2 hbw 5 _ rfl
        obtain ⟨r6, s6, f6⟩ := HF.out w2 hbw 6 _ rfl
        rw [Nat.add_zero] at r0 s0 f0
        clear e0 e1 e2 e3 e4 e5 e6 hbw hb2
        go_wp2_with fail
        exact ⟨⟨k + 1, by omega, by simp, HBW.out⟩, by simp [intOf]; omega⟩
      · obtain rfl : k = n := by omega
        have HB2 := Go.Lib.hid hb; clear hb
        go_wp2_with fail
        go_ret
        exact ⟨rfl, HB2.out⟩
end Go.Proofs.YtjeijolblcodpaaDoor.W
