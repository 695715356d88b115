/- The program's operations: texts of their own; slices.Clone, slices.Grow, slices.Concat of operations. -/
import Derived.Test.YtmkmahjboocoaaaOpsX
import Derived.Test.YtmkmahjboocoaaaCodecT
import Derived.Lib.AppendZerosOnto
namespace Go.Proofs.Ytmkmahjboocoaaa.W
set_option linter.unusedVariables false
open Go.RowKit Go.Proofs Arb

/-- A value laid where it lies already. -/
theorem setCell_same {w : World} {g j : Nat} {cur : Array Value} {e : TypeId} {fz : Nat × Nat} {u : Value} (h : w.heap[g]? = some (.cells cur e fz)) (hj : cur[j]? = some u) : w.setCell ⟨g, j, none⟩ u = w := by
  rw [setCell_eq_setRow w g j cur e fz u h]
  have : cur.setIfInBounds j u = cur := by
    apply Array.ext_getElem?
    intro i
    rw [Array.getElem?_setIfInBounds]
    by_cases hij : j = i
    · subst hij
      rw [if_pos rfl]
      split
      · exact hj.symm
      · rename_i hn
        rw [Array.getElem?_eq_none (by omega)]
    · rw [if_neg hij]
  rw [this]
  exact setRow_self w g cur e fz h
theorem Row.same {w : World} {base g n cap size j : Nat} {e : TypeId} {xs : List Value} {u : Value} (h : Row w base e size (.slice (some ⟨g, 0, none⟩) n cap) n xs) (hj : xs[j]? = some u) : w.setCell ⟨g, j, none⟩ u = w := by
  rcases h.2 with ⟨h1, _⟩ | ⟨g', cap', cur, fz, h1, hb, hg, hfz, hnc, hcm, hcs, ht⟩
  · cases h1
  · cases h1
    refine setCell_same hg ?_
    rw [← ht, List.getElem?_take] at hj
    split at hj
    · simpa using hj
    · cases hj

set_option maxRecDepth 20000 in
set_option maxHeartbeats 4000000 in
theorem pfresh_any (base : Nat) (v : Value) (l : List Opn) (w : World) (h : Row w base 25 11 v l.length (opsCells l)) (hn : l.length ≤ 200000) (hwf : ∀ y ∈ l, opWf y) :
    Calls Try.prog 49 #[v] w fun e w' => e = .returned v ∧ Below w.heap.size w w' := by
  obtain ⟨n, hnn⟩ : ∃ n, l.length = n := ⟨_, rfl⟩
  rw [hnn] at h hn
  rcases Nat.eq_zero_or_pos n with h0 | h0
  · subst h0
    obtain ⟨A, c, rfl⟩ : ∃ A c, v = .slice A 0 c := by
      rcases h.2 with ⟨rfl, _⟩ | ⟨g, cap, cur, fz, rfl, _⟩
      · exact ⟨_, _, rfl⟩
      · exact ⟨_, _, rfl⟩
    clear h
    go_enter Try.func49, Try.ntmps49
    go_wp2_with fail
    go_loopw [3, 4, 7, 8, 9, 10, 11, 12, 13, 14, 15, 16, 17, 18, 19, 20, 21, 22, 23, 24, 25, 26] (fun _ _ i _ _ _ _ _ _ _ _ _ _ _ _ _ _ _ _ _ _ _ wr => i = .int .i64 0 ∧ wr = w) (fun _ _ i _ _ _ _ _ _ _ _ _ _ _ _ _ _ _ _ _ _ _ _ => 0)
    case atStart => exact ⟨rfl, rfl⟩
    case round =>
      obtain ⟨rfl, rfl⟩ := hrel
      go_wp2_with fail
      go_ret
      exact ⟨rfl, Below.refl _ _⟩
  · obtain ⟨g, cap, rfl, hnc, hbg, hlt, -, -⟩ := h.open h0
    have HROW := Go.Lib.hid h; have HN := Go.Lib.hid hnn; have HWF := Go.Lib.hid hwf
    clear h hnn hwf
    go_enter Try.func49, Try.ntmps49
    go_wp2_with fail
    go_loopw [3, 4, 7, 8, 9, 10, 11, 12, 13, 14, 15, 16, 17, 18, 19, 20, 21, 22, 23, 24, 25, 26] (fun _ _ i _ _ _ _ _ _ _ _ _ _ _ _ _ _ _ _ _ _ _ wr => ∃ k : Nat, k ≤ n ∧ i = .int .i64 (k : Int) ∧ Below w.heap.size w wr) (fun _ _ i _ _ _ _ _ _ _ _ _ _ _ _ _ _ _ _ _ _ _ _ => n - (intOf i).toNat)
    case atStart => exact ⟨0, by omega, rfl, Below.refl _ _⟩
    case round =>
      obtain ⟨k, hk, rfl, hb⟩ := hrel
      by_cases hkn : k < n
      · have hkn' : (k : Int) < (n : Int) := by omega
        have hkl : k < l.length := by have := HN.out; omega
        obtain ⟨y, hg1⟩ : ∃ y, l[k]? = some y := ⟨_, List.getElem?_eq_getElem hkl⟩
        have hw := HWF.out y (List.mem_of_getElem? hg1)
        have hat := opsCells_at l k y hg1
        obtain ⟨g', cap', he, -, -, -, hcell, -⟩ := (HROW.out.below hb).open h0
        cases he
        have hy : OpAt wr g (k * 11) y := fun j u hu => hcell _ _ (hat j u hu)
        obtain ⟨c0, c1, c2, c3, c4, c5, c6, c7, c8, c9, c10⟩ := op_cells hy
        have hb2 : Below w.heap.size w (wr.alloc (.cells (opArr y) 25)) := hb.alloc hb.size _
        have hnew := OpAt.new wr y 25
        have hlb : wr.heap.size < (wr.alloc (.cells (opArr y) 25)).heap.size := by simp
        have hC1 := fun w => clone_any (BS y.name) w (by rw [BS_size]; have := hw.2.2.2.2.2.1; omega)
        have hC2 := fun w => clone_any (BS y.manifest) w (by rw [BS_size]; have := hw.2.2.2.2.2.2; omega)
        have ha9 := hat 9 (.string (BS y.name)) rfl
        have ha10 := hat 10 (.string (BS y.manifest)) rfl
        obtain ⟨W, hW⟩ : ∃ W, wr.alloc (.cells (opArr y) 25) = W := ⟨_, rfl⟩
        rw [hW] at hb2 hnew hlb
        unfold opArr opCells at hW
        have HW := Go.Lib.hid hW; have HB2 := Go.Lib.hid hb2; have HNEW := Go.Lib.hid hnew; have HLB := Go.Lib.hid hlb
        have HC1 := Go.Lib.hid hC1; have HC2 := Go.Lib.hid hC2; have H9 := Go.Lib.hid ha9; have H10 := Go.Lib.hid ha10
        clear hW hb2 hnew hlb hC1 hC2 ha9 ha10 hcell hy hat hg1 hw hb
        go_wp2_with fail
        rw [HW.out]
        clear c0 c1 c2 c3 c4 c5 c6 c7 c8 c9 c10
        obtain ⟨-, -, -, -, -, -, -, -, -, e9, e10⟩ := op_cells0 HNEW.out
        have hne := BW.ne W.heap.size W
        have q9 := fun z : BW W.heap.size W => z.cell e9 HLB.out
        have q10 := fun z : BW W.heap.size W => z.cell e10 HLB.out
        have hrow := fun z : BW W.heap.size W => HROW.out.below (HB2.out.trans (z.2.mono HB2.out.size))
        have r9 : ∀ z : BW W.heap.size W, z.w.setCell ⟨g, k * 11 + 9, none⟩ (.string (BS y.name)) = z.w := fun z => Row.same (hrow z) H9.out
        have r10 : ∀ z : BW W.heap.size W, z.w.setCell ⟨g, k * 11 + 10, none⟩ (.string (BS y.manifest)) = z.w := fun z => Row.same (hrow z) H10.out
        have s9 : ∀ z : BW W.heap.size W, z.w.cell? ⟨g, k * 11 + 9, none⟩ = some (.string (BS y.name)) := fun z => by
          obtain ⟨g', cap', he, -, -, -, hcell, -⟩ := (hrow z).open h0
          cases he
          exact hcell _ _ H9.out
        have s10 : ∀ z : BW W.heap.size W, z.w.cell? ⟨g, k * 11 + 10, none⟩ = some (.string (BS y.manifest)) := fun z => by
          obtain ⟨g', cap', he, -, -, -, hcell, -⟩ := (hrow z).open h0
          cases he
          exact hcell _ _ H10.out
        have f9 : ∀ z : BW W.heap.size W, z.w.frozen? ⟨g, k * 11 + 9, none⟩ = false := fun z => by
          obtain ⟨g', cap', he, -, -, -, -, hf⟩ := (hrow z).open h0
          cases he
          exact hf _ (by omega)
        have f10 : ∀ z : BW W.heap.size W, z.w.frozen? ⟨g, k * 11 + 10, none⟩ = false := fun z => by
          obtain ⟨g', cap', he, -, -, -, -, hf⟩ := (hrow z).open h0
          cases he
          exact hf _ (by omega)
        have HROWZ := Go.Lib.hid hrow; clear hrow
        clear e9 e10
        refine wp_region_calm W.heap.size W (Below.refl _ _) (by kernel_rfl) (by kernel_rfl) ?_
        repeat (go_big_quiet_step (first | (go_at_call 70; first | with_reducible exact bw_of (Nat.le_refl _) (HC1.out _) | with_reducible exact bw_of (Nat.le_refl _) (HC2.out _))))
        refine wpQuiet_nil ?_
        intro _ hw'
        obtain ⟨z, rfl⟩ := hw'
        go_wp2_with fail
        exact ⟨⟨k + 1, by omega, by simp, HB2.out.trans (z.2.mono HB2.out.size)⟩, by simp [intOf]; omega⟩
      · obtain rfl : k = n := by omega
        have HB2 := Go.Lib.hid hb; clear hb
        go_wp2_with fail
        go_ret
        exact ⟨rfl, HB2.out⟩

set_option maxHeartbeats 1000000 in
theorem pclone_any (v : Value) (set : List Opn) (w : World) (h : Opns w v set) (hn : set.length ≤ 100000) :
    Calls Try.prog 50 #[v] w fun e w' => ∃ v', e = .returned v' ∧ Row w' w.heap.size 25 11 v' set.length (opsCells set) ∧ Below w.heap.size w w' := by
  obtain ⟨A, c, rfl, hc⟩ := h.len
  obtain ⟨n, hnn⟩ : ∃ n, set.length = n := ⟨_, rfl⟩
  rw [hnn] at h hc hn ⊢
  have htl : set.take n = set := List.take_of_length_le (by omega)
  have q : ∀ (w : World) (a : Option Addr) (n c n' c' : Nat), (binOp .eql 27 (.slice a n c) (.slice none n' c')).run Try.prog w = .ok (.bool a.isNone) w := fun w a n c n' c' => Go.Lib.run_eql_slice_nil w _ _ a n c n' c' Try.underlying27
  cases A with
  | none =>
    obtain ⟨A', n', c', he, hl, hc', hA0, hr⟩ := h
    cases he
    have h0 := hA0 rfl
    obtain rfl : c = 0 := h0
    obtain rfl : n = 0 := by omega
    obtain rfl : set = [] := List.eq_nil_of_length_eq_zero hnn
    clear hr hl hA0 htl
    go_enter Try.func50, Try.ntmps50
    go_wp2_with fail
    go_ret
    exact ⟨_, rfl, Row.nil _ _ _ _, Below.refl _ _⟩
  | some a =>
    have hrd : ∀ w', Below w.heap.size w w' → Rd w' 11 (.slice (some a) n c) n (opsCells set) := fun w' hb => by
      have := (h.below hb).rdTake n (Nat.le_refl _)
      rw [htl] at this
      exact this
    have HRD := Go.Lib.hid hrd
    clear hrd h htl hnn
    go_enter Try.func50, Try.ntmps50
    go_wp2_with (at_builtin; refine wpList_append_ops rfl (.tmp 5) (.tmp 6) rfl w.heap.size (.slice (some ⟨w.heap.size, 0, none⟩) 0 0) 0 [] rfl (Row.made w #[] 25 0 11 (Nat.le_refl _) (by unfold maxLen; omega) rfl) (.slice (some a) n c) n set rfl (HRD.out _ ((Below.refl _ _).alloc (Nat.le_refl _) _)) (by omega) (by omega) (by simp) ?_; intro v4 W4 hr4 hb4)
    rw [Nat.zero_add, List.nil_append] at hr4
    go_ret
    exact ⟨_, rfl, hr4, ((Below.refl w.heap.size w).alloc (Nat.le_refl _) _).trans hb4⟩

set_option maxRecDepth 20000 in
set_option maxHeartbeats 2000000 in
theorem pgrow_any (n : Nat) (w : World) (h0 : 0 < n) (hn : n ≤ 500000) :
    Calls Try.prog 71 #[.slice none 0 0, .int .i64 (n : Int)] w fun e w' => ∃ c, e = .returned (.slice (some ⟨w.heap.size, 0, none⟩) 0 c) ∧ Row w' w.heap.size 25 11 (.slice (some ⟨w.heap.size, 0, none⟩) 0 c) 0 (opsCells []) ∧ Below w.heap.size w w' := by
  obtain ⟨i0, hi, hz0, hz1, hz2⟩ := info_parts info_op
  obtain ⟨z, hzz⟩ : ∃ z : Value, z = .agg #[.int .i64 0, .int .i64 0, .int .i64 0, .int .i64 0, .int .i64 0, .int .i64 0, .bool false, .int .i64 0, .int .i64 0, .string ⟨#[]⟩, .string ⟨#[]⟩] := ⟨_, rfl⟩
  rw [← hzz] at hz0
  have hzc : z.cells.size = 11 := by rw [hzz]; rfl
  clear hzz
  have hrz : ∀ ty, (Builtin.append_ #[27, 3] ty #[.slice none 0 0, .int .i64 (n : Int)]).run Try.prog w =
      .ok (.slice (some ⟨w.heap.size, 0, none⟩) n (grownCap w n 0 25)) (w.drew.alloc (.cells (#[] ++ Builtin.zeroCells z.cells n ++ Builtin.zeroCells z.cells (grownCap w n 0 25 - n)) 25)) := fun ty => by
    have h := Lib.run_append_grow_zeros (P := Try.prog) w 27 3 ty 25 i0 z .i64 .i64 Try.underlying27 Try.underlying3 hi hz0 none 0 0 [] (run_firstCells_none _ _ _ _ _) n h0 (by rw [hz1]; omega) (by omega) (by omega)
      (by rw [hz2]; omega) (by rw [hz2]; exact growslice_fits (by omega) (by omega))
    simpa using h
  have hGn : n ≤ grownCap w n 0 25 := grownCap_ge w _ _ _
  have hGm : grownCap w n 0 25 ≤ maxLen := grownCap_le_maxLen w n 0 25 (by unfold maxLen; omega)
  obtain ⟨G, hG⟩ : ∃ G, grownCap w n 0 25 = G := ⟨_, rfl⟩
  rw [hG] at hrz hGn hGm
  have hrow : Row (w.drew.alloc (.cells (#[] ++ Builtin.zeroCells z.cells n ++ Builtin.zeroCells z.cells (G - n)) 25)) w.heap.size 25 11 (.slice (some ⟨w.heap.size, 0, none⟩) 0 G) 0 (opsCells []) :=
    ⟨rfl, .inr ⟨w.heap.size, G, _, (0, 0), rfl, Nat.le_refl _, heap_alloc_new w.drew _, .inl rfl, Nat.zero_le _, hGm, by simp [size_zeroCells, hzc]; omega, by simp [opsCells]⟩⟩
  have hbel : Below w.heap.size w (w.drew.alloc (.cells (#[] ++ Builtin.zeroCells z.cells n ++ Builtin.zeroCells z.cells (G - n)) 25)) := (Below.refl _ _).drew.alloc (Nat.le_refl _) _
  have hG63 : (G : Int) ≤ 9223372036854775807 := by unfold maxLen at hGm; omega
  obtain ⟨WG, hWG⟩ : ∃ W, w.drew.alloc (.cells (#[] ++ Builtin.zeroCells z.cells n ++ Builtin.zeroCells z.cells (G - n)) 25) = W := ⟨_, rfl⟩
  rw [hWG] at hrow hbel hrz
  clear hWG
  have HROW := Go.Lib.hid hrow; have HBEL := Go.Lib.hid hbel; have HRZ := Go.Lib.hid hrz
  clear hrow hbel hG hGm hi hz0 hz1 hz2 hzc hrz
  go_enter Try.func71, Try.ntmps71
  go_wp2_with (at_builtin; refine Lib.wpList_append_run _ rfl _ _ _ _ rfl _ _ rfl rfl _ _ (HRZ.out _) ?_)
  all_goals (
    go_ret
    exact ⟨_, rfl, HROW.out, HBEL.out⟩)
end Go.Proofs.Ytmkmahjboocoaaa.W
