/- The program's trees: change. -/
import Derived.Test.YtjeijolblcodpaaDoorTreePG
namespace Go.Proofs.YtjeijolblcodpaaDoor.W
set_option maxRecDepth 20000
set_option linter.unusedVariables false
open Go.RowKit Go.Proofs Arb

theorem nds_put {l : List Nod} {i : Nat} {n : Nod} (m : Nod) {j : Nat} {u : Value} (h : l[i]? = some n) (hj : j < 7) (hm : (ndCells n).set j u = ndCells m) : (ndsCells l).set (i * 7 + j) u = ndsCells (l.set i m) := by
  obtain ⟨hi, hn⟩ := List.getElem?_eq_some_iff.1 h
  have h1 : ndsCells l = ndsCells (l.take i) ++ (ndCells n ++ ndsCells (l.drop (i + 1))) := by
    have : l = l.take i ++ ([n] ++ l.drop (i + 1)) := by rw [← hn]; simp
    conv => lhs; rw [this]
    rw [ndsCells_append, ndsCells_append, ndsCells_one]
  have h2 : ndsCells (l.set i m) = ndsCells (l.take i) ++ (ndCells m ++ ndsCells (l.drop (i + 1))) := by
    rw [set_split hi m, List.append_assoc, ndsCells_append, ndsCells_append, ndsCells_one]
  have hl : (ndsCells (l.take i)).length = i * 7 := by rw [ndsCells_length, List.length_take]; omega
  rw [h1, h2, List.set_append_right _ _ (by omega), hl, show i * 7 + j - i * 7 = j by omega, List.set_append_left _ _ (by show j < 7; omega), hm]

set_option maxRecDepth 20000 in
set_option maxHeartbeats 16000000 in
theorem pchange_any (base : Nat) (v : Value) (l : List Nod) (x : Opn) (w : World) (h : Row w base 49 7 v l.length (ndsCells l)) (hl : l.length ≤ 1000) (hwf : ∀ n ∈ l, ndWf n) (hT : TMet w) (hbase : base ≤ w.heap.size) :
    Calls Tryd.prog 36 #[v, opVal x] w fun e w' => ∃ v', e = .returned v' ∧ Row w' base 49 7 v' (doOf l x).length (ndsCells (doOf l x)) ∧ Below base w w' := by
  have hat := fun w h => pplace_any v l x.node w h (by omega)
  have hins := fun w h hT hb => pins_any base v l x w h hl hT hb
  have hmm := fun w h hT => pmayMove_any v l x w h hl hwf hT
  obtain ⟨W1, hW1⟩ : ∃ W, w.alloc (.cells (opArr x) 35) = W := ⟨_, rfl⟩
  have hb1 : Below w.heap.size w W1 := by rw [← hW1]; exact (Below.refl _ _).alloc (Nat.le_refl _) _
  have hop1 : OpAt W1 w.heap.size 0 x := by rw [← hW1]; exact OpAt.new w x 35
  have hrow1 := h.below hb1
  have hT1 := hT.on hb1
  unfold opVal at hins hmm ⊢
  unfold opArr opCells at hW1 hins hmm ⊢
  have HAT := Go.Lib.hid hat; have HINS := Go.Lib.hid hins; have HMM := Go.Lib.hid hmm; have HW1 := Go.Lib.hid hW1; have HB1 := Go.Lib.hid hb1; have HOP1 := Go.Lib.hid hop1; have HROW1 := Go.Lib.hid hrow1; have HT1 := Go.Lib.hid hT1
  clear hat hins hmm hW1 hb1 hop1 hrow1 hT1
  cases hfd : findOf l x.node with
  | none =>
    have ha : atI l x.node = -1 := by unfold atI; rw [hfd]
    rw [ha] at HAT
    by_cases hk1 : x.kind = 1
    · have hbk : (x.kind == 1) = true := by simp [hk1]
      have hdo := do_made hfd hk1
      have hlen : (doOf l x).length = l.length + 1 := by rw [hdo, insNod_length]
      rw [hlen, hdo]
      clear h hwf hT hfd ha hk1 hdo hlen
      go_enter Tryd.func36, Tryd.ntmps36
      go_wp2_with fail
      rw [HW1.out]
      obtain ⟨c0, c1, c2, c3, c4, c5, c6, c7, c8, c9, c10⟩ := op_cells0 HOP1.out
      go_wp2_with fail
      refine (HAT.out _ (Nods.of_row HROW1.out)).mono ?_; rintro e w2 ⟨rfl, hb2⟩
      have HB2 := Go.Lib.hid (bstep HB1.out hb2); have HROW2 := Go.Lib.hid (HROW1.out.below hb2); have HT2 := Go.Lib.hid (HT1.out.on hb2)
      clear c0 c1 c2 c3 c4 c5 c6 c7 c8 c9 c10
      obtain ⟨c0, c1, c2, c3, c4, c5, c6, c7, c8, c9, c10⟩ := op_cells0 (HOP1.out.below hb2)
      clear hb2
      go_wp2_with fail
      refine (HINS.out _ HROW2.out HT2.out (Nat.le_trans hbase HB2.out.size)).mono ?_; rintro e w3 ⟨v3, rfl, hr3, hb3⟩
      have HR3 := Go.Lib.hid hr3; have HB3 := Go.Lib.hid ((HB2.out.mono hbase).trans hb3)
      clear hr3 hb3
      go_wp2_with fail
      go_ret
      exact ⟨_, rfl, HR3.out, HB3.out⟩
    · have hbk : (x.kind == 1) = false := by simp [hk1]
      have hdo := do_none hfd hk1
      rw [hdo]
      clear h hwf hT hfd ha hk1 hdo
      go_enter Tryd.func36, Tryd.ntmps36
      go_wp2_with fail
      rw [HW1.out]
      obtain ⟨c0, c1, c2, c3, c4, c5, c6, c7, c8, c9, c10⟩ := op_cells0 HOP1.out
      go_wp2_with fail
      refine (HAT.out _ (Nods.of_row HROW1.out)).mono ?_; rintro e w2 ⟨rfl, hb2⟩
      have HB2 := Go.Lib.hid ((bstep HB1.out hb2).mono hbase); have HROW2 := Go.Lib.hid (HROW1.out.below hb2)
      clear c0 c1 c2 c3 c4 c5 c6 c7 c8 c9 c10
      obtain ⟨c0, c1, c2, c3, c4, c5, c6, c7, c8, c9, c10⟩ := op_cells0 (HOP1.out.below hb2)
      clear hb2
      go_wp2_with fail
      go_ret
      exact ⟨_, rfl, HROW2.out, HB2.out⟩
  | some n =>
    obtain ⟨i, hi⟩ : ∃ i, atOf l x.node = i := ⟨_, rfl⟩
    have ha : atI l x.node = (i : Int) := by unfold atI; rw [hfd, ← hi]
    obtain ⟨hgi, hil⟩ := at_get hfd
    rw [hi] at hgi hil
    rw [ha] at HAT
    obtain ⟨g, cap, rfl, hnc, hbg, hgl, -, -⟩ := h.open (by omega)
    obtain ⟨N, hN⟩ : ∃ N, l.length = N := ⟨_, rfl⟩
    have hii : ¬ ((i : Int) < 0) := by omega
    have HIL := Go.Lib.hid hil
    have hiN : (i : Int) < (l.length : Int) := by omega
    have hself := set_found hfd
    rw [hi] at hself
    -- what holds behind the first call
    have hcells : ∀ V : World, Row V base 49 7 (.slice (some ⟨g, 0, none⟩) l.length cap) l.length (ndsCells l) → NodAt V g (i * 7) n ∧ ∀ j, j < 7 → V.frozen? ⟨g, i * 7 + j, none⟩ = false := fun V hV => by
      obtain ⟨g', cap', he, -, -, -, hc, hf⟩ := hV.open (by omega)
      cases he
      exact ⟨fun j u hu => hc _ _ (ndsCells_at l i n hgi j u hu), fun j hj => hf _ (by omega)⟩
    have HCELLS := Go.Lib.hid hcells; clear hcells
    by_cases hk1 : x.kind = 1
    · have hbk2 : (x.kind == 2) = false := by simp [hk1]
      have hbk3 : (x.kind == 3) = false := by simp [hk1]
      have hbk4 : (x.kind == 4) = false := by simp [hk1]
      have hdo := do_there hfd hk1
      rw [hdo, hN]
      rw [hN] at HAT HROW1 hiN HCELLS
      clear h hwf hT hfd ha hk1 hdo hi hN hself
      go_enter Tryd.func36, Tryd.ntmps36
      go_wp2_with fail
      rw [HW1.out]
      obtain ⟨c0, c1, c2, c3, c4, c5, c6, c7, c8, c9, c10⟩ := op_cells0 HOP1.out
      go_wp2_with fail
      refine (HAT.out _ (Nods.of_row HROW1.out)).mono ?_; rintro e w2 ⟨rfl, hb2⟩
      have HB2 := Go.Lib.hid (bstep HB1.out hb2); have HROW2 := Go.Lib.hid (HROW1.out.below hb2); have HT2 := Go.Lib.hid (HT1.out.on hb2); have HOP2 := Go.Lib.hid (HOP1.out.below hb2)
      clear c0 c1 c2 c3 c4 c5 c6 c7 c8 c9 c10
      obtain ⟨c0, c1, c2, c3, c4, c5, c6, c7, c8, c9, c10⟩ := op_cells0 HOP2.out
      clear hb2
      have HB3 := Go.Lib.hid (HB2.out.mono hbase)
      go_wp2_with fail
      go_ret
      exact ⟨_, rfl, HROW2.out, HB3.out⟩
    · have hdo := do_turn hfd hk1
      rw [hi] at hdo
      have hlen : (doOf l x).length = l.length := by rw [hdo, List.length_set]
      rw [hlen, hdo, hN]
      rw [hN] at HAT HROW1 HMM hiN hil HCELLS
      by_cases hk2 : x.kind = 2
      · have hbk2 : (x.kind == 2) = true := by simp [hk2]
        obtain ⟨q, hq⟩ : ∃ q, (mayOf l x.parent && !decide (x.node ∈ chainOf l x.parent)) = q := ⟨_, rfl⟩
        rw [hq] at HMM
        cases q
        · have ht : turnOf l x n = n := by
            unfold turnOf
            rw [if_pos hk2, if_pos]
            cases hm : mayOf l x.parent
            · exact .inl rfl
            · rw [hm, Bool.true_and, Bool.not_eq_false'] at hq
              exact .inr (of_decide_eq_true hq)
          rw [ht, hself]
          clear h hwf hT hfd ha hk1 hdo hi hN hself hk2 hq ht hlen
          go_enter Tryd.func36, Tryd.ntmps36
          go_wp2_with fail
          rw [HW1.out]
          obtain ⟨c0, c1, c2, c3, c4, c5, c6, c7, c8, c9, c10⟩ := op_cells0 HOP1.out
          go_wp2_with fail
          refine (HAT.out _ (Nods.of_row HROW1.out)).mono ?_; rintro e w2 ⟨rfl, hb2⟩
          have HB2 := Go.Lib.hid (bstep HB1.out hb2); have HROW2 := Go.Lib.hid (HROW1.out.below hb2); have HT2 := Go.Lib.hid (HT1.out.on hb2); have HOP2 := Go.Lib.hid (HOP1.out.below hb2)
          clear c0 c1 c2 c3 c4 c5 c6 c7 c8 c9 c10
          obtain ⟨c0, c1, c2, c3, c4, c5, c6, c7, c8, c9, c10⟩ := op_cells0 HOP2.out
          clear hb2
          go_wp2_with fail
          refine (HMM.out _ (Nods.of_row HROW2.out) HT2.out).mono ?_; rintro e w3 ⟨rfl, hb3⟩
          have HR3 := Go.Lib.hid (HROW2.out.below hb3); have HB3 := Go.Lib.hid ((bstep HB2.out hb3).mono hbase)
          clear hb3
          go_wp2_with fail
          go_ret
          exact ⟨_, rfl, HR3.out, HB3.out⟩
        · have ht : turnOf l x n = { n with parent := x.parent, name := x.name } := by
            unfold turnOf
            rw [if_pos hk2, if_neg]
            rw [Bool.and_eq_true, Bool.not_eq_true'] at hq
            intro hc
            rcases hc with hc | hc
            · rw [hc] at hq; exact absurd hq.1 (by simp)
            · exact of_decide_eq_false hq.2 hc
          rw [ht]
          clear h hwf hT hfd ha hk1 hdo hi hN hself hk2 hq ht hlen
          go_enter Tryd.func36, Tryd.ntmps36
          go_wp2_with fail
          rw [HW1.out]
          obtain ⟨c0, c1, c2, c3, c4, c5, c6, c7, c8, c9, c10⟩ := op_cells0 HOP1.out
          go_wp2_with fail
          refine (HAT.out _ (Nods.of_row HROW1.out)).mono ?_; rintro e w2 ⟨rfl, hb2⟩
          have HB2 := Go.Lib.hid (bstep HB1.out hb2); have HROW2 := Go.Lib.hid (HROW1.out.below hb2); have HT2 := Go.Lib.hid (HT1.out.on hb2); have HOP2 := Go.Lib.hid (HOP1.out.below hb2)
          clear c0 c1 c2 c3 c4 c5 c6 c7 c8 c9 c10
          obtain ⟨c0, c1, c2, c3, c4, c5, c6, c7, c8, c9, c10⟩ := op_cells0 HOP2.out
          clear hb2
          go_wp2_with fail
          refine (HMM.out _ (Nods.of_row HROW2.out) HT2.out).mono ?_; rintro e w3 ⟨rfl, hb3⟩
          have HR3 := Go.Lib.hid (HROW2.out.below hb3); have HB3 := Go.Lib.hid (bstep HB2.out hb3)
          clear c0 c1 c2 c3 c4 c5 c6 c7 c8 c9 c10
          have hlx := HOP2.out.lt
          obtain ⟨-, -, -, -, -, -, -, c7, c8, c9, -⟩ := op_cells0 (HOP2.out.below hb3)
          obtain ⟨hnd, hfz⟩ := HCELLS.out w3 HR3.out
          obtain ⟨-, -, -, n3, n4, n5, -⟩ := nd_cells hnd
          have f3 := hfz 3 (by omega); have f4 := hfz 4 (by omega); have f5 := hfz 5 (by omega)
          clear hb3 hnd hfz
          have hgx : ¬ g = w.heap.size := by omega
          have hgx2 : ¬ w.heap.size = g := by omega
          go_wp2_with fail
          first | (go_region_with (fail)) | fail
          all_goals (
            go_wp2_with fail
            go_ret
            have hr := ((HR3.out.set g cap (i * 7 + 3) rfl (.int .i64 x.parent.count)).set g cap (i * 7 + 4) rfl (.int .i64 x.parent.who)).set g cap (i * 7 + 5) rfl (.string (BS x.name))
            rw [nds_put { n with parent := ⟨x.parent.count, n.parent.who⟩ } hgi (by omega) rfl, nds_put (n := { n with parent := ⟨x.parent.count, n.parent.who⟩ }) { n with parent := x.parent } (List.getElem?_set_self HIL.out) (by omega) rfl, List.set_set, nds_put (n := { n with parent := x.parent }) { n with parent := x.parent, name := x.name } (List.getElem?_set_self HIL.out) (by omega) rfl, List.set_set] at hr
            exact ⟨_, rfl, hr.heap rfl, ((((HB3.out.mono hbase).setCell (p := ⟨g, i * 7 + 3, none⟩) hbg (.int .i64 x.parent.count)).setCell (p := ⟨g, i * 7 + 4, none⟩) hbg (.int .i64 x.parent.who)).setCell (p := ⟨g, i * 7 + 5, none⟩) hbg (.string (BS x.name))).drew⟩)
      · by_cases hk3 : x.kind = 3
        · have hbk2 : (x.kind == 2) = false := by simp [hk2]
          have hbk3 : (x.kind == 3) = true := by simp [hk3]
          cases hd : n.dir
          · have ht : turnOf l x n = { n with manifest := x.manifest } := by unfold turnOf; rw [if_neg hk2, if_pos hk3, if_neg (by rw [hd]; simp)]
            rw [ht]
            clear h hwf hT hfd ha hk1 hdo hi hN hself hk2 hk3 ht hlen
            go_enter Tryd.func36, Tryd.ntmps36
            go_wp2_with fail
            rw [HW1.out]
            obtain ⟨c0, c1, c2, c3, c4, c5, c6, c7, c8, c9, c10⟩ := op_cells0 HOP1.out
            go_wp2_with fail
            refine (HAT.out _ (Nods.of_row HROW1.out)).mono ?_; rintro e w2 ⟨rfl, hb2⟩
            have HB2 := Go.Lib.hid (bstep HB1.out hb2); have HROW2 := Go.Lib.hid (HROW1.out.below hb2); have HT2 := Go.Lib.hid (HT1.out.on hb2); have HOP2 := Go.Lib.hid (HOP1.out.below hb2)
            clear c0 c1 c2 c3 c4 c5 c6 c7 c8 c9 c10
            obtain ⟨c0, c1, c2, c3, c4, c5, c6, c7, c8, c9, c10⟩ := op_cells0 HOP2.out
            clear hb2
            obtain ⟨hnd, hfz⟩ := HCELLS.out w2 HROW2.out
            obtain ⟨-, -, n2, -, -, -, n6⟩ := nd_cells hnd
            have f6 := hfz 6 (by omega)
            rw [hd] at n2
            clear hnd hfz hd
            go_wp2_with fail
            go_ret
            have hr := HROW2.out.set g cap (i * 7 + 6) rfl (.string (BS x.manifest))
            rw [nds_put { n with manifest := x.manifest } hgi (by omega) rfl] at hr
            exact ⟨_, rfl, hr, (HB2.out.mono hbase).setCell (p := ⟨g, i * 7 + 6, none⟩) hbg _⟩
          · have ht : turnOf l x n = n := by unfold turnOf; rw [if_neg hk2, if_pos hk3, if_pos hd]
            rw [ht, hself]
            clear h hwf hT hfd ha hk1 hdo hi hN hself hk2 hk3 ht hlen
            go_enter Tryd.func36, Tryd.ntmps36
            go_wp2_with fail
            rw [HW1.out]
            obtain ⟨c0, c1, c2, c3, c4, c5, c6, c7, c8, c9, c10⟩ := op_cells0 HOP1.out
            go_wp2_with fail
            refine (HAT.out _ (Nods.of_row HROW1.out)).mono ?_; rintro e w2 ⟨rfl, hb2⟩
            have HB2 := Go.Lib.hid (bstep HB1.out hb2); have HROW2 := Go.Lib.hid (HROW1.out.below hb2); have HT2 := Go.Lib.hid (HT1.out.on hb2); have HOP2 := Go.Lib.hid (HOP1.out.below hb2)
            clear c0 c1 c2 c3 c4 c5 c6 c7 c8 c9 c10
            obtain ⟨c0, c1, c2, c3, c4, c5, c6, c7, c8, c9, c10⟩ := op_cells0 HOP2.out
            clear hb2
            obtain ⟨hnd, hfz⟩ := HCELLS.out w2 HROW2.out
            obtain ⟨-, -, n2, -, -, -, n6⟩ := nd_cells hnd
            rw [hd] at n2
            have HB3 := Go.Lib.hid (HB2.out.mono hbase)
            clear hnd hfz hd
            go_wp2_with fail
            go_ret
            exact ⟨_, rfl, HROW2.out, HB3.out⟩
        · by_cases hk4 : x.kind = 4
          · have hbk2 : (x.kind == 2) = false := by simp [hk2]
            have hbk3 : (x.kind == 3) = false := by simp [hk3]
            have hbk4 : (x.kind == 4) = true := by simp [hk4]
            have ht : turnOf l x n = { n with parent := St.trash } := by unfold turnOf; rw [if_neg hk2, if_neg hk3, if_pos hk4]
            rw [ht]
            clear h hwf hT hfd ha hk1 hdo hi hN hself hk2 hk3 hk4 ht hlen
            go_enter Tryd.func36, Tryd.ntmps36
            go_wp2_with fail
            rw [HW1.out]
            obtain ⟨c0, c1, c2, c3, c4, c5, c6, c7, c8, c9, c10⟩ := op_cells0 HOP1.out
            go_wp2_with fail
            refine (HAT.out _ (Nods.of_row HROW1.out)).mono ?_; rintro e w2 ⟨rfl, hb2⟩
            have HB2 := Go.Lib.hid (bstep HB1.out hb2); have HROW2 := Go.Lib.hid (HROW1.out.below hb2); have HT2 := Go.Lib.hid (HT1.out.on hb2); have HOP2 := Go.Lib.hid (HOP1.out.below hb2)
            clear c0 c1 c2 c3 c4 c5 c6 c7 c8 c9 c10
            obtain ⟨c0, c1, c2, c3, c4, c5, c6, c7, c8, c9, c10⟩ := op_cells0 HOP2.out
            clear hb2
            obtain ⟨hnd, hfz⟩ := HCELLS.out w2 HROW2.out
            obtain ⟨-, -, -, n3, n4, -, -⟩ := nd_cells hnd
            have f3 := hfz 3 (by omega); have f4 := hfz 4 (by omega)
            obtain ⟨t0, t1, -, -⟩ := HT2.out
            clear hnd hfz
            go_wp2_with fail
            go_ret
            have hr := (HROW2.out.set g cap (i * 7 + 3) rfl (.int .i64 0)).set g cap (i * 7 + 4) rfl (.int .i64 1)
            rw [nds_put { n with parent := ⟨0, n.parent.who⟩ } hgi (by omega) rfl, nds_put (n := { n with parent := ⟨0, n.parent.who⟩ }) { n with parent := St.trash } (List.getElem?_set_self HIL.out) (by omega) rfl, List.set_set] at hr
            exact ⟨_, rfl, hr, ((HB2.out.mono hbase).setCell (p := ⟨g, i * 7 + 3, none⟩) hbg _).setCell (p := ⟨g, i * 7 + 4, none⟩) hbg _⟩
          · have hbk2 : (x.kind == 2) = false := by simp [hk2]
            have hbk3 : (x.kind == 3) = false := by simp [hk3]
            have hbk4 : (x.kind == 4) = false := by simp [hk4]
            have ht : turnOf l x n = n := by unfold turnOf; rw [if_neg hk2, if_neg hk3, if_neg hk4]
            rw [ht, hself]
            clear h hwf hT hfd ha hk1 hdo hi hN hself hk2 hk3 hk4 ht hlen
            go_enter Tryd.func36, Tryd.ntmps36
            go_wp2_with fail
            rw [HW1.out]
            obtain ⟨c0, c1, c2, c3, c4, c5, c6, c7, c8, c9, c10⟩ := op_cells0 HOP1.out
            go_wp2_with fail
            refine (HAT.out _ (Nods.of_row HROW1.out)).mono ?_; rintro e w2 ⟨rfl, hb2⟩
            have HB2 := Go.Lib.hid (bstep HB1.out hb2); have HROW2 := Go.Lib.hid (HROW1.out.below hb2); have HT2 := Go.Lib.hid (HT1.out.on hb2); have HOP2 := Go.Lib.hid (HOP1.out.below hb2)
            clear c0 c1 c2 c3 c4 c5 c6 c7 c8 c9 c10
            obtain ⟨c0, c1, c2, c3, c4, c5, c6, c7, c8, c9, c10⟩ := op_cells0 HOP2.out
            clear hb2
            have HB3 := Go.Lib.hid (HB2.out.mono hbase)
            go_wp2_with fail
            go_ret
            exact ⟨_, rfl, HROW2.out, HB3.out⟩
end Go.Proofs.YtjeijolblcodpaaDoor.W
