/- The walks of layer 7's laws: TreeChains. -/
import Derived.Test.YthcoldjncpiffaaDoorTreeE
namespace Go.Proofs.YthcoldjncpiffaaDoor.W
set_option linter.unusedVariables false
open Go.RowKit Go.Proofs Arb

/-- The stamp's block and the two nodes'. -/
abbrev Three (w : World) (b g1 g2 : Nat) (s : St) (y : Nod) : Prop := StAt w b 0 s ∧ NodAt w g1 0 y ∧ NodAt w g2 0 y
theorem three_below {w w' : World} {b g1 g2 : Nat} {s : St} {y : Nod} (h : Three w b g1 g2 s y) (hb : Below w.heap.size w w') : Three w' b g1 g2 s y := ⟨h.1.below hb, h.2.1.below hb, h.2.2.below hb⟩

set_option maxRecDepth 20000 in
set_option maxHeartbeats 16000000 in
theorem treeChains_go (v : Value) (l : List Nod) (s : St) (w : World) (h : Nods w v l) (hwf : ∀ x ∈ l, ndWf x) (hTM : TMet w) :
    Calls Tryd.prog 5 #[v, .agg #[.int .i64 s.count, .int .i64 s.who]] w fun e w' => e = .returned (.bool true) ∧ Below w.heap.size w w' := by
  have HTM := Go.Lib.hid hTM
  clear hTM
  have hb0 : Below w.heap.size w (w.alloc (.cells #[.int .i64 s.count, .int .i64 s.who] 30)) := (Below.refl _ _).alloc (Nat.le_refl _) _
  obtain ⟨W0, hW0⟩ : ∃ W, w.alloc (.cells #[.int .i64 s.count, .int .i64 s.who] 30) = W := ⟨_, rfl⟩
  have hst0' : StAt W0 w.heap.size 0 s := by rw [← hW0]; exact StAt.new w s _
  rw [hW0] at hb0
  have hv0 := h.below hb0
  have hF := some7_any v l W0 hv0 (ndWf_len hwf)
  obtain ⟨b, hb⟩ : ∃ b, some7 l = b := ⟨_, rfl⟩
  rw [hb] at hF
  have HF := Go.Lib.hid hF; have HV := Go.Lib.hid hv0; have HW0 := Go.Lib.hid hW0; have HB0 := Go.Lib.hid hb0; have HST := Go.Lib.hid hst0'
  clear hF hv0 hW0 hb0 hst0'
  cases b
  · clear hb h
    go_enter Tryd.func5, Tryd.ntmps5
    go_wp2_with fail
    rw [HW0.out]
    go_wp2_with (first
      | (go_at_call 16; with_reducible refine HF.out.mono ?_; rintro e w1 ⟨rfl, rfl⟩)
      | (go_at_call 15; with_reducible refine (awake_any _ (by first | exact HTM.out | exact HTM.out.far (by assumption))).mono ?_; rintro e w5 ⟨rfl, hb⟩; have HB5 := Go.Lib.hid (bstep HB0.out hb); clear hb))
    go_ret
    exact ⟨rfl, HB5.out⟩
  · have hln := (some7_true hb).1
    obtain ⟨y, fb, hy⟩ : ∃ y fb, foundOf l s = (y, fb) := ⟨_, _, rfl⟩
    have hcl := children_length l s
    have hchl := chainOf_length l s
    have hP := fun w h => ptfind_out v l s w y fb hy h (by omega) hwf
    have hR := fun w h => rfind7_out v l s w y fb hy h (by omega)
    have hPC := fun w h => ptchain_any v l s w h (by omega) hwf
    have hRC := fun w h => rchain7_any v l s w h (by omega)
    have hPH := fun w h => ptchildren_any v l s w h (by omega) hwf
    have hRH := fun w h => rchildren7_any v l s w h (by omega)
    have hS := fun u v w hu hv => rsamends_any u v (childrenOf l s) (childrenOf l s) w hu hv (by omega) (by omega)
    have hSS := fun u v w hu hv => rstamps_any u v (chainOf l s) (chainOf l s) w hu hv (by omega) (by omega)
    rw [decide_eq_true rfl] at hS hSS
    have hq := fun w => eq_nd' y y w
    rw [decide_eq_true rfl] at hq
    have hbb : (fb == fb) = true := by simp
    have HP := Go.Lib.hid hP; have HR := Go.Lib.hid hR; have HPC := Go.Lib.hid hPC; have HRC := Go.Lib.hid hRC; have HPH := Go.Lib.hid hPH; have HRH := Go.Lib.hid hRH; have HS := Go.Lib.hid hS; have HSS := Go.Lib.hid hSS
    clear hP hR hPC hRC hPH hRH hS hSS hcl hchl hb h hy hwf
    obtain ⟨c0, c1⟩ := st_cells0 HST.out
    go_enter Tryd.func5, Tryd.ntmps5
    go_wp2_with fail
    rw [HW0.out]
    go_wp2_with (first
      | (go_at_call 16; with_reducible refine HF.out.mono ?_; rintro e w1 ⟨rfl, rfl⟩)
      | (go_at_call 19; with_reducible refine (HP.out _ HV.out).mono ?_; rintro e w2 ⟨rfl, hb⟩; have HV2 := Go.Lib.hid ((HV.out.below hb).below ((Below.refl w2.heap.size w2).alloc (Nat.le_refl _) (.cells #[.int .i64 y.id.count, .int .i64 y.id.who, .bool y.dir, .int .i64 y.parent.count, .int .i64 y.parent.who, .string (BS y.name), .string (BS y.manifest)] 37))); have HB2 := Go.Lib.hid ((bstep HB0.out hb).alloc (bstep HB0.out hb).size (.cells #[.int .i64 y.id.count, .int .i64 y.id.who, .bool y.dir, .int .i64 y.parent.count, .int .i64 y.parent.who, .string (BS y.name), .string (BS y.manifest)] 37)); have HY2 := Go.Lib.hid (nod_new w2 y); have hs2 := (HST.out.below hb).below ((Below.refl w2.heap.size w2).alloc (Nat.le_refl _) (.cells #[.int .i64 y.id.count, .int .i64 y.id.who, .bool y.dir, .int .i64 y.parent.count, .int .i64 y.parent.who, .string (BS y.name), .string (BS y.manifest)] 37)); have HS2 := Go.Lib.hid hs2; obtain ⟨d0, d1⟩ := st_cells0 hs2; clear hb hs2)
      | (go_at_call 20; with_reducible refine (HR.out _ HV2.out).mono ?_; rintro e w3 ⟨rfl, hb⟩; have HB3 := Go.Lib.hid ((bstep HB2.out hb).alloc (bstep HB2.out hb).size (.cells #[.int .i64 y.id.count, .int .i64 y.id.who, .bool y.dir, .int .i64 y.parent.count, .int .i64 y.parent.who, .string (BS y.name), .string (BS y.manifest)] 37)); have HV3 := Go.Lib.hid ((HV2.out.below hb).below ((Below.refl w3.heap.size w3).alloc (Nat.le_refl _) (.cells #[.int .i64 y.id.count, .int .i64 y.id.who, .bool y.dir, .int .i64 y.parent.count, .int .i64 y.parent.who, .string (BS y.name), .string (BS y.manifest)] 37))); have HY3 := Go.Lib.hid ((HY2.out.below hb).below ((Below.refl w3.heap.size w3).alloc (Nat.le_refl _) (.cells #[.int .i64 y.id.count, .int .i64 y.id.who, .bool y.dir, .int .i64 y.parent.count, .int .i64 y.parent.who, .string (BS y.name), .string (BS y.manifest)] 37))); have HZ3 := Go.Lib.hid (nod_new w3 y); have HS3 := Go.Lib.hid ((HS2.out.below hb).below ((Below.refl w3.heap.size w3).alloc (Nat.le_refl _) (.cells #[.int .i64 y.id.count, .int .i64 y.id.who, .bool y.dir, .int .i64 y.parent.count, .int .i64 y.parent.who, .string (BS y.name), .string (BS y.manifest)] 37))); clear hb c0 c1 d0 d1))
    obtain ⟨W4, hW4⟩ : ∃ W, w3.alloc (.cells #[.int .i64 y.id.count, .int .i64 y.id.who, .bool y.dir, .int .i64 y.parent.count, .int .i64 y.parent.who, .string (BS y.name), .string (BS y.manifest)] 37) = W := ⟨_, rfl⟩
    obtain ⟨g1, hg1⟩ : ∃ g, w2.heap.size = g := ⟨_, rfl⟩
    obtain ⟨g2, hg2⟩ : ∃ g, w3.heap.size = g := ⟨_, rfl⟩
    have hv4 := HV3.out
    have hy4 := HY3.out
    have hz4 := HZ3.out
    have hs4 := HS3.out
    have hb4 := HB3.out
    rw [hW4] at hv4 hy4 hz4 hs4 hb4
    rw [hg1] at hy4
    rw [hg2] at hz4
    rw [hW4, hg1, hg2]
    have hthree : Three W4 w.heap.size g1 g2 s y := ⟨hs4, hy4, hz4⟩
    obtain ⟨c0, c1⟩ := st_cells0 hs4
    obtain ⟨d0, d1, d2, d3, d4, d5, d6⟩ := nd_cells0 hy4
    obtain ⟨e0, e1, e2, e3, e4, e5, e6⟩ := nd_cells0 hz4
    have HT4 := Go.Lib.hid (three_below hthree (Below.refl W4.heap.size W4).drew); have HV4 := Go.Lib.hid (hv4.below (Below.refl W4.heap.size W4).drew); have HB4 := Go.Lib.hid hb4.drew
    clear hv4 hy4 hz4 hs4 hb4 hthree hW4 hg1 hg2 HV3 HY3 HZ3 HS3 HB3 HV2 HB2 HY2 HS2
    first | (go_region_held3 (fun w' => w'.cell? ⟨w.heap.size, 0, none⟩ = some (.int .i64 s.count) ∧ w'.cell? ⟨w.heap.size, 1, none⟩ = some (.int .i64 s.who) ∧ w'.cell? ⟨g1, 0, none⟩ = some (.int .i64 y.id.count) ∧ w'.cell? ⟨g1, 1, none⟩ = some (.int .i64 y.id.who) ∧ w'.cell? ⟨g1, 2, none⟩ = some (.bool y.dir) ∧ w'.cell? ⟨g1, 3, none⟩ = some (.int .i64 y.parent.count) ∧ w'.cell? ⟨g1, 4, none⟩ = some (.int .i64 y.parent.who) ∧ w'.cell? ⟨g1, 5, none⟩ = some (.string (BS y.name)) ∧ w'.cell? ⟨g1, 6, none⟩ = some (.string (BS y.manifest)) ∧ w'.cell? ⟨g2, 0, none⟩ = some (.int .i64 y.id.count) ∧ w'.cell? ⟨g2, 1, none⟩ = some (.int .i64 y.id.who) ∧ w'.cell? ⟨g2, 2, none⟩ = some (.bool y.dir) ∧ w'.cell? ⟨g2, 3, none⟩ = some (.int .i64 y.parent.count) ∧ w'.cell? ⟨g2, 4, none⟩ = some (.int .i64 y.parent.who) ∧ w'.cell? ⟨g2, 5, none⟩ = some (.string (BS y.name)) ∧ w'.cell? ⟨g2, 6, none⟩ = some (.string (BS y.manifest)))
      (first | exact ⟨c0, c1, d0, d1, d2, d3, d4, d5, d6, e0, e1, e2, e3, e4, e5, e6⟩ | exact ⟨cell_more c0, cell_more c1, cell_more d0, cell_more d1, cell_more d2, cell_more d3, cell_more d4, cell_more d5, cell_more d6, cell_more e0, cell_more e1, cell_more e2, cell_more e3, cell_more e4, cell_more e5, cell_more e6⟩)
      (first
      | (go_at_call 22; with_reducible refine (HPC.out _ HV4.out).mono ?_; rintro e w5 ⟨u5, rfl, hs5, hb⟩; have HT5 := Go.Lib.hid (three_below HT4.out hb); have HV5 := Go.Lib.hid (HV4.out.below hb); have HB5 := Go.Lib.hid (bstep HB4.out hb); obtain ⟨c0, c1⟩ := st_cells0 (HT5.out).1; obtain ⟨d0, d1, d2, d3, d4, d5, d6⟩ := nd_cells0 (HT5.out).2.1; obtain ⟨e0, e1, e2, e3, e4, e5, e6⟩ := nd_cells0 (HT5.out).2.2; have HU5 := Go.Lib.hid hs5; clear hs5; clear hb)
      | (go_at_call 23; with_reducible refine (HRC.out _ HV5.out).mono ?_; rintro e w6 ⟨u6, rfl, hs6, hb⟩; have HT6 := Go.Lib.hid (three_below HT5.out hb); have HV6 := Go.Lib.hid (HV5.out.below hb); have HB6 := Go.Lib.hid (bstep HB5.out hb); obtain ⟨c0, c1⟩ := st_cells0 (HT6.out).1; obtain ⟨d0, d1, d2, d3, d4, d5, d6⟩ := nd_cells0 (HT6.out).2.1; obtain ⟨e0, e1, e2, e3, e4, e5, e6⟩ := nd_cells0 (HT6.out).2.2; have HU6 := Go.Lib.hid hs6; have HU56 := Go.Lib.hid (HU5.out.below hb); clear hs6; clear hb)
      | (go_at_call 21; with_reducible refine (HSS.out _ _ _ HU56.out HU6.out).mono ?_; rintro e w7 ⟨rfl, hb⟩; have HT7 := Go.Lib.hid (three_below HT6.out hb); have HV7 := Go.Lib.hid (HV6.out.below hb); have HB7 := Go.Lib.hid (bstep HB6.out hb); obtain ⟨c0, c1⟩ := st_cells0 (HT7.out).1; obtain ⟨d0, d1, d2, d3, d4, d5, d6⟩ := nd_cells0 (HT7.out).2.1; obtain ⟨e0, e1, e2, e3, e4, e5, e6⟩ := nd_cells0 (HT7.out).2.2; clear hb)
      | (go_at_call 24; with_reducible refine (HPH.out _ HV7.out).mono ?_; rintro e w8 ⟨u8, rfl, hs8, hb⟩; have HT8 := Go.Lib.hid (three_below HT7.out hb); have HV8 := Go.Lib.hid (HV7.out.below hb); have HB8 := Go.Lib.hid (bstep HB7.out hb); obtain ⟨c0, c1⟩ := st_cells0 (HT8.out).1; obtain ⟨d0, d1, d2, d3, d4, d5, d6⟩ := nd_cells0 (HT8.out).2.1; obtain ⟨e0, e1, e2, e3, e4, e5, e6⟩ := nd_cells0 (HT8.out).2.2; have HU8 := Go.Lib.hid hs8; clear hs8; clear hb)
      | (go_at_call 25; with_reducible refine (HRH.out _ HV8.out).mono ?_; rintro e w9 ⟨u9, rfl, hs9, hb⟩; have HT9 := Go.Lib.hid (three_below HT8.out hb); have HV9 := Go.Lib.hid (HV8.out.below hb); have HB9 := Go.Lib.hid (bstep HB8.out hb); obtain ⟨c0, c1⟩ := st_cells0 (HT9.out).1; obtain ⟨d0, d1, d2, d3, d4, d5, d6⟩ := nd_cells0 (HT9.out).2.1; obtain ⟨e0, e1, e2, e3, e4, e5, e6⟩ := nd_cells0 (HT9.out).2.2; have HU9 := Go.Lib.hid hs9; have HU89 := Go.Lib.hid (HU8.out.below hb); clear hs9; clear hb)
      | (go_at_call 12; with_reducible refine (HS.out _ _ _ HU89.out HU9.out).mono ?_; rintro e w10 ⟨rfl, hb⟩; have HT10 := Go.Lib.hid (three_below HT9.out hb); have HV10 := Go.Lib.hid (HV9.out.below hb); have HB10 := Go.Lib.hid (bstep HB9.out hb); obtain ⟨c0, c1⟩ := st_cells0 (HT10.out).1; obtain ⟨d0, d1, d2, d3, d4, d5, d6⟩ := nd_cells0 (HT10.out).2.1; obtain ⟨e0, e1, e2, e3, e4, e5, e6⟩ := nd_cells0 (HT10.out).2.2; clear hb)
      | (go_at_call 15; with_reducible refine (awake_any _ (by first | exact HTM.out | exact HTM.out.far (by assumption))).mono ?_; rintro e w11 ⟨rfl, hb⟩; have HT11 := Go.Lib.hid (three_below HT10.out hb); have HV11 := Go.Lib.hid (HV10.out.below hb); have HB11 := Go.Lib.hid (bstep HB10.out hb); obtain ⟨c0, c1⟩ := st_cells0 (HT11.out).1; obtain ⟨d0, d1, d2, d3, d4, d5, d6⟩ := nd_cells0 (HT11.out).2.1; obtain ⟨e0, e1, e2, e3, e4, e5, e6⟩ := nd_cells0 (HT11.out).2.2; clear hb))) | fail
    all_goals (
      go_wp2_with fail
      go_ret
      exact ⟨rfl, HB11.out⟩)
theorem treeChains_walk (A : Option Addr) (n c : Nat) (l : List Nod) (w : World) (hs : Sl w 7 A n c (l.map ndCells)) (_ : c * 72 ≤ 140737488351232) (hl : ∀ y ∈ l, ndWf y) (_ : l.length = n) (s : St) (_ : stWf s) (hTM : TMet w) :
    Calls Tryd.prog 5 #[.slice A n c, .agg (stCells s).toArray] w fun e w' => e = .returned (.bool true) ∧ Below w.heap.size w w' :=
  treeChains_go _ l s w (Nods.of_sl hs) hl hTM
end Go.Proofs.YthcoldjncpiffaaDoor.W
