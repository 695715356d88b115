/- The walks of layer 7's laws: TreeLast. -/
import Derived.Test.YthcoldjncpiffaaDoorTreeD
namespace Go.Proofs.YthcoldjncpiffaaDoor.W
set_option linter.unusedVariables false
open Go.RowKit Go.Proofs Arb

set_option maxRecDepth 20000 in
set_option maxHeartbeats 8000000 in
theorem treeLast_go (v : Value) (l : List Opn) (x : Opn) (w : World) (h : Opns w v l) (hwf : ∀ x ∈ l, opWf x) (hx : opWf x) (hTM : TMet w) :
    Calls Tryd.prog 8 #[v, .agg (opCells x).toArray] w fun e w' => e = .returned (.bool true) ∧ Below w.heap.size w w' := by
  have HTM := Go.Lib.hid hTM
  clear hTM
  have hb0 : Below w.heap.size w (w.alloc (.cells (opArr x) 32)) := (Below.refl _ _).alloc (Nat.le_refl _) _
  have hop := OpAt.new w x 32
  have hv := h.below hb0
  obtain ⟨W0, hW0⟩ : ∃ W, w.alloc (.cells (opArr x) 32) = W := ⟨_, rfl⟩
  rw [hW0] at hb0 hop hv
  unfold opArr opCells at hW0
  unfold opCells
  have hF := few7_any v l W0 hv (opWf_len hwf)
  have hF1 : ∀ W : World, Calls Tryd.prog 11 #[.slice (some ⟨W.heap.size, 0, none⟩) 1 1] (W.alloc (.cells #[.int .i64 x.stamp.count, .int .i64 x.stamp.who, .int .i64 x.seq, .int .i64 x.kind, .int .i64 x.node.count, .int .i64 x.node.who, .bool x.dir, .int .i64 x.parent.count, .int .i64 x.parent.who, .string (BS x.name), .string (BS x.manifest)] 32)) fun e w' => e = .returned (.bool (few7 [x])) ∧ W.alloc (.cells #[.int .i64 x.stamp.count, .int .i64 x.stamp.who, .int .i64 x.seq, .int .i64 x.kind, .int .i64 x.node.count, .int .i64 x.node.who, .bool x.dir, .int .i64 x.parent.count, .int .i64 x.parent.who, .string (BS x.name), .string (BS x.manifest)] 32) = w' := fun W =>
    few7_any _ [x] _ (Opns.ofBlock [x] 1 rfl (heap_alloc_new W (.cells (opArr x) 32)) (by simp [opArr])) (by simp [hx.2.2.2.2.2])
  obtain ⟨b, hb⟩ : ∃ b, few7 l = b := ⟨_, rfl⟩
  obtain ⟨b1, hb1⟩ : ∃ b, few7 [x] = b := ⟨_, rfl⟩
  obtain ⟨o, ho⟩ : ∃ b, ownOf l = b := ⟨_, rfl⟩
  rw [hb] at hF
  rw [hb1] at hF1
  obtain ⟨A, c, rfl, hc⟩ := h.len
  obtain ⟨n, hnn⟩ : ∃ n, l.length = n := ⟨_, rfl⟩
  rw [hnn] at h hc hF hv
  rw [hnn]
  have HF := Go.Lib.hid hF; have HF1 := Go.Lib.hid hF1; have HV := Go.Lib.hid hv; have HB0 := Go.Lib.hid hb0; have HOP := Go.Lib.hid hop; have HW0 := Go.Lib.hid hW0; have HWF := Go.Lib.hid hwf; have HX := Go.Lib.hid hx
  clear hF hF1 hv hb0 hop hW0 hwf hx h
  obtain ⟨c0, c1, c2, c3, c4, c5, c6, c7, c8, c9, c10⟩ := op_cells0 HOP.out
  cases b
  · clear hb hb1 ho
    go_enter Tryd.func8, Tryd.ntmps8
    go_wp2_with fail
    rw [HW0.out]
    go_wp2_with (first
      | (go_at_call 11; with_reducible refine HF.out.mono ?_; rintro e w1 ⟨rfl, rfl⟩)
      | (go_at_call 15; with_reducible refine (awake_any _ (by first | exact HTM.out | exact HTM.out.far (by assumption))).mono ?_; rintro e w9 ⟨rfl, hb⟩; have HB9 := Go.Lib.hid (bstep (HB0.out) hb); clear hb))
    go_ret
    exact ⟨rfl, HB9.out⟩
  by_cases h100 : 100 < n
  · have h100' : (100 : Int) < (n : Int) := by omega
    have hd100 : decide ((100 : Int) < (n : Int)) = true := decide_eq_true h100'
    clear hb hb1 ho
    go_enter Tryd.func8, Tryd.ntmps8
    go_wp2_with fail
    rw [HW0.out]
    go_wp2_with (first
      | (go_at_call 11; with_reducible refine HF.out.mono ?_; rintro e w1 ⟨rfl, rfl⟩)
      | (go_at_call 15; with_reducible refine (awake_any _ (by first | exact HTM.out | exact HTM.out.far (by assumption))).mono ?_; rintro e w9 ⟨rfl, hb⟩; have HB9 := Go.Lib.hid (bstep (HB0.out) hb); clear hb))
    go_ret
    exact ⟨rfl, HB9.out⟩
  have h100' : ¬ (100 : Int) < (n : Int) := by omega
  have hd100 : decide ((100 : Int) < (n : Int)) = false := decide_eq_false h100'
  have hO := rown_any _ l W0 HV.out (by omega)
  rw [ho] at hO
  have HO := Go.Lib.hid hO; clear hO
  cases o
  · clear hb hb1 ho
    go_enter Tryd.func8, Tryd.ntmps8
    go_wp2_with fail
    rw [HW0.out]
    go_wp2_with (first
      | (go_at_call 11; with_reducible refine HF.out.mono ?_; rintro e w1 ⟨rfl, rfl⟩)
      | (go_at_call 26; with_reducible refine HO.out.mono ?_; rintro e w2 ⟨rfl, hb⟩; have HB2 := Go.Lib.hid (bstep HB0.out hb); have HOP2 := Go.Lib.hid (HOP.out.below hb); have HV2 := Go.Lib.hid (HV.out.below hb); clear c0 c1 c2 c3 c4 c5 c6 c7 c8 c9 c10; obtain ⟨c0, c1, c2, c3, c4, c5, c6, c7, c8, c9, c10⟩ := op_cells0 HOP2.out; clear hb)
      | (go_at_call 15; with_reducible refine (awake_any _ (by first | exact HTM.out | exact HTM.out.far (by assumption))).mono ?_; rintro e w9 ⟨rfl, hb⟩; have HB9 := Go.Lib.hid (bstep (HB2.out) hb); clear hb))
    go_ret
    exact ⟨rfl, HB9.out⟩
  cases b1
  · clear hb hb1 ho
    go_enter Tryd.func8, Tryd.ntmps8
    go_wp2_with fail
    rw [HW0.out]
    go_wp2_with (first
      | (go_at_call 11; with_reducible refine HF.out.mono ?_; rintro e w1 ⟨rfl, rfl⟩)
      | (go_at_call 26; with_reducible refine HO.out.mono ?_; rintro e w2 ⟨rfl, hb⟩; have HB2 := Go.Lib.hid (bstep HB0.out hb); have HOP2 := Go.Lib.hid (HOP.out.below hb); have HV2 := Go.Lib.hid (HV.out.below hb); clear c0 c1 c2 c3 c4 c5 c6 c7 c8 c9 c10; obtain ⟨c0, c1, c2, c3, c4, c5, c6, c7, c8, c9, c10⟩ := op_cells0 HOP2.out; clear hb)
      | (go_at_call 11; with_reducible refine (HF1.out _).mono ?_; rintro e w3 ⟨rfl, rfl⟩; obtain ⟨d0, d1, d2, d3, d4, d5, d6, d7, d8, d9, d10⟩ := op_cells0 (HOP2.out.below ((Below.refl w2.heap.size w2).alloc (Nat.le_refl _) (.cells #[.int .i64 x.stamp.count, .int .i64 x.stamp.who, .int .i64 x.seq, .int .i64 x.kind, .int .i64 x.node.count, .int .i64 x.node.who, .bool x.dir, .int .i64 x.parent.count, .int .i64 x.parent.who, .string (BS x.name), .string (BS x.manifest)] 32))))
      | (go_at_call 15; with_reducible refine (awake_any _ (HTM.out.on (HB2.out.alloc HB2.out.size _))).mono ?_; rintro e w9 ⟨rfl, hb⟩; have HB9 := Go.Lib.hid (bstep (HB2.out.alloc HB2.out.size (.cells #[.int .i64 x.stamp.count, .int .i64 x.stamp.who, .int .i64 x.seq, .int .i64 x.kind, .int .i64 x.node.count, .int .i64 x.node.who, .bool x.dir, .int .i64 x.parent.count, .int .i64 x.parent.who, .string (BS x.name), .string (BS x.manifest)] 32)) hb); clear hb))
    go_ret
    exact ⟨rfl, HB9.out⟩
  by_cases hk : x.kind = 1
  · have hbk : (x.kind == 1) = true := by simp [hk]
    clear hb hb1 ho hk
    go_enter Tryd.func8, Tryd.ntmps8
    go_wp2_with fail
    rw [HW0.out]
    go_wp2_with (first
      | (go_at_call 11; with_reducible refine HF.out.mono ?_; rintro e w1 ⟨rfl, rfl⟩)
      | (go_at_call 26; with_reducible refine HO.out.mono ?_; rintro e w2 ⟨rfl, hb⟩; have HB2 := Go.Lib.hid (bstep HB0.out hb); have HOP2 := Go.Lib.hid (HOP.out.below hb); have HV2 := Go.Lib.hid (HV.out.below hb); clear c0 c1 c2 c3 c4 c5 c6 c7 c8 c9 c10; obtain ⟨c0, c1, c2, c3, c4, c5, c6, c7, c8, c9, c10⟩ := op_cells0 HOP2.out; clear hb)
      | (go_at_call 11; with_reducible refine (HF1.out _).mono ?_; rintro e w3 ⟨rfl, rfl⟩; obtain ⟨d0, d1, d2, d3, d4, d5, d6, d7, d8, d9, d10⟩ := op_cells0 (HOP2.out.below ((Below.refl w2.heap.size w2).alloc (Nat.le_refl _) (.cells #[.int .i64 x.stamp.count, .int .i64 x.stamp.who, .int .i64 x.seq, .int .i64 x.kind, .int .i64 x.node.count, .int .i64 x.node.who, .bool x.dir, .int .i64 x.parent.count, .int .i64 x.parent.who, .string (BS x.name), .string (BS x.manifest)] 32))))
      | (go_at_call 15; with_reducible refine (awake_any _ (HTM.out.on (HB2.out.alloc HB2.out.size _))).mono ?_; rintro e w9 ⟨rfl, hb⟩; have HB9 := Go.Lib.hid (bstep (HB2.out.alloc HB2.out.size (.cells #[.int .i64 x.stamp.count, .int .i64 x.stamp.who, .int .i64 x.seq, .int .i64 x.kind, .int .i64 x.node.count, .int .i64 x.node.who, .bool x.dir, .int .i64 x.parent.count, .int .i64 x.parent.who, .string (BS x.name), .string (BS x.manifest)] 32)) hb); clear hb))
    go_ret
    exact ⟨rfl, HB9.out⟩
  · have hbk : (x.kind == 1) = false := by simp [hk]
    have hfw := foldOf_wf HWF.out
    have hfl := foldOf_length l
    have hdw := doOf_wf hfw HX.out
    have hdl := doOf_length (foldOf l) x
    have htw := doOf_twice (foldOf l) x hk
    have hP := fun v w h hT => ptfold_any v l w h (by omega) HWF.out hT
    have hD := fun v w h hT => ptdo_any v (foldOf l) x w h (by omega) hfw HX.out hT
    have hD2 := fun v w h hT => ptdo_any v (doOf (foldOf l) x) x w h (by omega) hdw HX.out hT
    rw [htw] at hD2
    have hS := fun u v w hu hv => rsamends_any u v (doOf (foldOf l) x) (doOf (foldOf l) x) w hu hv (by omega) (by omega)
    rw [decide_eq_true rfl] at hS
    unfold opVal at hD hD2
    unfold opArr opCells at hD hD2
    have HP := Go.Lib.hid hP; have HD := Go.Lib.hid hD; have HD2 := Go.Lib.hid hD2; have HS := Go.Lib.hid hS
    clear hP hD hD2 hS hfw hfl hdw hdl htw hb hb1 ho hk
    go_enter Tryd.func8, Tryd.ntmps8
    go_wp2_with fail
    rw [HW0.out]
    go_wp2_with (first
      | (go_at_call 11; with_reducible refine HF.out.mono ?_; rintro e w1 ⟨rfl, rfl⟩)
      | (go_at_call 26; with_reducible refine HO.out.mono ?_; rintro e w2 ⟨rfl, hb⟩; have HB2 := Go.Lib.hid (bstep HB0.out hb); have HOP2 := Go.Lib.hid (HOP.out.below hb); have HV2 := Go.Lib.hid (HV.out.below hb); clear c0 c1 c2 c3 c4 c5 c6 c7 c8 c9 c10; obtain ⟨c0, c1, c2, c3, c4, c5, c6, c7, c8, c9, c10⟩ := op_cells0 HOP2.out; clear hb)
      | (go_at_call 11; with_reducible refine (HF1.out _).mono ?_; rintro e w3 ⟨rfl, rfl⟩; obtain ⟨d0, d1, d2, d3, d4, d5, d6, d7, d8, d9, d10⟩ := op_cells0 (HOP2.out.below ((Below.refl w2.heap.size w2).alloc (Nat.le_refl _) (.cells #[.int .i64 x.stamp.count, .int .i64 x.stamp.who, .int .i64 x.seq, .int .i64 x.kind, .int .i64 x.node.count, .int .i64 x.node.who, .bool x.dir, .int .i64 x.parent.count, .int .i64 x.parent.who, .string (BS x.name), .string (BS x.manifest)] 32)))))
    clear d0 d1 d2 d3 d4 d5 d6 d7 d8 d9 d10 c0 c1 c2 c3 c4 c5 c6 c7 c8 c9 c10
    obtain ⟨W3, hW3⟩ : ∃ W, w2.alloc (.cells #[.int .i64 x.stamp.count, .int .i64 x.stamp.who, .int .i64 x.seq, .int .i64 x.kind, .int .i64 x.node.count, .int .i64 x.node.who, .bool x.dir, .int .i64 x.parent.count, .int .i64 x.parent.who, .string (BS x.name), .string (BS x.manifest)] 32) = W := ⟨_, rfl⟩
    have hbw3 : Below w.heap.size w W3 := by rw [← hW3]; exact HB2.out.alloc HB2.out.size _
    have hb23 : Below w2.heap.size w2 W3 := by rw [← hW3]; exact (Below.refl _ _).alloc (Nat.le_refl _) _
    have hv3 := (HV2.out.below hb23).below (Below.refl W3.heap.size W3).drew
    have hop3 := HOP2.out.below hb23
    have hop3d := hop3.below (Below.refl W3.heap.size W3).drew
    have hbw3d : Below w.heap.size w W3.drew := hbw3.drew
    rw [hW3]
    have HV3 := Go.Lib.hid hv3; have HOP3 := Go.Lib.hid hop3; have HOP3D := Go.Lib.hid hop3d; have HBW3 := Go.Lib.hid hbw3d
    clear hbw3 hb23 hv3 hop3 hop3d hbw3d hW3
    obtain ⟨c0, c1, c2, c3, c4, c5, c6, c7, c8, c9, c10⟩ := op_cells0 HOP3.out
    first | (go_region_with (first
      | (go_at_call 13; with_reducible refine (HP.out _ _ HV3.out (by first | exact HTM.out | exact HTM.out.far (by assumption))).mono ?_; rintro e w4 ⟨v4, rfl, hn4, hb⟩; have HN4 := Go.Lib.hid hn4; have HB4 := Go.Lib.hid (bstep HBW3.out hb); have HOP4 := Go.Lib.hid (HOP3D.out.below hb); clear hn4 hb c0 c1 c2 c3 c4 c5 c6 c7 c8 c9 c10; obtain ⟨d0, d1, d2, d3, d4, d5, d6, d7, d8, d9, d10⟩ := op_cells0 HOP4.out)
      | (go_at_call 17; with_reducible refine (HD.out _ _ HN4.out (by first | exact HTM.out | exact HTM.out.far (by assumption))).mono ?_; rintro e w5 ⟨v5, rfl, hn5, hb⟩; have HN5 := Go.Lib.hid hn5; have HB5 := Go.Lib.hid (bstep HB4.out hb); have HOP5 := Go.Lib.hid (HOP4.out.below hb); clear hn5 hb d0 d1 d2 d3 d4 d5 d6 d7 d8 d9 d10))) | fail
    all_goals (
      obtain ⟨c0, c1, c2, c3, c4, c5, c6, c7, c8, c9, c10⟩ := op_cells0 HOP5.out
      go_wp2_with (first
        | (go_at_call 17; with_reducible refine (HD2.out _ _ HN5.out (by first | exact HTM.out | exact HTM.out.far (by assumption))).mono ?_; rintro e w6 ⟨v6, rfl, hn6, hb⟩; have HN6 := Go.Lib.hid hn6; have HN56 := Go.Lib.hid (HN5.out.below hb); have HB6 := Go.Lib.hid (bstep HB5.out hb); clear hn6 hb)
        | (go_at_call 12; with_reducible refine (HS.out _ _ _ HN6.out HN56.out).mono ?_; rintro e w7 ⟨rfl, hb⟩; have HB7 := Go.Lib.hid (bstep HB6.out hb); clear hb)
        | (go_at_call 15; with_reducible refine (awake_any _ (by first | exact HTM.out | exact HTM.out.far (by assumption))).mono ?_; rintro e w9 ⟨rfl, hb⟩; have HB9 := Go.Lib.hid (bstep (HB7.out) hb); clear hb))
      go_ret
      exact ⟨rfl, HB9.out⟩)
theorem treeLast_walk (A : Option Addr) (n c : Nat) (l : List Opn) (w : World) (hs : Sl w 11 A n c (l.map opCells)) (_ : c * 104 ≤ 140737488351232) (hl : ∀ y ∈ l, opWf y) (_ : l.length = n) (x : Opn) (hx : opWf x) (hTM : TMet w) :
    Calls Tryd.prog 8 #[.slice A n c, .agg (opCells x).toArray] w fun e w' => e = .returned (.bool true) ∧ Below w.heap.size w w' :=
  treeLast_go _ l x w (Opns.of_sl hs) hl hx hTM
end Go.Proofs.YthcoldjncpiffaaDoor.W
