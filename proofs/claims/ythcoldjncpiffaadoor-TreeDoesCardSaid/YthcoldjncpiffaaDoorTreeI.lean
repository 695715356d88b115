/- The walks of layer 7's laws: TreeDoes. -/
import Derived.Test.YthcoldjncpiffaaDoorTreeD
namespace Go.Proofs.YthcoldjncpiffaaDoor.W
set_option linter.unusedVariables false
open Go.RowKit Go.Proofs Arb

set_option maxRecDepth 20000 in
set_option maxHeartbeats 16000000 in
theorem treeDoes_go (v : Value) (l : List Nod) (x : Opn) (w : World) (h : Nods w v l) (hwf : ∀ x ∈ l, ndWf x) (hx : opWf x) (hTM : TMet w) :
    Calls Tryd.prog 4 #[v, .agg (opCells x).toArray] w fun e w' => e = .returned (.bool true) ∧ Below w.heap.size w w' := by
  have HTM := Go.Lib.hid hTM
  clear hTM
  have hb0 : Below w.heap.size w (w.alloc (.cells (opArr x) 32)) := (Below.refl _ _).alloc (Nat.le_refl _) _
  have hop := OpAt.new w x 32
  have hv := h.below hb0
  obtain ⟨W0, hW0⟩ : ∃ W, w.alloc (.cells (opArr x) 32) = W := ⟨_, rfl⟩
  rw [hW0] at hb0 hop hv
  unfold opArr opCells at hW0
  unfold opCells
  have hF := some7_any v l W0 hv (ndWf_len hwf)
  have hF1 : ∀ W : World, Calls Tryd.prog 11 #[.slice (some ⟨W.heap.size, 0, none⟩) 1 1] (W.alloc (.cells #[.int .i64 x.stamp.count, .int .i64 x.stamp.who, .int .i64 x.seq, .int .i64 x.kind, .int .i64 x.node.count, .int .i64 x.node.who, .bool x.dir, .int .i64 x.parent.count, .int .i64 x.parent.who, .string (BS x.name), .string (BS x.manifest)] 32)) fun e w' => e = .returned (.bool (few7 [x])) ∧ W.alloc (.cells #[.int .i64 x.stamp.count, .int .i64 x.stamp.who, .int .i64 x.seq, .int .i64 x.kind, .int .i64 x.node.count, .int .i64 x.node.who, .bool x.dir, .int .i64 x.parent.count, .int .i64 x.parent.who, .string (BS x.name), .string (BS x.manifest)] 32) = w' := fun W =>
    few7_any _ [x] _ (Opns.ofBlock [x] 1 rfl (heap_alloc_new W (.cells (opArr x) 32)) (by simp [opArr])) (by simp [hx.2.2.2.2.2])
  obtain ⟨b, hb⟩ : ∃ b, some7 l = b := ⟨_, rfl⟩
  obtain ⟨b1, hb1⟩ : ∃ b, few7 [x] = b := ⟨_, rfl⟩
  rw [hb] at hF
  rw [hb1] at hF1
  obtain ⟨A, c, rfl, hc⟩ := h.len
  obtain ⟨n, hnn⟩ : ∃ n, l.length = n := ⟨_, rfl⟩
  rw [hnn] at h hc hF hv
  rw [hnn]
  have HF := Go.Lib.hid hF; have HF1 := Go.Lib.hid hF1; have HV := Go.Lib.hid hv; have HB0 := Go.Lib.hid hb0; have HOP := Go.Lib.hid hop; have HW0 := Go.Lib.hid hW0
  clear hF hF1 hv hb0 hop hW0 h
  obtain ⟨c0, c1, c2, c3, c4, c5, c6, c7, c8, c9, c10⟩ := op_cells0 HOP.out
  cases b
  · clear hb hb1
    go_enter Tryd.func4, Tryd.ntmps4
    go_wp2_with fail
    rw [HW0.out]
    go_wp2_with (first
      | (go_at_call 16; with_reducible refine HF.out.mono ?_; rintro e w1 ⟨rfl, rfl⟩)
      | (go_at_call 15; with_reducible refine (awake_any _ (by first | exact HTM.out | exact HTM.out.far (by assumption))).mono ?_; rintro e w9 ⟨rfl, hb⟩; have HB9 := Go.Lib.hid (bstep (HB0.out) hb); clear hb))
    go_ret
    exact ⟨rfl, HB9.out⟩
  cases b1
  · clear hb hb1
    go_enter Tryd.func4, Tryd.ntmps4
    go_wp2_with fail
    rw [HW0.out]
    go_wp2_with (first
      | (go_at_call 16; with_reducible refine HF.out.mono ?_; rintro e w1 ⟨rfl, rfl⟩)
      | (go_at_call 11; with_reducible refine (HF1.out _).mono ?_; rintro e w3 ⟨rfl, rfl⟩)
      | (go_at_call 15; with_reducible refine (awake_any _ (HTM.out.on (HB0.out.alloc HB0.out.size _))).mono ?_; rintro e w9 ⟨rfl, hb⟩; have HB9 := Go.Lib.hid (bstep (HB0.out.alloc HB0.out.size (.cells #[.int .i64 x.stamp.count, .int .i64 x.stamp.who, .int .i64 x.seq, .int .i64 x.kind, .int .i64 x.node.count, .int .i64 x.node.who, .bool x.dir, .int .i64 x.parent.count, .int .i64 x.parent.who, .string (BS x.name), .string (BS x.manifest)] 32)) hb); clear hb))
    go_ret
    exact ⟨rfl, HB9.out⟩
  · have hln := (some7_true hb).1
    have htl : l.take n = l := List.take_of_length_le (by omega)
    have hdl := doOf_length l x
    have hD := fun v w h hT => ptdo_any v l x w h (by omega) hwf hx hT
    have hR := fun v w h => rdo7_any v l x w h (by omega)
    have hS := fun u v w hu hv => rsamends_any u v (doOf l x) (doOf l x) w hu hv (by omega) (by omega)
    have hS2 := fun u v w hu hv => rsamends_any u v l l w hu hv (by omega) (by omega)
    rw [decide_eq_true rfl] at hS hS2
    unfold opVal at hD hR
    unfold opArr opCells at hD hR
    obtain ⟨ds, hds⟩ : ∃ d, doOf l x = d := ⟨_, rfl⟩
    rw [hds] at hD hR hS
    have hrd : ∀ w', Below W0.heap.size W0 w' → Rd w' 7 (.slice A n c) n (ndsCells l) := fun w' hb => by
      have := (HV.out.below hb).rdTake n (Nat.le_refl _)
      rw [htl] at this
      exact this
    have HD := Go.Lib.hid hD; have HR := Go.Lib.hid hR; have HS := Go.Lib.hid hS; have HS2 := Go.Lib.hid hS2; have HRD := Go.Lib.hid hrd
    clear hD hR hS hS2 hrd hdl htl hb hb1 hwf hx hds
    have hk := HV.out
    have hb1' : Below W0.heap.size W0 (W0.alloc (.cells #[.int .i64 x.stamp.count, .int .i64 x.stamp.who, .int .i64 x.seq, .int .i64 x.kind, .int .i64 x.node.count, .int .i64 x.node.who, .bool x.dir, .int .i64 x.parent.count, .int .i64 x.parent.who, .string (BS x.name), .string (BS x.manifest)] 32)) := (Below.refl _ _).alloc (Nat.le_refl _) _
    obtain ⟨W1, hW1⟩ : ∃ W, W0.alloc (.cells #[.int .i64 x.stamp.count, .int .i64 x.stamp.who, .int .i64 x.seq, .int .i64 x.kind, .int .i64 x.node.count, .int .i64 x.node.who, .bool x.dir, .int .i64 x.parent.count, .int .i64 x.parent.who, .string (BS x.name), .string (BS x.manifest)] 32) = W := ⟨_, rfl⟩
    rw [hW1] at hb1'
    have hF1' := HF1.out W0
    rw [hW1] at hF1'
    have HB1 := Go.Lib.hid hb1'; have HF2 := Go.Lib.hid hF1'; have HW1 := Go.Lib.hid hW1
    clear hk hb1' hF1' hW1
    go_enter Tryd.func4, Tryd.ntmps4
    go_wp2_with fail
    rw [HW0.out]
    go_wp2_with (first
      | (go_at_call 16; with_reducible refine HF.out.mono ?_; rintro e w1 ⟨rfl, rfl⟩))
    rw [HW1.out]
    clear c0 c1 c2 c3 c4 c5 c6 c7 c8 c9 c10
    go_wp2_with (first
      | (go_at_call 11; with_reducible refine HF2.out.mono ?_; rintro e w3 ⟨rfl, rfl⟩)
      | (at_builtin; refine wpList_append_nds rfl (.tmp 16) (.tmp 17) rfl W1.heap.size (.slice (some ⟨W1.heap.size, 0, none⟩) 0 0) 0 [] rfl (Row.made W1 #[] 37 0 7 (Nat.le_refl _) (by unfold maxLen; omega) rfl) _ n l rfl (HRD.out _ (HB1.out.alloc HB1.out.size _)) (by omega) (by omega) (by simp) ?_; intro v4 W4 hr4 hb4; have HR4 := Go.Lib.hid hr4; have HB4 := Go.Lib.hid (((Below.refl W1.heap.size W1).alloc (Nat.le_refl _) (.cells #[] 37)).trans hb4); clear hr4 hb4))
    have hb4 : Below W0.heap.size W0 W4 := bstep HB1.out HB4.out
    have hown := Nods.of_row HR4.out
    rw [List.nil_append] at hown
    have hop4 := HOP.out.below hb4
    have hownd := hown.below (Below.refl W4.heap.size W4).drew
    have hv4d := (HV.out.below hb4).below (Below.refl W4.heap.size W4).drew
    have hop4d := hop4.below (Below.refl W4.heap.size W4).drew
    have hbw4d : Below w.heap.size w W4.drew := (bstep HB0.out hb4).drew
    obtain ⟨c0, c1, c2, c3, c4, c5, c6, c7, c8, c9, c10⟩ := op_cells0 hop4
    have HOWN := Go.Lib.hid hownd; have HV4 := Go.Lib.hid hv4d; have HOP4 := Go.Lib.hid hop4d; have HBW4 := Go.Lib.hid hbw4d
    clear hb4 hown hop4 hownd hv4d hop4d hbw4d
    first | (go_region_held3 (fun w' => w'.cell? ⟨w.heap.size, 0, none⟩ = some (.int .i64 x.stamp.count) ∧ w'.cell? ⟨w.heap.size, 1, none⟩ = some (.int .i64 x.stamp.who) ∧ w'.cell? ⟨w.heap.size, 2, none⟩ = some (.int .i64 x.seq) ∧ w'.cell? ⟨w.heap.size, 3, none⟩ = some (.int .i64 x.kind) ∧ w'.cell? ⟨w.heap.size, 4, none⟩ = some (.int .i64 x.node.count) ∧ w'.cell? ⟨w.heap.size, 5, none⟩ = some (.int .i64 x.node.who) ∧ w'.cell? ⟨w.heap.size, 6, none⟩ = some (.bool x.dir) ∧ w'.cell? ⟨w.heap.size, 7, none⟩ = some (.int .i64 x.parent.count) ∧ w'.cell? ⟨w.heap.size, 8, none⟩ = some (.int .i64 x.parent.who) ∧ w'.cell? ⟨w.heap.size, 9, none⟩ = some (.string (BS x.name)) ∧ w'.cell? ⟨w.heap.size, 10, none⟩ = some (.string (BS x.manifest)))
      (first | exact ⟨c0, c1, c2, c3, c4, c5, c6, c7, c8, c9, c10⟩ | exact ⟨cell_more c0, cell_more c1, cell_more c2, cell_more c3, cell_more c4, cell_more c5, cell_more c6, cell_more c7, cell_more c8, cell_more c9, cell_more c10⟩)
      (first
      | (go_at_call 17; with_reducible refine (HD.out _ _ HOWN.out (by first | exact HTM.out | exact HTM.out.far (by assumption))).mono ?_; rintro e w5 ⟨v5, rfl, hn5, hb⟩; have HN5 := Go.Lib.hid hn5; have HB5 := Go.Lib.hid (bstep HBW4.out hb); have HOWN5 := Go.Lib.hid (HOWN.out.below hb); have HV5 := Go.Lib.hid (HV4.out.below hb); have hop5 := HOP4.out.below hb; obtain ⟨c0, c1, c2, c3, c4, c5, c6, c7, c8, c9, c10⟩ := op_cells0 hop5; have HOP5 := Go.Lib.hid hop5; clear hn5 hb hop5)
      | (go_at_call 18; with_reducible refine (HR.out _ _ HV5.out).mono ?_; rintro e w6 ⟨v6, rfl, hn6, hb⟩; have HN6 := Go.Lib.hid hn6; have HN56 := Go.Lib.hid (HN5.out.below hb); have HB6 := Go.Lib.hid (bstep HB5.out hb); have HOWN6 := Go.Lib.hid (HOWN5.out.below hb); have HV6 := Go.Lib.hid (HV5.out.below hb); have hop6 := HOP5.out.below hb; obtain ⟨c0, c1, c2, c3, c4, c5, c6, c7, c8, c9, c10⟩ := op_cells0 hop6; have HOP6 := Go.Lib.hid hop6; clear hn6 hb hop6)
      | (go_at_call 12; with_reducible refine (HS.out _ _ _ HN56.out HN6.out).mono ?_; rintro e w7 ⟨rfl, hb⟩; have HB7 := Go.Lib.hid (bstep HB6.out hb); have HOWN7 := Go.Lib.hid (HOWN6.out.below hb); have HV7 := Go.Lib.hid (HV6.out.below hb); have hop7 := HOP6.out.below hb; obtain ⟨c0, c1, c2, c3, c4, c5, c6, c7, c8, c9, c10⟩ := op_cells0 hop7; have HOP7 := Go.Lib.hid hop7; clear hb hop7)
      | (go_at_call 12; with_reducible refine (HS2.out _ _ _ HOWN7.out HV7.out).mono ?_; rintro e w8 ⟨rfl, hb⟩; have HB8 := Go.Lib.hid (bstep HB7.out hb); have hop8 := HOP7.out.below hb; obtain ⟨c0, c1, c2, c3, c4, c5, c6, c7, c8, c9, c10⟩ := op_cells0 hop8; have HOP8 := Go.Lib.hid hop8; clear hb hop8)
      | (go_at_call 15; with_reducible refine (awake_any _ (by first | exact HTM.out | exact HTM.out.far (by assumption))).mono ?_; rintro e w9 ⟨rfl, hb⟩; have HB9 := Go.Lib.hid (bstep HB8.out hb); have hop9 := HOP8.out.below hb; obtain ⟨c0, c1, c2, c3, c4, c5, c6, c7, c8, c9, c10⟩ := op_cells0 hop9; clear hb hop9))) | fail
    all_goals (
      go_wp2_with fail
      go_ret
      exact ⟨rfl, HB9.out⟩)
theorem treeDoes_walk (A : Option Addr) (n c : Nat) (l : List Nod) (w : World) (hs : Sl w 7 A n c (l.map ndCells)) (_ : c * 72 ≤ 140737488351232) (hl : ∀ y ∈ l, ndWf y) (_ : l.length = n) (x : Opn) (hx : opWf x) (hTM : TMet w) :
    Calls Tryd.prog 4 #[.slice A n c, .agg (opCells x).toArray] w fun e w' => e = .returned (.bool true) ∧ Below w.heap.size w w' :=
  treeDoes_go _ l x w (Nods.of_sl hs) hl hx hTM
end Go.Proofs.YthcoldjncpiffaaDoor.W
