/- The walks of layer 6's laws: Encodes, Decodes. -/
import Derived.Test.YtmkmahjboocoaaaOpsL
namespace Go.Proofs.Ytmkmahjboocoaaa.W
set_option linter.unusedVariables false
open Go.RowKit Go.Proofs Arb

set_option maxRecDepth 20000 in
set_option maxHeartbeats 8000000 in
theorem opsEncodes_walk (x : Opn) (hwf : opWf x) (w : World) :
    Calls Try.prog 4 #[.agg (opCells x).toArray] w fun e w' => e = .returned (.bool true) ∧ Below w.heap.size w w' := by
  have hF := fun w v h => fewone_any v x hwf w h
  have hbe : Below (w.alloc (.cells (opArr x) 25)).heap.size (w.alloc (.cells (opArr x) 25)) ((w.alloc (.cells (opArr x) 25)).alloc (.cells (opArr x) 25)) := (Below.refl _ _).alloc (Nat.le_refl _) _
  have hone : Opns ((w.alloc (.cells #[.int .i64 x.stamp.count, .int .i64 x.stamp.who, .int .i64 x.seq, .int .i64 x.kind, .int .i64 x.node.count, .int .i64 x.node.who, .bool x.dir, .int .i64 x.parent.count, .int .i64 x.parent.who, .string (BS x.name), .string (BS x.manifest)] 25)).alloc (.cells #[.int .i64 x.stamp.count, .int .i64 x.stamp.who, .int .i64 x.seq, .int .i64 x.kind, .int .i64 x.node.count, .int .i64 x.node.who, .bool x.dir, .int .i64 x.parent.count, .int .i64 x.parent.who, .string (BS x.name), .string (BS x.manifest)] 25)) (.slice (some ⟨w.heap.size + 1, 0, none⟩) 1 1) [x] := by
    have h := Opns.one (heap_alloc_new (w.alloc (.cells (opArr x) 25)) (.cells (opArr x) 25))
    rw [World.size_alloc] at h
    exact h
  have hop : OpAt ((w.alloc (.cells #[.int .i64 x.stamp.count, .int .i64 x.stamp.who, .int .i64 x.seq, .int .i64 x.kind, .int .i64 x.node.count, .int .i64 x.node.who, .bool x.dir, .int .i64 x.parent.count, .int .i64 x.parent.who, .string (BS x.name), .string (BS x.manifest)] 25)).alloc (.cells #[.int .i64 x.stamp.count, .int .i64 x.stamp.who, .int .i64 x.seq, .int .i64 x.kind, .int .i64 x.node.count, .int .i64 x.node.who, .bool x.dir, .int .i64 x.parent.count, .int .i64 x.parent.who, .string (BS x.name), .string (BS x.manifest)] 25)) w.heap.size 0 x := (OpAt.new w x 25).below hbe
  have hbw : Below w.heap.size w ((w.alloc (.cells #[.int .i64 x.stamp.count, .int .i64 x.stamp.who, .int .i64 x.seq, .int .i64 x.kind, .int .i64 x.node.count, .int .i64 x.node.who, .bool x.dir, .int .i64 x.parent.count, .int .i64 x.parent.who, .string (BS x.name), .string (BS x.manifest)] 25)).alloc (.cells #[.int .i64 x.stamp.count, .int .i64 x.stamp.who, .int .i64 x.seq, .int .i64 x.kind, .int .i64 x.node.count, .int .i64 x.node.who, .bool x.dir, .int .i64 x.parent.count, .int .i64 x.parent.who, .string (BS x.name), .string (BS x.manifest)] 25)) := bstep ((Below.refl _ _).alloc (Nat.le_refl _) _) hbe
  obtain ⟨b, hb⟩ : ∃ b, fewOps [x] = b := ⟨_, rfl⟩
  rw [hb] at hF
  unfold opCells
  have HF := Go.Lib.hid hF; clear hF
  have HONE := Go.Lib.hid hone; have HOP := Go.Lib.hid hop; have HB := Go.Lib.hid hbw
  clear hone hop hbw hbe
  cases b
  · clear hb
    go_enter Try.func4, Try.ntmps4
    go_wp2_with (first | (go_at_call 12; refine (HF.out _ _ HONE.out).mono ?_; rintro e w2 ⟨rfl, rfl⟩) | (go_at_call 15; refine (awake_any _).mono ?_; rintro e w5 ⟨rfl, hb⟩))
    go_ret
    exact ⟨rfl, bstep HB.out hb⟩
  · obtain ⟨hn, hm⟩ := few_one hb
    have hp := fun w => pencode_any x w hwf (by omega) (by omega)
    have hr := fun w => rencode_any x w (by omega) (by omega)
    obtain ⟨sv, hsv⟩ : ∃ r, BS x.encode.1 = r := ⟨_, rfl⟩
    obtain ⟨ev, hev⟩ : ∃ r, x.encode.2 = r := ⟨_, rfl⟩
    rw [hsv, hev] at hp hr
    unfold opVal at hp hr
    unfold opArr opCells at hp hr
    have HP := Go.Lib.hid hp; have HRR := Go.Lib.hid hr
    have h1 : (sv.toList == sv.toList) = true := by simp
    have h2 : (ev == ev) = true := by simp
    clear hb hp hr hsv hev
    go_enter Try.func4, Try.ntmps4
    go_wp2_with (first | (go_at_call 12; refine (HF.out _ _ HONE.out).mono ?_; rintro e w2 ⟨rfl, rfl⟩) | (go_at_call 16; with_reducible refine (HP.out _).mono ?_; rintro e w3 ⟨rfl, hb⟩; have HB := Go.Lib.hid (bstep HB.out hb); have hopn := HOP.out.below hb; obtain ⟨c0, c1, c2, c3, c4, c5, c6, c7, c8, c9, c10⟩ := op_cells0 hopn; have HOP := Go.Lib.hid hopn; clear hb hopn) | (go_at_call 17; with_reducible refine (HRR.out _).mono ?_; rintro e w4 ⟨rfl, hb⟩; have HB := Go.Lib.hid (bstep HB.out hb); have hopn := HOP.out.below hb; obtain ⟨c0, c1, c2, c3, c4, c5, c6, c7, c8, c9, c10⟩ := op_cells0 hopn; have HOP := Go.Lib.hid hopn; clear hb hopn) | (go_at_call 15; refine (awake_any _).mono ?_; rintro e w5 ⟨rfl, hb⟩))
    go_ret
    exact ⟨rfl, bstep HB.out hb⟩

set_option maxRecDepth 20000 in
set_option maxHeartbeats 8000000 in
theorem opsDecodes_walk (l : List UInt8) (hl : l.length ≤ 140737488351232) (w : World) :
    Calls Try.prog 5 #[.string (BS l)] w fun e w' => e = .returned (.bool true) ∧ Below w.heap.size w w' := by
  have hsz : (BS l).size = l.length := BS_size l
  by_cases h1 : 10000 < l.length
  · have h1' : (10000 : Int) < (l.length : Int) := by omega
    go_enter Try.func5, Try.ntmps5
    go_wp2_with (go_at_call 15; refine (awake_any _).mono ?_; rintro e w5 ⟨rfl, hb⟩)
    go_ret
    exact ⟨rfl, hb⟩
  · have h1' : ¬ (10000 : Int) < (l.length : Int) := by omega
    have hp := fun w => pdecode_any l w (by omega)
    have hr := fun w => rdecode_any l w (by omega)
    obtain ⟨x, hx⟩ : ∃ x, (decodeOf l).1 = x := ⟨_, rfl⟩
    obtain ⟨ev, hev⟩ : ∃ r, (decodeOf l).2 = r := ⟨_, rfl⟩
    rw [hx, hev] at hp hr
    have hq := fun w => eq_op' x x w
    rw [decide_eq_true (rfl : x = x)] at hq
    have h2 : (ev == ev) = true := by simp
    unfold opVal at hp hr
    unfold opArr opCells at hp hr
    have hal : ∀ W : World, Below W.heap.size W (W.alloc (.cells #[.int .i64 x.stamp.count, .int .i64 x.stamp.who, .int .i64 x.seq, .int .i64 x.kind, .int .i64 x.node.count, .int .i64 x.node.who, .bool x.dir, .int .i64 x.parent.count, .int .i64 x.parent.who, .string (BS x.name), .string (BS x.manifest)] 25)) ∧ OpAt (W.alloc (.cells #[.int .i64 x.stamp.count, .int .i64 x.stamp.who, .int .i64 x.seq, .int .i64 x.kind, .int .i64 x.node.count, .int .i64 x.node.who, .bool x.dir, .int .i64 x.parent.count, .int .i64 x.parent.who, .string (BS x.name), .string (BS x.manifest)] 25)) W.heap.size 0 x := fun W => ⟨(Below.refl _ _).alloc (Nat.le_refl _) _, OpAt.new W x 25⟩
    have HP := Go.Lib.hid hp; have HRR := Go.Lib.hid hr
    have HAL := Go.Lib.hid hal
    clear hp hr hx hev h1 hal
    go_enter Try.func5, Try.ntmps5
    go_wp2_with fail
    refine (HP.out _).mono ?_; rintro e w1 ⟨rfl, hb1⟩
    have hb2 := bstep hb1 (HAL.out w1).1
    have HB := Go.Lib.hid hb2; have HOP := Go.Lib.hid (HAL.out w1).2; clear hb1 hb2
    go_wp2_with fail
    refine (HRR.out _).mono ?_; rintro e w2 ⟨rfl, hb2⟩
    have hb3 := bstep (bstep HB.out hb2) (HAL.out w2).1
    have hox := (HOP.out.below hb2).below (HAL.out w2).1
    obtain ⟨c0, c1, c2, c3, c4, c5, c6, c7, c8, c9, c10⟩ := op_cells0 hox
    have HB := Go.Lib.hid hb3; clear hb2 hb3 hox
    go_wp2_with (go_at_call 15; refine (awake_any _).mono ?_; rintro e w5 ⟨rfl, hb⟩)
    go_ret
    exact ⟨rfl, bstep HB.out hb⟩
end Go.Proofs.Ytmkmahjboocoaaa.W
