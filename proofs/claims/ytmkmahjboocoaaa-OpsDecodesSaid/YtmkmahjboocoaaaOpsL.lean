/- The walks of layer 6's laws: Right, Encodes, Decodes. -/
import Derived.Test.YtmkmahjboocoaaaOpsA
import Derived.Deep.RegionWith
namespace Go.Proofs.Ytmkmahjboocoaaa.W
set_option linter.unusedVariables false
open Go.RowKit Go.Proofs Arb

/-- One operation, in a block of its own, as a list. -/
theorem Opns.one {w : World} {g : Nat} {x : Opn} {t : TypeId} {fr : Nat × Nat} (h : w.heap[g]? = some (.cells (opArr x) t fr)) : Opns w (.slice (some ⟨g, 0, none⟩) 1 1) [x] := by
  refine ⟨_, 1, 1, rfl, rfl, Nat.le_refl _, nofun, fun _ => ⟨g, 0, rfl, fun j y hj => ?_⟩⟩
  cases j with
  | zero =>
    simp at hj
    subst hj
    exact OpAt.of_block h
  | succ j => simp at hj
theorem few_one {x : Opn} (h : fewOps [x] = true) : x.name.length ≤ 200 ∧ x.manifest.length ≤ 2000 := (fewOps_true h).2 x (by simp)
theorem fewone_any (v : Value) (x : Opn) (hwf : opWf x) (w : World) (h : Opns w v [x]) : Calls Try.prog 12 #[v] w fun e w' => e = .returned (.bool (fewOps [x])) ∧ w = w' :=
  fewops_any v [x] w h (by simp [hwf.2.2.2.2.2])

set_option maxRecDepth 20000 in
set_option maxHeartbeats 8000000 in
theorem opsRight_walk (x : Opn) (hwf : opWf x) (w : World) :
    Calls Try.prog 3 #[.agg (opCells x).toArray] w fun e w' => e = .returned (.bool true) ∧ Below w.heap.size w w' := by
  have hB : Below w.heap.size w (w.alloc (.cells (opArr x) 25)) := (Below.refl _ _).alloc (Nat.le_refl _) _
  have hop := OpAt.new w x 25
  have hF := fun w v h => fewone_any v x hwf w h
  obtain ⟨W1, hW1⟩ : ∃ W1, w.alloc (.cells (opArr x) 25) = W1 := ⟨_, rfl⟩
  rw [hW1] at hB hop
  have hone : Opns ((W1.alloc (.cells #[.int .i64 x.stamp.count, .int .i64 x.stamp.who, .int .i64 x.seq, .int .i64 x.kind, .int .i64 x.node.count, .int .i64 x.node.who, .bool x.dir, .int .i64 x.parent.count, .int .i64 x.parent.who, .string (BS x.name), .string (BS x.manifest)] 25)).drew) (.slice (some ⟨W1.heap.size, 0, none⟩) 1 1) [x] := (Opns.one (heap_alloc_new W1 (.cells (opArr x) 25))).below ((Below.refl _ _).drew)
  have hbe : Below W1.heap.size W1 ((W1.alloc (.cells #[.int .i64 x.stamp.count, .int .i64 x.stamp.who, .int .i64 x.seq, .int .i64 x.kind, .int .i64 x.node.count, .int .i64 x.node.who, .bool x.dir, .int .i64 x.parent.count, .int .i64 x.parent.who, .string (BS x.name), .string (BS x.manifest)] 25)).drew) := ((Below.refl W1.heap.size W1).alloc (Nat.le_refl _) (.cells (opArr x) 25)).drew
  have hope := hop.below hbe
  have hbw := bstep hB hbe
  obtain ⟨b, hb⟩ : ∃ b, fewOps [x] = b := ⟨_, rfl⟩
  obtain ⟨c0, c1, c2, c3, c4, c5, c6, c7, c8, c9, c10⟩ := op_cells0 hop
  unfold opArr opCells at hW1
  unfold opCells
  rw [hb] at hF
  have HF := Go.Lib.hid hF; clear hF
  have HW1 := Go.Lib.hid hW1
  have HONE := Go.Lib.hid hone; have HOPE := Go.Lib.hid hope; have HBW := Go.Lib.hid hbw
  clear hone hop hope hbw hbe hB hW1
  cases b
  · clear hb
    go_enter Try.func3, Try.ntmps3
    go_wp2_with fail
    rw [HW1.out]
    go_region_with (first
      | (go_at_call 12; refine (HF.out _ _ HONE.out).mono ?_; rintro e w2 ⟨rfl, rfl⟩)
      | (go_at_call 15; refine (awake_any _).mono ?_; rintro e w5 ⟨rfl, hb⟩; have HB5 := Go.Lib.hid (bstep HBW.out hb); have hop5 := HOPE.out.below hb; obtain ⟨c0, c1, c2, c3, c4, c5, c6, c7, c8, c9, c10⟩ := op_cells0 hop5; clear hb hop5))
    all_goals (go_wp2_with fail; go_ret; exact ⟨rfl, HB5.out⟩)
  · obtain ⟨hn, hm⟩ := few_one hb
    have hp := fun w => popright_any x w hwf (by omega) (by omega)
    have hr := fun w => ropright_any x w (by omega) (by omega)
    obtain ⟨rv, hrv⟩ : ∃ r, x.right = r := ⟨_, rfl⟩
    rw [hrv] at hp hr
    unfold opVal at hp hr
    unfold opArr opCells at hp hr
    have HP := Go.Lib.hid hp; have HRR := Go.Lib.hid hr
    have hee : (rv == rv) = true := by simp
    clear hb hp hr hrv
    go_enter Try.func3, Try.ntmps3
    go_wp2_with fail
    rw [HW1.out]
    first | (go_region_held3 (fun w' => w'.cell? ⟨w.heap.size, 0, none⟩ = some (.int .i64 x.stamp.count) ∧ w'.cell? ⟨w.heap.size, 1, none⟩ = some (.int .i64 x.stamp.who) ∧ w'.cell? ⟨w.heap.size, 2, none⟩ = some (.int .i64 x.seq) ∧ w'.cell? ⟨w.heap.size, 3, none⟩ = some (.int .i64 x.kind) ∧ w'.cell? ⟨w.heap.size, 4, none⟩ = some (.int .i64 x.node.count) ∧ w'.cell? ⟨w.heap.size, 5, none⟩ = some (.int .i64 x.node.who) ∧ w'.cell? ⟨w.heap.size, 6, none⟩ = some (.bool x.dir) ∧ w'.cell? ⟨w.heap.size, 7, none⟩ = some (.int .i64 x.parent.count) ∧ w'.cell? ⟨w.heap.size, 8, none⟩ = some (.int .i64 x.parent.who) ∧ w'.cell? ⟨w.heap.size, 9, none⟩ = some (.string (BS x.name)) ∧ w'.cell? ⟨w.heap.size, 10, none⟩ = some (.string (BS x.manifest)))
      (first | exact ⟨c0, c1, c2, c3, c4, c5, c6, c7, c8, c9, c10⟩ | exact ⟨cell_more c0, cell_more c1, cell_more c2, cell_more c3, cell_more c4, cell_more c5, cell_more c6, cell_more c7, cell_more c8, cell_more c9, cell_more c10⟩)
      (first | (go_at_call 12; refine (HF.out _ _ HONE.out).mono ?_; rintro e w2 ⟨rfl, rfl⟩) | (go_at_call 13; refine (HP.out _).mono ?_; rintro e w3 ⟨rfl, hb⟩; have HB3 := Go.Lib.hid (bstep HBW.out hb); have hop3 := HOPE.out.below hb; obtain ⟨c0, c1, c2, c3, c4, c5, c6, c7, c8, c9, c10⟩ := op_cells0 hop3; have HOP3 := Go.Lib.hid hop3; clear hb hop3) | (go_at_call 14; refine (HRR.out _).mono ?_; rintro e w4 ⟨rfl, hb⟩; have HB4 := Go.Lib.hid (bstep HB3.out hb); have hop4 := HOP3.out.below hb; obtain ⟨c0, c1, c2, c3, c4, c5, c6, c7, c8, c9, c10⟩ := op_cells0 hop4; have HOP4 := Go.Lib.hid hop4; clear hb hop4) | (go_at_call 15; refine (awake_any _).mono ?_; rintro e w5 ⟨rfl, hb⟩; have HB5 := Go.Lib.hid (bstep HB4.out hb); have hop5 := HOP4.out.below hb; obtain ⟨c0, c1, c2, c3, c4, c5, c6, c7, c8, c9, c10⟩ := op_cells0 hop5; clear hb hop5))) | fail
    all_goals (go_wp2_with fail; go_ret; exact ⟨rfl, HB5.out⟩)
end Go.Proofs.Ytmkmahjboocoaaa.W
