/- The program's operations: their bytes. -/
import Derived.Test.YtmkmahjboocoaaaOpsPA
import Derived.Test.YtmkmahjboocoaaaOpsB
import Derived.Test.YtmkmahjboocoaaaCodecA0
namespace Go.Proofs.Ytmkmahjboocoaaa.W
set_option linter.unusedVariables false
open Go.RowKit Go.Proofs Arb

def stB (s : St) : List UInt8 := enc (u64 s.count) ++ enc (u64 s.who)
theorem stB_length (s : St) : (stB s).length ≤ 18 := by
  have h1 := enc_length (u64 s.count)
  have h2 := enc_length (u64 s.who)
  unfold stB
  rw [List.length_append]
  omega
theorem cat_ok (a b : List UInt8) (h : a.length + b.length ≤ 9000000) : BS a ++ BS b = BS (a ++ b) ∧ ¬ 9223372036854775807 < (BS a).size + (BS b).size :=
  ⟨ByteArray.mk_append_mk _ _, by rw [BS_size, BS_size]; omega⟩
theorem bytes_eq (x : Opn) : stB x.stamp ++ enc (u64 x.seq) ++ enc (u64 x.kind) ++ stB x.node ++ enc (u64 (if x.dir then 1 else 0)) ++ stB x.parent ++ encText x.name ++ encText x.manifest = x.bytes := by
  unfold Opn.bytes numsOf encNums stB
  simp

set_option maxRecDepth 20000 in
set_option maxHeartbeats 1000000 in
theorem pestamp_any (s : St) (w : World) :
    Calls Try.prog 36 #[.agg #[.int .i64 s.count, .int .i64 s.who]] w fun e w' => e = .returned (.string (BS (stB s))) ∧ Below w.heap.size w w' := by
  have hB : Below w.heap.size w (w.alloc (.cells #[.int .i64 s.count, .int .i64 s.who] 23)) := (Below.refl _ _).alloc (Nat.le_refl _) _
  have hc1 : ∀ w : World, Calls Try.prog 37 #[.int .i64 s.count] w fun e w' => e = .returned (.string (BS (enc (u64 s.count)))) ∧ Below w.heap.size w w' := fun w => num_any s.count w
  have hc2 : ∀ w : World, Calls Try.prog 37 #[.int .i64 s.who] w fun e w' => e = .returned (.string (BS (enc (u64 s.who)))) ∧ Below w.heap.size w w' := fun w => num_any s.who w
  have h1 := enc_length (u64 s.count)
  have h2 := enc_length (u64 s.who)
  obtain ⟨ha, hz⟩ := cat_ok (enc (u64 s.count)) (enc (u64 s.who)) (by omega)
  rw [show enc (u64 s.count) ++ enc (u64 s.who) = stB s from rfl] at ha
  obtain ⟨p, hp⟩ : ∃ p, enc (u64 s.count) = p := ⟨_, rfl⟩
  obtain ⟨q, hq⟩ : ∃ p, enc (u64 s.who) = p := ⟨_, rfl⟩
  rw [hp] at hc1 ha hz
  rw [hq] at hc2 ha hz
  have hd0 : (w.alloc (.cells #[.int .i64 s.count, .int .i64 s.who] 23)).cell? ⟨w.heap.size, 0, none⟩ = some (.int .i64 s.count) := by rw [cell_of_row _ _ _ _ _ _ (heap_alloc_new w _)]; rfl
  have hd1 : (w.alloc (.cells #[.int .i64 s.count, .int .i64 s.who] 23)).cell? ⟨w.heap.size, 1, none⟩ = some (.int .i64 s.who) := by rw [cell_of_row _ _ _ _ _ _ (heap_alloc_new w _)]; rfl
  have hl : w.heap.size < (w.alloc (.cells #[.int .i64 s.count, .int .i64 s.who] 23)).heap.size := by simp
  obtain ⟨W, hW⟩ : ∃ W, w.alloc (.cells #[.int .i64 s.count, .int .i64 s.who] 23) = W := ⟨_, rfl⟩
  rw [hW] at hB hd0 hd1 hl
  have HC1 := Go.Lib.hid hc1; clear hc1
  have HC2 := Go.Lib.hid hc2; clear hc2
  have HB := Go.Lib.hid hB; clear hB
  have HW := Go.Lib.hid hW; clear hW
  clear h1 h2 hp hq
  go_enter Try.func36, Try.ntmps36
  go_wp2_with fail
  rw [HW.out]
  have hne := BW.ne W.heap.size W
  have q0 := fun y : BW W.heap.size W => y.cell hd0 hl
  have q1 := fun y : BW W.heap.size W => y.cell hd1 hl
  refine wp_region_calm W.heap.size W (Below.refl _ _) (by kernel_rfl) (by kernel_rfl) ?_
  repeat (go_big_quiet_step (first | (go_at_call 37; with_reducible exact bw_of (Nat.le_refl _) (HC1.out _)) | (go_at_call 37; with_reducible exact bw_of (Nat.le_refl _) (HC2.out _))))
  refine wpQuiet_nil ?_
  intro _ hw'
  obtain ⟨y, rfl⟩ := hw'
  go_wp2_with fail
  go_ret
  exact ⟨rfl, bstep HB.out y.2⟩

set_option maxRecDepth 20000 in
set_option maxHeartbeats 4000000 in
theorem pencode_any (x : Opn) (w : World) (hwf : opWf x) (hn : x.name.length ≤ 1000000) (hm : x.manifest.length ≤ 1000000) :
    Calls Try.prog 16 #[opVal x] w fun e w' => e = .returned (.tuple #[.string (BS x.encode.1), .int .i64 x.encode.2]) ∧ Below w.heap.size w w' := by
  have hB : Below w.heap.size w (w.alloc (.cells (opArr x) 25)) := (Below.refl _ _).alloc (Nat.le_refl _) _
  have hop := OpAt.new w x 25
  have hc1 := fun w => popright_any x w hwf hn hm
  have hs1 := fun w => pestamp_any x.stamp w
  have hs2 := fun w => pestamp_any x.node w
  have hs3 := fun w => pestamp_any x.parent w
  have hn1 : ∀ w : World, Calls Try.prog 37 #[.int .i64 x.seq] w fun e w' => e = .returned (.string (BS (enc (u64 x.seq)))) ∧ Below w.heap.size w w' := fun w => num_any _ w
  have hn2 : ∀ w : World, Calls Try.prog 37 #[.int .i64 x.kind] w fun e w' => e = .returned (.string (BS (enc (u64 x.kind)))) ∧ Below w.heap.size w w' := fun w => num_any _ w
  have hn3 : ∀ w : World, Calls Try.prog 37 #[.int .i64 (if x.dir then 1 else 0)] w fun e w' => e = .returned (.string (BS (enc (u64 (if x.dir then 1 else 0))))) ∧ Below w.heap.size w w' := fun w => num_any _ w
  have ht1 : ∀ w : World, Calls Try.prog 38 #[.string (BS x.name)] w fun e w' => e = .returned (.string (BS (encText x.name))) ∧ Below w.heap.size w w' := fun w => ctext_any x.name w (by omega)
  have ht2 : ∀ w : World, Calls Try.prog 38 #[.string (BS x.manifest)] w fun e w' => e = .returned (.string (BS (encText x.manifest))) ∧ Below w.heap.size w w' := fun w => ctext_any x.manifest w (by omega)
  have l1 := stB_length x.stamp
  have l2 := enc_length (u64 x.seq)
  have l3 := enc_length (u64 x.kind)
  have l4 := stB_length x.node
  have l5 := enc_length (u64 (if x.dir then 1 else 0))
  have l6 := stB_length x.parent
  have l7 := encText_length x.name
  have l8 := encText_length x.manifest
  have hby := bytes_eq x
  obtain ⟨r, hr⟩ : ∃ r, x.encode = r := ⟨_, rfl⟩
  rw [hr]
  unfold Opn.encode at hr
  obtain ⟨p1, hp1⟩ : ∃ p, stB x.stamp = p := ⟨_, rfl⟩
  obtain ⟨p2, hp2⟩ : ∃ p, enc (u64 x.seq) = p := ⟨_, rfl⟩
  obtain ⟨p3, hp3⟩ : ∃ p, enc (u64 x.kind) = p := ⟨_, rfl⟩
  obtain ⟨p4, hp4⟩ : ∃ p, stB x.node = p := ⟨_, rfl⟩
  obtain ⟨p5, hp5⟩ : ∃ p, enc (u64 (if x.dir then 1 else 0)) = p := ⟨_, rfl⟩
  obtain ⟨p6, hp6⟩ : ∃ p, stB x.parent = p := ⟨_, rfl⟩
  obtain ⟨p7, hp7⟩ : ∃ p, encText x.name = p := ⟨_, rfl⟩
  obtain ⟨p8, hp8⟩ : ∃ p, encText x.manifest = p := ⟨_, rfl⟩
  rw [hp1, hp2, hp3, hp4, hp5, hp6, hp7, hp8] at hby
  rw [hp1] at hs1 l1
  rw [hp2] at hn1 l2
  rw [hp3] at hn2 l3
  rw [hp4] at hs2 l4
  rw [hp5] at hn3 l5
  rw [hp6] at hs3 l6
  rw [hp7] at ht1 l7
  rw [hp8] at ht2 l8
  clear hp1 hp2 hp3 hp4 hp5 hp6 hp7 hp8
  obtain ⟨a1, z1⟩ := cat_ok p1 p2 (by omega)
  obtain ⟨q1, hq1⟩ : ∃ q, p1 ++ p2 = q := ⟨_, rfl⟩
  have m1 : q1.length = p1.length + p2.length := by rw [← hq1, List.length_append]
  obtain ⟨a2, z2⟩ := cat_ok q1 p3 (by omega)
  obtain ⟨q2, hq2⟩ : ∃ q, q1 ++ p3 = q := ⟨_, rfl⟩
  have m2 : q2.length = q1.length + p3.length := by rw [← hq2, List.length_append]
  obtain ⟨a3, z3⟩ := cat_ok q2 p4 (by omega)
  obtain ⟨q3, hq3⟩ : ∃ q, q2 ++ p4 = q := ⟨_, rfl⟩
  have m3 : q3.length = q2.length + p4.length := by rw [← hq3, List.length_append]
  obtain ⟨a4, z4⟩ := cat_ok q3 p5 (by omega)
  obtain ⟨q4, hq4⟩ : ∃ q, q3 ++ p5 = q := ⟨_, rfl⟩
  have m4 : q4.length = q3.length + p5.length := by rw [← hq4, List.length_append]
  obtain ⟨a5, z5⟩ := cat_ok q4 p6 (by omega)
  obtain ⟨q5, hq5⟩ : ∃ q, q4 ++ p6 = q := ⟨_, rfl⟩
  have m5 : q5.length = q4.length + p6.length := by rw [← hq5, List.length_append]
  obtain ⟨a6, z6⟩ := cat_ok q5 p7 (by omega)
  obtain ⟨q6, hq6⟩ : ∃ q, q5 ++ p7 = q := ⟨_, rfl⟩
  have m6 : q6.length = q5.length + p7.length := by rw [← hq6, List.length_append]
  obtain ⟨a7, z7⟩ := cat_ok q6 p8 (by omega)
  rw [hq1, hq2, hq3, hq4, hq5, hq6] at hby
  rw [hq1] at a1
  rw [hq2] at a2
  rw [hq3] at a3
  rw [hq4] at a4
  rw [hq5] at a5
  rw [hq6] at a6
  rw [hby] at a7
  clear hq1 hq2 hq3 hq4 hq5 hq6 hby m1 m2 m3 m4 m5 m6 l1 l2 l3 l4 l5 l6 l7 l8
  obtain ⟨u, hu⟩ : ∃ u, x.right = u := ⟨_, rfl⟩
  obtain ⟨b, hb⟩ : ∃ b, x.bytes = b := ⟨_, rfl⟩
  rw [hu] at hc1 hr
  rw [hb] at hr a7
  unfold opVal at hc1 ⊢
  unfold opArr opCells at hB hop hc1 ⊢
  obtain ⟨d, hd⟩ : ∃ d, x.dir = d := ⟨_, rfl⟩
  rw [hd] at hB hop hc1 hn3
  rw [hd]
  have HC1 := Go.Lib.hid hc1; clear hc1
  have HS1 := Go.Lib.hid hs1; clear hs1
  have HS2 := Go.Lib.hid hs2; clear hs2
  have HS3 := Go.Lib.hid hs3; clear hs3
  have HN1 := Go.Lib.hid hn1; clear hn1
  have HN2 := Go.Lib.hid hn2; clear hn2
  have HT1 := Go.Lib.hid ht1; clear ht1
  have HT2 := Go.Lib.hid ht2; clear ht2
  have HB := Go.Lib.hid hB; clear hB
  have HOP := Go.Lib.hid hop; clear hop
  clear hu hb
  by_cases h0 : u = 0
  · rw [if_neg (by simp [h0])] at hr
    subst h0
    subst hr
    cases d
    · have hn4 : ∀ w : World, Calls Try.prog 37 #[.int .i64 0] w fun e w' => e = .returned (.string (BS p5)) ∧ Below w.heap.size w w' := hn3
      have HN3 := Go.Lib.hid hn4; clear hn3 hn4
      go_enter Try.func16, Try.ntmps16
      go_wp2_with (go_at_call 13; with_reducible refine (HC1.out _).mono ?_; rintro e w1 ⟨rfl, hb⟩; have hop := (HOP.out).below hb; have HB := Go.Lib.hid (bstep HB.out hb); have HOP := Go.Lib.hid hop; clear hop hb; obtain ⟨c0, c1, c2, c3, c4, c5, c6, c7, c8, c9, c10⟩ := op_cells0' HOP.out hd rfl)
      have hl := HOP.out.lt
      have hne := BW.ne w1.heap.size w1
      have g0 := fun y : BW w1.heap.size w1 => y.cell c0 hl
      have g1 := fun y : BW w1.heap.size w1 => y.cell c1 hl
      have g2 := fun y : BW w1.heap.size w1 => y.cell c2 hl
      have g3 := fun y : BW w1.heap.size w1 => y.cell c3 hl
      have g4 := fun y : BW w1.heap.size w1 => y.cell c4 hl
      have g5 := fun y : BW w1.heap.size w1 => y.cell c5 hl
      have g7 := fun y : BW w1.heap.size w1 => y.cell c7 hl
      have g8 := fun y : BW w1.heap.size w1 => y.cell c8 hl
      have g9 := fun y : BW w1.heap.size w1 => y.cell c9 hl
      have g10 := fun y : BW w1.heap.size w1 => y.cell c10 hl
      refine wp_region_calm w1.heap.size w1 (Below.refl _ _) (by kernel_rfl) (by kernel_rfl) ?_
      repeat (go_big_quiet_step (first
        | (go_at_call 36; first | with_reducible exact bw_of (Nat.le_refl _) (HS1.out _) | with_reducible exact bw_of (Nat.le_refl _) (HS2.out _) | with_reducible exact bw_of (Nat.le_refl _) (HS3.out _))
        | (go_at_call 37; first | with_reducible exact bw_of (Nat.le_refl _) (HN1.out _) | with_reducible exact bw_of (Nat.le_refl _) (HN2.out _) | with_reducible exact bw_of (Nat.le_refl _) (HN3.out _))
        | (go_at_call 38; first | with_reducible exact bw_of (Nat.le_refl _) (HT1.out _) | with_reducible exact bw_of (Nat.le_refl _) (HT2.out _))))
      refine wpQuiet_nil ?_
      intro _ hw'
      obtain ⟨y, rfl⟩ := hw'
      go_wp2_with fail
      go_ret2
      exact ⟨rfl, bstep HB.out y.2⟩
    · have hn4 : ∀ w : World, Calls Try.prog 37 #[.int .i64 1] w fun e w' => e = .returned (.string (BS p5)) ∧ Below w.heap.size w w' := hn3
      have HN3 := Go.Lib.hid hn4; clear hn3 hn4
      go_enter Try.func16, Try.ntmps16
      go_wp2_with (go_at_call 13; with_reducible refine (HC1.out _).mono ?_; rintro e w1 ⟨rfl, hb⟩; have hop := (HOP.out).below hb; have HB := Go.Lib.hid (bstep HB.out hb); have HOP := Go.Lib.hid hop; clear hop hb; obtain ⟨c0, c1, c2, c3, c4, c5, c6, c7, c8, c9, c10⟩ := op_cells0' HOP.out hd rfl)
      have hl := HOP.out.lt
      have hne := BW.ne w1.heap.size w1
      have g0 := fun y : BW w1.heap.size w1 => y.cell c0 hl
      have g1 := fun y : BW w1.heap.size w1 => y.cell c1 hl
      have g2 := fun y : BW w1.heap.size w1 => y.cell c2 hl
      have g3 := fun y : BW w1.heap.size w1 => y.cell c3 hl
      have g4 := fun y : BW w1.heap.size w1 => y.cell c4 hl
      have g5 := fun y : BW w1.heap.size w1 => y.cell c5 hl
      have g7 := fun y : BW w1.heap.size w1 => y.cell c7 hl
      have g8 := fun y : BW w1.heap.size w1 => y.cell c8 hl
      have g9 := fun y : BW w1.heap.size w1 => y.cell c9 hl
      have g10 := fun y : BW w1.heap.size w1 => y.cell c10 hl
      refine wp_region_calm w1.heap.size w1 (Below.refl _ _) (by kernel_rfl) (by kernel_rfl) ?_
      repeat (go_big_quiet_step (first
        | (go_at_call 36; first | with_reducible exact bw_of (Nat.le_refl _) (HS1.out _) | with_reducible exact bw_of (Nat.le_refl _) (HS2.out _) | with_reducible exact bw_of (Nat.le_refl _) (HS3.out _))
        | (go_at_call 37; first | with_reducible exact bw_of (Nat.le_refl _) (HN1.out _) | with_reducible exact bw_of (Nat.le_refl _) (HN2.out _) | with_reducible exact bw_of (Nat.le_refl _) (HN3.out _))
        | (go_at_call 38; first | with_reducible exact bw_of (Nat.le_refl _) (HT1.out _) | with_reducible exact bw_of (Nat.le_refl _) (HT2.out _))))
      refine wpQuiet_nil ?_
      intro _ hw'
      obtain ⟨y, rfl⟩ := hw'
      go_wp2_with fail
      go_ret2
      exact ⟨rfl, bstep HB.out y.2⟩
  · rw [if_pos h0] at hr
    subst hr
    have hne : (u != 0) = true := by simp [h0]
    clear h0 hn3
    go_enter Try.func16, Try.ntmps16
    go_wp2_with (go_at_call 13; with_reducible refine (HC1.out _).mono ?_; rintro e w1 ⟨rfl, hb⟩; have HB := Go.Lib.hid (bstep HB.out hb); clear hb)
    go_ret2
    exact ⟨rfl, HB.out⟩
end Go.Proofs.Ytmkmahjboocoaaa.W
