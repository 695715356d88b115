/- The walk of the law that what is written is read, and what is read is written. -/
import Derived.Test.YtmkmahjboocoaaaOpsL
import Derived.Test.YtmkmahjboocoaaaOpsG
import Derived.Test.YtmkmahjboocoaaaOpsB
namespace Go.Proofs.Ytmkmahjboocoaaa.W
set_option linter.unusedVariables false
open Go.RowKit Go.Proofs Arb

theorem wf_ok {x : Opn} (h : opWf x) : opOk x := by
  have e : ∀ z : Int, (Lit.int .i64 z).wf = true → i64ok z := fun z hz => by
    simp only [Lit.wf, Bool.and_eq_true, decide_eq_true_eq] at hz
    exact hz
  obtain ⟨⟨a, b⟩, c, d, ⟨e1, f⟩, ⟨i, j⟩, k, l⟩ := h
  exact ⟨e _ a, e _ b, e _ c, e _ d, e _ e1, e _ f, e _ i, e _ j⟩
theorem ok_wf {x : Opn} (h : opOk x) (hn : x.name.length ≤ 1000000) (hm : x.manifest.length ≤ 1000000) : opWf x := by
  have e : ∀ z : Int, i64ok z → (Lit.int .i64 z).wf = true := fun z hz => by
    simp only [Lit.wf, Bool.and_eq_true, decide_eq_true_eq]
    exact hz
  obtain ⟨a, b, c, d, e1, f, i, j⟩ := h
  exact ⟨⟨e _ a, e _ b⟩, e _ c, e _ d, ⟨e _ e1, e _ f⟩, ⟨e _ i, e _ j⟩, by omega, by omega⟩
theorem eq_zero_op (w : World) : (binOp .eql 25 (.agg #[.int .i64 0, .int .i64 0, .int .i64 0, .int .i64 0, .int .i64 0, .int .i64 0, .bool false, .int .i64 0, .int .i64 0, .string ⟨#[]⟩, .string ⟨#[]⟩]) (.agg #[.int .i64 0, .int .i64 0, .int .i64 0, .int .i64 0, .int .i64 0, .int .i64 0, .bool false, .int .i64 0, .int .i64 0, .string ⟨#[]⟩, .string ⟨#[]⟩])).run Try.prog w = .ok (.bool true) w := by
  have h := eq_op' Opn.zero Opn.zero w
  rw [decide_eq_true (rfl : Opn.zero = Opn.zero)] at h
  exact h

set_option maxRecDepth 20000 in
set_option maxHeartbeats 8000000 in
theorem opsBack_walk (x : Opn) (hwf : opWf x) (l : List UInt8) (hl : l.length ≤ 140737488351232) (w : World) :
    Calls Try.prog 8 #[.agg (opCells x).toArray, .string (BS l)] w fun e w' => e = .returned (.bool true) ∧ Below w.heap.size w w' := by
  have hsz : (BS l).size = l.length := BS_size l
  have hF := fun w v h => fewone_any v x hwf w h
  have hbe : Below (w.alloc (.cells (opArr x) 25)).heap.size (w.alloc (.cells (opArr x) 25)) ((w.alloc (.cells (opArr x) 25)).alloc (.cells (opArr x) 25)) := (Below.refl _ _).alloc (Nat.le_refl _) _
  have hone : Opns ((w.alloc (.cells #[.int .i64 x.stamp.count, .int .i64 x.stamp.who, .int .i64 x.seq, .int .i64 x.kind, .int .i64 x.node.count, .int .i64 x.node.who, .bool x.dir, .int .i64 x.parent.count, .int .i64 x.parent.who, .string (BS x.name), .string (BS x.manifest)] 25)).alloc (.cells #[.int .i64 x.stamp.count, .int .i64 x.stamp.who, .int .i64 x.seq, .int .i64 x.kind, .int .i64 x.node.count, .int .i64 x.node.who, .bool x.dir, .int .i64 x.parent.count, .int .i64 x.parent.who, .string (BS x.name), .string (BS x.manifest)] 25)) (.slice (some ⟨w.heap.size + 1, 0, none⟩) 1 1) [x] := by
    have h := Opns.one (heap_alloc_new (w.alloc (.cells (opArr x) 25)) (.cells (opArr x) 25))
    rw [World.size_alloc] at h
    exact h
  have hop : OpAt ((w.alloc (.cells #[.int .i64 x.stamp.count, .int .i64 x.stamp.who, .int .i64 x.seq, .int .i64 x.kind, .int .i64 x.node.count, .int .i64 x.node.who, .bool x.dir, .int .i64 x.parent.count, .int .i64 x.parent.who, .string (BS x.name), .string (BS x.manifest)] 25)).alloc (.cells #[.int .i64 x.stamp.count, .int .i64 x.stamp.who, .int .i64 x.seq, .int .i64 x.kind, .int .i64 x.node.count, .int .i64 x.node.who, .bool x.dir, .int .i64 x.parent.count, .int .i64 x.parent.who, .string (BS x.name), .string (BS x.manifest)] 25)) w.heap.size 0 x := (OpAt.new w x 25).below hbe
  have hbw : Below w.heap.size w ((w.alloc (.cells #[.int .i64 x.stamp.count, .int .i64 x.stamp.who, .int .i64 x.seq, .int .i64 x.kind, .int .i64 x.node.count, .int .i64 x.node.who, .bool x.dir, .int .i64 x.parent.count, .int .i64 x.parent.who, .string (BS x.name), .string (BS x.manifest)] 25)).alloc (.cells #[.int .i64 x.stamp.count, .int .i64 x.stamp.who, .int .i64 x.seq, .int .i64 x.kind, .int .i64 x.node.count, .int .i64 x.node.who, .bool x.dir, .int .i64 x.parent.count, .int .i64 x.parent.who, .string (BS x.name), .string (BS x.manifest)] 25)) := bstep ((Below.refl _ _).alloc (Nat.le_refl _) _) hbe
  obtain ⟨b, hb⟩ : ∃ b, fewOps [x] = b := ⟨_, rfl⟩
  rw [hb] at hF
  unfold opCells
  have HF := Go.Lib.hid hF; clear hF
  have HONE := Go.Lib.hid hone; have HOP := Go.Lib.hid hop; have HB := Go.Lib.hid hbw
  clear hone hop hbw hbe
  -- what is decoded of the second argument
  have hd2 : l.length ≤ 10000 → ∀ W, Calls Try.prog 18 #[.string (BS l)] W fun e w' => e = .returned (.tuple #[opVal (decodeOf l).1, .int .i64 (decodeOf l).2]) ∧ Below W.heap.size W w' := fun h W => pdecode_any l W (by omega)
  obtain ⟨y, hy⟩ : ∃ y, (decodeOf l).1 = y := ⟨_, rfl⟩
  obtain ⟨ey, hey⟩ : ∃ e, (decodeOf l).2 = e := ⟨_, rfl⟩
  have hgood : l.length ≤ 10000 → ey = 0 → ∀ W, Calls Try.prog 16 #[.agg #[.int .i64 y.stamp.count, .int .i64 y.stamp.who, .int .i64 y.seq, .int .i64 y.kind, .int .i64 y.node.count, .int .i64 y.node.who, .bool y.dir, .int .i64 y.parent.count, .int .i64 y.parent.who, .string (BS y.name), .string (BS y.manifest)]] W fun e w' => e = .returned (.tuple #[.string (BS l), .int .i64 0]) ∧ Below W.heap.size W w' := fun h he W => by
    obtain ⟨g1, g2, g3, g4, g5⟩ := decode_good l (by omega) (by rw [hey]; exact he)
    rw [hy] at g1 g2 g3 g4 g5
    have h := pencode_any y W (ok_wf g3 (by omega) (by omega)) (by omega) (by omega)
    rw [show y.encode = (y.bytes, 0) by unfold Opn.encode; rw [if_neg (by simp [g1])], g2] at h
    exact h
  have hbad : ey ≠ 0 → y = Opn.zero := fun he => by rw [← hy]; exact decode_bad l (by rw [hey]; exact he)
  rw [hy, hey] at hd2
  have hal : ∀ W : World, Below W.heap.size W (W.alloc (.cells #[.int .i64 y.stamp.count, .int .i64 y.stamp.who, .int .i64 y.seq, .int .i64 y.kind, .int .i64 y.node.count, .int .i64 y.node.who, .bool y.dir, .int .i64 y.parent.count, .int .i64 y.parent.who, .string (BS y.name), .string (BS y.manifest)] 25)) ∧ OpAt (W.alloc (.cells #[.int .i64 y.stamp.count, .int .i64 y.stamp.who, .int .i64 y.seq, .int .i64 y.kind, .int .i64 y.node.count, .int .i64 y.node.who, .bool y.dir, .int .i64 y.parent.count, .int .i64 y.parent.who, .string (BS y.name), .string (BS y.manifest)] 25)) W.heap.size 0 y := fun W => ⟨(Below.refl _ _).alloc (Nat.le_refl _) _, OpAt.new W y 25⟩
  unfold opVal opArr opCells at hd2
  have HD2 := Go.Lib.hid hd2; have HGOOD := Go.Lib.hid hgood; have HBAD := Go.Lib.hid hbad; have HAL := Go.Lib.hid hal
  clear hd2 hgood hbad hal hy hey
  have hll : (BS l).toList = (BS l).toList := rfl
  have hfirst : b = true → (x.name.length ≤ 200 ∧ x.manifest.length ≤ 2000) := fun h => few_one (hb.trans h)
  obtain ⟨rv, hrv⟩ : ∃ r, x.right = r := ⟨_, rfl⟩
  have he0 : b = true → rv = 0 → ∀ W, Calls Try.prog 16 #[.agg #[.int .i64 x.stamp.count, .int .i64 x.stamp.who, .int .i64 x.seq, .int .i64 x.kind, .int .i64 x.node.count, .int .i64 x.node.who, .bool x.dir, .int .i64 x.parent.count, .int .i64 x.parent.who, .string (BS x.name), .string (BS x.manifest)]] W fun e w' => e = .returned (.tuple #[.string (BS x.bytes), .int .i64 0]) ∧ Below W.heap.size W w' := fun h1 h2 W => by
    obtain ⟨q1, q2⟩ := hfirst h1
    have h := pencode_any x W hwf (by omega) (by omega)
    rw [show x.encode = (x.bytes, 0) by unfold Opn.encode; rw [hrv, if_neg (by simp [h2])]] at h
    exact h
  have hdx : b = true → rv = 0 → ∀ W, Calls Try.prog 18 #[.string (BS x.bytes)] W fun e w' => e = .returned (.tuple #[.agg #[.int .i64 x.stamp.count, .int .i64 x.stamp.who, .int .i64 x.seq, .int .i64 x.kind, .int .i64 x.node.count, .int .i64 x.node.who, .bool x.dir, .int .i64 x.parent.count, .int .i64 x.parent.who, .string (BS x.name), .string (BS x.manifest)], .int .i64 0]) ∧ Below W.heap.size W w' := fun h1 h2 W => by
    obtain ⟨q1, q2⟩ := hfirst h1
    have hbl : x.bytes.length ≤ 1000000 := by
      unfold Opn.bytes
      rw [List.length_append, List.length_append]
      have r1 := encNums_length (numsOf x)
      have r2 := encText_length x.name
      have r3 := encText_length x.manifest
      have r4 : (numsOf x).length = 9 := rfl
      omega
    have h := pdecode_any x.bytes W hbl
    rw [decode_bytes x (wf_ok hwf) (by omega) (by omega) (hrv.trans h2)] at h
    exact h
  have he1 : b = true → rv ≠ 0 → ∀ W, Calls Try.prog 16 #[.agg #[.int .i64 x.stamp.count, .int .i64 x.stamp.who, .int .i64 x.seq, .int .i64 x.kind, .int .i64 x.node.count, .int .i64 x.node.who, .bool x.dir, .int .i64 x.parent.count, .int .i64 x.parent.who, .string (BS x.name), .string (BS x.manifest)]] W fun e w' => e = .returned (.tuple #[.string ⟨#[]⟩, .int .i64 rv]) ∧ Below W.heap.size W w' := fun h1 h2 W => by
    obtain ⟨q1, q2⟩ := hfirst h1
    have h := pencode_any x W hwf (by omega) (by omega)
    rw [show x.encode = ([], rv) by unfold Opn.encode; rw [hrv, if_pos h2]] at h
    exact h
  have hdz : ∀ W, Calls Try.prog 18 #[.string ⟨#[]⟩] W fun e w' => e = .returned (.tuple #[.agg #[.int .i64 0, .int .i64 0, .int .i64 0, .int .i64 0, .int .i64 0, .int .i64 0, .bool false, .int .i64 0, .int .i64 0, .string ⟨#[]⟩, .string ⟨#[]⟩], .int .i64 10]) ∧ Below W.heap.size W w' := fun W => by
    have h := pdecode_any [] W (by decide)
    rw [decode_none] at h
    exact h
  have hpr : b = true → ∀ W, Calls Try.prog 13 #[.agg #[.int .i64 x.stamp.count, .int .i64 x.stamp.who, .int .i64 x.seq, .int .i64 x.kind, .int .i64 x.node.count, .int .i64 x.node.who, .bool x.dir, .int .i64 x.parent.count, .int .i64 x.parent.who, .string (BS x.name), .string (BS x.manifest)]] W fun e w' => e = .returned (.int .i64 rv) ∧ Below W.heap.size W w' := fun h1 W => by
    obtain ⟨q1, q2⟩ := hfirst h1
    have h := popright_any x W hwf (by omega) (by omega)
    rw [hrv] at h
    exact h
  have halx : ∀ W : World, Below W.heap.size W (W.alloc (.cells #[.int .i64 x.stamp.count, .int .i64 x.stamp.who, .int .i64 x.seq, .int .i64 x.kind, .int .i64 x.node.count, .int .i64 x.node.who, .bool x.dir, .int .i64 x.parent.count, .int .i64 x.parent.who, .string (BS x.name), .string (BS x.manifest)] 25)) ∧ OpAt (W.alloc (.cells #[.int .i64 x.stamp.count, .int .i64 x.stamp.who, .int .i64 x.seq, .int .i64 x.kind, .int .i64 x.node.count, .int .i64 x.node.who, .bool x.dir, .int .i64 x.parent.count, .int .i64 x.parent.who, .string (BS x.name), .string (BS x.manifest)] 25)) W.heap.size 0 x := fun W => ⟨(Below.refl _ _).alloc (Nat.le_refl _) _, OpAt.new W x 25⟩
  have halq : ∀ W : World, Below W.heap.size W (W.alloc (.cells #[.int .i64 0, .int .i64 0, .int .i64 0, .int .i64 0, .int .i64 0, .int .i64 0, .bool false, .int .i64 0, .int .i64 0, .string ⟨#[]⟩, .string ⟨#[]⟩] 25)) ∧ True := fun W => ⟨(Below.refl _ _).alloc (Nat.le_refl _) _, trivial⟩
  have HE0 := Go.Lib.hid he0; have HDX := Go.Lib.hid hdx; have HE1 := Go.Lib.hid he1; have HDZ := Go.Lib.hid hdz; have HPR := Go.Lib.hid hpr
  have HALX := Go.Lib.hid halx; have HALQ := Go.Lib.hid halq
  have hll : ((BS l).toList == (BS l).toList) = true := by simp
  clear he0 hdx he1 hdz hpr halx halq hfirst hb hrv
  by_cases hlong : 10000 < l.length
  · have hlong' : (10000 : Int) < (l.length : Int) := by omega
    clear HD2 HGOOD HBAD HAL
    cases b
    · clear HE0 HDX HE1 HPR
      go_enter Try.func8, Try.ntmps8
      go_wp2_with fail
      refine (HF.out _ _ HONE.out).mono ?_; rintro e w2 ⟨rfl, rfl⟩
      go_wp2_with fail
      refine (awake_any _).mono ?_; rintro e w9 ⟨rfl, hb⟩
      go_wp2_with fail
      go_ret
      exact ⟨rfl, bstep HB.out hb⟩
    · by_cases h0 : rv = 0
      · have KE0 := Go.Lib.hid (HE0.out rfl h0); have KDX := Go.Lib.hid (HDX.out rfl h0)
        have hqx : ∀ W, (binOp .neq 25 (.agg #[.int .i64 x.stamp.count, .int .i64 x.stamp.who, .int .i64 x.seq, .int .i64 x.kind, .int .i64 x.node.count, .int .i64 x.node.who, .bool x.dir, .int .i64 x.parent.count, .int .i64 x.parent.who, .string (BS x.name), .string (BS x.manifest)]) (.agg #[.int .i64 x.stamp.count, .int .i64 x.stamp.who, .int .i64 x.seq, .int .i64 x.kind, .int .i64 x.node.count, .int .i64 x.node.who, .bool x.dir, .int .i64 x.parent.count, .int .i64 x.parent.who, .string (BS x.name), .string (BS x.manifest)])).run Try.prog W = .ok (.bool false) W := fun W => by
          have h := ne_op' x x W
          rw [decide_eq_true (rfl : x = x)] at h
          exact h
        clear HE0 HDX HE1 HPR h0
        go_enter Try.func8, Try.ntmps8
        go_wp2_with fail
        refine (HF.out _ _ HONE.out).mono ?_; rintro e w2 ⟨rfl, rfl⟩
        go_wp2_with fail
        refine (KE0.out _).mono ?_; rintro e w3 ⟨rfl, hb⟩
        have HB := Go.Lib.hid (bstep HB.out hb); have HOP := Go.Lib.hid (HOP.out.below hb); clear hb
        go_wp2_with fail
        refine (KDX.out _).mono ?_; rintro e w4 ⟨rfl, hb⟩
        have HB := Go.Lib.hid (bstep (bstep HB.out hb) (HALX.out w4).1)
        have hopn := (HOP.out.below hb).below (HALX.out w4).1
        clear hb
        obtain ⟨c0, c1, c2, c3, c4, c5, c6, c7, c8, c9, c10⟩ := op_cells0 hopn
        clear hopn
        go_wp2_with fail
        refine (awake_any _).mono ?_; rintro e w9 ⟨rfl, hb⟩
        go_wp2_with fail
        go_ret
        exact ⟨rfl, bstep HB.out hb⟩
      · have KE1 := Go.Lib.hid (HE1.out rfl h0); have KPR := Go.Lib.hid (HPR.out rfl)
        have hr1 : (rv == 0) = false := by simp [h0]
        have hr2 : (rv != 0) = true := by simp [h0]
        have hr3 : (rv != rv) = false := by simp
        clear HE0 HDX HE1 HPR h0
        go_enter Try.func8, Try.ntmps8
        go_wp2_with fail
        refine (HF.out _ _ HONE.out).mono ?_; rintro e w2 ⟨rfl, rfl⟩
        go_wp2_with fail
        refine (KE1.out _).mono ?_; rintro e w3 ⟨rfl, hb⟩
        have HB := Go.Lib.hid (bstep HB.out hb); have HOP := Go.Lib.hid (HOP.out.below hb); clear hb
        go_wp2_with fail
        refine (HDZ.out _).mono ?_; rintro e w4 ⟨rfl, hb⟩
        have HB := Go.Lib.hid (bstep (bstep HB.out hb) (HALQ.out w4).1)
        have hopn := (HOP.out.below hb).below (HALQ.out w4).1
        clear hb
        obtain ⟨c0, c1, c2, c3, c4, c5, c6, c7, c8, c9, c10⟩ := op_cells0 hopn
        have HOP := Go.Lib.hid hopn
        clear hopn
        go_wp2_with fail
        refine (KPR.out _).mono ?_; rintro e w5 ⟨rfl, hb⟩
        have HB := Go.Lib.hid (bstep HB.out hb); clear hb c0 c1 c2 c3 c4 c5 c6 c7 c8 c9 c10
        go_wp2_with fail
        refine (awake_any _).mono ?_; rintro e w9 ⟨rfl, hb⟩
        go_wp2_with fail
        go_ret
        exact ⟨rfl, bstep HB.out hb⟩
  · have hlong' : ¬ (10000 : Int) < (l.length : Int) := by omega
    have KD2 := Go.Lib.hid (HD2.out (by omega))
    clear HD2
    by_cases he : ey = 0
    · have KGOOD := Go.Lib.hid (HGOOD.out (by omega) he)
      subst he
      clear HBAD HGOOD hlong
      cases b
      · clear HE0 HDX HE1 HPR
        go_enter Try.func8, Try.ntmps8
        go_wp2_with fail
        refine (HF.out _ _ HONE.out).mono ?_; rintro e w2 ⟨rfl, rfl⟩
        go_wp2_with fail
        refine (KD2.out _).mono ?_; rintro e w7 ⟨rfl, hb⟩
        have HB := Go.Lib.hid (bstep (bstep HB.out hb) (HAL.out w7).1); clear hb
        go_wp2_with fail
        refine (KGOOD.out _).mono ?_; rintro e w8 ⟨rfl, hb⟩
        have HB := Go.Lib.hid (bstep HB.out hb); clear hb
        go_wp2_with fail
        refine (awake_any _).mono ?_; rintro e w9 ⟨rfl, hb⟩
        go_wp2_with fail
        go_ret
        exact ⟨rfl, bstep HB.out hb⟩
      · by_cases h0 : rv = 0
        · have KE0 := Go.Lib.hid (HE0.out rfl h0); have KDX := Go.Lib.hid (HDX.out rfl h0)
          have hqx : ∀ W, (binOp .neq 25 (.agg #[.int .i64 x.stamp.count, .int .i64 x.stamp.who, .int .i64 x.seq, .int .i64 x.kind, .int .i64 x.node.count, .int .i64 x.node.who, .bool x.dir, .int .i64 x.parent.count, .int .i64 x.parent.who, .string (BS x.name), .string (BS x.manifest)]) (.agg #[.int .i64 x.stamp.count, .int .i64 x.stamp.who, .int .i64 x.seq, .int .i64 x.kind, .int .i64 x.node.count, .int .i64 x.node.who, .bool x.dir, .int .i64 x.parent.count, .int .i64 x.parent.who, .string (BS x.name), .string (BS x.manifest)])).run Try.prog W = .ok (.bool false) W := fun W => by
            have h := ne_op' x x W
            rw [decide_eq_true (rfl : x = x)] at h
            exact h
          clear HE0 HDX HE1 HPR h0
          go_enter Try.func8, Try.ntmps8
          go_wp2_with fail
          refine (HF.out _ _ HONE.out).mono ?_; rintro e w2 ⟨rfl, rfl⟩
          go_wp2_with fail
          refine (KE0.out _).mono ?_; rintro e w3 ⟨rfl, hb⟩
          have HB := Go.Lib.hid (bstep HB.out hb); have HOP := Go.Lib.hid (HOP.out.below hb); clear hb
          go_wp2_with fail
          refine (KDX.out _).mono ?_; rintro e w4 ⟨rfl, hb⟩
          have HB := Go.Lib.hid (bstep (bstep HB.out hb) (HALX.out w4).1)
          have hopn := (HOP.out.below hb).below (HALX.out w4).1
          clear hb
          obtain ⟨c0, c1, c2, c3, c4, c5, c6, c7, c8, c9, c10⟩ := op_cells0 hopn
          clear hopn
          go_wp2_with fail
          refine (KD2.out _).mono ?_; rintro e w7 ⟨rfl, hb⟩
          have HB := Go.Lib.hid (bstep (bstep HB.out hb) (HAL.out w7).1); clear hb
          go_wp2_with fail
          refine (KGOOD.out _).mono ?_; rintro e w8 ⟨rfl, hb⟩
          have HB := Go.Lib.hid (bstep HB.out hb); clear hb
          go_wp2_with fail
          refine (awake_any _).mono ?_; rintro e w9 ⟨rfl, hb⟩
          go_wp2_with fail
          go_ret
          exact ⟨rfl, bstep HB.out hb⟩
        · have KE1 := Go.Lib.hid (HE1.out rfl h0); have KPR := Go.Lib.hid (HPR.out rfl)
          have hr1 : (rv == 0) = false := by simp [h0]
          have hr2 : (rv != 0) = true := by simp [h0]
          have hr3 : (rv != rv) = false := by simp
          clear HE0 HDX HE1 HPR h0
          go_enter Try.func8, Try.ntmps8
          go_wp2_with fail
          refine (HF.out _ _ HONE.out).mono ?_; rintro e w2 ⟨rfl, rfl⟩
          go_wp2_with fail
          refine (KE1.out _).mono ?_; rintro e w3 ⟨rfl, hb⟩
          have HB := Go.Lib.hid (bstep HB.out hb); have HOP := Go.Lib.hid (HOP.out.below hb); clear hb
          go_wp2_with fail
          refine (HDZ.out _).mono ?_; rintro e w4 ⟨rfl, hb⟩
          have HB := Go.Lib.hid (bstep (bstep HB.out hb) (HALQ.out w4).1)
          have hopn := (HOP.out.below hb).below (HALQ.out w4).1
          clear hb
          obtain ⟨c0, c1, c2, c3, c4, c5, c6, c7, c8, c9, c10⟩ := op_cells0 hopn
          have HOP := Go.Lib.hid hopn
          clear hopn
          go_wp2_with fail
          refine (KPR.out _).mono ?_; rintro e w5 ⟨rfl, hb⟩
          have HB := Go.Lib.hid (bstep HB.out hb); clear hb c0 c1 c2 c3 c4 c5 c6 c7 c8 c9 c10
          go_wp2_with fail
          refine (KD2.out _).mono ?_; rintro e w7 ⟨rfl, hb⟩
          have HB := Go.Lib.hid (bstep (bstep HB.out hb) (HAL.out w7).1); clear hb
          go_wp2_with fail
          refine (KGOOD.out _).mono ?_; rintro e w8 ⟨rfl, hb⟩
          have HB := Go.Lib.hid (bstep HB.out hb); clear hb
          go_wp2_with fail
          refine (awake_any _).mono ?_; rintro e w9 ⟨rfl, hb⟩
          go_wp2_with fail
          go_ret
          exact ⟨rfl, bstep HB.out hb⟩
    · have hz := HBAD.out he
      have hq : ∀ W, (binOp .eql 25 (.agg #[.int .i64 y.stamp.count, .int .i64 y.stamp.who, .int .i64 y.seq, .int .i64 y.kind, .int .i64 y.node.count, .int .i64 y.node.who, .bool y.dir, .int .i64 y.parent.count, .int .i64 y.parent.who, .string (BS y.name), .string (BS y.manifest)]) (.agg #[.int .i64 0, .int .i64 0, .int .i64 0, .int .i64 0, .int .i64 0, .int .i64 0, .bool false, .int .i64 0, .int .i64 0, .string ⟨#[]⟩, .string ⟨#[]⟩])).run Try.prog W = .ok (.bool true) W := fun W => by rw [hz]; exact eq_zero_op W
      have hne : (ey != 0) = true := by simp [he]
      clear hz he HBAD HGOOD hlong
      cases b
      · clear HE0 HDX HE1 HPR
        go_enter Try.func8, Try.ntmps8
        go_wp2_with fail
        refine (HF.out _ _ HONE.out).mono ?_; rintro e w2 ⟨rfl, rfl⟩
        go_wp2_with fail
        refine (KD2.out _).mono ?_; rintro e w7 ⟨rfl, hb⟩
        have HB := Go.Lib.hid (bstep (bstep HB.out hb) (HAL.out w7).1); clear hb
        go_wp2_with fail
        refine (awake_any _).mono ?_; rintro e w9 ⟨rfl, hb⟩
        go_wp2_with fail
        go_ret
        exact ⟨rfl, bstep HB.out hb⟩
      · by_cases h0 : rv = 0
        · have KE0 := Go.Lib.hid (HE0.out rfl h0); have KDX := Go.Lib.hid (HDX.out rfl h0)
          have hqx : ∀ W, (binOp .neq 25 (.agg #[.int .i64 x.stamp.count, .int .i64 x.stamp.who, .int .i64 x.seq, .int .i64 x.kind, .int .i64 x.node.count, .int .i64 x.node.who, .bool x.dir, .int .i64 x.parent.count, .int .i64 x.parent.who, .string (BS x.name), .string (BS x.manifest)]) (.agg #[.int .i64 x.stamp.count, .int .i64 x.stamp.who, .int .i64 x.seq, .int .i64 x.kind, .int .i64 x.node.count, .int .i64 x.node.who, .bool x.dir, .int .i64 x.parent.count, .int .i64 x.parent.who, .string (BS x.name), .string (BS x.manifest)])).run Try.prog W = .ok (.bool false) W := fun W => by
            have h := ne_op' x x W
            rw [decide_eq_true (rfl : x = x)] at h
            exact h
          clear HE0 HDX HE1 HPR h0
          go_enter Try.func8, Try.ntmps8
          go_wp2_with fail
          refine (HF.out _ _ HONE.out).mono ?_; rintro e w2 ⟨rfl, rfl⟩
          go_wp2_with fail
          refine (KE0.out _).mono ?_; rintro e w3 ⟨rfl, hb⟩
          have HB := Go.Lib.hid (bstep HB.out hb); have HOP := Go.Lib.hid (HOP.out.below hb); clear hb
          go_wp2_with fail
          refine (KDX.out _).mono ?_; rintro e w4 ⟨rfl, hb⟩
          have HB := Go.Lib.hid (bstep (bstep HB.out hb) (HALX.out w4).1)
          have hopn := (HOP.out.below hb).below (HALX.out w4).1
          clear hb
          obtain ⟨c0, c1, c2, c3, c4, c5, c6, c7, c8, c9, c10⟩ := op_cells0 hopn
          clear hopn
          go_wp2_with fail
          refine (KD2.out _).mono ?_; rintro e w7 ⟨rfl, hb⟩
          have HB := Go.Lib.hid (bstep (bstep HB.out hb) (HAL.out w7).1); clear hb
          go_wp2_with fail
          refine (awake_any _).mono ?_; rintro e w9 ⟨rfl, hb⟩
          go_wp2_with fail
          go_ret
          exact ⟨rfl, bstep HB.out hb⟩
        · have KE1 := Go.Lib.hid (HE1.out rfl h0); have KPR := Go.Lib.hid (HPR.out rfl)
          have hr1 : (rv == 0) = false := by simp [h0]
          have hr2 : (rv != 0) = true := by simp [h0]
          have hr3 : (rv != rv) = false := by simp
          clear HE0 HDX HE1 HPR h0
          go_enter Try.func8, Try.ntmps8
          go_wp2_with fail
          refine (HF.out _ _ HONE.out).mono ?_; rintro e w2 ⟨rfl, rfl⟩
          go_wp2_with fail
          refine (KE1.out _).mono ?_; rintro e w3 ⟨rfl, hb⟩
          have HB := Go.Lib.hid (bstep HB.out hb); have HOP := Go.Lib.hid (HOP.out.below hb); clear hb
          go_wp2_with fail
          refine (HDZ.out _).mono ?_; rintro e w4 ⟨rfl, hb⟩
          have HB := Go.Lib.hid (bstep (bstep HB.out hb) (HALQ.out w4).1)
          have hopn := (HOP.out.below hb).below (HALQ.out w4).1
          clear hb
          obtain ⟨c0, c1, c2, c3, c4, c5, c6, c7, c8, c9, c10⟩ := op_cells0 hopn
          have HOP := Go.Lib.hid hopn
          clear hopn
          go_wp2_with fail
          refine (KPR.out _).mono ?_; rintro e w5 ⟨rfl, hb⟩
          have HB := Go.Lib.hid (bstep HB.out hb); clear hb c0 c1 c2 c3 c4 c5 c6 c7 c8 c9 c10
          go_wp2_with fail
          refine (KD2.out _).mono ?_; rintro e w7 ⟨rfl, hb⟩
          have HB := Go.Lib.hid (bstep (bstep HB.out hb) (HAL.out w7).1); clear hb
          go_wp2_with fail
          refine (awake_any _).mono ?_; rintro e w9 ⟨rfl, hb⟩
          go_wp2_with fail
          go_ret
          exact ⟨rfl, bstep HB.out hb⟩
end Go.Proofs.Ytmkmahjboocoaaa.W
