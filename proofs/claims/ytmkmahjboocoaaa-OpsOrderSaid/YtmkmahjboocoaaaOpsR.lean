/- The reference of operations: which may be. -/
import Derived.Test.YtmkmahjboocoaaaOpsT
import Derived.Test.YtmkmahjboocoaaaClockR
import Derived.Test.YtmkmahjboocoaaaNamesR
namespace Go.Proofs.Ytmkmahjboocoaaa.W
set_option linter.unusedVariables false
open Go.RowKit Go.Proofs Arb

set_option maxHeartbeats 1000000 in
theorem rplace_any (s : St) (w : World) :
    Calls Try.prog 61 #[.agg #[.int .i64 s.count, .int .i64 s.who]] w fun e w' => e = .returned (.bool (placeOk s)) ∧ Below w.heap.size w w' := by
  obtain ⟨r, hr⟩ : ∃ r, placeOk s = r := ⟨_, rfl⟩
  rw [hr]
  unfold placeOk at hr
  have hq := fun w => eq_st s St.zero w
  have hc := rright_any s
  obtain ⟨z, hz⟩ : ∃ z, decide (s = St.zero) = z := ⟨_, rfl⟩
  obtain ⟨u, hu⟩ : ∃ u, s.right = u := ⟨_, rfl⟩
  obtain ⟨a, ha⟩ : ∃ a, s.count = a := ⟨_, rfl⟩
  obtain ⟨b, hb⟩ : ∃ b, s.who = b := ⟨_, rfl⟩
  rw [hz] at hr hq
  rw [hu, show decide (u = 0) = (u == 0) from rfl] at hr
  rw [hu] at hc
  simp only [stCells, ha, hb] at hq hc
  rw [ha, hb]
  have hb1 : Below w.heap.size w (w.alloc (.cells #[.int .i64 a, .int .i64 b] 23)) := (Below.refl _ _).alloc (Nat.le_refl _) _
  have HR := Go.Lib.hid hr; clear hr
  have HC := Go.Lib.hid hc; clear hc
  have HB := Go.Lib.hid hb1; clear hb1
  clear hz hu ha hb
  simp only [St.zero] at hq
  go_enter Try.func61, Try.ntmps61
  go_wp2_with (go_at_call 32; with_reducible refine (HC.out _).mono ?_; rintro e w1 ⟨rfl, hb⟩)
  · go_ret
    exact ⟨by rw [← HR.out]; simp_all, HB.out⟩
  · go_ret
    exact ⟨by rw [← HR.out]; simp_all, bstep HB.out hb⟩

set_option maxHeartbeats 1000000 in
theorem rtruth_any (b : Bool) (w : World) :
    Calls Try.prog 63 #[.bool b] w fun e w' => e = .returned (.int .i64 (if b then 1 else 0)) ∧ w = w' := by
  cases b
  · go_enter Try.func63, Try.ntmps63
    go_wp2_with fail
    go_ret
    exact ⟨rfl, rfl⟩
  · go_enter Try.func63, Try.ntmps63
    go_wp2_with fail
    go_ret
    exact ⟨rfl, rfl⟩

theorem BS_empty (l : List UInt8) : (BS l).toList.isEmpty = decide (l = []) := by rw [Go.Lib.toList_data, BS_list]; cases l <;> rfl

set_option maxRecDepth 20000 in
set_option maxHeartbeats 4000000 in
theorem rshape_any (x : Opn) (w : World) (hm : x.manifest.length ≤ 140737488351232) :
    Calls Try.prog 34 #[opVal x] w fun e w' => e = .returned (.bool x.shape) ∧ Below w.heap.size w w' := by
  have hsz : (BS x.manifest).size = x.manifest.length := BS_size _
  have hm0 := BS_empty x.manifest
  have hn0 := BS_empty x.name
  have hq1 := fun w => eq_st x.node x.stamp w
  have hq2 := fun w => ne_st x.parent x.node w
  have hq3 := fun w => eq_st x.parent St.zero w
  have hc1 := fun w => rplace_any x.parent w
  have hc2 := fun w => rright_any x.node w
  have hB : Below w.heap.size w (w.alloc (.cells (opArr x) 25)) := (Below.refl _ _).alloc (Nat.le_refl _) _
  obtain ⟨r, hr⟩ : ∃ r, x.shape = r := ⟨_, rfl⟩
  rw [hr]
  unfold Opn.shape at hr
  have hop := OpAt.new w x 25
  unfold opVal
  unfold opArr opCells at hB ⊢
  unfold opArr opCells at hop
  obtain ⟨e1, he1⟩ : ∃ e, decide (x.node = x.stamp) = e := ⟨_, rfl⟩
  obtain ⟨e2, he2⟩ : ∃ e, decide (x.parent = x.node) = e := ⟨_, rfl⟩
  obtain ⟨e3, he3⟩ : ∃ e, decide (x.parent = St.zero) = e := ⟨_, rfl⟩
  obtain ⟨e4, he4⟩ : ∃ e, placeOk x.parent = e := ⟨_, rfl⟩
  obtain ⟨rv, hrv⟩ : ∃ e, x.node.right = e := ⟨_, rfl⟩
  obtain ⟨m0, hm0'⟩ : ∃ e, decide (x.manifest = []) = e := ⟨_, rfl⟩
  obtain ⟨n0, hn0'⟩ : ∃ e, decide (x.name = []) = e := ⟨_, rfl⟩
  rw [he1] at hq1
  rw [he2] at hq2
  rw [he3] at hq3
  rw [he4] at hc1
  rw [hrv] at hc2
  rw [hm0'] at hm0
  rw [hn0'] at hn0
  rw [decide_not] at hr
  rw [show decide (x.manifest.length ≤ 600) = decide ((x.manifest.length : Int) ≤ 600) from decide_eq_decide.2 (by omega)] at hr
  rw [he1, he2, he3, he4, hrv, hm0', hn0', show decide (rv = 0) = (rv == 0) from rfl] at hr
  simp only [stCells, St.zero] at hq3 hc2
  have HC1 := Go.Lib.hid hc1; clear hc1
  have HC2 := Go.Lib.hid hc2; clear hc2
  have HR := Go.Lib.hid hr; clear hr
  have HB := Go.Lib.hid hB; clear hB
  have HOP := Go.Lib.hid hop; clear hop
  clear he1 he2 he3 he4 hrv hm0' hn0'
  go_enter Try.func34, Try.ntmps34
  go_wp2_with (first
    | (go_at_call 61; with_reducible refine (HC1.out _).mono ?_; rintro e w1 ⟨rfl, hb⟩; have hop := (HOP.out).below hb; obtain ⟨c0, c1, c2, c3, c4, c5, c6, c7, c8, c9, c10⟩ := op_cells0 hop; have HB := Go.Lib.hid (bstep HB.out hb); have HOP := Go.Lib.hid hop; clear hop hb)
    | (go_at_call 32; with_reducible refine (HC2.out _).mono ?_; rintro e w1 ⟨rfl, hb⟩; have hop := (HOP.out).below hb; obtain ⟨c0, c1, c2, c3, c4, c5, c6, c7, c8, c9, c10⟩ := op_cells0 hop; have HB := Go.Lib.hid (bstep HB.out hb); have HOP := Go.Lib.hid hop; clear hop hb))
  all_goals (go_ret; exact ⟨by rw [← HR.out]; simp_all, HB.out⟩)

set_option maxRecDepth 20000 in
set_option maxHeartbeats 4000000 in
theorem ropright_any (x : Opn) (w : World) (hn : x.name.length ≤ 140737488351232) (hm : x.manifest.length ≤ 140737488351232) :
    Calls Try.prog 14 #[opVal x] w fun e w' => e = .returned (.int .i64 x.right) ∧ Below w.heap.size w w' := by
  have hc1 := fun w => rright_any x.stamp w
  have hc2 := fun w => rnright_any x.name w hn
  have hc3 := fun w => rshape_any x w hm
  have hB : Below w.heap.size w (w.alloc (.cells (opArr x) 25)) := (Below.refl _ _).alloc (Nat.le_refl _) _
  obtain ⟨r, hr⟩ : ∃ r, x.right = r := ⟨_, rfl⟩
  rw [hr]
  unfold Opn.right at hr
  have hop := OpAt.new w x 25
  unfold opVal at hc3 ⊢
  unfold opArr opCells at hB hop hc3 ⊢
  obtain ⟨sv, hsv⟩ : ∃ e, x.stamp.right = e := ⟨_, rfl⟩
  obtain ⟨nv, hnv⟩ : ∃ e, nmRight x.name = e := ⟨_, rfl⟩
  obtain ⟨sh, hsh⟩ : ∃ e, x.shape = e := ⟨_, rfl⟩
  rw [hsv] at hc1 hr
  rw [hnv] at hc2 hr
  rw [hsh] at hc3 hr
  simp only [stCells] at hc1
  clear hsv hnv hsh
  obtain ⟨k, hk⟩ : ∃ k, x.kind = k := ⟨_, rfl⟩
  rw [hk] at hr hB hop hc3
  rw [hk]
  have HC1 := Go.Lib.hid hc1; clear hc1
  have HC2 := Go.Lib.hid hc2; clear hc2
  have HC3 := Go.Lib.hid hc3; clear hc3
  have HR := Go.Lib.hid hr; clear hr
  have HB := Go.Lib.hid hB; clear hB
  by_cases hk1 : k = 1
  · subst hk1
    have HOP := Go.Lib.hid hop; clear hop
    go_enter Try.func14, Try.ntmps14
    go_wp2_with (first
      | (go_at_call 32; with_reducible refine (HC1.out _).mono ?_; rintro e w1 ⟨rfl, hb⟩; have hop := (HOP.out).below hb; obtain ⟨c0, c1, c2, c3, c4, c5, c6, c7, c8, c9, c10⟩ := op_cells0 hop; rw [hk] at c3; have HB := Go.Lib.hid (bstep HB.out hb); have HOP := Go.Lib.hid hop; clear hop hb)
      | (go_at_call 33; with_reducible refine (HC2.out _).mono ?_; rintro e w1 ⟨rfl, rfl⟩; have hop := HOP.out; obtain ⟨c0, c1, c2, c3, c4, c5, c6, c7, c8, c9, c10⟩ := op_cells0 hop; rw [hk] at c3; have HOP := Go.Lib.hid hop; clear hop)
      | (go_at_call 34; with_reducible refine (HC3.out _).mono ?_; rintro e w1 ⟨rfl, hb⟩; have HB := Go.Lib.hid (bstep HB.out hb); clear hb))
    all_goals (go_ret; refine ⟨?_, HB.out⟩; rw [← HR.out]; simp_all)
  by_cases hk2 : k = 2
  · subst hk2
    have HOP := Go.Lib.hid hop; clear hop
    go_enter Try.func14, Try.ntmps14
    go_wp2_with (first
      | (go_at_call 32; with_reducible refine (HC1.out _).mono ?_; rintro e w1 ⟨rfl, hb⟩; have hop := (HOP.out).below hb; obtain ⟨c0, c1, c2, c3, c4, c5, c6, c7, c8, c9, c10⟩ := op_cells0 hop; rw [hk] at c3; have HB := Go.Lib.hid (bstep HB.out hb); have HOP := Go.Lib.hid hop; clear hop hb)
      | (go_at_call 33; with_reducible refine (HC2.out _).mono ?_; rintro e w1 ⟨rfl, rfl⟩; have hop := HOP.out; obtain ⟨c0, c1, c2, c3, c4, c5, c6, c7, c8, c9, c10⟩ := op_cells0 hop; rw [hk] at c3; have HOP := Go.Lib.hid hop; clear hop)
      | (go_at_call 34; with_reducible refine (HC3.out _).mono ?_; rintro e w1 ⟨rfl, hb⟩; have HB := Go.Lib.hid (bstep HB.out hb); clear hb))
    all_goals (go_ret; refine ⟨?_, HB.out⟩; rw [← HR.out]; simp_all)
  · have hb1 : (k == 1) = false := by simp [hk1]
    have hb2 : (k == 2) = false := by simp [hk2]
    have HOP := Go.Lib.hid hop; clear hop
    clear hk1 hk2
    go_enter Try.func14, Try.ntmps14
    go_wp2_with (first
      | (go_at_call 32; with_reducible refine (HC1.out _).mono ?_; rintro e w1 ⟨rfl, hb⟩; have hop := (HOP.out).below hb; obtain ⟨c0, c1, c2, c3, c4, c5, c6, c7, c8, c9, c10⟩ := op_cells0 hop; rw [hk] at c3; have HB := Go.Lib.hid (bstep HB.out hb); have HOP := Go.Lib.hid hop; clear hop hb)
      | (go_at_call 33; with_reducible refine (HC2.out _).mono ?_; rintro e w1 ⟨rfl, rfl⟩; have hop := HOP.out; obtain ⟨c0, c1, c2, c3, c4, c5, c6, c7, c8, c9, c10⟩ := op_cells0 hop; rw [hk] at c3; have HOP := Go.Lib.hid hop; clear hop)
      | (go_at_call 34; with_reducible refine (HC3.out _).mono ?_; rintro e w1 ⟨rfl, hb⟩; have HB := Go.Lib.hid (bstep HB.out hb); clear hb))
    all_goals (go_ret; refine ⟨?_, HB.out⟩; rw [← HR.out]; simp_all)
end Go.Proofs.Ytmkmahjboocoaaa.W
