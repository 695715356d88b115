/- The program's operations: which may be. -/
import Derived.Test.YtmkmahjboocoaaaOpsR
import Derived.Test.YtmkmahjboocoaaaClockI
import Derived.Test.YtmkmahjboocoaaaNamesI0
namespace Go.Proofs.Ytmkmahjboocoaaa.W
set_option linter.unusedVariables false
open Go.RowKit Go.Proofs Arb

set_option maxHeartbeats 1000000 in
theorem pstamp_any (s : St) (w : World) :
    Calls Try.prog 29 #[.agg #[.int .i64 s.count, .int .i64 s.who]] w fun e w' => e = .returned (.bool (decide (s.right = 0))) ∧ Below w.heap.size w w' := by
  have hB : Below w.heap.size w (w.alloc (.cells #[.int .i64 s.count, .int .i64 s.who] 23)) := (Below.refl _ _).alloc (Nat.le_refl _) _
  have hc := fun w => pright_any s w
  simp only [stCells] at hc
  rw [show decide (s.right = 0) = (s.right == 0) from rfl]
  obtain ⟨u, hu⟩ : ∃ u, s.right = u := ⟨_, rfl⟩
  rw [hu] at hc ⊢
  have HC := Go.Lib.hid hc; clear hc
  have HB := Go.Lib.hid hB; clear hB
  clear hu
  go_enter Try.func29, Try.ntmps29
  go_wp2_with (go_at_call 57; with_reducible refine (HC.out _).mono ?_; rintro e w1 ⟨rfl, hb⟩)
  go_ret
  exact ⟨rfl, bstep HB.out hb⟩

set_option maxHeartbeats 1000000 in
theorem pparent_any (s : St) (w : World) :
    Calls Try.prog 58 #[.agg #[.int .i64 s.count, .int .i64 s.who]] w fun e w' => e = .returned (.bool (placeOk s)) ∧ Below w.heap.size w w' := by
  have hB : Below w.heap.size w (w.alloc (.cells #[.int .i64 s.count, .int .i64 s.who] 23)) := (Below.refl _ _).alloc (Nat.le_refl _) _
  have hc := fun w => pstamp_any s w
  have hq := fun w => eq_st s St.zero w
  unfold placeOk
  obtain ⟨z, hz⟩ : ∃ z, decide (s = St.zero) = z := ⟨_, rfl⟩
  obtain ⟨u, hu⟩ : ∃ u, decide (s.right = 0) = u := ⟨_, rfl⟩
  rw [hz] at hq ⊢
  rw [hu] at hc ⊢
  simp only [St.zero] at hq
  have HC := Go.Lib.hid hc; clear hc
  have HB := Go.Lib.hid hB; clear hB
  clear hu hz
  cases z
  · go_enter Try.func58, Try.ntmps58
    go_wp2_with (go_at_call 29; with_reducible refine (HC.out _).mono ?_; rintro e w1 ⟨rfl, hb⟩)
    go_ret
    exact ⟨by cases u <;> rfl, bstep HB.out hb⟩
  · go_enter Try.func58, Try.ntmps58
    go_wp2_with fail
    go_ret
    exact ⟨rfl, HB.out⟩

def manOk (x : Opn) : Bool := if x.dir then decide (x.manifest = []) else decide (x.manifest.length ≤ 600)
def noPlace (x : Opn) : Bool := decide (x.parent = St.zero) && decide (x.name = [])

set_option maxRecDepth 20000 in
set_option maxHeartbeats 1000000 in
theorem pmanifest_any (x : Opn) (w : World) :
    Calls Try.prog 59 #[opVal x] w fun e w' => e = .returned (.bool (manOk x)) ∧ Below w.heap.size w w' := by
  have hB : Below w.heap.size w (w.alloc (.cells (opArr x) 25)) := (Below.refl _ _).alloc (Nat.le_refl _) _
  have hsz : (BS x.manifest).size = x.manifest.length := BS_size _
  have hm0 := BS_empty x.manifest
  obtain ⟨r, hr⟩ : ∃ r, manOk x = r := ⟨_, rfl⟩
  rw [hr]
  unfold manOk at hr
  unfold opVal
  unfold opArr opCells at hB ⊢
  obtain ⟨m0, hm0'⟩ : ∃ e, decide (x.manifest = []) = e := ⟨_, rfl⟩
  rw [hm0'] at hm0 hr
  rw [show decide (x.manifest.length ≤ 600) = decide ((x.manifest.length : Int) ≤ 600) from decide_eq_decide.2 (by omega)] at hr
  obtain ⟨d, hd⟩ : ∃ d, x.dir = d := ⟨_, rfl⟩
  rw [hd] at hr hB ⊢
  have HR := Go.Lib.hid hr; clear hr
  have HB := Go.Lib.hid hB; clear hB
  clear hm0' hd
  cases d
  · go_enter Try.func59, Try.ntmps59
    go_wp2_with fail
    all_goals (go_ret; exact ⟨by rw [← HR.out]; simp_all, HB.out⟩)
  · go_enter Try.func59, Try.ntmps59
    go_wp2_with fail
    all_goals (go_ret; exact ⟨by rw [← HR.out]; simp_all, HB.out⟩)

set_option maxRecDepth 20000 in
set_option maxHeartbeats 1000000 in
theorem pnoplace_any (x : Opn) (w : World) :
    Calls Try.prog 60 #[opVal x] w fun e w' => e = .returned (.bool (noPlace x)) ∧ Below w.heap.size w w' := by
  have hB : Below w.heap.size w (w.alloc (.cells (opArr x) 25)) := (Below.refl _ _).alloc (Nat.le_refl _) _
  have hn0 := BS_empty x.name
  have hq := fun w => eq_st x.parent St.zero w
  unfold noPlace
  unfold opVal
  unfold opArr opCells at hB ⊢
  obtain ⟨z, hz⟩ : ∃ z, decide (x.parent = St.zero) = z := ⟨_, rfl⟩
  obtain ⟨n0, hn0'⟩ : ∃ e, decide (x.name = []) = e := ⟨_, rfl⟩
  rw [hz] at hq ⊢
  rw [hn0'] at hn0 ⊢
  simp only [St.zero] at hq
  have HB := Go.Lib.hid hB; clear hB
  clear hn0' hz
  cases z
  · go_enter Try.func60, Try.ntmps60
    go_wp2_with fail
    all_goals (go_ret; exact ⟨by simp_all, HB.out⟩)
  · go_enter Try.func60, Try.ntmps60
    go_wp2_with fail
    all_goals (go_ret; exact ⟨by simp_all, HB.out⟩)

theorem op_cells0' {w : World} {b : Nat} {x : Opn} {d : Bool} {k : Int} (h : OpAt w b 0 x) (hd : x.dir = d) (hk : x.kind = k) :
    w.cell? ⟨b, 0, none⟩ = some (.int .i64 x.stamp.count) ∧ w.cell? ⟨b, 1, none⟩ = some (.int .i64 x.stamp.who) ∧ w.cell? ⟨b, 2, none⟩ = some (.int .i64 x.seq) ∧ w.cell? ⟨b, 3, none⟩ = some (.int .i64 k) ∧
    w.cell? ⟨b, 4, none⟩ = some (.int .i64 x.node.count) ∧ w.cell? ⟨b, 5, none⟩ = some (.int .i64 x.node.who) ∧ w.cell? ⟨b, 6, none⟩ = some (.bool d) ∧ w.cell? ⟨b, 7, none⟩ = some (.int .i64 x.parent.count) ∧
    w.cell? ⟨b, 8, none⟩ = some (.int .i64 x.parent.who) ∧ w.cell? ⟨b, 9, none⟩ = some (.string (BS x.name)) ∧ w.cell? ⟨b, 10, none⟩ = some (.string (BS x.manifest)) := by
  subst hd
  subst hk
  exact op_cells0 h

/-- The shape, in the words of the program. -/
theorem shape_eq (x : Opn) : x.shape =
    if x.kind = 1 then decide (x.node = x.stamp) && placeOk x.parent && !decide (x.parent = x.node) && manOk x
    else if x.kind = 2 then decide (x.node.right = 0) && !x.dir && placeOk x.parent && decide (x.manifest = [])
    else if x.kind = 3 then decide (x.node.right = 0) && !x.dir && noPlace x && decide (x.manifest.length ≤ 600)
    else if x.kind = 4 then decide (x.node.right = 0) && !x.dir && noPlace x && decide (x.manifest = [])
    else false := by
  unfold Opn.shape noPlace manOk
  cases x.dir <;> simp

set_option maxRecDepth 20000 in
set_option maxHeartbeats 4000000 in
theorem pfits_any (x : Opn) (w : World) :
    Calls Try.prog 31 #[opVal x] w fun e w' => e = .returned (.bool x.shape) ∧ Below w.heap.size w w' := by
  have hsz : (BS x.manifest).size = x.manifest.length := BS_size _
  have hm0 := BS_empty x.manifest
  have hq1 := fun w => eq_st x.node x.stamp w
  have hq2 := fun w => ne_st x.parent x.node w
  have hc1 := fun w => pparent_any x.parent w
  have hc2 := fun w => pstamp_any x.node w
  have hc3 := fun w => pmanifest_any x w
  have hc4 := fun w => pnoplace_any x w
  have hB : Below w.heap.size w (w.alloc (.cells (opArr x) 25)) := (Below.refl _ _).alloc (Nat.le_refl _) _
  obtain ⟨r, hr⟩ : ∃ r, x.shape = r := ⟨_, rfl⟩
  rw [hr]
  rw [shape_eq] at hr
  have hop := OpAt.new w x 25
  unfold opVal at hc3 hc4 ⊢
  unfold opArr opCells at hB hc3 hc4 ⊢
  unfold opArr opCells at hop
  obtain ⟨e1, he1⟩ : ∃ e, decide (x.node = x.stamp) = e := ⟨_, rfl⟩
  obtain ⟨e2, he2⟩ : ∃ e, decide (x.parent = x.node) = e := ⟨_, rfl⟩
  obtain ⟨e3, he3⟩ : ∃ e, noPlace x = e := ⟨_, rfl⟩
  obtain ⟨e4, he4⟩ : ∃ e, placeOk x.parent = e := ⟨_, rfl⟩
  obtain ⟨rv, hrv⟩ : ∃ e, decide (x.node.right = 0) = e := ⟨_, rfl⟩
  obtain ⟨m0, hm0'⟩ : ∃ e, decide (x.manifest = []) = e := ⟨_, rfl⟩
  obtain ⟨mo, hmo⟩ : ∃ e, manOk x = e := ⟨_, rfl⟩
  rw [he1] at hq1
  rw [he2] at hq2
  rw [he3] at hc4
  rw [he4] at hc1
  rw [hrv] at hc2
  rw [hm0'] at hm0
  rw [hmo] at hc3
  rw [show decide (x.manifest.length ≤ 600) = decide ((x.manifest.length : Int) ≤ 600) from decide_eq_decide.2 (by omega)] at hr
  rw [he1, he2, he3, he4, hrv, hm0', hmo] at hr
  obtain ⟨d, hd⟩ : ∃ d, x.dir = d := ⟨_, rfl⟩
  obtain ⟨k, hk⟩ : ∃ k, x.kind = k := ⟨_, rfl⟩
  rw [hd, hk] at hr hB hop hc3 hc4
  rw [hd, hk]
  have HC1 := Go.Lib.hid hc1; clear hc1
  have HC2 := Go.Lib.hid hc2; clear hc2
  have HC3 := Go.Lib.hid hc3; clear hc3
  have HC4 := Go.Lib.hid hc4; clear hc4
  have HR := Go.Lib.hid hr; clear hr
  have HB := Go.Lib.hid hB; clear hB
  have HOP := Go.Lib.hid hop; clear hop
  clear he1 he2 he3 he4 hrv hm0' hmo
  by_cases hk1 : k = 1
  · subst hk1
    cases e1
    · go_enter Try.func31, Try.ntmps31
      go_wp2_with (first | (go_at_call 58; with_reducible refine (HC1.out _).mono ?_; rintro e w1 ⟨rfl, hb⟩; have hop := (HOP.out).below hb; have HB := Go.Lib.hid (bstep HB.out hb); have HOP := Go.Lib.hid hop; clear hop hb; obtain ⟨c0, c1, c2, c3, c4, c5, c6, c7, c8, c9, c10⟩ := op_cells0' HOP.out hd hk) | (go_at_call 29; with_reducible refine (HC2.out _).mono ?_; rintro e w1 ⟨rfl, hb⟩; have hop := (HOP.out).below hb; have HB := Go.Lib.hid (bstep HB.out hb); have HOP := Go.Lib.hid hop; clear hop hb; obtain ⟨c0, c1, c2, c3, c4, c5, c6, c7, c8, c9, c10⟩ := op_cells0' HOP.out hd hk) | (go_at_call 59; with_reducible refine (HC3.out _).mono ?_; rintro e w1 ⟨rfl, hb⟩; have hop := (HOP.out).below hb; have HB := Go.Lib.hid (bstep HB.out hb); have HOP := Go.Lib.hid hop; clear hop hb; obtain ⟨c0, c1, c2, c3, c4, c5, c6, c7, c8, c9, c10⟩ := op_cells0' HOP.out hd hk) | (go_at_call 60; with_reducible refine (HC4.out _).mono ?_; rintro e w1 ⟨rfl, hb⟩; have hop := (HOP.out).below hb; have HB := Go.Lib.hid (bstep HB.out hb); have HOP := Go.Lib.hid hop; clear hop hb; obtain ⟨c0, c1, c2, c3, c4, c5, c6, c7, c8, c9, c10⟩ := op_cells0' HOP.out hd hk))
      all_goals (go_ret; exact ⟨by rw [← HR.out]; simp_all, HB.out⟩)
    · cases e4
      · go_enter Try.func31, Try.ntmps31
        go_wp2_with (first | (go_at_call 58; with_reducible refine (HC1.out _).mono ?_; rintro e w1 ⟨rfl, hb⟩; have hop := (HOP.out).below hb; have HB := Go.Lib.hid (bstep HB.out hb); have HOP := Go.Lib.hid hop; clear hop hb; obtain ⟨c0, c1, c2, c3, c4, c5, c6, c7, c8, c9, c10⟩ := op_cells0' HOP.out hd hk) | (go_at_call 29; with_reducible refine (HC2.out _).mono ?_; rintro e w1 ⟨rfl, hb⟩; have hop := (HOP.out).below hb; have HB := Go.Lib.hid (bstep HB.out hb); have HOP := Go.Lib.hid hop; clear hop hb; obtain ⟨c0, c1, c2, c3, c4, c5, c6, c7, c8, c9, c10⟩ := op_cells0' HOP.out hd hk) | (go_at_call 59; with_reducible refine (HC3.out _).mono ?_; rintro e w1 ⟨rfl, hb⟩; have hop := (HOP.out).below hb; have HB := Go.Lib.hid (bstep HB.out hb); have HOP := Go.Lib.hid hop; clear hop hb; obtain ⟨c0, c1, c2, c3, c4, c5, c6, c7, c8, c9, c10⟩ := op_cells0' HOP.out hd hk) | (go_at_call 60; with_reducible refine (HC4.out _).mono ?_; rintro e w1 ⟨rfl, hb⟩; have hop := (HOP.out).below hb; have HB := Go.Lib.hid (bstep HB.out hb); have HOP := Go.Lib.hid hop; clear hop hb; obtain ⟨c0, c1, c2, c3, c4, c5, c6, c7, c8, c9, c10⟩ := op_cells0' HOP.out hd hk))
        all_goals (go_ret; exact ⟨by rw [← HR.out]; simp_all, HB.out⟩)
      · cases e2
        · go_enter Try.func31, Try.ntmps31
          go_wp2_with (first | (go_at_call 58; with_reducible refine (HC1.out _).mono ?_; rintro e w1 ⟨rfl, hb⟩; have hop := (HOP.out).below hb; have HB := Go.Lib.hid (bstep HB.out hb); have HOP := Go.Lib.hid hop; clear hop hb; obtain ⟨c0, c1, c2, c3, c4, c5, c6, c7, c8, c9, c10⟩ := op_cells0' HOP.out hd hk) | (go_at_call 29; with_reducible refine (HC2.out _).mono ?_; rintro e w1 ⟨rfl, hb⟩; have hop := (HOP.out).below hb; have HB := Go.Lib.hid (bstep HB.out hb); have HOP := Go.Lib.hid hop; clear hop hb; obtain ⟨c0, c1, c2, c3, c4, c5, c6, c7, c8, c9, c10⟩ := op_cells0' HOP.out hd hk) | (go_at_call 59; with_reducible refine (HC3.out _).mono ?_; rintro e w1 ⟨rfl, hb⟩; have hop := (HOP.out).below hb; have HB := Go.Lib.hid (bstep HB.out hb); have HOP := Go.Lib.hid hop; clear hop hb; obtain ⟨c0, c1, c2, c3, c4, c5, c6, c7, c8, c9, c10⟩ := op_cells0' HOP.out hd hk) | (go_at_call 60; with_reducible refine (HC4.out _).mono ?_; rintro e w1 ⟨rfl, hb⟩; have hop := (HOP.out).below hb; have HB := Go.Lib.hid (bstep HB.out hb); have HOP := Go.Lib.hid hop; clear hop hb; obtain ⟨c0, c1, c2, c3, c4, c5, c6, c7, c8, c9, c10⟩ := op_cells0' HOP.out hd hk))
          all_goals (go_ret; exact ⟨by rw [← HR.out]; simp_all, HB.out⟩)
        · go_enter Try.func31, Try.ntmps31
          go_wp2_with (first | (go_at_call 58; with_reducible refine (HC1.out _).mono ?_; rintro e w1 ⟨rfl, hb⟩; have hop := (HOP.out).below hb; have HB := Go.Lib.hid (bstep HB.out hb); have HOP := Go.Lib.hid hop; clear hop hb; obtain ⟨c0, c1, c2, c3, c4, c5, c6, c7, c8, c9, c10⟩ := op_cells0' HOP.out hd hk) | (go_at_call 29; with_reducible refine (HC2.out _).mono ?_; rintro e w1 ⟨rfl, hb⟩; have hop := (HOP.out).below hb; have HB := Go.Lib.hid (bstep HB.out hb); have HOP := Go.Lib.hid hop; clear hop hb; obtain ⟨c0, c1, c2, c3, c4, c5, c6, c7, c8, c9, c10⟩ := op_cells0' HOP.out hd hk) | (go_at_call 59; with_reducible refine (HC3.out _).mono ?_; rintro e w1 ⟨rfl, hb⟩; have hop := (HOP.out).below hb; have HB := Go.Lib.hid (bstep HB.out hb); have HOP := Go.Lib.hid hop; clear hop hb; obtain ⟨c0, c1, c2, c3, c4, c5, c6, c7, c8, c9, c10⟩ := op_cells0' HOP.out hd hk) | (go_at_call 60; with_reducible refine (HC4.out _).mono ?_; rintro e w1 ⟨rfl, hb⟩; have hop := (HOP.out).below hb; have HB := Go.Lib.hid (bstep HB.out hb); have HOP := Go.Lib.hid hop; clear hop hb; obtain ⟨c0, c1, c2, c3, c4, c5, c6, c7, c8, c9, c10⟩ := op_cells0' HOP.out hd hk))
          all_goals (go_ret; exact ⟨by rw [← HR.out]; simp_all, HB.out⟩)
  by_cases hk2 : k = 2
  · subst hk2
    cases rv
    · go_enter Try.func31, Try.ntmps31
      go_wp2_with (first | (go_at_call 58; with_reducible refine (HC1.out _).mono ?_; rintro e w1 ⟨rfl, hb⟩; have hop := (HOP.out).below hb; have HB := Go.Lib.hid (bstep HB.out hb); have HOP := Go.Lib.hid hop; clear hop hb; obtain ⟨c0, c1, c2, c3, c4, c5, c6, c7, c8, c9, c10⟩ := op_cells0' HOP.out hd hk) | (go_at_call 29; with_reducible refine (HC2.out _).mono ?_; rintro e w1 ⟨rfl, hb⟩; have hop := (HOP.out).below hb; have HB := Go.Lib.hid (bstep HB.out hb); have HOP := Go.Lib.hid hop; clear hop hb; obtain ⟨c0, c1, c2, c3, c4, c5, c6, c7, c8, c9, c10⟩ := op_cells0' HOP.out hd hk) | (go_at_call 59; with_reducible refine (HC3.out _).mono ?_; rintro e w1 ⟨rfl, hb⟩; have hop := (HOP.out).below hb; have HB := Go.Lib.hid (bstep HB.out hb); have HOP := Go.Lib.hid hop; clear hop hb; obtain ⟨c0, c1, c2, c3, c4, c5, c6, c7, c8, c9, c10⟩ := op_cells0' HOP.out hd hk) | (go_at_call 60; with_reducible refine (HC4.out _).mono ?_; rintro e w1 ⟨rfl, hb⟩; have hop := (HOP.out).below hb; have HB := Go.Lib.hid (bstep HB.out hb); have HOP := Go.Lib.hid hop; clear hop hb; obtain ⟨c0, c1, c2, c3, c4, c5, c6, c7, c8, c9, c10⟩ := op_cells0' HOP.out hd hk))
      all_goals (go_ret; exact ⟨by rw [← HR.out]; simp_all, HB.out⟩)
    · cases d
      · cases e4
        · go_enter Try.func31, Try.ntmps31
          go_wp2_with (first | (go_at_call 58; with_reducible refine (HC1.out _).mono ?_; rintro e w1 ⟨rfl, hb⟩; have hop := (HOP.out).below hb; have HB := Go.Lib.hid (bstep HB.out hb); have HOP := Go.Lib.hid hop; clear hop hb; obtain ⟨c0, c1, c2, c3, c4, c5, c6, c7, c8, c9, c10⟩ := op_cells0' HOP.out hd hk) | (go_at_call 29; with_reducible refine (HC2.out _).mono ?_; rintro e w1 ⟨rfl, hb⟩; have hop := (HOP.out).below hb; have HB := Go.Lib.hid (bstep HB.out hb); have HOP := Go.Lib.hid hop; clear hop hb; obtain ⟨c0, c1, c2, c3, c4, c5, c6, c7, c8, c9, c10⟩ := op_cells0' HOP.out hd hk) | (go_at_call 59; with_reducible refine (HC3.out _).mono ?_; rintro e w1 ⟨rfl, hb⟩; have hop := (HOP.out).below hb; have HB := Go.Lib.hid (bstep HB.out hb); have HOP := Go.Lib.hid hop; clear hop hb; obtain ⟨c0, c1, c2, c3, c4, c5, c6, c7, c8, c9, c10⟩ := op_cells0' HOP.out hd hk) | (go_at_call 60; with_reducible refine (HC4.out _).mono ?_; rintro e w1 ⟨rfl, hb⟩; have hop := (HOP.out).below hb; have HB := Go.Lib.hid (bstep HB.out hb); have HOP := Go.Lib.hid hop; clear hop hb; obtain ⟨c0, c1, c2, c3, c4, c5, c6, c7, c8, c9, c10⟩ := op_cells0' HOP.out hd hk))
          all_goals (go_ret; exact ⟨by rw [← HR.out]; simp_all, HB.out⟩)
        · go_enter Try.func31, Try.ntmps31
          go_wp2_with (first | (go_at_call 58; with_reducible refine (HC1.out _).mono ?_; rintro e w1 ⟨rfl, hb⟩; have hop := (HOP.out).below hb; have HB := Go.Lib.hid (bstep HB.out hb); have HOP := Go.Lib.hid hop; clear hop hb; obtain ⟨c0, c1, c2, c3, c4, c5, c6, c7, c8, c9, c10⟩ := op_cells0' HOP.out hd hk) | (go_at_call 29; with_reducible refine (HC2.out _).mono ?_; rintro e w1 ⟨rfl, hb⟩; have hop := (HOP.out).below hb; have HB := Go.Lib.hid (bstep HB.out hb); have HOP := Go.Lib.hid hop; clear hop hb; obtain ⟨c0, c1, c2, c3, c4, c5, c6, c7, c8, c9, c10⟩ := op_cells0' HOP.out hd hk) | (go_at_call 59; with_reducible refine (HC3.out _).mono ?_; rintro e w1 ⟨rfl, hb⟩; have hop := (HOP.out).below hb; have HB := Go.Lib.hid (bstep HB.out hb); have HOP := Go.Lib.hid hop; clear hop hb; obtain ⟨c0, c1, c2, c3, c4, c5, c6, c7, c8, c9, c10⟩ := op_cells0' HOP.out hd hk) | (go_at_call 60; with_reducible refine (HC4.out _).mono ?_; rintro e w1 ⟨rfl, hb⟩; have hop := (HOP.out).below hb; have HB := Go.Lib.hid (bstep HB.out hb); have HOP := Go.Lib.hid hop; clear hop hb; obtain ⟨c0, c1, c2, c3, c4, c5, c6, c7, c8, c9, c10⟩ := op_cells0' HOP.out hd hk))
          all_goals (go_ret; exact ⟨by rw [← HR.out]; simp_all, HB.out⟩)
      · go_enter Try.func31, Try.ntmps31
        go_wp2_with (first | (go_at_call 58; with_reducible refine (HC1.out _).mono ?_; rintro e w1 ⟨rfl, hb⟩; have hop := (HOP.out).below hb; have HB := Go.Lib.hid (bstep HB.out hb); have HOP := Go.Lib.hid hop; clear hop hb; obtain ⟨c0, c1, c2, c3, c4, c5, c6, c7, c8, c9, c10⟩ := op_cells0' HOP.out hd hk) | (go_at_call 29; with_reducible refine (HC2.out _).mono ?_; rintro e w1 ⟨rfl, hb⟩; have hop := (HOP.out).below hb; have HB := Go.Lib.hid (bstep HB.out hb); have HOP := Go.Lib.hid hop; clear hop hb; obtain ⟨c0, c1, c2, c3, c4, c5, c6, c7, c8, c9, c10⟩ := op_cells0' HOP.out hd hk) | (go_at_call 59; with_reducible refine (HC3.out _).mono ?_; rintro e w1 ⟨rfl, hb⟩; have hop := (HOP.out).below hb; have HB := Go.Lib.hid (bstep HB.out hb); have HOP := Go.Lib.hid hop; clear hop hb; obtain ⟨c0, c1, c2, c3, c4, c5, c6, c7, c8, c9, c10⟩ := op_cells0' HOP.out hd hk) | (go_at_call 60; with_reducible refine (HC4.out _).mono ?_; rintro e w1 ⟨rfl, hb⟩; have hop := (HOP.out).below hb; have HB := Go.Lib.hid (bstep HB.out hb); have HOP := Go.Lib.hid hop; clear hop hb; obtain ⟨c0, c1, c2, c3, c4, c5, c6, c7, c8, c9, c10⟩ := op_cells0' HOP.out hd hk))
        all_goals (go_ret; exact ⟨by rw [← HR.out]; simp_all, HB.out⟩)
  by_cases hk3 : k = 3
  · subst hk3
    cases rv
    · go_enter Try.func31, Try.ntmps31
      go_wp2_with (first | (go_at_call 58; with_reducible refine (HC1.out _).mono ?_; rintro e w1 ⟨rfl, hb⟩; have hop := (HOP.out).below hb; have HB := Go.Lib.hid (bstep HB.out hb); have HOP := Go.Lib.hid hop; clear hop hb; obtain ⟨c0, c1, c2, c3, c4, c5, c6, c7, c8, c9, c10⟩ := op_cells0' HOP.out hd hk) | (go_at_call 29; with_reducible refine (HC2.out _).mono ?_; rintro e w1 ⟨rfl, hb⟩; have hop := (HOP.out).below hb; have HB := Go.Lib.hid (bstep HB.out hb); have HOP := Go.Lib.hid hop; clear hop hb; obtain ⟨c0, c1, c2, c3, c4, c5, c6, c7, c8, c9, c10⟩ := op_cells0' HOP.out hd hk) | (go_at_call 59; with_reducible refine (HC3.out _).mono ?_; rintro e w1 ⟨rfl, hb⟩; have hop := (HOP.out).below hb; have HB := Go.Lib.hid (bstep HB.out hb); have HOP := Go.Lib.hid hop; clear hop hb; obtain ⟨c0, c1, c2, c3, c4, c5, c6, c7, c8, c9, c10⟩ := op_cells0' HOP.out hd hk) | (go_at_call 60; with_reducible refine (HC4.out _).mono ?_; rintro e w1 ⟨rfl, hb⟩; have hop := (HOP.out).below hb; have HB := Go.Lib.hid (bstep HB.out hb); have HOP := Go.Lib.hid hop; clear hop hb; obtain ⟨c0, c1, c2, c3, c4, c5, c6, c7, c8, c9, c10⟩ := op_cells0' HOP.out hd hk))
      all_goals (go_ret; exact ⟨by rw [← HR.out]; simp_all, HB.out⟩)
    · cases d
      · cases e3
        · go_enter Try.func31, Try.ntmps31
          go_wp2_with (first | (go_at_call 58; with_reducible refine (HC1.out _).mono ?_; rintro e w1 ⟨rfl, hb⟩; have hop := (HOP.out).below hb; have HB := Go.Lib.hid (bstep HB.out hb); have HOP := Go.Lib.hid hop; clear hop hb; obtain ⟨c0, c1, c2, c3, c4, c5, c6, c7, c8, c9, c10⟩ := op_cells0' HOP.out hd hk) | (go_at_call 29; with_reducible refine (HC2.out _).mono ?_; rintro e w1 ⟨rfl, hb⟩; have hop := (HOP.out).below hb; have HB := Go.Lib.hid (bstep HB.out hb); have HOP := Go.Lib.hid hop; clear hop hb; obtain ⟨c0, c1, c2, c3, c4, c5, c6, c7, c8, c9, c10⟩ := op_cells0' HOP.out hd hk) | (go_at_call 59; with_reducible refine (HC3.out _).mono ?_; rintro e w1 ⟨rfl, hb⟩; have hop := (HOP.out).below hb; have HB := Go.Lib.hid (bstep HB.out hb); have HOP := Go.Lib.hid hop; clear hop hb; obtain ⟨c0, c1, c2, c3, c4, c5, c6, c7, c8, c9, c10⟩ := op_cells0' HOP.out hd hk) | (go_at_call 60; with_reducible refine (HC4.out _).mono ?_; rintro e w1 ⟨rfl, hb⟩; have hop := (HOP.out).below hb; have HB := Go.Lib.hid (bstep HB.out hb); have HOP := Go.Lib.hid hop; clear hop hb; obtain ⟨c0, c1, c2, c3, c4, c5, c6, c7, c8, c9, c10⟩ := op_cells0' HOP.out hd hk))
          all_goals (go_ret; exact ⟨by rw [← HR.out]; simp_all, HB.out⟩)
        · go_enter Try.func31, Try.ntmps31
          go_wp2_with (first | (go_at_call 58; with_reducible refine (HC1.out _).mono ?_; rintro e w1 ⟨rfl, hb⟩; have hop := (HOP.out).below hb; have HB := Go.Lib.hid (bstep HB.out hb); have HOP := Go.Lib.hid hop; clear hop hb; obtain ⟨c0, c1, c2, c3, c4, c5, c6, c7, c8, c9, c10⟩ := op_cells0' HOP.out hd hk) | (go_at_call 29; with_reducible refine (HC2.out _).mono ?_; rintro e w1 ⟨rfl, hb⟩; have hop := (HOP.out).below hb; have HB := Go.Lib.hid (bstep HB.out hb); have HOP := Go.Lib.hid hop; clear hop hb; obtain ⟨c0, c1, c2, c3, c4, c5, c6, c7, c8, c9, c10⟩ := op_cells0' HOP.out hd hk) | (go_at_call 59; with_reducible refine (HC3.out _).mono ?_; rintro e w1 ⟨rfl, hb⟩; have hop := (HOP.out).below hb; have HB := Go.Lib.hid (bstep HB.out hb); have HOP := Go.Lib.hid hop; clear hop hb; obtain ⟨c0, c1, c2, c3, c4, c5, c6, c7, c8, c9, c10⟩ := op_cells0' HOP.out hd hk) | (go_at_call 60; with_reducible refine (HC4.out _).mono ?_; rintro e w1 ⟨rfl, hb⟩; have hop := (HOP.out).below hb; have HB := Go.Lib.hid (bstep HB.out hb); have HOP := Go.Lib.hid hop; clear hop hb; obtain ⟨c0, c1, c2, c3, c4, c5, c6, c7, c8, c9, c10⟩ := op_cells0' HOP.out hd hk))
          all_goals (go_ret; exact ⟨by rw [← HR.out]; simp_all, HB.out⟩)
      · go_enter Try.func31, Try.ntmps31
        go_wp2_with (first | (go_at_call 58; with_reducible refine (HC1.out _).mono ?_; rintro e w1 ⟨rfl, hb⟩; have hop := (HOP.out).below hb; have HB := Go.Lib.hid (bstep HB.out hb); have HOP := Go.Lib.hid hop; clear hop hb; obtain ⟨c0, c1, c2, c3, c4, c5, c6, c7, c8, c9, c10⟩ := op_cells0' HOP.out hd hk) | (go_at_call 29; with_reducible refine (HC2.out _).mono ?_; rintro e w1 ⟨rfl, hb⟩; have hop := (HOP.out).below hb; have HB := Go.Lib.hid (bstep HB.out hb); have HOP := Go.Lib.hid hop; clear hop hb; obtain ⟨c0, c1, c2, c3, c4, c5, c6, c7, c8, c9, c10⟩ := op_cells0' HOP.out hd hk) | (go_at_call 59; with_reducible refine (HC3.out _).mono ?_; rintro e w1 ⟨rfl, hb⟩; have hop := (HOP.out).below hb; have HB := Go.Lib.hid (bstep HB.out hb); have HOP := Go.Lib.hid hop; clear hop hb; obtain ⟨c0, c1, c2, c3, c4, c5, c6, c7, c8, c9, c10⟩ := op_cells0' HOP.out hd hk) | (go_at_call 60; with_reducible refine (HC4.out _).mono ?_; rintro e w1 ⟨rfl, hb⟩; have hop := (HOP.out).below hb; have HB := Go.Lib.hid (bstep HB.out hb); have HOP := Go.Lib.hid hop; clear hop hb; obtain ⟨c0, c1, c2, c3, c4, c5, c6, c7, c8, c9, c10⟩ := op_cells0' HOP.out hd hk))
        all_goals (go_ret; exact ⟨by rw [← HR.out]; simp_all, HB.out⟩)
  by_cases hk4 : k = 4
  · subst hk4
    cases rv
    · go_enter Try.func31, Try.ntmps31
      go_wp2_with (first | (go_at_call 58; with_reducible refine (HC1.out _).mono ?_; rintro e w1 ⟨rfl, hb⟩; have hop := (HOP.out).below hb; have HB := Go.Lib.hid (bstep HB.out hb); have HOP := Go.Lib.hid hop; clear hop hb; obtain ⟨c0, c1, c2, c3, c4, c5, c6, c7, c8, c9, c10⟩ := op_cells0' HOP.out hd hk) | (go_at_call 29; with_reducible refine (HC2.out _).mono ?_; rintro e w1 ⟨rfl, hb⟩; have hop := (HOP.out).below hb; have HB := Go.Lib.hid (bstep HB.out hb); have HOP := Go.Lib.hid hop; clear hop hb; obtain ⟨c0, c1, c2, c3, c4, c5, c6, c7, c8, c9, c10⟩ := op_cells0' HOP.out hd hk) | (go_at_call 59; with_reducible refine (HC3.out _).mono ?_; rintro e w1 ⟨rfl, hb⟩; have hop := (HOP.out).below hb; have HB := Go.Lib.hid (bstep HB.out hb); have HOP := Go.Lib.hid hop; clear hop hb; obtain ⟨c0, c1, c2, c3, c4, c5, c6, c7, c8, c9, c10⟩ := op_cells0' HOP.out hd hk) | (go_at_call 60; with_reducible refine (HC4.out _).mono ?_; rintro e w1 ⟨rfl, hb⟩; have hop := (HOP.out).below hb; have HB := Go.Lib.hid (bstep HB.out hb); have HOP := Go.Lib.hid hop; clear hop hb; obtain ⟨c0, c1, c2, c3, c4, c5, c6, c7, c8, c9, c10⟩ := op_cells0' HOP.out hd hk))
      all_goals (go_ret; exact ⟨by rw [← HR.out]; simp_all, HB.out⟩)
    · cases d
      · cases e3
        · go_enter Try.func31, Try.ntmps31
          go_wp2_with (first | (go_at_call 58; with_reducible refine (HC1.out _).mono ?_; rintro e w1 ⟨rfl, hb⟩; have hop := (HOP.out).below hb; have HB := Go.Lib.hid (bstep HB.out hb); have HOP := Go.Lib.hid hop; clear hop hb; obtain ⟨c0, c1, c2, c3, c4, c5, c6, c7, c8, c9, c10⟩ := op_cells0' HOP.out hd hk) | (go_at_call 29; with_reducible refine (HC2.out _).mono ?_; rintro e w1 ⟨rfl, hb⟩; have hop := (HOP.out).below hb; have HB := Go.Lib.hid (bstep HB.out hb); have HOP := Go.Lib.hid hop; clear hop hb; obtain ⟨c0, c1, c2, c3, c4, c5, c6, c7, c8, c9, c10⟩ := op_cells0' HOP.out hd hk) | (go_at_call 59; with_reducible refine (HC3.out _).mono ?_; rintro e w1 ⟨rfl, hb⟩; have hop := (HOP.out).below hb; have HB := Go.Lib.hid (bstep HB.out hb); have HOP := Go.Lib.hid hop; clear hop hb; obtain ⟨c0, c1, c2, c3, c4, c5, c6, c7, c8, c9, c10⟩ := op_cells0' HOP.out hd hk) | (go_at_call 60; with_reducible refine (HC4.out _).mono ?_; rintro e w1 ⟨rfl, hb⟩; have hop := (HOP.out).below hb; have HB := Go.Lib.hid (bstep HB.out hb); have HOP := Go.Lib.hid hop; clear hop hb; obtain ⟨c0, c1, c2, c3, c4, c5, c6, c7, c8, c9, c10⟩ := op_cells0' HOP.out hd hk))
          all_goals (go_ret; exact ⟨by rw [← HR.out]; simp_all, HB.out⟩)
        · go_enter Try.func31, Try.ntmps31
          go_wp2_with (first | (go_at_call 58; with_reducible refine (HC1.out _).mono ?_; rintro e w1 ⟨rfl, hb⟩; have hop := (HOP.out).below hb; have HB := Go.Lib.hid (bstep HB.out hb); have HOP := Go.Lib.hid hop; clear hop hb; obtain ⟨c0, c1, c2, c3, c4, c5, c6, c7, c8, c9, c10⟩ := op_cells0' HOP.out hd hk) | (go_at_call 29; with_reducible refine (HC2.out _).mono ?_; rintro e w1 ⟨rfl, hb⟩; have hop := (HOP.out).below hb; have HB := Go.Lib.hid (bstep HB.out hb); have HOP := Go.Lib.hid hop; clear hop hb; obtain ⟨c0, c1, c2, c3, c4, c5, c6, c7, c8, c9, c10⟩ := op_cells0' HOP.out hd hk) | (go_at_call 59; with_reducible refine (HC3.out _).mono ?_; rintro e w1 ⟨rfl, hb⟩; have hop := (HOP.out).below hb; have HB := Go.Lib.hid (bstep HB.out hb); have HOP := Go.Lib.hid hop; clear hop hb; obtain ⟨c0, c1, c2, c3, c4, c5, c6, c7, c8, c9, c10⟩ := op_cells0' HOP.out hd hk) | (go_at_call 60; with_reducible refine (HC4.out _).mono ?_; rintro e w1 ⟨rfl, hb⟩; have hop := (HOP.out).below hb; have HB := Go.Lib.hid (bstep HB.out hb); have HOP := Go.Lib.hid hop; clear hop hb; obtain ⟨c0, c1, c2, c3, c4, c5, c6, c7, c8, c9, c10⟩ := op_cells0' HOP.out hd hk))
          all_goals (go_ret; exact ⟨by rw [← HR.out]; simp_all, HB.out⟩)
      · go_enter Try.func31, Try.ntmps31
        go_wp2_with (first | (go_at_call 58; with_reducible refine (HC1.out _).mono ?_; rintro e w1 ⟨rfl, hb⟩; have hop := (HOP.out).below hb; have HB := Go.Lib.hid (bstep HB.out hb); have HOP := Go.Lib.hid hop; clear hop hb; obtain ⟨c0, c1, c2, c3, c4, c5, c6, c7, c8, c9, c10⟩ := op_cells0' HOP.out hd hk) | (go_at_call 29; with_reducible refine (HC2.out _).mono ?_; rintro e w1 ⟨rfl, hb⟩; have hop := (HOP.out).below hb; have HB := Go.Lib.hid (bstep HB.out hb); have HOP := Go.Lib.hid hop; clear hop hb; obtain ⟨c0, c1, c2, c3, c4, c5, c6, c7, c8, c9, c10⟩ := op_cells0' HOP.out hd hk) | (go_at_call 59; with_reducible refine (HC3.out _).mono ?_; rintro e w1 ⟨rfl, hb⟩; have hop := (HOP.out).below hb; have HB := Go.Lib.hid (bstep HB.out hb); have HOP := Go.Lib.hid hop; clear hop hb; obtain ⟨c0, c1, c2, c3, c4, c5, c6, c7, c8, c9, c10⟩ := op_cells0' HOP.out hd hk) | (go_at_call 60; with_reducible refine (HC4.out _).mono ?_; rintro e w1 ⟨rfl, hb⟩; have hop := (HOP.out).below hb; have HB := Go.Lib.hid (bstep HB.out hb); have HOP := Go.Lib.hid hop; clear hop hb; obtain ⟨c0, c1, c2, c3, c4, c5, c6, c7, c8, c9, c10⟩ := op_cells0' HOP.out hd hk))
        all_goals (go_ret; exact ⟨by rw [← HR.out]; simp_all, HB.out⟩)
  · have b1 : (k == 1) = false := by simp [hk1]
    have b2 : (k == 2) = false := by simp [hk2]
    have b3 : (k == 3) = false := by simp [hk3]
    have b4 : (k == 4) = false := by simp [hk4]
    go_enter Try.func31, Try.ntmps31
    go_wp2_with fail
    go_ret
    exact ⟨by rw [← HR.out]; simp [hk1, hk2, hk3, hk4], HB.out⟩

set_option maxRecDepth 20000 in
set_option maxHeartbeats 4000000 in
theorem popright_big (x : Opn) (w : World) (hn : x.name.length ≤ 140737488351232) :
    Calls Try.prog 13 #[opVal x] w fun e w' => e = .returned (.int .i64 x.right) ∧ Below w.heap.size w w' := by
  have hc1 := fun w => pstamp_any x.stamp w
  have hc2 := fun w => pnright_any x.name w hn
  have hc3 := fun w => pfits_any x w
  have hB : Below w.heap.size w (w.alloc (.cells (opArr x) 25)) := (Below.refl _ _).alloc (Nat.le_refl _) _
  obtain ⟨r, hr⟩ : ∃ r, x.right = r := ⟨_, rfl⟩
  rw [hr]
  unfold Opn.right at hr
  have hop := OpAt.new w x 25
  unfold opVal at hc3 ⊢
  unfold opArr opCells at hB hop hc3 ⊢
  obtain ⟨sv, hsv⟩ : ∃ e, decide (x.stamp.right = 0) = e := ⟨_, rfl⟩
  obtain ⟨nv, hnv⟩ : ∃ e, nmRight x.name = e := ⟨_, rfl⟩
  obtain ⟨sh, hsh⟩ : ∃ e, x.shape = e := ⟨_, rfl⟩
  rw [hsv] at hc1
  rw [hnv] at hc2 hr
  rw [hsh] at hc3 hr
  obtain ⟨d, hd⟩ : ∃ d, x.dir = d := ⟨_, rfl⟩
  obtain ⟨k, hk⟩ : ∃ k, x.kind = k := ⟨_, rfl⟩
  rw [hk] at hr
  rw [hd, hk] at hB hop hc3
  rw [hd, hk]
  have HC1 := Go.Lib.hid hc1; clear hc1
  have HC2 := Go.Lib.hid hc2; clear hc2
  have HC3 := Go.Lib.hid hc3; clear hc3
  have HB := Go.Lib.hid hB; clear hB
  have HOP := Go.Lib.hid hop; clear hop
  clear hnv hsh
  cases sv
  · have hrr : r = 20 := by
      rw [← hr, if_pos (.inl (of_decide_eq_false hsv))]
    subst hrr
    clear hr hsv
    go_enter Try.func13, Try.ntmps13
    go_wp2_with (first | (go_at_call 29; with_reducible refine (HC1.out _).mono ?_; rintro e w1 ⟨rfl, hb⟩; have hop := (HOP.out).below hb; have HB := Go.Lib.hid (bstep HB.out hb); have HOP := Go.Lib.hid hop; clear hop hb; obtain ⟨c0, c1, c2, c3, c4, c5, c6, c7, c8, c9, c10⟩ := op_cells0' HOP.out hd hk) | (go_at_call 30; with_reducible refine (HC2.out _).mono ?_; rintro e w1 ⟨rfl, hb⟩; have hop := (HOP.out).below hb; have HB := Go.Lib.hid (bstep HB.out hb); have HOP := Go.Lib.hid hop; clear hop hb; obtain ⟨c0, c1, c2, c3, c4, c5, c6, c7, c8, c9, c10⟩ := op_cells0' HOP.out hd hk) | (go_at_call 31; with_reducible refine (HC3.out _).mono ?_; rintro e w1 ⟨rfl, hb⟩; have HB := Go.Lib.hid (bstep HB.out hb); clear hb))
    all_goals (go_ret; exact ⟨rfl, HB.out⟩)
  have hs0 : x.stamp.right = 0 := of_decide_eq_true hsv
  by_cases hq1 : x.seq < 1
  · have hrr : r = 20 := by
      rw [← hr, if_pos (.inr (.inl hq1))]
    subst hrr
    clear hr hsv hs0
    go_enter Try.func13, Try.ntmps13
    go_wp2_with (first | (go_at_call 29; with_reducible refine (HC1.out _).mono ?_; rintro e w1 ⟨rfl, hb⟩; have hop := (HOP.out).below hb; have HB := Go.Lib.hid (bstep HB.out hb); have HOP := Go.Lib.hid hop; clear hop hb; obtain ⟨c0, c1, c2, c3, c4, c5, c6, c7, c8, c9, c10⟩ := op_cells0' HOP.out hd hk) | (go_at_call 30; with_reducible refine (HC2.out _).mono ?_; rintro e w1 ⟨rfl, hb⟩; have hop := (HOP.out).below hb; have HB := Go.Lib.hid (bstep HB.out hb); have HOP := Go.Lib.hid hop; clear hop hb; obtain ⟨c0, c1, c2, c3, c4, c5, c6, c7, c8, c9, c10⟩ := op_cells0' HOP.out hd hk) | (go_at_call 31; with_reducible refine (HC3.out _).mono ?_; rintro e w1 ⟨rfl, hb⟩; have HB := Go.Lib.hid (bstep HB.out hb); clear hb))
    all_goals (go_ret; exact ⟨rfl, HB.out⟩)
  by_cases hq2 : 1099511627776 < x.seq
  · have hrr : r = 20 := by
      rw [← hr, if_pos (.inr (.inr hq2))]
    subst hrr
    clear hr hsv hs0
    go_enter Try.func13, Try.ntmps13
    go_wp2_with (first | (go_at_call 29; with_reducible refine (HC1.out _).mono ?_; rintro e w1 ⟨rfl, hb⟩; have hop := (HOP.out).below hb; have HB := Go.Lib.hid (bstep HB.out hb); have HOP := Go.Lib.hid hop; clear hop hb; obtain ⟨c0, c1, c2, c3, c4, c5, c6, c7, c8, c9, c10⟩ := op_cells0' HOP.out hd hk) | (go_at_call 30; with_reducible refine (HC2.out _).mono ?_; rintro e w1 ⟨rfl, hb⟩; have hop := (HOP.out).below hb; have HB := Go.Lib.hid (bstep HB.out hb); have HOP := Go.Lib.hid hop; clear hop hb; obtain ⟨c0, c1, c2, c3, c4, c5, c6, c7, c8, c9, c10⟩ := op_cells0' HOP.out hd hk) | (go_at_call 31; with_reducible refine (HC3.out _).mono ?_; rintro e w1 ⟨rfl, hb⟩; have HB := Go.Lib.hid (bstep HB.out hb); clear hb))
    all_goals (go_ret; exact ⟨rfl, HB.out⟩)
  rw [if_neg (by rw [hs0]; omega)] at hr
  clear hsv hs0
  have HR := Go.Lib.hid hr; clear hr
  by_cases hk1 : k = 1
  · subst hk1
    go_enter Try.func13, Try.ntmps13
    go_wp2_with (first | (go_at_call 29; with_reducible refine (HC1.out _).mono ?_; rintro e w1 ⟨rfl, hb⟩; have hop := (HOP.out).below hb; have HB := Go.Lib.hid (bstep HB.out hb); have HOP := Go.Lib.hid hop; clear hop hb; obtain ⟨c0, c1, c2, c3, c4, c5, c6, c7, c8, c9, c10⟩ := op_cells0' HOP.out hd hk) | (go_at_call 30; with_reducible refine (HC2.out _).mono ?_; rintro e w1 ⟨rfl, hb⟩; have hop := (HOP.out).below hb; have HB := Go.Lib.hid (bstep HB.out hb); have HOP := Go.Lib.hid hop; clear hop hb; obtain ⟨c0, c1, c2, c3, c4, c5, c6, c7, c8, c9, c10⟩ := op_cells0' HOP.out hd hk) | (go_at_call 31; with_reducible refine (HC3.out _).mono ?_; rintro e w1 ⟨rfl, hb⟩; have HB := Go.Lib.hid (bstep HB.out hb); clear hb))
    all_goals (go_ret; refine ⟨?_, HB.out⟩; rw [← HR.out]; simp_all)
  by_cases hk2 : k = 2
  · subst hk2
    go_enter Try.func13, Try.ntmps13
    go_wp2_with (first | (go_at_call 29; with_reducible refine (HC1.out _).mono ?_; rintro e w1 ⟨rfl, hb⟩; have hop := (HOP.out).below hb; have HB := Go.Lib.hid (bstep HB.out hb); have HOP := Go.Lib.hid hop; clear hop hb; obtain ⟨c0, c1, c2, c3, c4, c5, c6, c7, c8, c9, c10⟩ := op_cells0' HOP.out hd hk) | (go_at_call 30; with_reducible refine (HC2.out _).mono ?_; rintro e w1 ⟨rfl, hb⟩; have hop := (HOP.out).below hb; have HB := Go.Lib.hid (bstep HB.out hb); have HOP := Go.Lib.hid hop; clear hop hb; obtain ⟨c0, c1, c2, c3, c4, c5, c6, c7, c8, c9, c10⟩ := op_cells0' HOP.out hd hk) | (go_at_call 31; with_reducible refine (HC3.out _).mono ?_; rintro e w1 ⟨rfl, hb⟩; have HB := Go.Lib.hid (bstep HB.out hb); clear hb))
    all_goals (go_ret; refine ⟨?_, HB.out⟩; rw [← HR.out]; simp_all)
  · have hb1 : (k == 1) = false := by simp [hk1]
    have hb2 : (k == 2) = false := by simp [hk2]
    clear hk1 hk2
    go_enter Try.func13, Try.ntmps13
    go_wp2_with (first | (go_at_call 29; with_reducible refine (HC1.out _).mono ?_; rintro e w1 ⟨rfl, hb⟩; have hop := (HOP.out).below hb; have HB := Go.Lib.hid (bstep HB.out hb); have HOP := Go.Lib.hid hop; clear hop hb; obtain ⟨c0, c1, c2, c3, c4, c5, c6, c7, c8, c9, c10⟩ := op_cells0' HOP.out hd hk) | (go_at_call 30; with_reducible refine (HC2.out _).mono ?_; rintro e w1 ⟨rfl, hb⟩; have hop := (HOP.out).below hb; have HB := Go.Lib.hid (bstep HB.out hb); have HOP := Go.Lib.hid hop; clear hop hb; obtain ⟨c0, c1, c2, c3, c4, c5, c6, c7, c8, c9, c10⟩ := op_cells0' HOP.out hd hk) | (go_at_call 31; with_reducible refine (HC3.out _).mono ?_; rintro e w1 ⟨rfl, hb⟩; have HB := Go.Lib.hid (bstep HB.out hb); clear hb))
    all_goals (go_ret; refine ⟨?_, HB.out⟩; rw [← HR.out]; simp_all)

theorem popright_any (x : Opn) (w : World) (hwf : opWf x) (hn : x.name.length ≤ 1000000) (hm : x.manifest.length ≤ 1000000) :
    Calls Try.prog 13 #[opVal x] w fun e w' => e = .returned (.int .i64 x.right) ∧ Below w.heap.size w w' :=
  popright_big x w (by omega)
end Go.Proofs.Ytmkmahjboocoaaa.W
