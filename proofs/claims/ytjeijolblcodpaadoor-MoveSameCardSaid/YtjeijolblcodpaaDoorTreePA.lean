/- The program's trees: a node's place, the first greater one, whether a stamp is in a list. -/
import Derived.Test.YtjeijolblcodpaaDoorMg7
import Derived.Test.YtjeijolblcodpaaDoorMg5
import Derived.Test.YtjeijolblcodpaaDoorMg2
namespace Go.Proofs.YtjeijolblcodpaaDoor.W
set_option maxRecDepth 20000
set_option linter.unusedVariables false
open Go.RowKit Go.Proofs Arb

set_option maxRecDepth 20000 in
set_option maxHeartbeats 4000000 in
theorem pplace_any (v : Value) (l : List Nod) (s : St) (w : World) (h : Nods w v l) (hl : l.length ≤ 1000000) :
    Calls Tryd.prog 48 #[v, .agg #[.int .i64 s.count, .int .i64 s.who]] w fun e w' => e = .returned (.int .i64 (atI l s)) ∧ Below w.heap.size w w' := by
  obtain ⟨A, c, rfl, hc⟩ := h.len
  obtain ⟨r, hr⟩ : ∃ r, atI l s = r := ⟨_, rfl⟩
  rw [hr]
  obtain ⟨n, hnn⟩ : ∃ n, l.length = n := ⟨_, rfl⟩
  rw [hnn] at h hc hl
  rw [hnn]
  have HV := Go.Lib.hid h; clear h
  have HR := Go.Lib.hid hr; clear hr
  have HN := Go.Lib.hid hnn; clear hnn
  go_enter Tryd.func48, Tryd.ntmps48
  have hb0 : Below w.heap.size w (w.alloc (.cells #[.int .i64 s.count, .int .i64 s.who] 33)) := (Below.refl _ _).alloc (Nat.le_refl _) _
  have ha0 : (w.alloc (.cells #[.int .i64 s.count, .int .i64 s.who] 33)).cell? ⟨w.heap.size, 0, none⟩ = some (.int .i64 s.count) := by rw [cell_of_row _ _ _ _ _ _ (heap_alloc_new w _)]; rfl
  have ha1 : (w.alloc (.cells #[.int .i64 s.count, .int .i64 s.who] 33)).cell? ⟨w.heap.size, 1, none⟩ = some (.int .i64 s.who) := by rw [cell_of_row _ _ _ _ _ _ (heap_alloc_new w _)]; rfl
  have hlt0 : w.heap.size < (w.alloc (.cells #[.int .i64 s.count, .int .i64 s.who] 33)).heap.size := by simp
  have hv1 := HV.out.below hb0
  go_wp2_with fail
  obtain ⟨W1, hW1⟩ : ∃ W, w.alloc (.cells #[.int .i64 s.count, .int .i64 s.who] 33) = W := ⟨_, rfl⟩
  rw [hW1] at hb0 ha0 ha1 hlt0 hv1 ⊢
  have HB0 := Go.Lib.hid hb0; have HA0 := Go.Lib.hid ha0; have HA1 := Go.Lib.hid ha1; have HV1 := Go.Lib.hid hv1; have HLT := Go.Lib.hid hlt0
  clear hb0 ha0 ha1 hlt0 hv1 hW1
  go_loopw [5, 8, 9, 10, 11, 12, 13, 14, 15, 16, 17, 18, 19] (fun _ i _ _ _ _ _ _ _ _ _ _ _ wr => ∃ k : Nat, k ≤ n ∧ i = .int .i64 (k : Int) ∧ (∀ (j : Nat) (y : Nod), j < k → l[j]? = some y → y.id ≠ s) ∧ Below W1.heap.size W1 wr) (fun _ i _ _ _ _ _ _ _ _ _ _ _ _ => n - (intOf i).toNat)
  case atStart => exact ⟨0, by omega, rfl, fun _ _ h => by omega, Below.refl _ _⟩
  case round =>
    obtain ⟨k, hk, rfl, hall, hbw⟩ := hrel
    have HALL := Go.Lib.hid hall; clear hall
    have HBW := Go.Lib.hid hbw
    by_cases hkn : k < n
    · have hkn' : (k : Int) < (n : Int) := by omega
      obtain ⟨b1, o1, x, rfl, hg1, hx⟩ := (HV1.out.below hbw).at k hkn
      obtain ⟨c0, c1, -⟩ := nd_cells hx
      have d0 := (hbw.cell (p := ⟨w.heap.size, 0, none⟩) HLT.out).trans HA0.out
      have d1 := (hbw.cell (p := ⟨w.heap.size, 1, none⟩) HLT.out).trans HA1.out
      have hq := fun w => eq_st x.id s w
      obtain ⟨q, hqe⟩ : ∃ q, decide (x.id = s) = q := ⟨_, rfl⟩
      rw [hqe] at hq
      have HG1 := Go.Lib.hid hg1; clear hg1
      have HQ := Go.Lib.hid hqe; clear hqe
      clear hx hbw
      cases q
      · go_wp2_with fail
        first | (go_quiet (fail)) | skip
        go_wp2_with fail
        refine ⟨⟨k + 1, by omega, by simp, fun j y hj hy => ?_, below_drewN HBW.out _⟩, by simp [intOf]; omega⟩
        rcases Nat.lt_or_ge j k with h | h
        · exact HALL.out j y h hy
        · obtain rfl : j = k := by omega
          rw [HG1.out] at hy
          injection hy with hy
          subst hy
          exact of_decide_eq_false HQ.out
      · go_wp2_with fail
        first | (go_quiet (fail)) | skip
        go_wp2_with fail
        go_ret
        obtain ⟨h1, h2⟩ := find_hit HALL.out HG1.out (of_decide_eq_true HQ.out)
        refine ⟨?_, bstep HB0.out (below_drewN HBW.out _)⟩
        rw [← HR.out]
        unfold atI
        rw [h1, h2]
        rfl
    · obtain rfl : k = n := by omega
      clear hbw
      go_wp2_with fail
      go_ret
      have h1 := find_miss HN.out HALL.out
      refine ⟨?_, bstep HB0.out HBW.out⟩
      rw [← HR.out]
      unfold atI
      rw [h1]
      rfl

set_option maxRecDepth 20000 in
set_option maxHeartbeats 4000000 in
/-- The place of the first node with a greater stamp; at the end, if there is none. -/
theorem pfirst_any (v : Value) (l : List Nod) (s : St) (w : World) (h : Nods w v l) (hl : l.length ≤ 1000000) :
    Calls Tryd.prog 74 #[v, .agg #[.int .i64 s.count, .int .i64 s.who]] w fun e w' => ∃ k : Nat, e = .returned (.int .i64 (k : Int)) ∧ k ≤ l.length ∧ (∀ (j : Nat) (y : Nod), j < k → l[j]? = some y → s.less y.id = false) ∧ (∀ y, l[k]? = some y → s.less y.id = true) ∧ Below w.heap.size w w' := by
  obtain ⟨A, c, rfl, hc⟩ := h.len
  obtain ⟨n, hnn⟩ : ∃ n, l.length = n := ⟨_, rfl⟩
  rw [hnn] at h hc hl
  rw [hnn]
  have HV := Go.Lib.hid h; clear h
  have HN := Go.Lib.hid hnn; clear hnn
  go_enter Tryd.func74, Tryd.ntmps74
  have hb0 : Below w.heap.size w (w.alloc (.cells #[.int .i64 s.count, .int .i64 s.who] 33)) := (Below.refl _ _).alloc (Nat.le_refl _) _
  have ha0 : (w.alloc (.cells #[.int .i64 s.count, .int .i64 s.who] 33)).cell? ⟨w.heap.size, 0, none⟩ = some (.int .i64 s.count) := by rw [cell_of_row _ _ _ _ _ _ (heap_alloc_new w _)]; rfl
  have ha1 : (w.alloc (.cells #[.int .i64 s.count, .int .i64 s.who] 33)).cell? ⟨w.heap.size, 1, none⟩ = some (.int .i64 s.who) := by rw [cell_of_row _ _ _ _ _ _ (heap_alloc_new w _)]; rfl
  have hlt0 : w.heap.size < (w.alloc (.cells #[.int .i64 s.count, .int .i64 s.who] 33)).heap.size := by simp
  have hv1 := HV.out.below hb0
  go_wp2_with fail
  obtain ⟨W1, hW1⟩ : ∃ W, w.alloc (.cells #[.int .i64 s.count, .int .i64 s.who] 33) = W := ⟨_, rfl⟩
  rw [hW1] at hb0 ha0 ha1 hlt0 hv1 ⊢
  have HB0 := Go.Lib.hid hb0; have HA0 := Go.Lib.hid ha0; have HA1 := Go.Lib.hid ha1; have HV1 := Go.Lib.hid hv1; have HLT := Go.Lib.hid hlt0
  clear hb0 ha0 ha1 hlt0 hv1 hW1
  go_loopw [5, 8, 9, 10, 11, 12, 13, 14, 15, 16, 17, 18, 19] (fun _ i _ _ _ _ _ _ _ _ _ _ _ wr => ∃ k : Nat, k ≤ n ∧ i = .int .i64 (k : Int) ∧ (∀ (j : Nat) (y : Nod), j < k → l[j]? = some y → s.less y.id = false) ∧ Below W1.heap.size W1 wr) (fun _ i _ _ _ _ _ _ _ _ _ _ _ _ => n - (intOf i).toNat)
  case atStart => exact ⟨0, by omega, rfl, fun _ _ h => by omega, Below.refl _ _⟩
  case round =>
    obtain ⟨k, hk, rfl, hall, hbw⟩ := hrel
    have HALL := Go.Lib.hid hall; clear hall
    have HBW := Go.Lib.hid hbw
    by_cases hkn : k < n
    · have hkn' : (k : Int) < (n : Int) := by omega
      obtain ⟨b1, o1, x, rfl, hg1, hx⟩ := (HV1.out.below hbw).at k hkn
      obtain ⟨c0, c1, -⟩ := nd_cells hx
      have d0 := (hbw.cell (p := ⟨w.heap.size, 0, none⟩) HLT.out).trans HA0.out
      have d1 := (hbw.cell (p := ⟨w.heap.size, 1, none⟩) HLT.out).trans HA1.out
      have hlc := hx.lt
      have hld : w.heap.size < wr.heap.size := Nat.lt_of_lt_of_le HLT.out hbw.size
      have hl2 := fun w => pless_any s x.id w
      simp only [stCells] at hl2
      obtain ⟨q, hqe⟩ : ∃ q, s.less x.id = q := ⟨_, rfl⟩
      rw [hqe] at hl2
      have HG1 := Go.Lib.hid hg1; have HL2 := Go.Lib.hid hl2; have HQ := Go.Lib.hid hqe
      clear hx hbw hg1 hl2 hqe
      obtain ⟨Vr, hVr⟩ : ∃ V, V = wr := ⟨_, rfl⟩
      subst hVr
      have hne := BW.ne Vr.heap.size Vr
      have q0 := fun z : BW Vr.heap.size Vr => z.cell c0 hlc
      have q1 := fun z : BW Vr.heap.size Vr => z.cell c1 hlc
      have q2 := fun z : BW Vr.heap.size Vr => z.cell d0 hld
      have q3 := fun z : BW Vr.heap.size Vr => z.cell d1 hld
      cases q
      · go_wp2_with fail
        refine wp_region_calm Vr.heap.size Vr (Below.refl _ _) (by kernel_rfl) (by kernel_rfl) ?_
        repeat (go_big_quiet_step ((go_at_call 20; with_reducible exact bw_of (Nat.le_refl _) (HL2.out _))))
        refine wpQuiet_nil ?_
        intro _ hw'
        obtain ⟨z, rfl⟩ := hw'
        go_wp2_with fail
        refine ⟨⟨k + 1, by omega, by simp, fun j u hj hu => ?_, bstep HBW.out z.2⟩, by simp [intOf]; omega⟩
        rcases Nat.lt_or_ge j k with h | h
        · exact HALL.out j u h hu
        · obtain rfl : j = k := by omega
          rw [HG1.out] at hu
          injection hu with hu
          rw [← hu]; exact HQ.out
      · go_wp2_with fail
        refine wp_region_calm Vr.heap.size Vr (Below.refl _ _) (by kernel_rfl) (by kernel_rfl) ?_
        repeat (go_big_quiet_step ((go_at_call 20; with_reducible exact bw_of (Nat.le_refl _) (HL2.out _))))
        refine wpQuiet_nil ?_
        intro _ hw'
        obtain ⟨z, rfl⟩ := hw'
        have HZ := Go.Lib.hid (bstep HB0.out (bstep HBW.out z.2))
        obtain ⟨V5, hV5⟩ : ∃ V, z.w = V := ⟨_, rfl⟩
        have HZ5 : Hid (Below w.heap.size w V5) := by rw [← hV5]; exact HZ
        rw [hV5]
        clear HZ hV5 hne q0 q1 q2 q3
        go_wp2_with fail
        go_ret
        exact ⟨k, rfl, hk, HALL.out, fun y hy => (by rw [HG1.out] at hy; injection hy with hy; rw [← hy]; exact HQ.out), HZ5.out⟩
    · obtain rfl : k = n := by omega
      clear hbw
      go_wp2_with fail
      go_ret
      exact ⟨k, rfl, Nat.le_refl _, HALL.out, fun y hy => (by rw [List.getElem?_eq_none (by rw [HN.out]; exact Nat.le_refl _)] at hy; cases hy), bstep HB0.out HBW.out⟩

/-- The place of a stamp in a list, or -1. -/
theorem take_mem2 {α : Type} {l : List α} {k : Nat} {y z : α} (h : l[k]? = some y) (hz : z ∈ l.take (k + 1)) : z ∈ l.take k ∨ z = y := by
  rw [List.take_add_one, h] at hz
  simpa using hz

set_option maxRecDepth 20000 in
set_option maxHeartbeats 4000000 in
theorem pindex_any (v : Value) (l : List St) (s : St) (w : World) (h : Sts w v l) (hl : l.length ≤ 1000000) :
    Calls Tryd.prog 86 #[v, .agg #[.int .i64 s.count, .int .i64 s.who]] w fun e w' => ∃ z : Int, e = .returned (.int .i64 z) ∧ decide (0 ≤ z) = decide (s ∈ l) ∧ Below w.heap.size w w' := by
  obtain ⟨A, c, rfl, hc⟩ := h.len
  obtain ⟨r, hr⟩ : ∃ r, decide (s ∈ l) = r := ⟨_, rfl⟩
  rw [hr]
  obtain ⟨n, hnn⟩ : ∃ n, l.length = n := ⟨_, rfl⟩
  rw [hnn] at h hc hl
  rw [hnn]
  have htl : l.take n = l := List.take_of_length_le (by omega)
  have HV := Go.Lib.hid h; have HR := Go.Lib.hid hr; have HTL := Go.Lib.hid htl
  clear h hr hnn htl
  go_enter Tryd.func86, Tryd.ntmps86
  have hb0 : Below w.heap.size w (w.alloc (.cells #[.int .i64 s.count, .int .i64 s.who] 33)) := (Below.refl _ _).alloc (Nat.le_refl _) _
  have ha0 : (w.alloc (.cells #[.int .i64 s.count, .int .i64 s.who] 33)).cell? ⟨w.heap.size, 0, none⟩ = some (.int .i64 s.count) := by rw [cell_of_row _ _ _ _ _ _ (heap_alloc_new w _)]; rfl
  have ha1 : (w.alloc (.cells #[.int .i64 s.count, .int .i64 s.who] 33)).cell? ⟨w.heap.size, 1, none⟩ = some (.int .i64 s.who) := by rw [cell_of_row _ _ _ _ _ _ (heap_alloc_new w _)]; rfl
  have hlt0 : w.heap.size < (w.alloc (.cells #[.int .i64 s.count, .int .i64 s.who] 33)).heap.size := by simp
  have hv1 := HV.out.below hb0
  go_wp2_with fail
  obtain ⟨W1, hW1⟩ : ∃ W, w.alloc (.cells #[.int .i64 s.count, .int .i64 s.who] 33) = W := ⟨_, rfl⟩
  rw [hW1] at hb0 ha0 ha1 hlt0 hv1 ⊢
  have HB0 := Go.Lib.hid hb0; have HA0 := Go.Lib.hid ha0; have HA1 := Go.Lib.hid ha1; have HV1 := Go.Lib.hid hv1; have HLT := Go.Lib.hid hlt0
  clear hb0 ha0 ha1 hlt0 hv1 hW1
  go_loopw [5, 8, 9, 10, 11, 12, 13, 14, 15, 16, 17, 18] (fun _ i _ _ _ _ _ _ _ _ _ _ wr => ∃ k : Nat, k ≤ n ∧ i = .int .i64 (k : Int) ∧ (∀ y ∈ l.take k, s ≠ y) ∧ Below W1.heap.size W1 wr) (fun _ i _ _ _ _ _ _ _ _ _ _ _ => n - (intOf i).toNat)
  case atStart => exact ⟨0, by omega, rfl, by simp, Below.refl _ _⟩
  case round =>
    obtain ⟨k, hk, rfl, hall, hbw⟩ := hrel
    have HALL := Go.Lib.hid hall; clear hall
    have HBW := Go.Lib.hid hbw
    by_cases hkn : k < n
    · have hkn' : (k : Int) < (n : Int) := by omega
      obtain ⟨b1, o1, x, rfl, hg1, hx⟩ := (HV1.out.below hbw).at k hkn
      obtain ⟨c0, c1⟩ := st_cells hx
      have d0 := (hbw.cell (p := ⟨w.heap.size, 0, none⟩) HLT.out).trans HA0.out
      have d1 := (hbw.cell (p := ⟨w.heap.size, 1, none⟩) HLT.out).trans HA1.out
      have hq := fun w => eq_st s x w
      obtain ⟨q, hqe⟩ : ∃ q, decide (s = x) = q := ⟨_, rfl⟩
      rw [hqe] at hq
      have HG1 := Go.Lib.hid hg1; clear hg1
      have HQ := Go.Lib.hid hqe; clear hqe
      clear hx hbw
      cases q
      · go_wp2_with fail
        first | (go_quiet (fail)) | skip
        go_wp2_with fail
        refine ⟨⟨k + 1, by omega, by simp, fun y hy => ?_, below_drewN HBW.out _⟩, by simp [intOf]; omega⟩
        rcases take_mem2 HG1.out hy with h | h
        · exact HALL.out y h
        · rw [h]; exact of_decide_eq_false HQ.out
      · go_wp2_with fail
        first | (go_quiet (fail)) | skip
        go_wp2_with fail
        go_ret
        refine ⟨_, rfl, ?_, bstep HB0.out (below_drewN HBW.out _)⟩
        rw [← HR.out, of_decide_eq_true HQ.out]
        rw [decide_eq_true (List.mem_of_getElem? HG1.out)]
        simp
    · obtain rfl : k = n := by omega
      clear hbw
      go_wp2_with fail
      go_ret
      refine ⟨-1, rfl, ?_, bstep HB0.out HBW.out⟩
      rw [← HR.out]
      have h1 := HALL.out
      rw [HTL.out] at h1
      rw [decide_eq_false (fun hm => h1 s hm rfl)]
      rfl

set_option maxHeartbeats 1000000 in
theorem pcontains_any (v : Value) (l : List St) (s : St) (w : World) (h : Sts w v l) (hl : l.length ≤ 1000000) :
    Calls Tryd.prog 75 #[v, .agg #[.int .i64 s.count, .int .i64 s.who]] w fun e w' => e = .returned (.bool (decide (s ∈ l))) ∧ Below w.heap.size w w' := by
  have hc := fun w h => pindex_any v l s w h hl
  have hb0 : Below w.heap.size w (w.alloc (.cells #[.int .i64 s.count, .int .i64 s.who] 33)) := (Below.refl _ _).alloc (Nat.le_refl _) _
  have ha0 : (w.alloc (.cells #[.int .i64 s.count, .int .i64 s.who] 33)).cell? ⟨w.heap.size, 0, none⟩ = some (.int .i64 s.count) := by rw [cell_of_row _ _ _ _ _ _ (heap_alloc_new w _)]; rfl
  have ha1 : (w.alloc (.cells #[.int .i64 s.count, .int .i64 s.who] 33)).cell? ⟨w.heap.size, 1, none⟩ = some (.int .i64 s.who) := by rw [cell_of_row _ _ _ _ _ _ (heap_alloc_new w _)]; rfl
  have hv1 := h.below hb0
  obtain ⟨r, hr⟩ : ∃ r, decide (s ∈ l) = r := ⟨_, rfl⟩
  rw [hr] at hc ⊢
  obtain ⟨W1, hW1⟩ : ∃ W, w.alloc (.cells #[.int .i64 s.count, .int .i64 s.who] 33) = W := ⟨_, rfl⟩
  rw [hW1] at hb0 ha0 ha1 hv1
  have HC := Go.Lib.hid hc; have HB0 := Go.Lib.hid hb0; have HV1 := Go.Lib.hid hv1; have HW1 := Go.Lib.hid hW1
  clear hc hb0 hv1 hW1 h hr
  go_enter Tryd.func75, Tryd.ntmps75
  go_wp2_with fail
  rw [HW1.out]
  go_wp2_with fail
  refine (HC.out _ HV1.out).mono ?_; rintro _ w2 ⟨z, rfl, hz, hb2⟩
  have HB2 := Go.Lib.hid (bstep HB0.out hb2); have HZ := Go.Lib.hid hz
  clear hb2 hz
  go_wp2_with fail
  go_ret
  exact ⟨by rw [← HZ.out]; simp, HB2.out⟩
end Go.Proofs.YtjeijolblcodpaaDoor.W
