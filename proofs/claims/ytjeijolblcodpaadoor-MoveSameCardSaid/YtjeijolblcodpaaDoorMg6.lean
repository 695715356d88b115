/- Parts of the proof that all the laws of this package share, in their order. Each says what is in it. -/
import Derived.Test.YtjeijolblcodpaaDoorMg5
import Derived.Deep.RegionWith
import Derived.Maps.RangeWalk
import Derived.Test.YtjeijolblcodpaaDoorMg4
import Derived.Test.YtjeijolblcodpaaDoorMg1
import Derived.Laws.Rows
import Derived.Laws.Tables
import Derived.Laws.CopyOwn
import Derived.Maps.Own
import Derived.Maps.OwnSet
import Derived.Maps.Views
import Derived.Maps.Keyed
import Derived.DeepKeys3
import Derived.Test.YtjeijolblcodpaaDoorMg3
import Derived.Maps.Range

/- The program's search for a step by its stamp. -/
section
namespace Go.Proofs.YtjeijolblcodpaaDoor.W
set_option maxRecDepth 20000
set_option linter.unusedVariables false
open Go.RowKit Go.Proofs Arb Go.Sort

theorem stpVal_lit (x : Stp) : stpVal x = .agg #[.int .i64 x.op.stamp.count, .int .i64 x.op.stamp.who, .int .i64 x.op.seq, .int .i64 x.op.kind, .int .i64 x.op.node.count, .int .i64 x.op.node.who, .bool x.op.dir, .int .i64 x.op.parent.count, .int .i64 x.op.parent.who, .string (BS x.op.name), .string (BS x.op.manifest), .int .i64 x.before.id.count, .int .i64 x.before.id.who, .bool x.before.dir, .int .i64 x.before.parent.count, .int .i64 x.before.parent.who, .string (BS x.before.name), .string (BS x.before.manifest), .bool x.there] := rfl
theorem stp_cells {w : World} {b o : Nat} {x : Stp} (h : StpAt w b o x) : w.cell? ⟨b, o, none⟩ = some (.int .i64 x.op.stamp.count) ∧ w.cell? ⟨b, o + 1, none⟩ = some (.int .i64 x.op.stamp.who) ∧ w.cell? ⟨b, o + 2, none⟩ = some (.int .i64 x.op.seq) ∧ w.cell? ⟨b, o + 3, none⟩ = some (.int .i64 x.op.kind) ∧ w.cell? ⟨b, o + 4, none⟩ = some (.int .i64 x.op.node.count) ∧ w.cell? ⟨b, o + 5, none⟩ = some (.int .i64 x.op.node.who) ∧ w.cell? ⟨b, o + 6, none⟩ = some (.bool x.op.dir) ∧ w.cell? ⟨b, o + 7, none⟩ = some (.int .i64 x.op.parent.count) ∧ w.cell? ⟨b, o + 8, none⟩ = some (.int .i64 x.op.parent.who) ∧ w.cell? ⟨b, o + 9, none⟩ = some (.string (BS x.op.name)) ∧ w.cell? ⟨b, o + 10, none⟩ = some (.string (BS x.op.manifest)) ∧ w.cell? ⟨b, o + 11, none⟩ = some (.int .i64 x.before.id.count) ∧ w.cell? ⟨b, o + 12, none⟩ = some (.int .i64 x.before.id.who) ∧ w.cell? ⟨b, o + 13, none⟩ = some (.bool x.before.dir) ∧ w.cell? ⟨b, o + 14, none⟩ = some (.int .i64 x.before.parent.count) ∧ w.cell? ⟨b, o + 15, none⟩ = some (.int .i64 x.before.parent.who) ∧ w.cell? ⟨b, o + 16, none⟩ = some (.string (BS x.before.name)) ∧ w.cell? ⟨b, o + 17, none⟩ = some (.string (BS x.before.manifest)) ∧ w.cell? ⟨b, o + 18, none⟩ = some (.bool x.there) :=
  ⟨h 0 _ rfl, h 1 _ rfl, h 2 _ rfl, h 3 _ rfl, h 4 _ rfl, h 5 _ rfl, h 6 _ rfl, h 7 _ rfl, h 8 _ rfl, h 9 _ rfl, h 10 _ rfl, h 11 _ rfl, h 12 _ rfl, h 13 _ rfl, h 14 _ rfl, h 15 _ rfl, h 16 _ rfl, h 17 _ rfl, h 18 _ rfl⟩
theorem Stps.len {w : World} {v : Value} {l : List Stp} (h : Stps w v l) : ∃ A c, v = .slice A l.length c ∧ l.length ≤ c := by
  obtain ⟨A, n, c, rfl, hl, hc, -⟩ := h
  exact ⟨A, c, by rw [hl], by omega⟩
theorem Stps.at {w : World} {A : Option Addr} {n c : Nat} {l : List Stp} (h : Stps w (.slice A n c) l) (k : Nat) (hk : k < n) : ∃ b o x, A = some ⟨b, o, none⟩ ∧ l[k]? = some x ∧ StpAt w b (o + k * 19) x := by
  obtain ⟨A', n', c', he, hl, hc, hA, hr⟩ := h
  cases he
  obtain ⟨b, off, hA, hz⟩ := hr (by omega)
  have hg := List.getElem?_eq_getElem (l := l) (i := k) (by omega)
  exact ⟨b, off, _, hA, hg, hz k _ hg⟩
theorem StpAt.lt {w : World} {b o : Nat} {x : Stp} (h : StpAt w b o x) : b < w.heap.size := World.block_lt_of_cell? w _ (h 0 _ rfl)
theorem StpAt.load {w : World} {b o : Nat} {x : Stp} (h : StpAt w b o x) : (loadVar 58 ⟨b, o, none⟩).run Tryd.prog w = .ok (stpVal x) w :=
  run_loadVar_at w ⟨b, o, none⟩ _ (stpArr x) _ (fun j v hv => by rw [Go.Lib.addr_add]; exact h j v (by simpa [stpArr] using hv)) Tryd.underlying58 rfl (size_stp.trans (by rfl))
theorem StpAt.bw {w : World} {b o : Nat} {x : Stp} (h : StpAt w b o x) (z : BW w.heap.size w) : StpAt z.w b o x := fun j v hv => z.cell (h j v hv) h.lt

set_option maxHeartbeats 4000000 in
theorem pbs_any (v : Value) (l : List Stp) (t : St) (w : World) (h : Stps w v l) (hl : l.length ≤ 10000) (hr : Rising (l.map (·.op))) :
    Calls Tryd.prog 23 #[v, .agg #[.int .i64 t.count, .int .i64 t.who], .func (.func 24) #[] #[]] w fun e w' => ∃ k : Nat, k ≤ l.length ∧ (∀ (j : Nat) (y : Stp), j < k → l[j]? = some y → y.op.stamp.less t = true) ∧ (∀ (j : Nat) (y : Stp), k ≤ j → l[j]? = some y → y.op.stamp.less t = false) ∧
      e = .returned (.tuple #[.int .i64 (k : Int), .bool (l.any fun y => decide (y.op.stamp = t))]) ∧ Below w.heap.size w w' := by
  obtain ⟨A, c, rfl, hc⟩ := h.len
  have hmono : ∀ (i j : Nat) (x y : Stp), i < j → l[i]? = some x → l[j]? = some y → x.op.stamp.less y.op.stamp = true := fun i j x y hij hx hy => by
    obtain ⟨h1, rfl⟩ := List.getElem?_eq_some_iff.1 hx
    obtain ⟨h2, rfl⟩ := List.getElem?_eq_some_iff.1 hy
    have := List.pairwise_iff_getElem.1 hr i j (by simpa using h1) (by simpa using h2) hij
    simpa using this
  obtain ⟨r, hrr⟩ : ∃ r, (l.any fun y => decide (y.op.stamp = t)) = r := ⟨_, rfl⟩
  rw [hrr]
  obtain ⟨n, hnn⟩ : ∃ n, l.length = n := ⟨_, rfl⟩
  rw [hnn] at h hc hl
  rw [hnn]
  have hb0 : Below w.heap.size w (w.alloc (.cells #[.int .i64 t.count, .int .i64 t.who] 33)) := (Below.refl _ _).alloc (Nat.le_refl _) _
  have ha0 : (w.alloc (.cells #[.int .i64 t.count, .int .i64 t.who] 33)).cell? ⟨w.heap.size, 0, none⟩ = some (.int .i64 t.count) := by rw [cell_of_row _ _ _ _ _ _ (heap_alloc_new w _)]; rfl
  have ha1 : (w.alloc (.cells #[.int .i64 t.count, .int .i64 t.who] 33)).cell? ⟨w.heap.size, 1, none⟩ = some (.int .i64 t.who) := by rw [cell_of_row _ _ _ _ _ _ (heap_alloc_new w _)]; rfl
  have hlt0 : w.heap.size < (w.alloc (.cells #[.int .i64 t.count, .int .i64 t.who] 33)).heap.size := by simp
  have hv1 := h.below hb0
  have hcl : ∀ (x : Stp) (w : World), Calls Tryd.prog 24 #[stpVal x, .agg #[.int .i64 t.count, .int .i64 t.who]] w fun e w' => e = .returned (.int .i64 (ordI x.op.stamp t)) ∧ Below w.heap.size w w' := fun x w =>
    (pagainst_gr x t w).mono fun e w' ⟨h1, h2⟩ => ⟨h1, h2.below⟩
  have HV := Go.Lib.hid hv1; have HM := Go.Lib.hid hmono; have HN := Go.Lib.hid hnn; have HR := Go.Lib.hid hrr; have HC := Go.Lib.hid hcl
  have HB0 := Go.Lib.hid hb0; have HA0 := Go.Lib.hid ha0; have HA1 := Go.Lib.hid ha1; have HLT := Go.Lib.hid hlt0
  clear h hr hmono hnn hrr hcl hv1 hb0 ha0 ha1 hlt0
  go_enter Tryd.func23, Tryd.ntmps23
  go_wp2_with fail
  obtain ⟨W1, hW1⟩ : ∃ W, w.alloc (.cells #[.int .i64 t.count, .int .i64 t.who] 33) = W := ⟨_, rfl⟩
  have hv1 := HV.out; have hb0 := HB0.out; have ha0 := HA0.out; have ha1 := HA1.out; have hlt0 := HLT.out
  rw [hW1] at hv1 hb0 ha0 ha1 hlt0 ⊢
  clear HV HB0 HA0 HA1 HLT hW1
  have HV := Go.Lib.hid hv1; have HB0 := Go.Lib.hid hb0; have HA0 := Go.Lib.hid ha0; have HA1 := Go.Lib.hid ha1; have HLT := Go.Lib.hid hlt0
  clear hv1 hb0 ha0 ha1 hlt0
  go_loopw [9, 10] (fun i j wr => ∃ lo hi : Nat, i = .int .i64 (lo : Int) ∧ j = .int .i64 (hi : Int) ∧ lo ≤ hi ∧ hi ≤ n ∧ Below W1.heap.size W1 wr ∧ Hid ((∀ (j : Nat) (y : Stp), j < lo → l[j]? = some y → y.op.stamp.less t = true) ∧ (∀ (j : Nat) (y : Stp), hi ≤ j → l[j]? = some y → y.op.stamp.less t = false)))
    (fun i j _ => (intOf j).toNat - (intOf i).toNat)
  case atStart => exact ⟨0, n, rfl, rfl, Nat.zero_le _, Nat.le_refl _, Below.refl _ _, Go.Lib.hid ⟨fun _ _ h => by omega, fun j y h1 h2 => by have := (List.getElem?_eq_some_iff.1 h2).1; have := HN.out; omega⟩⟩
  case round =>
    obtain ⟨lo, hi, rfl, rfl, hlh, hin, hbw, HI⟩ := hrel
    have HBW := Go.Lib.hid hbw
    have d0 := (hbw.cell (p := ⟨w.heap.size, 0, none⟩) HLT.out).trans HA0.out
    have d1 := (hbw.cell (p := ⟨w.heap.size, 1, none⟩) HLT.out).trans HA1.out
    have dl : w.heap.size < wr.heap.size := Nat.lt_of_lt_of_le HLT.out hbw.size
    by_cases hlt : lo < hi
    · have hlti : (lo : Int) < (hi : Int) := by omega
      obtain ⟨m, hm⟩ : ∃ m, (lo + hi) / 2 = m := ⟨_, rfl⟩
      have hm1 : lo ≤ m := by omega
      have hm2 : m < hi := by omega
      have hmn : m < n := by omega
      have hmi : ((lo : Int) + (hi : Int)) / 2 = (m : Int) := by omega
      obtain ⟨b1, o1, x, rfl, hg1, hx⟩ := (HV.out.below hbw).at m hmn
      have hq : ∀ W, (∃ z : BW wr.heap.size wr, W = z.w) → (loadVar 58 ⟨b1, o1 + m * 19, none⟩).run Tryd.prog W = .ok (stpVal x) W := fun W hW => by obtain ⟨z, rfl⟩ := hW; exact (hx.bw z).load
      have hc1 := HC.out x
      have hneg := ordI_neg x.op.stamp t
      obtain ⟨sv, hsv⟩ : ∃ sv, stpVal x = sv := ⟨_, rfl⟩
      rw [hsv] at hq hc1
      obtain ⟨q, hqe⟩ : ∃ q, ordI x.op.stamp t = q := ⟨_, rfl⟩
      rw [hqe] at hc1 hneg
      obtain ⟨p, hp⟩ : ∃ p, x.op.stamp.less t = p := ⟨_, rfl⟩
      rw [hp] at hneg
      have HG := Go.Lib.hid hg1; have HP := Go.Lib.hid hp; have HQ := Go.Lib.hid hq; have HC1 := Go.Lib.hid hc1; have HMM := Go.Lib.hid hm
      have HD0 := Go.Lib.hid d0; have HD1 := Go.Lib.hid d1; have HDL := Go.Lib.hid dl
      clear hg1 hp hq hc1 hqe hsv hx hbw d0 d1 dl hm
      have hne := BW.ne wr.heap.size wr
      cases p
      · have hnq : decide (q < 0) = false := hneg
        go_wp2_with fail
        have p0 := fun z : BW wr.heap.size wr => z.cell HD0.out HDL.out; have p1 := fun z : BW wr.heap.size wr => z.cell HD1.out HDL.out
        refine wp_region_calm wr.heap.size wr (Below.refl _ _) (by kernel_rfl) (by kernel_rfl) ?_
        repeat (first | (refine wpQuiet_load 58 _ rfl (by rfl) _ rfl sv HQ.out ?_; go_frame) | go_big_quiet_step ((go_at_call 24; with_reducible exact bw_of (Nat.le_refl _) (HC1.out _))))
        refine wpQuiet_nil ?_
        intro _ hw'
        obtain ⟨z, rfl⟩ := hw'
        have hz2 := HBW.out.trans (z.2.mono HBW.out.size)
        have HZ2 := Go.Lib.hid hz2
        obtain ⟨V, hV⟩ : ∃ V, z.w = V := ⟨_, rfl⟩
        have hz3 : Below W1.heap.size W1 V := by rw [← hV]; exact hz2
        rw [hV]
        have HZ3 := Go.Lib.hid hz3
        clear hz2 hz3 HZ2 hV p0 p1
        go_wp2_with fail
        refine ⟨⟨lo, m, rfl, rfl, hm1, by omega, HZ3.out, Go.Lib.hid ⟨HI.out.1, fun j y h1 h2 => ?_⟩⟩, by simp [intOf]; omega⟩
        rcases Nat.lt_or_ge m j with h3 | h3
        · refine Bool.eq_false_iff.2 fun h4 => ?_
          have h5 := HM.out m j x y h3 HG.out h2
          have h6 := St.less_trans h5 h4
          rw [HP.out] at h6
          cases h6
        · obtain rfl : j = m := by omega
          rw [HG.out] at h2
          cases h2
          exact HP.out
      · have hnq : decide (q < 0) = true := hneg
        go_wp2_with fail
        have p0 := fun z : BW wr.heap.size wr => z.cell HD0.out HDL.out; have p1 := fun z : BW wr.heap.size wr => z.cell HD1.out HDL.out
        refine wp_region_calm wr.heap.size wr (Below.refl _ _) (by kernel_rfl) (by kernel_rfl) ?_
        repeat (first | (refine wpQuiet_load 58 _ rfl (by rfl) _ rfl sv HQ.out ?_; go_frame) | go_big_quiet_step ((go_at_call 24; with_reducible exact bw_of (Nat.le_refl _) (HC1.out _))))
        refine wpQuiet_nil ?_
        intro _ hw'
        obtain ⟨z, rfl⟩ := hw'
        have hz2 := HBW.out.trans (z.2.mono HBW.out.size)
        have HZ2 := Go.Lib.hid hz2
        obtain ⟨V, hV⟩ : ∃ V, z.w = V := ⟨_, rfl⟩
        have hz3 : Below W1.heap.size W1 V := by rw [← hV]; exact hz2
        rw [hV]
        have HZ3 := Go.Lib.hid hz3
        clear hz2 hz3 HZ2 hV p0 p1
        go_wp2_with fail
        refine ⟨⟨m + 1, hi, by simp, rfl, by omega, hin, HZ3.out, Go.Lib.hid ⟨fun j y h1 h2 => ?_, HI.out.2⟩⟩, by simp [intOf]; omega⟩
        rcases Nat.lt_or_ge j m with h3 | h3
        · exact St.less_trans (HM.out j m y x h3 h2 HG.out) HP.out
        · obtain rfl : j = m := by omega
          rw [HG.out] at h2
          cases h2
          exact HP.out
    · obtain rfl : hi = lo := by omega
      have hltf : ¬ ((hi : Int) < (hi : Int)) := by omega
      by_cases hhn : hi < n
      · obtain ⟨b1, o1, x, rfl, hg1, hx⟩ := (HV.out.below hbw).at hi hhn
        have hhi : (hi : Int) < (n : Int) := by omega
        have hq : ∀ W, (∃ z : BW wr.heap.size wr, W = z.w) → (loadVar 58 ⟨b1, o1 + hi * 19, none⟩).run Tryd.prog W = .ok (stpVal x) W := fun W hW => by obtain ⟨z, rfl⟩ := hW; exact (hx.bw z).load
        have hc1 := HC.out x
        have hzr := ordI_zero x.op.stamp t
        obtain ⟨sv, hsv⟩ : ∃ sv, stpVal x = sv := ⟨_, rfl⟩
        rw [hsv] at hq hc1
        obtain ⟨q, hqe⟩ : ∃ q, ordI x.op.stamp t = q := ⟨_, rfl⟩
        rw [hqe] at hc1 hzr
        have hres : r = decide (x.op.stamp = t) := by
          rw [← HR.out, Bool.eq_iff_iff, List.any_eq_true, decide_eq_true_iff]
          constructor
          · rintro ⟨y, hy, he⟩
            have he := of_decide_eq_true he
            obtain ⟨j, hj⟩ := List.getElem?_of_mem hy
            rcases Nat.lt_trichotomy j hi with h3 | h3 | h3
            · have := HI.out.1 j y h3 hj
              rw [he, St.less_irrefl] at this
              cases this
            · subst h3
              rw [hg1] at hj
              cases hj
              exact he
            · have h4 := HM.out hi j x y h3 hg1 hj
              have h5 := HI.out.2 hi x (Nat.le_refl _) hg1
              rw [he, h5] at h4
              cases h4
          · intro he
            exact ⟨x, List.mem_of_getElem? hg1, by simpa using he⟩
        rw [← hzr] at hres
        have HQ := Go.Lib.hid hq; have HC1 := Go.Lib.hid hc1; have HRES := Go.Lib.hid hres
        have HD0 := Go.Lib.hid d0; have HD1 := Go.Lib.hid d1; have HDL := Go.Lib.hid dl
        clear hg1 hq hc1 hqe hsv hx hbw d0 d1 dl hres hzr
        have hne := BW.ne wr.heap.size wr
        have hdl : decide ((hi : Int) < (n : Int)) = true := by simpa using hhi
        by_cases hq0 : q = 0
        · subst hq0
          go_wp2_with fail
          have p0 := fun z : BW wr.heap.size wr => z.cell HD0.out HDL.out; have p1 := fun z : BW wr.heap.size wr => z.cell HD1.out HDL.out
          refine wp_region_calm wr.heap.size wr (Below.refl _ _) (by kernel_rfl) (by kernel_rfl) ?_
          repeat (first | (refine wpQuiet_load 58 _ rfl (by rfl) _ rfl sv HQ.out ?_; go_frame) | go_big_quiet_step ((go_at_call 24; with_reducible exact bw_of (Nat.le_refl _) (HC1.out _))))
          refine wpQuiet_nil ?_
          intro _ hw'
          obtain ⟨z, rfl⟩ := hw'
          have hz2 := HBW.out.trans (z.2.mono HBW.out.size)
          have HZ2 := Go.Lib.hid hz2
          obtain ⟨V, hV⟩ : ∃ V, z.w = V := ⟨_, rfl⟩
          have hz3 : Below W1.heap.size W1 V := by rw [← hV]; exact hz2
          rw [hV]
          have HZ3 := Go.Lib.hid hz3
          clear hz2 hz3 HZ2 hV p0 p1
          go_wp2_with fail
          go_ret2
          refine ⟨hi, hin, HI.out.1, HI.out.2, ?_, bstep HB0.out HZ3.out⟩
          rw [HRES.out]; rfl
        · have hq1 : decide (q = 0) = false := by simpa using hq0
          have hq2 : (q == 0) = false := by simpa using hq0
          go_wp2_with fail
          have p0 := fun z : BW wr.heap.size wr => z.cell HD0.out HDL.out; have p1 := fun z : BW wr.heap.size wr => z.cell HD1.out HDL.out
          refine wp_region_calm wr.heap.size wr (Below.refl _ _) (by kernel_rfl) (by kernel_rfl) ?_
          repeat (first | (refine wpQuiet_load 58 _ rfl (by rfl) _ rfl sv HQ.out ?_; go_frame) | go_big_quiet_step ((go_at_call 24; with_reducible exact bw_of (Nat.le_refl _) (HC1.out _))))
          refine wpQuiet_nil ?_
          intro _ hw'
          obtain ⟨z, rfl⟩ := hw'
          have hz2 := HBW.out.trans (z.2.mono HBW.out.size)
          have HZ2 := Go.Lib.hid hz2
          obtain ⟨V, hV⟩ : ∃ V, z.w = V := ⟨_, rfl⟩
          have hz3 : Below W1.heap.size W1 V := by rw [← hV]; exact hz2
          rw [hV]
          have HZ3 := Go.Lib.hid hz3
          clear hz2 hz3 HZ2 hV p0 p1
          go_wp2_with fail
          go_ret2
          exact ⟨hi, hin, HI.out.1, HI.out.2, by rw [HRES.out, hq1]; rfl, bstep HB0.out HZ3.out⟩
      · obtain rfl : hi = n := by omega
        have hres : r = false := by
          rw [← HR.out, Bool.eq_false_iff]
          intro h
          obtain ⟨y, hy, he⟩ := List.any_eq_true.1 h
          have he := of_decide_eq_true he
          obtain ⟨j, hj⟩ := List.getElem?_of_mem hy
          have := HI.out.1 j y (by have := (List.getElem?_eq_some_iff.1 hj).1; have := HN.out; omega) hj
          rw [he, St.less_irrefl] at this
          cases this
        have HRES := Go.Lib.hid hres
        clear hbw hres
        have hne := BW.ne wr.heap.size wr
        go_wp2_with fail
        refine wp_region_calm wr.heap.size wr (Below.refl _ _) (by kernel_rfl) (by kernel_rfl) ?_
        repeat (go_big_quiet_step (fail))
        refine wpQuiet_nil ?_
        intro _ hw'
        obtain ⟨z, rfl⟩ := hw'
        have hz2 := HBW.out.trans (z.2.mono HBW.out.size)
        have HZ2 := Go.Lib.hid hz2
        clear hz2
        go_wp2_with fail
        go_ret2
        exact ⟨hi, hin, HI.out.1, HI.out.2, by rw [HRES.out]; rfl, bstep HB0.out HZ2.out⟩
end Go.Proofs.YtjeijolblcodpaaDoor.W
end

/- Rows of steps: what an operation changed is laid in its step. -/
section
namespace Go.Proofs.YtjeijolblcodpaaDoor.W
set_option maxRecDepth 20000
set_option linter.unusedVariables false
open Go.RowKit Go.Proofs Arb

theorem set_mid {α : Type} (A X C : List α) (k : Nat) (u : α) (hk : k < X.length) (p : Nat) (hp : p = A.length + k) : (A ++ (X ++ C)).set p u = A ++ (X.set k u ++ C) := by
  subst hp
  rw [List.set_append_right _ _ (by omega), Nat.add_sub_cancel_left, List.set_append_left _ _ hk]
theorem stps_split (S : List Stp) (j : Nat) (s : Stp) (h : S[j]? = some s) : ∃ A C, A.length = j * 19 ∧ ∀ s', stpsCells (S.set j s') = A ++ (stpCells s' ++ C) := by
  obtain ⟨hj, he⟩ := List.getElem?_eq_some_iff.1 h
  refine ⟨stpsCells (S.take j), stpsCells (S.drop (j + 1)), by rw [stpsCells_length, List.length_take, Nat.min_eq_left (Nat.le_of_lt hj)], fun s' => ?_⟩
  rw [List.set_eq_take_append_cons_drop, if_pos hj, show S.take j ++ s' :: S.drop (j + 1) = S.take j ++ ([s'] ++ S.drop (j + 1)) from rfl, stpsCells_append, stpsCells_append, stpsCells_one]
/-- The step's node and whether there was one are laid. -/
theorem Row.putStep {w : World} {base g n cap j : Nat} {S : List Stp} {s : Stp} (h : Row w base 58 19 (.slice (some ⟨g, 0, none⟩) n cap) n (stpsCells S)) (hj : S[j]? = some s) (y : Nod) (t : Bool) :
    Row ((((((((w.setCell ⟨g, j * 19 + 11, none⟩ (.int .i64 y.id.count)).setCell ⟨g, j * 19 + 12, none⟩ (.int .i64 y.id.who)).setCell ⟨g, j * 19 + 13, none⟩ (.bool y.dir)).setCell ⟨g, j * 19 + 14, none⟩ (.int .i64 y.parent.count)).setCell ⟨g, j * 19 + 15, none⟩ (.int .i64 y.parent.who)).setCell ⟨g, j * 19 + 16, none⟩ (.string (BS y.name))).setCell ⟨g, j * 19 + 17, none⟩ (.string (BS y.manifest))).setCell ⟨g, j * 19 + 18, none⟩ (.bool t)) base 58 19 (.slice (some ⟨g, 0, none⟩) n cap) n (stpsCells (S.set j ⟨s.op, y, t⟩)) := by
  obtain ⟨A, C, hA, hS⟩ := stps_split S j s hj
  have h0 : stpsCells S = A ++ (stpCells s ++ C) := by obtain ⟨hlt, he⟩ := List.getElem?_eq_some_iff.1 hj; rw [← hS s, ← he, List.set_getElem_self hlt]
  rw [h0] at h
  have H := ((((((((h.set g cap (j * 19 + 11) rfl (.int .i64 y.id.count)).set g cap (j * 19 + 12) rfl (.int .i64 y.id.who)).set g cap (j * 19 + 13) rfl (.bool y.dir)).set g cap (j * 19 + 14) rfl (.int .i64 y.parent.count)).set g cap (j * 19 + 15) rfl (.int .i64 y.parent.who)).set g cap (j * 19 + 16) rfl (.string (BS y.name))).set g cap (j * 19 + 17) rfl (.string (BS y.manifest))).set g cap (j * 19 + 18) rfl (.bool t))
  rw [hS]
  have key : ∀ (X : List Value), X.length = 19 → (((((((((A ++ (X ++ C)).set (j * 19 + 11) (.int .i64 y.id.count)).set (j * 19 + 12) (.int .i64 y.id.who)).set (j * 19 + 13) (.bool y.dir)).set (j * 19 + 14) (.int .i64 y.parent.count)).set (j * 19 + 15) (.int .i64 y.parent.who)).set (j * 19 + 16) (.string (BS y.name))).set (j * 19 + 17) (.string (BS y.manifest))).set (j * 19 + 18) (.bool t)) = A ++ (((((((((X.set 11 (.int .i64 y.id.count)).set 12 (.int .i64 y.id.who)).set 13 (.bool y.dir)).set 14 (.int .i64 y.parent.count)).set 15 (.int .i64 y.parent.who)).set 16 (.string (BS y.name))).set 17 (.string (BS y.manifest))).set 18 (.bool t)) ++ C) := by
    intro X hX
    rw [set_mid A _ C 11 _ (by first | (simp only [List.length_set]; omega) | omega) _ (by omega)]; rw [set_mid A _ C 12 _ (by first | (simp only [List.length_set]; omega) | omega) _ (by omega)]; rw [set_mid A _ C 13 _ (by first | (simp only [List.length_set]; omega) | omega) _ (by omega)]; rw [set_mid A _ C 14 _ (by first | (simp only [List.length_set]; omega) | omega) _ (by omega)]; rw [set_mid A _ C 15 _ (by first | (simp only [List.length_set]; omega) | omega) _ (by omega)]; rw [set_mid A _ C 16 _ (by first | (simp only [List.length_set]; omega) | omega) _ (by omega)]; rw [set_mid A _ C 17 _ (by first | (simp only [List.length_set]; omega) | omega) _ (by omega)]; rw [set_mid A _ C 18 _ (by first | (simp only [List.length_set]; omega) | omega) _ (by omega)]
  rw [key (stpCells s) rfl] at H
  exact H
end Go.Proofs.YtjeijolblcodpaaDoor.W
end

/- Rows of the call's own: their form, what lies there already, other blocks. -/
section
namespace Arb
set_option maxRecDepth 20000
open Go Go.RowKit
set_option linter.unusedVariables false

/-- A value laid where it lies already. -/
theorem setCell_same {w : World} {g j : Nat} {cur : Array Value} {e : TypeId} {fz : Nat × Nat} {u : Value} (h : w.heap[g]? = some (.cells cur e fz)) (hj : cur[j]? = some u) : w.setCell ⟨g, j, none⟩ u = w := by
  rw [setCell_eq_setRow w g j cur e fz u h]
  have : cur.setIfInBounds j u = cur := by
    apply Array.ext_getElem?
    intro i
    rw [Array.getElem?_setIfInBounds]
    by_cases hij : j = i
    · subst hij
      rw [if_pos rfl]
      split
      · exact hj.symm
      · rename_i hn
        rw [Array.getElem?_eq_none (by omega)]
    · rw [if_neg hij]
  rw [this]
  exact setRow_self w g cur e fz h
theorem Row.same {w : World} {base g n cap size j : Nat} {e : TypeId} {xs : List Value} {u : Value} (h : Row w base e size (.slice (some ⟨g, 0, none⟩) n cap) n xs) (hj : xs[j]? = some u) : w.setCell ⟨g, j, none⟩ u = w := by
  rcases h.2 with ⟨h1, _⟩ | ⟨g', cap', cur, fz, h1, hb, hg, hfz, hnc, hcm, hcs, ht⟩
  · cases h1
  · cases h1
    refine setCell_same hg ?_
    rw [← ht, List.getElem?_take] at hj
    split at hj
    · simpa using hj
    · cases hj

theorem rd_further {w w' : World} {size m : Nat} {v : Value} {xs : List Value} (h : Rd w size v m xs) (hb : Below w.heap.size w w') : Rd w' size v m xs := by
  refine ⟨h.1, ?_⟩
  rcases h.2 with h2 | ⟨ad, c, rfl, hc⟩
  · exact .inl h2
  · exact .inr ⟨ad, c, rfl, fun j u hu => (hb.cell (World.block_lt_of_cell? w _ (hc j u hu))).trans (hc j u hu)⟩

def lenOfV : Value → Nat
  | .slice _ n _ => n
  | _ => 0
theorem row_form {w : World} {base : Nat} {e : TypeId} {size : Nat} {v : Value} {n : Nat} {xs : List Value} (h : Row w base e size v n xs) : ∃ A c, v = .slice A n c := by
  rcases h.2 with ⟨rfl, rfl⟩ | ⟨g, cap, cur, fz, rfl, _⟩
  · exact ⟨_, _, rfl⟩
  · exact ⟨_, _, rfl⟩
/-- A cell of another block is laid. -/
theorem Row.other {w : World} {base : Nat} {e : TypeId} {size : Nat} {v : Value} {n : Nat} {xs : List Value} (h : Row w base e size v n xs) {b : Nat} (hb : b < base) (j : Nat) (u : Value) : Row (w.setCell ⟨b, j, none⟩ u) base e size v n xs := by
  refine ⟨h.1, ?_⟩
  rcases h.2 with hn | ⟨g, cap, cur, fz, rfl, hg, hgg, rest⟩
  · exact .inl hn
  · exact .inr ⟨g, cap, cur, fz, rfl, hg, (Below.heap_setCell _ _ _ g (by show g ≠ b; omega)).trans hgg, rest⟩
theorem Row.otherRow {w : World} {base : Nat} {e : TypeId} {size : Nat} {v : Value} {n : Nat} {xs : List Value} (h : Row w base e size v n xs) {b : Nat} (hb : b < base) (cs : Array Value) : Row (w.setRow b cs) base e size v n xs := by
  refine ⟨h.1, ?_⟩
  rcases h.2 with hn | ⟨g, cap, cur, fz, rfl, hg, hgg, rest⟩
  · exact .inl hn
  · exact .inr ⟨g, cap, cur, fz, rfl, hg, (setRow_other w b g cs (by omega)).trans hgg, rest⟩
end Arb
end

/- Stamps as the keys of maps. -/
section
namespace Go.Proofs.YtjeijolblcodpaaDoor.W
set_option maxRecDepth 20000
set_option linter.unusedVariables false
open Go.RowKit Go.Proofs Arb Go.Maps Go.WideMaps

def kst (p : St) : List UInt8 := keyBytes [.int .i64 p.count, .int .i64 p.who]
theorem law_st : KeyLaw Tryd.prog 33 := deep_law (m := 2) (by omega) (by kernel_rfl) (by kernel_rfl) (by rw [Tryd.underlying33])
theorem keyOf_st (p : St) (hp : stWf p) : keyOf Tryd.prog 33 (.agg #[.int .i64 p.count, .int .i64 p.who]) = some (.string (kst p)) := by
  have hsz : ∃ m, Tryd.prog.types.size = m + 1 := ⟨Tryd.prog.types.size - 1, by kernel_rfl⟩
  obtain ⟨m, hm⟩ := hsz
  have hkt : Tryd.prog.keyType 33 = true := by kernel_rfl
  have hf : ∀ x y : Int, (Value.agg #[.int .i64 x, .int .i64 y]).formed Tryd.prog 33 = true := fun x y => by kernel_rfl
  have h1 : ∀ z : Int, (Lit.int .i64 z).wf = true → Tryd.prog.keyLits (m + 1) 3 [.int .i64 z] = some [.int .i64 z] := fun z hz => by
    simp [Program.keyLits, Tryd.underlying3, hz]
  have hc : Tryd.prog.cellsOf 33 = 2 := by kernel_rfl
  have hi : Tryd.prog.cellsOf 3 = 1 := by kernel_rfl
  have hl : Tryd.prog.keyLits (Tryd.prog.types.size + 1) 33 [.int .i64 p.count, .int .i64 p.who] = some [.int .i64 p.count, .int .i64 p.who] := by
    rw [hm]
    unfold Program.keyLits
    rw [Tryd.underlying33]
    simp [hc, hi, h1 p.count hp.1, h1 p.who hp.2]
  unfold keyOf
  rw [Tryd.underlying33]
  simp only [hkt, hf, Bool.and_self, if_true]
  show (Tryd.prog.keyLits (Tryd.prog.types.size + 1) 33 [.int .i64 p.count, .int .i64 p.who]).map (fun ls => Lit.string (keyBytes ls)) = _
  rw [hl]
  rfl
theorem kst_inj (p q : St) (hp : stWf p) (hq : stWf q) (h : kst p = kst q) : p = q := by
  have h1 := keyOf_st p hp
  have h2 := keyOf_st q hq
  rw [← h] at h2
  have h3 := law_st.inj h1 h2
  obtain ⟨p1, p2⟩ := p
  obtain ⟨q1, q2⟩ := q
  simp at h3
  rw [h3.1, h3.2]

end Go.Proofs.YtjeijolblcodpaaDoor.W
end

/- Maps of stamps to nodes: which nodes are in. -/
section
namespace Go.Proofs.YtjeijolblcodpaaDoor.W
set_option maxRecDepth 20000
set_option linter.unusedVariables false
open Go.RowKit Go.Proofs Arb Go.Maps Go.WideMaps

def dNod (x : Nod) : DataW Unit := .agg [.lit (.int .i64 x.id.count), .lit (.int .i64 x.id.who), .lit (.bool x.dir), .lit (.int .i64 x.parent.count), .lit (.int .i64 x.parent.who), .lit (.string x.name), .lit (.string x.manifest)]
/-- How a node reads. -/
def rNod (v : Value) : Option (DataW Unit × List MemPlace) := match v with
  | .agg ⟨[.int .i64 a, .int .i64 b, .bool d, .int .i64 p, .int .i64 q, .string s, .string m]⟩ => some (.agg [.lit (.int .i64 a), .lit (.int .i64 b), .lit (.bool d), .lit (.int .i64 p), .lit (.int .i64 q), .lit (.string s.data.toList), .lit (.string m.data.toList)], [])
  | _ => none
theorem rNod_mk (x : Nod) : rNod (ndVal x) = some (dNod x, []) := by
  simp [rNod, ndVal, ndArr, ndCells, dNod, BS_list]
theorem BS_of (s : ByteArray) : BS s.data.toList = s := by
  cases s
  simp [BS]
theorem rNod_inv {v : Value} {z : DataW Unit × List MemPlace} (h : rNod v = some z) : ∃ x, v = ndVal x ∧ z = (dNod x, []) := by
  unfold rNod at h
  split at h
  · rename_i a b d p q s m
    cases h
    exact ⟨⟨⟨a, b⟩, d, ⟨p, q⟩, s.data.toList, m.data.toList⟩, by simp [ndVal, ndArr, ndCells, BS_of], rfl⟩
  · cases h
theorem dNod_inj {x y : Nod} (h : dNod x = dNod y) : x = y := by
  obtain ⟨⟨a, b⟩, d, ⟨p, q⟩, s, m⟩ := x
  obtain ⟨⟨a', b'⟩, d', ⟨p', q'⟩, s', m'⟩ := y
  simp [dNod] at h
  obtain ⟨rfl, rfl, rfl, rfl, rfl, rfl, rfl⟩ := h
  rfl
def ent (x : Nod) : Lit × DataW Unit := (.string (kst x.id), dNod x)
theorem ins_ent (x : Nod) : ∀ L : List Nod, ∃ L' : List Nod, DataW.insert (ent x) (L.map ent) = L'.map ent ∧ L'.Perm (x :: L)
  | [] => ⟨[x], rfl, List.Perm.refl _⟩
  | y :: L => by
    rw [List.map_cons]
    unfold DataW.insert
    split
    · exact ⟨x :: y :: L, rfl, List.Perm.refl _⟩
    · obtain ⟨L', h1, h2⟩ := ins_ent x L
      exact ⟨y :: L', by rw [h1]; rfl, (h2.cons y).trans (List.Perm.swap x y L)⟩
theorem key_ent (x : Nod) (s : St) (hx : stWf x.id) (hs : stWf s) : (ent x).1.sameKey (.string (kst s)) = decide (x.id = s) := by
  by_cases h : x.id = s
  · rw [decide_eq_true h]
    show (Lit.string (kst x.id)).sameKey _ = true
    rw [h]
    exact WideAt.sameKey_self trivial
  · rw [decide_eq_false h]
    refine sameKey_ne fun e => h (kst_inj _ _ hx hs ?_)
    injection e
theorem wipe_ent (s : St) (hs : stWf s) : ∀ L : List Nod, (∀ x ∈ L, ndWf x) → (L.map ent).filter (fun p => !p.1.sameKey (.string (kst s))) = (wipe L s).map ent
  | [], _ => rfl
  | y :: L, h => by
    have ih := wipe_ent s hs L fun x hx => h x (List.mem_cons_of_mem _ hx)
    unfold wipe at ih ⊢
    rw [List.map_cons, List.filter_cons, List.filter_cons, key_ent y s (h y (List.mem_cons_self ..)).1 hs, ih]
    split <;> rfl
theorem find_ent (s : St) (hs : stWf s) : ∀ L : List Nod, (∀ x ∈ L, ndWf x) → (L.map ent).find? (fun p => p.1.sameKey (.string (kst s))) = (findOf L s).map ent
  | [], _ => rfl
  | y :: L, h => by
    have ih := find_ent s hs L fun x hx => h x (List.mem_cons_of_mem _ hx)
    unfold findOf at ih ⊢
    rw [List.map_cons, List.find?_cons, List.find?_cons, key_ent y s (h y (List.mem_cons_self ..)).1 hs]
    split
    · rfl
    · exact ih
theorem has_ent (s : St) (hs : stWf s) (L : List Nod) (h : ∀ x ∈ L, ndWf x) : Maps.has (DataW.map (L.map ent)) (.string (kst s)) = (findOf L s).isSome := by
  have h1 := find_ent s hs L h
  have h2 : Maps.has (DataW.map (L.map ent)) (.string (kst s)) = ((L.map ent).find? (fun p => p.1.sameKey (.string (kst s)))).isSome := by
    rw [Maps.has_eq, Bool.eq_iff_iff, List.find?_isSome, List.any_eq_true]
  rw [h2, h1, Option.isSome_map]
theorem at_ent (s : St) (hs : stWf s) (L : List Nod) (h : ∀ x ∈ L, ndWf x) : (DataW.map (L.map ent)).atKey (.string (kst s)) (dNod Nod.zero) = dNod ((findOf L s).getD Nod.zero) := by
  unfold DataW.atKey
  simp only [find_ent s hs L h]
  cases findOf L s <;> rfl
theorem tight {P : Program} {k : TypeId} {R : Value → Option (DataW Unit × List MemPlace)} {w : World} {b n : Nat} {D : DataW Unit} (h : w.ownsMap P k R b n D) : w.ownsMap P k R b (Maps.size D) D := by
  obtain ⟨es, clock, hb, F, hs, rfl⟩ := h
  exact ⟨es, clock, hb, F, by simp [Maps.size, length_sorted], rfl⟩

theorem zero_nd (w : World) : (zeroValue 49).run Tryd.prog w = .ok (ndVal Nod.zero) w := Tryd.zeroValue49 w

/-- Block b is a map in which the nodes L are, by their stamps. -/
structure NdMap (w : World) (b : Nat) (L : List Nod) : Prop where
  owns : w.ownsMap Tryd.prog 33 rNod b L.length (.map (L.map ent))
  uni : Uni L
  wf : ∀ x ∈ L, ndWf x
section
variable {w w' : World} {b : Nat} {L : List Nod}
theorem NdMap.made (w : World) : NdMap (w.alloc (.map #[] 0)) w.heap.size [] := ⟨World.ownsMap_made w _ _ _, List.Pairwise.nil, by simp⟩
theorem NdMap.lt (h : NdMap w b L) : b < w.heap.size := h.owns.lt
theorem NdMap.at (h : NdMap w b L) (he : w'.heap[b]? = w.heap[b]?) : NdMap w' b L := by
  obtain ⟨⟨es, clock, hb, h1⟩, h2, h3⟩ := h
  exact ⟨⟨es, clock, he.trans hb, h1⟩, h2, h3⟩
theorem NdMap.below (h : NdMap w b L) (hb : Below w.heap.size w w') : NdMap w' b L := h.at (hb.block _ h.lt)
theorem NdMap.kept {F : Nat → Prop} (h : NdMap w b L) (hk : Kept F w w') (hF : ¬ F b) : NdMap w' b L := h.at (hk.block _ h.lt hF)
theorem NdMap.look (h : NdMap w b L) (p : St) (hp : stWf p) :
    (Instr.lookup 51 (.map (some b)) (.agg #[.int .i64 p.count, .int .i64 p.who]) true).run Tryd.prog w = .ok (.tuple #[ndVal ((findOf L p).getD Nod.zero), .bool (findOf L p).isSome]) w := by
  obtain ⟨v, ps, hrun, hv⟩ := h.owns.look_ok (Keyed.of_law law_st) Tryd.underlying51 (zero_nd w) (rNod_mk Nod.zero) (keyOf_st p hp)
  rw [has_ent p hp L h.wf] at hrun
  rw [at_ent p hp L h.wf] at hv
  obtain ⟨x, rfl, hx⟩ := rNod_inv hv
  simp only [Prod.mk.injEq] at hx
  rw [dNod_inj hx.1]
  exact hrun
theorem NdMap.look1 (h : NdMap w b L) (p : St) (hp : stWf p) :
    (Instr.lookup 51 (.map (some b)) (.agg #[.int .i64 p.count, .int .i64 p.who]) false).run Tryd.prog w = .ok (ndVal ((findOf L p).getD Nod.zero)) w := by
  obtain ⟨v, ps, hrun, hv⟩ := h.owns.lookup (Keyed.of_law law_st) Tryd.underlying51 (zero_nd w) (rNod_mk Nod.zero) (keyOf_st p hp)
  rw [at_ent p hp L h.wf] at hv
  obtain ⟨x, rfl, hx⟩ := rNod_inv hv
  simp only [Prod.mk.injEq] at hx
  rw [dNod_inj hx.1]
  exact hrun
theorem NdMap.len (h : NdMap w b L) (ty : TypeId) : (Builtin.len_ #[51] ty #[.map (some b)]).run Tryd.prog w = .ok (.int .i64 (L.length : Int)) w := by
  have := h.owns.len Tryd.underlying51 ty
  simpa [Maps.size] using this
theorem NdMap.put (h : NdMap w b L) (hn : L.length ≤ 1000000) (x : Nod) (hx : ndWf x) :
    ∃ (w' : World) (L' : List Nod), (Instr.mapUpdate 51 (.map (some b)) (.agg #[.int .i64 x.id.count, .int .i64 x.id.who]) (ndVal x)).run Tryd.prog w = .ok () w' ∧ NdMap w' b L' ∧ L'.Perm (x :: wipe L x.id) ∧ w.grownBy w' (some b) := by
  obtain ⟨w', hrun, hown, hgr⟩ := h.owns.update (Keyed.of_law law_st) Tryd.underlying51 (by unfold maxLen; omega) (keyOf_st x.id hx.1) (rNod_mk x)
  have e : (DataW.map (L.map ent)).put (.string (kst x.id)) (dNod x) = .map (DataW.insert (ent x) ((wipe L x.id).map ent)) := by
    rw [← wipe_ent x.id hx.1 L h.wf]; rfl
  obtain ⟨L', h1, h2⟩ := ins_ent x (wipe L x.id)
  rw [e, h1] at hown
  refine ⟨w', L', hrun, ⟨?_, h.uni.put h2, fun y hy => ?_⟩, h2, hgr⟩
  · have := tight hown
    simpa [Maps.size] using this
  · rcases List.mem_cons.1 (h2.mem_iff.1 hy) with rfl | hy
    · exact hx
    · exact h.wf y (wipe_mem.1 hy).1
theorem NdMap.del (h : NdMap w b L) (p : St) (hp : stWf p) (ty : TypeId) :
    ∃ w', (Builtin.delete_ #[51, 33] ty #[.map (some b), .agg #[.int .i64 p.count, .int .i64 p.who]]).run Tryd.prog w = .ok (.tuple #[]) w' ∧ NdMap w' b (wipe L p) ∧ w.grownBy w' (some b) := by
  obtain ⟨w', hrun, hown, hgr⟩ := h.owns.drop (Keyed.of_law law_st) Tryd.underlying51 (keyOf_st p hp) ty
  have e : (DataW.map (L.map ent)).del (.string (kst p)) = .map ((wipe L p).map ent) := by
    rw [← wipe_ent p hp L h.wf]; rfl
  rw [e] at hown
  refine ⟨w', hrun, ⟨?_, h.uni.wipe (List.Perm.refl _), fun y hy => h.wf y (wipe_mem.1 hy).1⟩, hgr.grown⟩
  have := tight hown
  simpa [Maps.size] using this
theorem wpList_nd_put {ops : Array Oper} {rest : List Oper} {o : Oper} {a : Act} {Q : Exit → Act → World → Prop} (h : NdMap w b L)
    (hg : o.guard = none) (m k v : Operand) (hop : o.op = Op.mapUpdate 51 m k v) (hm : a.eval m = .map (some b)) (hn : L.length ≤ 1000000) (x : Nod) (hx : ndWf x) (s : St) (hs : x.id = s) (hk : a.eval k = .agg #[.int .i64 s.count, .int .i64 s.who]) (hv : a.eval v = ndVal x)
    (hK : ∀ (w' : World) (L' : List Nod), NdMap w' b L' → L'.Perm (x :: wipe L s) → w.grownBy w' (some b) → wpList Tryd.prog ops Q rest (a.put o.dst undef) w') : wpList Tryd.prog ops Q (o :: rest) a w := by
  subst hs
  obtain ⟨w', L', hrun, h1, h2, h3⟩ := h.put hn x hx
  refine wpList_plain hg fun K' hK' => ?_
  have hfin := hK' _ _ (hK w' L' h1 h2 h3)
  unfold Oper.wp
  simp [execOp, hop, hm, hk, hv, hrun, Result.andThen]
  exact hfin
end
end Go.Proofs.YtjeijolblcodpaaDoor.W
end
