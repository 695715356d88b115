/- The program's operations: what a set has, and what it may have. -/
import Derived.Test.YtmkmahjboocoaaaOpsPA
import Derived.Test.YtmkmahjboocoaaaOpsX
namespace Go.Proofs.Ytmkmahjboocoaaa.W
set_option linter.unusedVariables false
open Go.RowKit Go.Proofs Arb

theorem take_mem {set : List Opn} {k : Nat} {y z : Opn} (h : set[k]? = some y) (hz : z ∈ set.take (k + 1)) : z ∈ set.take k ∨ z = y := by
  rw [List.take_add_one, h] at hz
  simpa using hz

set_option maxRecDepth 20000 in
set_option maxHeartbeats 2000000 in
theorem phas_any (v : Value) (set : List Opn) (x : Opn) (w : World) (h : Opns w v set) (hn : set.length ≤ 100000) :
    Calls Try.prog 48 #[v, opVal x] w fun e w' => e = .returned (.bool (decide (x ∈ set))) ∧ Below w.heap.size w w' := by
  obtain ⟨A, c, rfl, hc⟩ := h.len
  obtain ⟨n, hnn⟩ : ∃ n, set.length = n := ⟨_, rfl⟩
  rw [hnn] at h hc hn
  rw [hnn]
  have htl : set.take n = set := List.take_of_length_le (by omega)
  have hB : Below w.heap.size w (w.alloc (.cells (opArr x) 25)) := (Below.refl _ _).alloc (Nat.le_refl _) _
  have hop := OpAt.new w x 25
  have hs := h.below hB
  obtain ⟨r, hr⟩ : ∃ r, decide (x ∈ set) = r := ⟨_, rfl⟩
  rw [hr]
  unfold opVal
  obtain ⟨W, hW⟩ : ∃ W, w.alloc (.cells (opArr x) 25) = W := ⟨_, rfl⟩
  rw [hW] at hB hop hs
  unfold opArr opCells at hW ⊢
  have HW := Go.Lib.hid hW; have HB := Go.Lib.hid hB; have HOP := Go.Lib.hid hop; have HS := Go.Lib.hid hs; have HR := Go.Lib.hid hr; have HTL := Go.Lib.hid htl
  clear hW hB hop hs hr htl h hnn
  go_enter Try.func48, Try.ntmps48
  go_wp2_with fail
  rw [HW.out]
  go_loopw [6, 9, 10, 11, 12, 13, 14, 15, 16] (fun _ i _ _ _ _ _ _ _ wr => ∃ k : Nat, k ≤ n ∧ i = .int .i64 (k : Int) ∧ (∀ y ∈ set.take k, y ≠ x) ∧ Below W.heap.size W wr) (fun _ i _ _ _ _ _ _ _ _ => n - (intOf i).toNat)
  case atStart => exact ⟨0, by omega, rfl, by simp, Below.refl _ _⟩
  case round =>
    obtain ⟨k, hk, rfl, hall, hb⟩ := hrel
    have HA := Go.Lib.hid hall; clear hall
    by_cases hkn : k < n
    · have hkn' : (k : Int) < (n : Int) := by omega
      obtain ⟨b1, o1, y, rfl, hg1, hy⟩ := (HS.out.below hb).at k hkn
      obtain ⟨c0, c1, c2, c3, c4, c5, c6, c7, c8, c9, c10⟩ := op_cells hy
      have hb2 : Below W.heap.size W (wr.alloc (.cells (opArr y) 25)) := hb.alloc hb.size _
      have hx2 := HOP.out.below hb2
      unfold opArr opCells at hb2 hx2
      obtain ⟨d0, d1, d2, d3, d4, d5, d6, d7, d8, d9, d10⟩ := op_cells0 hx2
      have hq := fun w => eq_op' y x w
      have HB2 := Go.Lib.hid hb2; have HG := Go.Lib.hid hg1
      clear hb2 hx2 hy hg1 hb
      by_cases he : y = x
      · rw [decide_eq_true he] at hq
        have hrr : r = true := by rw [← HR.out]; exact decide_eq_true (he ▸ List.mem_of_getElem? HG.out)
        have HRR := Go.Lib.hid hrr; clear hrr he
        go_wp2_with fail
        go_ret
        exact ⟨by rw [HRR.out]; rfl, bstep HB.out HB2.out⟩
      · rw [decide_eq_false he] at hq
        have HE := Go.Lib.hid he; clear he
        go_wp2_with fail
        refine ⟨⟨k + 1, by omega, by simp, fun z hz => ?_, HB2.out⟩, by simp [intOf]; omega⟩
        rcases take_mem HG.out hz with h1 | rfl
        · exact HA.out z h1
        · exact HE.out
    · obtain rfl : k = n := by omega
      have hrr : r = false := by
        rw [← HR.out]
        have := HA.out
        rw [HTL.out] at this
        exact decide_eq_false (fun h => this x h rfl)
      have HRR := Go.Lib.hid hrr; clear hrr
      have HBW := Go.Lib.hid hb; clear hb
      go_wp2_with fail
      go_ret
      exact ⟨by rw [HRR.out]; rfl, bstep HB.out HBW.out⟩

theorem twice_take (set : List Opn) (x y : Opn) (k : Nat) (h : set[k]? = some y) : twiceOf (set.take (k + 1)) x = (twiceOf (set.take k) x || twiceOne x y) := by
  unfold twiceOf
  rw [List.take_add_one, h, List.any_append]
  simp [twiceOne]
def mayRes (set : List Opn) (x : Opn) : Int := if twiceOf set x then 24 else if !aheadOf set x then 26 else if lateOf set x then 20 else if 400 ≤ set.length then 40 else 0

set_option maxRecDepth 20000 in
set_option maxHeartbeats 8000000 in
theorem pmay_any (v : Value) (set : List Opn) (x : Opn) (w : World) (h : Opns w v set) (hn : set.length ≤ 100000) (hwf : opWf x) (hseq : 1 ≤ x.seq) :
    Calls Try.prog 51 #[v, opVal x] w fun e w' => e = .returned (.int .i64 (mayRes set x)) ∧ Below w.heap.size w w' := by
  obtain ⟨A, c, rfl, hc⟩ := h.len
  obtain ⟨n, hnn⟩ : ∃ n, set.length = n := ⟨_, rfl⟩
  have hwr : IntKind.i64.wrap (x.seq - 1) = x.seq - 1 := by
    have := hwf.2.1
    simp only [Lit.wf, Bool.and_eq_true, decide_eq_true_eq] at this
    have h2 : IntKind.i64.max = 9223372036854775807 := rfl
    rw [IntKind.wrap_i64]; omega
  have htl : set.take n = set := List.take_of_length_le (by omega)
  have hB : Below w.heap.size w (w.alloc (.cells (opArr x) 25)) := (Below.refl _ _).alloc (Nat.le_refl _) _
  have hop := OpAt.new w x 25
  have hs := h.below hB
  obtain ⟨r, hr⟩ : ∃ r, mayRes set x = r := ⟨_, rfl⟩
  rw [hr]
  unfold mayRes at hr
  have ha0 : aheadOf (set.take 0) x = (x.seq == 1) := by simp [aheadOf]; rfl
  have ht0 : twiceOf (set.take 0) x = false := rfl
  have hl0 : lateOf (set.take 0) x = false := rfl
  rw [hnn] at h hc hn hs hr
  rw [hnn]
  unfold opVal
  obtain ⟨W, hW⟩ : ∃ W, w.alloc (.cells (opArr x) 25) = W := ⟨_, rfl⟩
  rw [hW] at hB hop hs
  unfold opArr opCells at hW ⊢
  obtain ⟨c0, c1, c2, c3, c4, c5, c6, c7, c8, c9, c10⟩ := op_cells0 hop
  have HW := Go.Lib.hid hW; have HB := Go.Lib.hid hB; have HOP := Go.Lib.hid hop; have HS := Go.Lib.hid hs; have HR := Go.Lib.hid hr; have HTL := Go.Lib.hid htl
  have HA0 := Go.Lib.hid ha0; have HT0 := Go.Lib.hid ht0; have HL0 := Go.Lib.hid hl0
  clear hW hB hop hs hr htl h hnn ha0 ht0 hl0 hwf
  go_enter Try.func51, Try.ntmps51
  go_wp2_with fail
  rw [HW.out]
  go_quiet (fail)
  obtain ⟨V, hV⟩ : ∃ V, W.drewN nq = V := ⟨_, rfl⟩
  have hbV : Below W.heap.size W V := by rw [← hV]; exact below_drewN (Below.refl _ _) _
  rw [hV]
  have hs2 := HS.out.below hbV
  have hop2 := HOP.out.below hbV
  have hb2 := bstep HB.out hbV
  have HS := Go.Lib.hid hs2; have HOP := Go.Lib.hid hop2; have HB := Go.Lib.hid hb2
  clear hV hbV hs2 hop2 hb2 c0 c1 c2 c3 c4 c5 c6 c7 c8 c9 c10
  go_wp2_with fail
  go_loopw [5, 6, 7, 9, 15, 16, 17, 18, 19, 20, 21, 22, 23, 24, 25, 26, 27, 28, 29, 30, 31, 32, 33, 34, 35, 36, 37, 38, 39, 40, 41, 42, 43, 44, 45, 46, 47, 48, 49, 50, 51, 52, 53, 54, 55, 56, 57, 58, 59, 60, 61, 62, 63, 64, 65, 66, 67, 68, 69] (fun t f o _ i _ _ _ _ _ _ _ _ _ _ _ _ _ _ _ _ _ _ _ _ _ _ _ _ _ _ _ _ _ _ _ _ _ _ _ _ _ _ _ _ _ _ _ _ _ _ _ _ _ _ _ _ _ _ wr => ∃ (k : Nat) (tb fb ob : Bool), k ≤ n ∧ i = .int .i64 (k : Int) ∧ t = .bool tb ∧ f = .bool fb ∧ o = .bool ob ∧ twiceOf (set.take k) x = tb ∧ aheadOf (set.take k) x = fb ∧ lateOf (set.take k) x = (!ob) ∧ Below V.heap.size V wr) (fun _ _ _ _ i _ _ _ _ _ _ _ _ _ _ _ _ _ _ _ _ _ _ _ _ _ _ _ _ _ _ _ _ _ _ _ _ _ _ _ _ _ _ _ _ _ _ _ _ _ _ _ _ _ _ _ _ _ _ _ => n - (intOf i).toNat)
  case atStart => exact ⟨0, false, _, true, by omega, rfl, rfl, rfl, rfl, HT0.out, HA0.out, HL0.out, Below.refl _ _⟩
  case round =>
    obtain ⟨k, tb, fb, ob, hk, rfl, rfl, rfl, rfl, ht, hf, ho, hb⟩ := hrel
    have HT := Go.Lib.hid ht; have HF := Go.Lib.hid hf; have HO := Go.Lib.hid ho
    clear ht hf ho
    by_cases hkn : k < n
    · have hkn' : (k : Int) < (n : Int) := by omega
      obtain ⟨b1, o1, y, rfl, hg1, hy⟩ := (HS.out.below hb).at k hkn
      obtain ⟨c0, c1, c2, c3, c4, c5, c6, c7, c8, c9, c10⟩ := op_cells hy
      have hb2 : Below V.heap.size V (wr.alloc (.cells (opArr y) 25)) := hb.alloc hb.size _
      have hx2 := HOP.out.below hb2
      unfold opArr opCells at hb2 hx2
      obtain ⟨d0, d1, d2, d3, d4, d5, d6, d7, d8, d9, d10⟩ := op_cells0 hx2
      have ht := twice_take set x y k hg1
      have hf := ahead_take set x y k hg1
      have ho := late_take set x y k hg1
      rw [HT.out] at ht
      rw [HF.out] at hf
      rw [HO.out] at ho
      have hq := fun w => eq_st y.stamp x.stamp w
      have hl1 := fun w => pless_any y.stamp x.stamp w
      have hl2 := fun w => pless_any x.stamp y.stamp w
      simp only [stCells] at hl1 hl2
      obtain ⟨s1, hs1⟩ : ∃ s, y.stamp.less x.stamp = s := ⟨_, rfl⟩
      obtain ⟨s2, hs2⟩ : ∃ s, x.stamp.less y.stamp = s := ⟨_, rfl⟩
      obtain ⟨q, hqq⟩ : ∃ q, decide (y.stamp = x.stamp) = q := ⟨_, rfl⟩
      unfold lateOne at ho
      unfold twiceOne at ht
      rw [hs1, hs2] at ho
      rw [hs1] at hl1
      rw [hs2] at hl2
      rw [hqq] at hq
      obtain ⟨e2, he2⟩ : ∃ e, decide (y.stamp.who = x.stamp.who) = e := ⟨_, rfl⟩
      obtain ⟨e3, he3⟩ : ∃ e, decide (y.seq = x.seq) = e := ⟨_, rfl⟩
      obtain ⟨e4, he4⟩ : ∃ e, decide (y.seq = x.seq - 1) = e := ⟨_, rfl⟩
      obtain ⟨e5, he5⟩ : ∃ e, decide (x.seq < y.seq) = e := ⟨_, rfl⟩
      rw [Bool.decide_or, Bool.decide_and, hqq, he2, he3] at ht
      rw [Bool.decide_and, he2, he4] at hf
      rw [Bool.decide_and, Bool.decide_and, he2, he4, he5] at ho
      have H1 := Go.Lib.hid hl1; have H2 := Go.Lib.hid hl2; have HB2 := Go.Lib.hid hb2
      have HT := Go.Lib.hid ht; have HF := Go.Lib.hid hf; have HO := Go.Lib.hid ho
      clear hl1 hl2 hb2 hs1 hs2 hqq hx2 hy hg1 hb ht hf ho
      cases tb
      · cases q
        · cases e2
          · have g2 : (y.stamp.who != x.stamp.who) = true := by simpa using he2
            clear he2 he3 he4 he5
            go_wp2_with fail
            refine ⟨⟨k + 1, _, _, _, by omega, by simp, rfl, rfl, rfl, by rw [HT.out]; simp, by rw [HF.out]; simp, by rw [HO.out]; simp, HB2.out⟩, by simp [intOf]; omega⟩
          have g2 : (y.stamp.who != x.stamp.who) = false := by simpa using he2
          cases e3
          · have g3 : (y.seq == x.seq) = false := by simpa using he3
            cases e4
            · have g4 : (y.seq == x.seq - 1) = false := by simpa using he4
              cases e5
              · have g5 : ¬ x.seq < y.seq := by simpa using he5
                clear he2 he3 he4 he5
                go_wp2_with fail
                refine ⟨⟨k + 1, _, _, _, by omega, by simp, rfl, rfl, rfl, by rw [HT.out]; simp, by rw [HF.out]; simp, by rw [HO.out]; simp, HB2.out⟩, by simp [intOf]; omega⟩
              have g5 : x.seq < y.seq := by simpa using he5
              clear he2 he3 he4 he5
              cases ob
              · go_wp2_with fail
                refine ⟨⟨k + 1, _, _, _, by omega, by simp, rfl, rfl, rfl, by rw [HT.out]; simp, by rw [HF.out]; simp, by rw [HO.out]; simp, HB2.out⟩, by simp [intOf]; omega⟩
              · go_wp2_with (go_at_call 28; with_reducible refine (H2.out _).mono ?_; rintro e w1 ⟨rfl, hb⟩; have HB3 := Go.Lib.hid (bstep HB2.out hb); clear hb)
                refine ⟨⟨k + 1, _, _, _, by omega, by simp, rfl, rfl, rfl, by rw [HT.out]; simp, by rw [HF.out]; simp, by rw [HO.out]; simp, HB3.out⟩, by simp [intOf]; omega⟩
            have g4 : (y.seq == x.seq - 1) = true := by simpa using he4
            obtain rfl : e5 = false := by rw [← he5]; have := of_decide_eq_true he4; exact decide_eq_false (by omega)
            clear he2 he3 he4 he5
            cases ob
            · go_wp2_with fail
              refine ⟨⟨k + 1, _, _, _, by omega, by simp, rfl, rfl, rfl, by rw [HT.out]; simp, by rw [HF.out]; simp, by rw [HO.out]; simp, HB2.out⟩, by simp [intOf]; omega⟩
            · go_wp2_with (go_at_call 28; with_reducible refine (H1.out _).mono ?_; rintro e w1 ⟨rfl, hb⟩; have HB3 := Go.Lib.hid (bstep HB2.out hb); clear hb)
              refine ⟨⟨k + 1, _, _, _, by omega, by simp, rfl, rfl, rfl, by rw [HT.out]; simp, by rw [HF.out]; simp, by rw [HO.out]; simp, HB3.out⟩, by simp [intOf]; omega⟩
          have g3 : (y.seq == x.seq) = true := by simpa using he3
          obtain rfl : e4 = false := by rw [← he4]; have := of_decide_eq_true he3; exact decide_eq_false (by omega)
          obtain rfl : e5 = false := by rw [← he5]; have := of_decide_eq_true he3; exact decide_eq_false (by omega)
          clear he2 he3 he4 he5
          go_wp2_with fail
          refine ⟨⟨k + 1, _, _, _, by omega, by simp, rfl, rfl, rfl, by rw [HT.out]; simp, by rw [HF.out]; simp, by rw [HO.out]; simp, HB2.out⟩, by simp [intOf]; omega⟩
        · cases e2
          · have g2 : (y.stamp.who != x.stamp.who) = true := by simpa using he2
            clear he2 he3 he4 he5
            go_wp2_with fail
            refine ⟨⟨k + 1, _, _, _, by omega, by simp, rfl, rfl, rfl, by rw [HT.out]; simp, by rw [HF.out]; simp, by rw [HO.out]; simp, HB2.out⟩, by simp [intOf]; omega⟩
          have g2 : (y.stamp.who != x.stamp.who) = false := by simpa using he2
          cases e3
          · have g3 : (y.seq == x.seq) = false := by simpa using he3
            cases e4
            · have g4 : (y.seq == x.seq - 1) = false := by simpa using he4
              cases e5
              · have g5 : ¬ x.seq < y.seq := by simpa using he5
                clear he2 he3 he4 he5
                go_wp2_with fail
                refine ⟨⟨k + 1, _, _, _, by omega, by simp, rfl, rfl, rfl, by rw [HT.out]; simp, by rw [HF.out]; simp, by rw [HO.out]; simp, HB2.out⟩, by simp [intOf]; omega⟩
              have g5 : x.seq < y.seq := by simpa using he5
              clear he2 he3 he4 he5
              cases ob
              · go_wp2_with fail
                refine ⟨⟨k + 1, _, _, _, by omega, by simp, rfl, rfl, rfl, by rw [HT.out]; simp, by rw [HF.out]; simp, by rw [HO.out]; simp, HB2.out⟩, by simp [intOf]; omega⟩
              · go_wp2_with (go_at_call 28; with_reducible refine (H2.out _).mono ?_; rintro e w1 ⟨rfl, hb⟩; have HB3 := Go.Lib.hid (bstep HB2.out hb); clear hb)
                refine ⟨⟨k + 1, _, _, _, by omega, by simp, rfl, rfl, rfl, by rw [HT.out]; simp, by rw [HF.out]; simp, by rw [HO.out]; simp, HB3.out⟩, by simp [intOf]; omega⟩
            have g4 : (y.seq == x.seq - 1) = true := by simpa using he4
            obtain rfl : e5 = false := by rw [← he5]; have := of_decide_eq_true he4; exact decide_eq_false (by omega)
            clear he2 he3 he4 he5
            cases ob
            · go_wp2_with fail
              refine ⟨⟨k + 1, _, _, _, by omega, by simp, rfl, rfl, rfl, by rw [HT.out]; simp, by rw [HF.out]; simp, by rw [HO.out]; simp, HB2.out⟩, by simp [intOf]; omega⟩
            · go_wp2_with (go_at_call 28; with_reducible refine (H1.out _).mono ?_; rintro e w1 ⟨rfl, hb⟩; have HB3 := Go.Lib.hid (bstep HB2.out hb); clear hb)
              refine ⟨⟨k + 1, _, _, _, by omega, by simp, rfl, rfl, rfl, by rw [HT.out]; simp, by rw [HF.out]; simp, by rw [HO.out]; simp, HB3.out⟩, by simp [intOf]; omega⟩
          have g3 : (y.seq == x.seq) = true := by simpa using he3
          obtain rfl : e4 = false := by rw [← he4]; have := of_decide_eq_true he3; exact decide_eq_false (by omega)
          obtain rfl : e5 = false := by rw [← he5]; have := of_decide_eq_true he3; exact decide_eq_false (by omega)
          clear he2 he3 he4 he5
          go_wp2_with fail
          refine ⟨⟨k + 1, _, _, _, by omega, by simp, rfl, rfl, rfl, by rw [HT.out]; simp, by rw [HF.out]; simp, by rw [HO.out]; simp, HB2.out⟩, by simp [intOf]; omega⟩
      · cases e2
        · have g2 : (y.stamp.who != x.stamp.who) = true := by simpa using he2
          clear he2 he3 he4 he5
          go_wp2_with fail
          refine ⟨⟨k + 1, _, _, _, by omega, by simp, rfl, rfl, rfl, by rw [HT.out]; simp, by rw [HF.out]; simp, by rw [HO.out]; simp, HB2.out⟩, by simp [intOf]; omega⟩
        have g2 : (y.stamp.who != x.stamp.who) = false := by simpa using he2
        cases e3
        · have g3 : (y.seq == x.seq) = false := by simpa using he3
          cases e4
          · have g4 : (y.seq == x.seq - 1) = false := by simpa using he4
            cases e5
            · have g5 : ¬ x.seq < y.seq := by simpa using he5
              clear he2 he3 he4 he5
              go_wp2_with fail
              refine ⟨⟨k + 1, _, _, _, by omega, by simp, rfl, rfl, rfl, by rw [HT.out]; simp, by rw [HF.out]; simp, by rw [HO.out]; simp, HB2.out⟩, by simp [intOf]; omega⟩
            have g5 : x.seq < y.seq := by simpa using he5
            clear he2 he3 he4 he5
            cases ob
            · go_wp2_with fail
              refine ⟨⟨k + 1, _, _, _, by omega, by simp, rfl, rfl, rfl, by rw [HT.out]; simp, by rw [HF.out]; simp, by rw [HO.out]; simp, HB2.out⟩, by simp [intOf]; omega⟩
            · go_wp2_with (go_at_call 28; with_reducible refine (H2.out _).mono ?_; rintro e w1 ⟨rfl, hb⟩; have HB3 := Go.Lib.hid (bstep HB2.out hb); clear hb)
              refine ⟨⟨k + 1, _, _, _, by omega, by simp, rfl, rfl, rfl, by rw [HT.out]; simp, by rw [HF.out]; simp, by rw [HO.out]; simp, HB3.out⟩, by simp [intOf]; omega⟩
          have g4 : (y.seq == x.seq - 1) = true := by simpa using he4
          obtain rfl : e5 = false := by rw [← he5]; have := of_decide_eq_true he4; exact decide_eq_false (by omega)
          clear he2 he3 he4 he5
          cases ob
          · go_wp2_with fail
            refine ⟨⟨k + 1, _, _, _, by omega, by simp, rfl, rfl, rfl, by rw [HT.out]; simp, by rw [HF.out]; simp, by rw [HO.out]; simp, HB2.out⟩, by simp [intOf]; omega⟩
          · go_wp2_with (go_at_call 28; with_reducible refine (H1.out _).mono ?_; rintro e w1 ⟨rfl, hb⟩; have HB3 := Go.Lib.hid (bstep HB2.out hb); clear hb)
            refine ⟨⟨k + 1, _, _, _, by omega, by simp, rfl, rfl, rfl, by rw [HT.out]; simp, by rw [HF.out]; simp, by rw [HO.out]; simp, HB3.out⟩, by simp [intOf]; omega⟩
        have g3 : (y.seq == x.seq) = true := by simpa using he3
        obtain rfl : e4 = false := by rw [← he4]; have := of_decide_eq_true he3; exact decide_eq_false (by omega)
        obtain rfl : e5 = false := by rw [← he5]; have := of_decide_eq_true he3; exact decide_eq_false (by omega)
        clear he2 he3 he4 he5
        go_wp2_with fail
        refine ⟨⟨k + 1, _, _, _, by omega, by simp, rfl, rfl, rfl, by rw [HT.out]; simp, by rw [HF.out]; simp, by rw [HO.out]; simp, HB2.out⟩, by simp [intOf]; omega⟩
    · obtain rfl : k = n := by omega
      have hrr := HR.out
      rw [← HTL.out, HT.out, HF.out, HO.out] at hrr
      have HBW := Go.Lib.hid hb; clear hb
      by_cases h4 : 400 ≤ k
      · rw [if_pos h4] at hrr
        have h4' : (400 : Int) ≤ (k : Int) := by omega
        have HRR := Go.Lib.hid hrr; clear hrr h4
        cases tb <;> cases fb <;> cases ob
        all_goals (
          go_wp2_with fail
          go_ret
          exact ⟨by rw [← HRR.out]; simp, bstep HB.out HBW.out⟩)
      · rw [if_neg h4] at hrr
        have h4' : ¬ (400 : Int) ≤ (k : Int) := by omega
        have HRR := Go.Lib.hid hrr; clear hrr h4
        cases tb <;> cases fb <;> cases ob
        all_goals (
          go_wp2_with fail
          go_ret
          exact ⟨by rw [← HRR.out]; simp, bstep HB.out HBW.out⟩)

set_option maxRecDepth 20000 in
set_option maxHeartbeats 2000000 in
theorem pbehind_any (v : Value) (set : List Opn) (x : Opn) (w : World) (h : Opns w v set) (hn : set.length ≤ 100000) :
    Calls Try.prog 52 #[v, .agg #[.int .i64 x.stamp.count, .int .i64 x.stamp.who]] w fun e w' => ∃ k : Nat, e = .returned (.int .i64 (k : Int)) ∧ k ≤ set.length ∧ insAt set x = set.take k ++ x :: set.drop k ∧ Below w.heap.size w w' := by
  obtain ⟨A, c, rfl, hc⟩ := h.len
  obtain ⟨n, hnn⟩ : ∃ n, set.length = n := ⟨_, rfl⟩
  rw [hnn] at h hc hn
  rw [hnn]
  have hB : Below w.heap.size w (w.alloc (.cells #[.int .i64 x.stamp.count, .int .i64 x.stamp.who] 23)) := (Below.refl _ _).alloc (Nat.le_refl _) _
  have hs := h.below hB
  have hd0 : (w.alloc (.cells #[.int .i64 x.stamp.count, .int .i64 x.stamp.who] 23)).cell? ⟨w.heap.size, 0, none⟩ = some (.int .i64 x.stamp.count) := by rw [cell_of_row _ _ _ _ _ _ (heap_alloc_new w _)]; rfl
  have hd1 : (w.alloc (.cells #[.int .i64 x.stamp.count, .int .i64 x.stamp.who] 23)).cell? ⟨w.heap.size, 1, none⟩ = some (.int .i64 x.stamp.who) := by rw [cell_of_row _ _ _ _ _ _ (heap_alloc_new w _)]; rfl
  have hl : w.heap.size < (w.alloc (.cells #[.int .i64 x.stamp.count, .int .i64 x.stamp.who] 23)).heap.size := by simp
  obtain ⟨W, hW⟩ : ∃ W, w.alloc (.cells #[.int .i64 x.stamp.count, .int .i64 x.stamp.who] 23) = W := ⟨_, rfl⟩
  rw [hW] at hB hs hd0 hd1 hl
  have hdd : ∀ wr, Below W.heap.size W wr → wr.cell? ⟨w.heap.size, 0, none⟩ = some (.int .i64 x.stamp.count) ∧ wr.cell? ⟨w.heap.size, 1, none⟩ = some (.int .i64 x.stamp.who) := fun wr hb => ⟨(hb.cell hl).trans hd0, (hb.cell hl).trans hd1⟩
  have HW := Go.Lib.hid hW; have HB := Go.Lib.hid hB; have HS := Go.Lib.hid hs; have HN := Go.Lib.hid hnn; have HD := Go.Lib.hid hdd
  clear hW hB hs h hnn hd0 hd1 hl hdd
  go_enter Try.func52, Try.ntmps52
  go_wp2_with fail
  rw [HW.out]
  go_loopw [5, 6, 9, 10, 11, 12, 13, 14, 15, 16, 17, 18, 19] (fun _ _ i _ _ _ _ _ _ _ _ _ _ wr => ∃ k : Nat, k ≤ n ∧ i = .int .i64 (k : Int) ∧ (∀ (j : Nat) (y : Opn), j < k → set[j]? = some y → x.stamp.less y.stamp = false) ∧ Below W.heap.size W wr) (fun _ _ i _ _ _ _ _ _ _ _ _ _ _ => n - (intOf i).toNat)
  case atStart => exact ⟨0, by omega, rfl, fun j _ hj => by omega, Below.refl _ _⟩
  case round =>
    obtain ⟨k, hk, rfl, hall, hb⟩ := hrel
    have HA := Go.Lib.hid hall; clear hall
    by_cases hkn : k < n
    · have hkn' : (k : Int) < (n : Int) := by omega
      obtain ⟨b1, o1, y, rfl, hg1, hy⟩ := (HS.out.below hb).at k hkn
      obtain ⟨c0, c1, c2, c3, c4, c5, c6, c7, c8, c9, c10⟩ := op_cells hy
      have hb2 : Below W.heap.size W (wr.alloc (.cells (opArr y) 25)) := hb.alloc hb.size _
      unfold opArr opCells at hb2
      obtain ⟨d0, d1⟩ := HD.out _ hb2
      have hl := fun w => pless_any x.stamp y.stamp w
      simp only [stCells] at hl
      obtain ⟨s, hs⟩ : ∃ s, x.stamp.less y.stamp = s := ⟨_, rfl⟩
      rw [hs] at hl
      have HB2 := Go.Lib.hid hb2; have HG := Go.Lib.hid hg1; have HL := Go.Lib.hid hl; have HSS := Go.Lib.hid hs
      clear hb2 hy hg1 hb hl hs
      cases s
      · go_wp2_with (go_at_call 28; with_reducible refine (HL.out _).mono ?_; rintro e w1 ⟨rfl, hb⟩; have HB3 := Go.Lib.hid (bstep HB2.out hb); clear hb)
        refine ⟨⟨k + 1, by omega, by simp, fun j z hj hz => ?_, HB3.out⟩, by simp [intOf]; omega⟩
        by_cases e : j = k
        · subst e
          rw [HG.out] at hz
          injection hz with hz
          rw [← hz]; exact HSS.out
        · exact HA.out j z (by omega) hz
      · have hins := insAt_eq set x k (by rw [HN.out]; omega) HA.out (fun u hu => by rw [HG.out] at hu; injection hu with hu; rw [← hu]; exact HSS.out)
        have HI := Go.Lib.hid hins; clear hins
        go_wp2_with (go_at_call 28; with_reducible refine (HL.out _).mono ?_; rintro e w1 ⟨rfl, hb⟩; have HB3 := Go.Lib.hid (bstep HB2.out hb); clear hb)
        go_ret
        exact ⟨k, rfl, hk, HI.out, bstep HB.out HB3.out⟩
    · obtain rfl : k = n := by omega
      have hins := insAt_eq set x k (by rw [HN.out]; omega) HA.out (fun u hu => by rw [List.getElem?_eq_none (by rw [HN.out]; exact Nat.le_refl _)] at hu; cases hu)
      have HI := Go.Lib.hid hins; clear hins
      have HBW := Go.Lib.hid hb; clear hb
      go_wp2_with fail
      go_ret
      exact ⟨k, rfl, Nat.le_refl _, HI.out, bstep HB.out HBW.out⟩
end Go.Proofs.Ytmkmahjboocoaaa.W
