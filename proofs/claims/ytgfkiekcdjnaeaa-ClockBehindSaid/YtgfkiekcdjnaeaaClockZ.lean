/- The lesser numbers of vectors: the program's contract. -/
import Derived.Test.YtgfkiekcdjnaeaaClockY
import Derived.StillTailTactics
namespace Go.Proofs.Ytgfkiekcdjnaeaa.W
set_option linter.unusedVariables false
open Go.RowKit Go.Proofs Arb

set_option maxHeartbeats 1000000 in
theorem pmeet_any (v : Value) (ls : List (List Int)) (w : World) (h : Vecs w v ls) (hn : ls.length ≤ 100000) (hl : ∀ l ∈ ls, l.length ≤ 100000) :
    Calls Try.prog 23 #[v] w fun e w' => ∃ v', e = .returned v' ∧ Ints w' v' (meetOf ls) ∧ Below w.heap.size w w' := by
  have HV := Go.Lib.hid h
  obtain ⟨A, n, c, rfl, hls, hnc, _⟩ := h
  obtain ⟨r, hr⟩ : ∃ r, meetOf ls = r := ⟨_, rfl⟩
  rw [hr]
  rcases Nat.eq_zero_or_pos n with h0 | h0
  · subst h0
    have hz : ls = [] := List.eq_nil_of_length_eq_zero hls
    subst hz
    have hr' : r = [] := hr.symm
    subst hr'
    clear hr hls hnc hl HV hn
    go_enter Try.func23, Try.ntmps23
    go_wp2_with fail
    go_ret
    exact ⟨_, rfl, ⟨none, 0, 0, rfl, rfl, Nat.le_refl _, fun h => by omega⟩, Below.refl _ _⟩
  · obtain ⟨b, off, A0, c0, l0, rfl, hg0, hcell0, hint0⟩ := HV.out.at 0 h0
    obtain ⟨lt, rfl⟩ : ∃ lt, ls = l0 :: lt := by
      cases ls with
      | nil => simp at hg0
      | cons x y => simp at hg0; exact ⟨y, by rw [hg0]⟩
    have hll : ∀ l ∈ lt, l.length ≤ 100000 := fun l hm => hl l (List.mem_cons_of_mem _ hm)
    have hl0 : l0.length ≤ 100000 := hl l0 (List.mem_cons_self ..)
    have hlt : lt.length = n - 1 := by simp at hls; omega
    have hmx : ∀ k, (metOf l0 (lt.take k)).length ≤ 100000 := fun k => Nat.le_trans (metOf_length _ _) hl0
    have hcl := pclone_any _ l0 w hint0 hl0
    rw [Nat.add_zero] at hcell0
    obtain ⟨n0, hn0⟩ : ∃ n0, l0.length = n0 := ⟨_, rfl⟩
    rw [hn0] at hcell0 hcl
    have hne : ((n : Int) == 0) = false := by simp; omega
    have h1n : (0 : Int) < (n : Int) := by omega
    have hn1 : n ≤ 100000 := by simp at hn hls; omega
    have HCL := Go.Lib.hid hcl; clear hcl
    have HR := Go.Lib.hid hr; clear hr
    have HL := Go.Lib.hid hll; clear hll
    have HN := Go.Lib.hid hlt; clear hlt
    have HMX := Go.Lib.hid hmx; clear hmx
    have HN0 := Go.Lib.hid hn0; clear hn0
    clear hint0 hg0 hls hl hn
    go_enter Try.func23, Try.ntmps23
    go_wp2_with fail
    refine HCL.out.mono ?_
    rintro e w1 ⟨A1, c1, rfl, hrow, hb1⟩
    have HROW := Go.Lib.hid hrow; clear hrow
    have HB1 := Go.Lib.hid hb1; clear hb1
    go_wp2_with fail
    · rename_i hc1
      obtain rfl : n = 1 := by omega
      have hlt : lt = [] := List.eq_nil_of_length_eq_zero (by rw [HN.out])
      have hnorm := pnorm_any _ _ _ _ w1 HROW.out (by have := HN0.out; omega)
      have hmm := meet_met l0 []
      rw [← hlt] at hmm
      rw [show upOf l0 = upOf (metOf l0 lt) by rw [hlt]; rfl, hmm, HR.out] at hnorm
      have HNM := Go.Lib.hid hnorm
      clear hnorm hmm hlt
      go_loopw [3, 5, 6, 17, 18, 19, 20, 21, 22, 23, 24, 25, 26, 27, 28, 29, 30, 31, 32, 33, 34, 35, 36, 37, 38, 39, 40, 41, 42, 43, 44, 45, 46] (fun x _ _ i _ _ _ _ _ _ _ _ _ _ _ _ _ _ _ _ _ _ _ _ _ _ _ _ _ _ _ _ _ wr => x = .slice A1 n0 c1 ∧ i = .int .i64 0 ∧ wr = w1) (fun _ _ _ _ _ _ _ _ _ _ _ _ _ _ _ _ _ _ _ _ _ _ _ _ _ _ _ _ _ _ _ _ _ _ => 0)
      case atStart => exact ⟨rfl, rfl, rfl⟩
      case round =>
        obtain ⟨rfl, rfl, rfl⟩ := hrel
        go_wp2_with fail
        refine HNM.out.mono ?_
        rintro e w2 ⟨v', rfl, hI, hb2⟩
        have HI := Go.Lib.hid hI; clear hI
        have HB2 := Go.Lib.hid hb2; clear hb2
        go_wp2_with fail
        go_ret
        exact ⟨_, rfl, HI.out, HB1.out.trans HB2.out⟩
    · go_loopw [3, 5, 6, 17, 18, 19, 20, 21, 22, 23, 24, 25, 26, 27, 28, 29, 30, 31, 32, 33, 34, 35, 36, 37, 38, 39, 40, 41, 42, 43, 44, 45, 46] (fun vo _ _ i _ _ _ _ _ _ _ _ _ _ _ _ _ _ _ _ _ _ _ _ _ _ _ _ _ _ _ _ _ wr => ∃ k : Nat, k ≤ n - 1 ∧ i = .int .i64 (k : Int) ∧ (∃ A c, vo = .slice A (metOf l0 (lt.take k)).length c) ∧ Row wr w.heap.size 3 1 vo (metOf l0 (lt.take k)).length ((metOf l0 (lt.take k)).map fun z => .int .i64 z) ∧ Below w.heap.size w wr) (fun _ _ _ i _ _ _ _ _ _ _ _ _ _ _ _ _ _ _ _ _ _ _ _ _ _ _ _ _ _ _ _ _ _ => (n - 1) - (intOf i).toNat)
      case atStart => exact ⟨0, by omega, rfl, ⟨A1, c1, by rw [← HN0.out]; rfl⟩, by have := HROW.out; rw [← HN0.out] at this ⊢; exact this, HB1.out⟩
      case round =>
        obtain ⟨k, hk, rfl, ⟨A2, c2, rfl⟩, hrow, hbw⟩ := hrel
        by_cases hkn : k < n - 1
        · have hkn' : (k : Int) < ((n - 1 : Nat) : Int) := by omega
          obtain ⟨b', off', A', c', l, he, hg, hcell, hint0⟩ := HV.out.at (k + 1) (by omega)
          cases he
          replace hcell := (hbw.cell (p := ⟨b, off + (k + 1), none⟩) (World.block_lt_of_cell? w _ hcell)).trans hcell
          rw [show off + (k + 1) = off + 1 + k by omega] at hcell
          have hint := fun x (hx : Below w.heap.size w x) => hint0.below hx
          clear hint0
          rw [List.getElem?_cons_succ] at hg
          obtain ⟨lv, hlv⟩ : ∃ lv, l.length = lv := ⟨_, rfl⟩
          have hlv1 : lv ≤ 100000 := by rw [← hlv]; exact HL.out l (List.mem_of_getElem? hg)
          rw [hlv] at hcell hint
          have hnx := metOf_take l0 lt k l hg
          have hla1 := HMX.out k
          obtain ⟨a, ha⟩ : ∃ a, metOf l0 (lt.take k) = a := ⟨_, rfl⟩
          rw [ha] at hnx hrow hla1
          rw [ha]
          obtain ⟨la, hla⟩ : ∃ la, a.length = la := ⟨_, rfl⟩
          rw [hla] at hrow hla1
          rw [hla]
          have HG := Go.Lib.hid hg; clear hg
          have HNX := Go.Lib.hid hnx; clear hnx
          have HINT := Go.Lib.hid hint; clear hint
          have HBW := Go.Lib.hid hbw; clear hbw
          have HROW2 := Go.Lib.hid hrow; clear hrow
          have HLV := Go.Lib.hid hlv; clear hlv
          have HLA := Go.Lib.hid hla; clear hla
          clear ha
          have hac : la ≤ c2 := by
            rcases HROW2.out.2 with ⟨he, h0⟩ | ⟨g, cap, cur, fz, he, _, _, _, hnc2, _⟩
            · omega
            · cases he; exact hnc2
          by_cases hmm : la ≤ lv
          · have hmin : min a.length l.length = la := by rw [HLA.out, HLV.out]; omega
            have hrow0 := row_cut (m := la) HROW2.out (by omega)
            rw [← hmin, ← mtOf_zero, hmin] at hrow0
            have hla : la ≤ la := by omega
            have HMIN := Go.Lib.hid hmin; clear hmin
            have HROW3 := Go.Lib.hid hrow0; clear hrow0
            go_wp2_with fail
            go_loopw [6, 30, 31, 32, 33, 34, 35, 36, 37, 38, 39, 40, 41, 42, 43, 44, 45] (fun _ iv _ _ _ _ _ _ _ _ _ _ _ _ _ _ _ wr2 => ∃ i : Nat, i ≤ la ∧ iv = .int .i64 (i : Int) ∧ Row wr2 w.heap.size 3 1 (.slice A2 la c2) la ((mtOf a l i).map fun z => .int .i64 z) ∧ Below w.heap.size w wr2) (fun _ iv _ _ _ _ _ _ _ _ _ _ _ _ _ _ _ _ => la - (intOf iv).toNat)
            case atStart => exact ⟨0, by omega, rfl, HROW3.out, HBW.out⟩
            case round =>
              obtain ⟨i, hi1, rfl, hrow, hb2⟩ := hrel
              by_cases him : i < la
              · have him' : (i : Int) < (la : Int) := by omega
                have him2 : (i : Int) < (lv : Int) := by omega
                obtain ⟨g, cap, he, hcap, hbg, hg, hcell2, hfr⟩ := hrow.open (by omega)
                cases he
                have hci := HINT.out _ hb2
                obtain ⟨A5, m5, c5, he5, _, _, hcl5⟩ := hci
                cases he5
                obtain ⟨b5, off5, rfl, hz5⟩ := hcl5 (by omega)
                have hcy := hz5 i _ (getD_some l i (by rw [HLV.out]; omega))
                have hcx := hcell2 i (.int .i64 (a.getD i 0)) (by rw [List.getElem?_map, mtOf_at a l i (by rw [HMIN.out]; exact him)]; rfl)
                have hfx := hfr i (by omega)
                have hset := mtOf_set a l i (by rw [HMIN.out]; exact him)
                have hnr := hrow.set g c2 i rfl (.int .i64 (min (a.getD i 0) (l.getD i 0)))
                rw [ints_set i _ _ _ hset] at hnr
                have hbn := hb2.setCell (p := ⟨g, i, none⟩) hbg (.int .i64 (min (a.getD i 0) (l.getD i 0)))
                obtain ⟨x, hx⟩ : ∃ x, a.getD i 0 = x := ⟨_, rfl⟩
                obtain ⟨y, hy⟩ : ∃ y, l.getD i 0 = y := ⟨_, rfl⟩
                rw [hx] at hcx
                rw [hy] at hcy
                rw [hx, hy] at hnr hbn
                clear hcell2 hfr hset hrow hb2 hx hy hz5 hcl5
                by_cases hxy : y < x
                · rw [show min x y = y by omega] at hnr hbn
                  have HNR := Go.Lib.hid hnr; clear hnr
                  have HBN := Go.Lib.hid hbn; clear hbn
                  go_wp2_with fail
                  go_still_tail 12, (by kernel_rfl)
                  go_wp2_with fail
                  exact ⟨⟨i + 1, by omega, by simp, HNR.out.heap rfl, ⟨HBN.out.os, HBN.out.tape, HBN.out.output, HBN.out.size, HBN.out.block⟩⟩, by simp [intOf]; omega⟩
                · rw [show min x y = x by omega] at hnr hbn
                  have HNR := Go.Lib.hid hnr; clear hnr
                  have HBN := Go.Lib.hid hbn; clear hbn
                  go_wp2_with fail
                  go_still_tail 12, (by kernel_rfl)
                  go_wp2_with fail
                  exact ⟨⟨i + 1, by omega, by simp, HNR.out.heap rfl, ⟨HBN.out.os, HBN.out.tape, HBN.out.output, HBN.out.size, HBN.out.block⟩⟩, by simp [intOf]; omega⟩
              · obtain rfl : i = la := by omega
                have hmt := mtOf_all a l
                rw [HMIN.out] at hmt
                rw [hmt] at hrow
                have hml : (mt a l).length = i := by rw [← hmt, mtOf_length, HMIN.out]
                rw [← HNX.out] at hrow hml
                have HROW4 := Go.Lib.hid hrow; clear hrow
                have HB2 := Go.Lib.hid hb2; clear hb2
                have HML := Go.Lib.hid hml; clear hml hmt
                go_wp2_with fail
                exact ⟨⟨k + 1, by omega, by simp, ⟨A2, c2, by rw [HML.out]⟩, by rw [HML.out]; exact HROW4.out, HB2.out⟩, by simp [intOf]; omega⟩
          · have hmin : min a.length l.length = lv := by rw [HLA.out, HLV.out]; omega
            have hrow0 := row_cut (m := lv) HROW2.out (by omega)
            rw [← hmin, ← mtOf_zero, hmin] at hrow0
            have hlv : lv ≤ la := by omega
            have HMIN := Go.Lib.hid hmin; clear hmin
            have HROW3 := Go.Lib.hid hrow0; clear hrow0
            go_wp2_with fail
            go_loopw [6, 30, 31, 32, 33, 34, 35, 36, 37, 38, 39, 40, 41, 42, 43, 44, 45] (fun _ iv _ _ _ _ _ _ _ _ _ _ _ _ _ _ _ wr2 => ∃ i : Nat, i ≤ lv ∧ iv = .int .i64 (i : Int) ∧ Row wr2 w.heap.size 3 1 (.slice A2 lv c2) lv ((mtOf a l i).map fun z => .int .i64 z) ∧ Below w.heap.size w wr2) (fun _ iv _ _ _ _ _ _ _ _ _ _ _ _ _ _ _ _ => lv - (intOf iv).toNat)
            case atStart => exact ⟨0, by omega, rfl, HROW3.out, HBW.out⟩
            case round =>
              obtain ⟨i, hi1, rfl, hrow, hb2⟩ := hrel
              by_cases him : i < lv
              · have him' : (i : Int) < (lv : Int) := by omega
                have him2 : (i : Int) < (lv : Int) := by omega
                obtain ⟨g, cap, he, hcap, hbg, hg, hcell2, hfr⟩ := hrow.open (by omega)
                cases he
                have hci := HINT.out _ hb2
                obtain ⟨A5, m5, c5, he5, _, _, hcl5⟩ := hci
                cases he5
                obtain ⟨b5, off5, rfl, hz5⟩ := hcl5 (by omega)
                have hcy := hz5 i _ (getD_some l i (by rw [HLV.out]; omega))
                have hcx := hcell2 i (.int .i64 (a.getD i 0)) (by rw [List.getElem?_map, mtOf_at a l i (by rw [HMIN.out]; exact him)]; rfl)
                have hfx := hfr i (by omega)
                have hset := mtOf_set a l i (by rw [HMIN.out]; exact him)
                have hnr := hrow.set g c2 i rfl (.int .i64 (min (a.getD i 0) (l.getD i 0)))
                rw [ints_set i _ _ _ hset] at hnr
                have hbn := hb2.setCell (p := ⟨g, i, none⟩) hbg (.int .i64 (min (a.getD i 0) (l.getD i 0)))
                obtain ⟨x, hx⟩ : ∃ x, a.getD i 0 = x := ⟨_, rfl⟩
                obtain ⟨y, hy⟩ : ∃ y, l.getD i 0 = y := ⟨_, rfl⟩
                rw [hx] at hcx
                rw [hy] at hcy
                rw [hx, hy] at hnr hbn
                clear hcell2 hfr hset hrow hb2 hx hy hz5 hcl5
                by_cases hxy : y < x
                · rw [show min x y = y by omega] at hnr hbn
                  have HNR := Go.Lib.hid hnr; clear hnr
                  have HBN := Go.Lib.hid hbn; clear hbn
                  go_wp2_with fail
                  go_still_tail 12, (by kernel_rfl)
                  go_wp2_with fail
                  exact ⟨⟨i + 1, by omega, by simp, HNR.out.heap rfl, ⟨HBN.out.os, HBN.out.tape, HBN.out.output, HBN.out.size, HBN.out.block⟩⟩, by simp [intOf]; omega⟩
                · rw [show min x y = x by omega] at hnr hbn
                  have HNR := Go.Lib.hid hnr; clear hnr
                  have HBN := Go.Lib.hid hbn; clear hbn
                  go_wp2_with fail
                  go_still_tail 12, (by kernel_rfl)
                  go_wp2_with fail
                  exact ⟨⟨i + 1, by omega, by simp, HNR.out.heap rfl, ⟨HBN.out.os, HBN.out.tape, HBN.out.output, HBN.out.size, HBN.out.block⟩⟩, by simp [intOf]; omega⟩
              · obtain rfl : i = lv := by omega
                have hmt := mtOf_all a l
                rw [HMIN.out] at hmt
                rw [hmt] at hrow
                have hml : (mt a l).length = i := by rw [← hmt, mtOf_length, HMIN.out]
                rw [← HNX.out] at hrow hml
                have HROW4 := Go.Lib.hid hrow; clear hrow
                have HB2 := Go.Lib.hid hb2; clear hb2
                have HML := Go.Lib.hid hml; clear hml hmt
                go_wp2_with fail
                exact ⟨⟨k + 1, by omega, by simp, ⟨A2, c2, by rw [HML.out]⟩, by rw [HML.out]; exact HROW4.out, HB2.out⟩, by simp [intOf]; omega⟩
        · obtain rfl : k = n - 1 := by omega
          rw [List.take_of_length_le (by rw [HN.out]; omega)] at hrow
          have hmx := HMX.out (n - 1)
          rw [List.take_of_length_le (by rw [HN.out]; omega)] at hmx
          have hnorm := pnorm_any _ _ _ _ wr hrow (by omega)
          rw [meet_met, HR.out] at hnorm
          rw [List.take_of_length_le (by rw [HN.out]; omega)]
          obtain ⟨lm, hlm⟩ : ∃ lm, (metOf l0 lt).length = lm := ⟨_, rfl⟩
          rw [hlm] at hnorm
          rw [hlm]
          have HNM := Go.Lib.hid hnorm
          have HBW := Go.Lib.hid hbw
          clear hrow hnorm hbw hlm hmx
          go_wp2_with fail
          refine HNM.out.mono ?_
          rintro e w2 ⟨v', rfl, hI, hb2⟩
          have HI := Go.Lib.hid hI; clear hI
          have HB2 := Go.Lib.hid hb2; clear hb2
          go_wp2_with fail
          go_ret
          exact ⟨_, rfl, HI.out, HBW.out.trans HB2.out⟩
end Go.Proofs.Ytgfkiekcdjnaeaa.W
