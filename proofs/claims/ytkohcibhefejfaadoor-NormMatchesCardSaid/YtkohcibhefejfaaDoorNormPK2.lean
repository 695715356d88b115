/- The program's forms: slices.Compact of rules, walked. -/
import Derived.Test.YtkohcibhefejfaaDoorNormPK
namespace Go.Proofs.YtkohcibhefejfaaDoor.W
set_option maxRecDepth 20000
set_option linter.unusedVariables false
open Go.RowKit Go.Proofs Arb

set_option maxHeartbeats 16000000 in
theorem pcompact_any (base : Nat) (v : Value) (C : List Rul) (w : World) (h : Row w base 29 2 v C.length (rlsCells C)) (hn : C.length ≤ 1000000) (hb : base ≤ w.heap.size) :
    Calls Tryd.prog 36 #[v] w fun e w' => ∃ v', e = .returned v' ∧ Row w' base 29 2 v' (compOf C).length (rlsCells (compOf C)) ∧ Below base w w' := by
  obtain ⟨n, hcn⟩ : ∃ n, C.length = n := ⟨_, rfl⟩
  rw [hcn] at h hn
  by_cases h2 : n < 2
  · have hc := comp_small (C := C) (by omega)
    obtain ⟨A, c, rfl⟩ := row_form h
    have h2' : (n : Int) < 2 := by omega
    have HC := Go.Lib.hid hc; have HR := Go.Lib.hid h; have HN := Go.Lib.hid hcn
    clear hc h hcn
    go_enter Tryd.func36, Tryd.ntmps36
    go_wp2_with fail
    go_ret
    exact ⟨_, rfl, by rw [HC.out, HN.out]; exact HR.out, Below.refl _ _⟩
  have h2' : ¬ ((n : Int) < 2) := by omega
  obtain ⟨g, cap, rfl, hcap, hbg, hgw, -, -⟩ := h.open (by omega)
  have hfin : ∀ W m R, CompI C R m n → Row W base 29 2 (.slice (some ⟨g, 0, none⟩) m cap) m (rlsCells (R.take m)) → Below base w W → ∃ v', Ending.returned (.slice (some ⟨g, 0, none⟩) m cap) = Ending.returned v' ∧ Row W base 29 2 v' (compOf C).length (rlsCells (compOf C)) ∧ Below base w W := fun W m R hi hr hbl => by
    have e : R.take m = compOf C := by rw [hi.tk, List.take_of_length_le (by omega)]
    have el : m = (compOf C).length := by rw [← e, List.length_take]; have := hi.kl; have := hi.len; omega
    exact ⟨_, rfl, by rw [← e, ← (by rw [e, ← el] : m = (R.take m).length)]; exact hr, hbl⟩
  have hend : ∀ W, compOf (C.take n) = C.take n → Row W base 29 2 (.slice (some ⟨g, 0, none⟩) n cap) n (rlsCells C) → Below base w W → ∃ v', Ending.returned (.slice (some ⟨g, 0, none⟩) n cap) = Ending.returned v' ∧ Row W base 29 2 v' (compOf C).length (rlsCells (compOf C)) ∧ Below base w W := fun W hc hr hbl => by
    rw [List.take_of_length_le (by omega)] at hc
    exact ⟨_, rfl, by rw [hc, hcn]; exact hr, hbl⟩
  have hs1 : compOf (C.take 1) = C.take 1 := comp_small (by rw [List.length_take]; omega)
  have HR := Go.Lib.hid h; have HCN := Go.Lib.hid hcn; have HF := Go.Lib.hid hfin; have HE := Go.Lib.hid hend; have HS1 := Go.Lib.hid hs1
  clear h hcn hfin hend hs1
  go_enter Tryd.func36, Tryd.ntmps36
  go_wp2_with fail
  go_loopw [3, 10, 11, 12, 13, 14, 15, 16, 17, 18, 19, 20, 21, 22, 23, 24, 25] (fun i _ _ _ _ _ _ _ _ _ _ _ _ _ _ _ _ wr => ∃ k : Nat, 1 ≤ k ∧ k ≤ n ∧ i = .int .i64 (k : Int) ∧ compOf (C.take k) = C.take k ∧ Row wr base 29 2 (.slice (some ⟨g, 0, none⟩) n cap) n (rlsCells C) ∧ Below base w wr) (fun i _ _ _ _ _ _ _ _ _ _ _ _ _ _ _ _ _ => n - (intOf i).toNat)
  case atStart => exact ⟨1, by omega, by omega, rfl, HS1.out, HR.out, Below.refl _ _⟩
  case round =>
    obtain ⟨k, hk1, hkn, rfl, hst, hrow, hbel⟩ := hrel
    have HST := Go.Lib.hid hst; have HROW := Go.Lib.hid hrow; have HB := Go.Lib.hid hbel
    clear hst hrow hbel
    by_cases hlt : k < n
    · have hki : (k : Int) < (n : Int) := by omega
      obtain ⟨p, hkp⟩ : ∃ p, p + 1 = k := ⟨k - 1, by omega⟩
      obtain ⟨x, hx⟩ : ∃ x, C[p]? = some x := ⟨_, List.getElem?_eq_getElem (by rw [HCN.out]; omega)⟩
      obtain ⟨y, hy⟩ : ∃ y, C[k]? = some y := ⟨_, List.getElem?_eq_getElem (by rw [HCN.out]; omega)⟩
      obtain ⟨hxr, _, _⟩ := row_rule HROW.out hx (by omega)
      obtain ⟨hyr, _, _⟩ := row_rule HROW.out hy (by omega)
      obtain ⟨p0, p1⟩ := rl_cells hyr
      obtain ⟨q0, q1⟩ := rl_cells hxr
      have hq := eq_rl y x
      have hg1 := hxr.lt
      have w1 : IntKind.i64.wrap ((k : Int) - 1) = (p : Int) := by rw [IntKind.wrap_i64]; omega
      have hpn : (p : Int) < (n : Int) := by omega
      obtain ⟨d, hd⟩ : ∃ d, decide (y = x) = d := ⟨_, rfl⟩
      rw [hd] at hq
      unfold rlVal rlArr rlCells at hq
      have HX := Go.Lib.hid hx; have HY := Go.Lib.hid hy; have HD := Go.Lib.hid hd; have HKP := Go.Lib.hid hkp
      clear hx hy hd hxr hyr hkp
      have hne := BW.ne wr.heap.size wr
      cases d
      all_goals (
        go_wp2_with fail
        have s0 := fun z : BW wr.heap.size wr => z.cell p0 hg1
        have s1 := fun z : BW wr.heap.size wr => z.cell p1 hg1
        have s2 := fun z : BW wr.heap.size wr => z.cell q0 hg1
        have s3 := fun z : BW wr.heap.size wr => z.cell q1 hg1
        refine wp_region_calm wr.heap.size wr (Below.refl _ _) (by kernel_rfl) (by kernel_rfl) ?_
        repeat (go_big_quiet_step (fail))
        refine wpQuiet_nil ?_
        intro _ hw'
        obtain ⟨z, rfl⟩ := hw')
      · have hne : x ≠ y := fun e => absurd e.symm (of_decide_eq_false HD.out)
        have hy' := HY.out
        have hst' := HST.out
        rw [← HKP.out] at hy' hst'
        have hnx := strict_next HX.out hy' hne hst'
        rw [show p + 2 = k + 1 by have := HKP.out; omega] at hnx
        have HNX := Go.Lib.hid hnx
        have HR2 := Go.Lib.hid (HROW.out.below z.2)
        have HB2 := Go.Lib.hid (HB.out.trans (z.2.mono (Nat.le_trans hb HB.out.size)))
        clear hne hy' hst' hnx
        go_wp2_with fail
        exact ⟨⟨k + 1, by omega, by omega, by simp, HNX.out, HR2.out, HB2.out⟩, by simp [intOf]; omega⟩
      · have he : x = y := (of_decide_eq_true HD.out).symm
        have hy' := HY.out
        have hst' := HST.out
        rw [← HKP.out] at hy' hst'
        have hst2 := CompI.start HX.out hy' he hst'
        rw [show p + 2 = k + 1 by have := HKP.out; omega, HKP.out] at hst2
        have hzb : Below wr.heap.size wr z.w := z.2
        obtain ⟨V, hV⟩ : ∃ V, z.w = V := ⟨_, rfl⟩
        rw [hV] at hzb ⊢
        have hr2 := HROW.out.below hzb
        have hb2 := HB.out.trans (hzb.mono (Nat.le_trans hb HB.out.size))
        have HST2 := Go.Lib.hid hst2; have HR2 := Go.Lib.hid hr2; have HB2 := Go.Lib.hid hb2
        clear he hy' hst' hst2 hr2 hb2 hV hzb s0 s1 s2 s3 hne p0 p1 q0 q1 hq w1
        have hkc : (k : Int) ≤ (cap : Int) := by omega
        go_wp2_with fail
        obtain ⟨N2, hN2⟩ : ∃ N, n - k = N := ⟨_, rfl⟩
        obtain ⟨c2, hc2⟩ : ∃ N, cap - k = N := ⟨_, rfl⟩
        rw [hN2, hc2]
        have hkN : k + N2 = n := by omega
        go_loopw [3, 5, 29, 30, 31, 32, 33, 34, 35, 36, 37, 38, 39, 40, 41, 42, 43, 44, 45, 46, 47, 48, 49, 50, 51, 52, 53] (fun i j _ _ _ _ _ _ _ _ _ _ _ _ _ _ _ _ _ _ _ _ _ _ _ _ _ wr => ∃ (kk q : Nat) (R : List Rul), 1 ≤ q ∧ q ≤ N2 ∧ i = .int .i64 (kk : Int) ∧ j = .int .i64 (q : Int) ∧ CompI C R kk (k + q) ∧ Row wr base 29 2 (.slice (some ⟨g, 0, none⟩) n cap) n (rlsCells R) ∧ Below base w wr) (fun i j _ _ _ _ _ _ _ _ _ _ _ _ _ _ _ _ _ _ _ _ _ _ _ _ _ _ => N2 - (intOf j).toNat)
        case atStart => exact ⟨k, 1, C, by omega, by omega, rfl, rfl, HST2.out, HR2.out, HB2.out⟩
        case round =>
          obtain ⟨kk, q, R, hq1, hqN, rfl, rfl, hci, hrow, hbel⟩ := hrel
          clear HROW HB HST HST2 HR2 HB2
          have hkk := hci.kl
          have HCI := Go.Lib.hid hci; have HROW := Go.Lib.hid hrow; have HB := Go.Lib.hid hbel
          clear hci hrow hbel
          by_cases hlt : q < N2
          · have hqi : (q : Int) < (N2 : Int) := by omega
            obtain ⟨q', hqq⟩ : ∃ q', q' + 1 = q := ⟨q - 1, by omega⟩
            obtain ⟨x, hx⟩ : ∃ x, C[k + q']? = some x := ⟨_, List.getElem?_eq_getElem (by rw [HCN.out]; omega)⟩
            obtain ⟨y, hy⟩ : ∃ y, C[k + q]? = some y := ⟨_, List.getElem?_eq_getElem (by rw [HCN.out]; omega)⟩
            obtain ⟨u, hu⟩ : ∃ u, R[kk]? = some u := ⟨_, List.getElem?_eq_getElem (by rw [HCI.out.len, HCN.out]; omega)⟩
            obtain ⟨hxr, _, _⟩ := row_rule HROW.out ((HCI.out.rest _ (by omega)).trans hx) (by omega)
            obtain ⟨hyr, _, _⟩ := row_rule HROW.out ((HCI.out.rest _ (by omega)).trans hy) (by omega)
            rw [Nat.add_mul] at hxr hyr
            obtain ⟨p0, p1⟩ := rl_cells hyr
            obtain ⟨q0, q1⟩ := rl_cells hxr
            have hq := ne_rl y x
            have hg1 := hxr.lt
            have w1 : IntKind.i64.wrap ((q : Int) - 1) = (q' : Int) := by rw [IntKind.wrap_i64]; omega
            have hqn : (q' : Int) < (N2 : Int) := by omega
            obtain ⟨d, hd⟩ : ∃ d, decide (y = x) = d := ⟨_, rfl⟩
            rw [hd] at hq
            have HX := Go.Lib.hid hx; have HY := Go.Lib.hid hy; have HD := Go.Lib.hid hd; have HQ := Go.Lib.hid hqq; have HU := Go.Lib.hid hu; have HYR := Go.Lib.hid hyr
            clear hx hy hd hxr hyr hqq hu
            have hne := BW.ne wr.heap.size wr
            cases d
            all_goals (
              go_wp2_with fail
              have s0 := fun z : BW wr.heap.size wr => z.cell p0 hg1
              have s1 := fun z : BW wr.heap.size wr => z.cell p1 hg1
              have s2 := fun z : BW wr.heap.size wr => z.cell q0 hg1
              have s3 := fun z : BW wr.heap.size wr => z.cell q1 hg1
              refine wp_region_calm wr.heap.size wr (Below.refl _ _) (by kernel_rfl) (by kernel_rfl) ?_
              repeat (go_big_quiet_step (fail))
              refine wpQuiet_nil ?_
              intro _ hw'
              obtain ⟨z, rfl⟩ := hw'
              have hzb : Below wr.heap.size wr z.w := z.2
              obtain ⟨V2, hV2⟩ : ∃ V, z.w = V := ⟨_, rfl⟩
              rw [hV2] at hzb ⊢
              have hr2 := HROW.out.below hzb
              have hb2 := HB.out.trans (hzb.mono (Nat.le_trans hb HB.out.size))
              have hy2 := HYR.out.below hzb
              have HR2 := Go.Lib.hid hr2; have HB2 := Go.Lib.hid hb2; have HY2 := Go.Lib.hid hy2
              clear hzb hV2 hr2 hb2 hy2 s0 s1 s2 s3 hne p0 p1 q0 q1 hq w1 hg1)
            · have hnx := CompI.other (p := k + q') (x := x) (y := y) (by rw [Nat.add_assoc, HQ.out]; exact HCI.out) HX.out (by rw [Nat.add_assoc, HQ.out]; exact HY.out) (of_decide_eq_false HD.out)
              rw [show k + q' + 2 = k + (q + 1) by have := HQ.out; omega] at hnx
              obtain ⟨hur, f0, f1⟩ := row_rule HR2.out HU.out (by omega)
              obtain ⟨u0, u1⟩ := rl_cells hur
              obtain ⟨y0, y1⟩ := rl_cells HY2.out
              have hro := (HR2.out.set g cap (kk * 2) rfl (.int .i64 y.kind)).set g cap (kk * 2 + 1) rfl (.string (BS y.text))
              rw [rls_set R kk y (by rw [HCI.out.len, HCN.out]; omega)] at hro
              have hbo := below_cell10 (below_cell10 HB2.out hbg (kk * 2) (.int .i64 y.kind)) hbg (kk * 2 + 1) (.string (BS y.text))
              have hkki : (kk : Int) < (n : Int) := by omega
              have HNX := Go.Lib.hid hnx; have HRO := Go.Lib.hid hro; have HBO := Go.Lib.hid hbo
              clear hnx hro hbo hur
              go_wp2_with fail
              exact ⟨⟨kk + 1, q + 1, _, by omega, by omega, by simp, by simp, HNX.out, HRO.out, HBO.out⟩, by simp [intOf]; omega⟩
            · have hnx := CompI.same (p := k + q') (x := x) (y := y) (by rw [Nat.add_assoc, HQ.out]; exact HCI.out) HX.out (by rw [Nat.add_assoc, HQ.out]; exact HY.out) (of_decide_eq_true HD.out)
              rw [show k + q' + 2 = k + (q + 1) by have := HQ.out; omega] at hnx
              have HNX := Go.Lib.hid hnx
              clear hnx
              go_wp2_with fail
              exact ⟨⟨kk, q + 1, R, by omega, by omega, rfl, by simp, HNX.out, HR2.out, HB2.out⟩, by simp [intOf]; omega⟩
          · obtain rfl : q = N2 := by omega
            have hci := HCI.out
            rw [hkN] at hci
            have HCI2 := Go.Lib.hid hci
            clear hci
            have hkki : (kk : Int) ≤ (n : Int) := by omega
            have hkcap : (kk : Int) ≤ (cap : Int) := by omega
            go_wp2_with (refine wpList_clear_rl rfl (.tmp 56) rfl base g n cap kk (n - kk) (cap - kk) R HROW.out (by omega) (by omega) rfl ?_; intro w6 hr6 hb6; have HF6 := Go.Lib.hid (HF.out w6 kk R HCI2.out hr6 (HB.out.trans hb6)); clear hr6 hb6)
            go_ret
            exact HF6.out
    · obtain rfl : k = n := by omega
      have hfin := HE.out wr HST.out HROW.out HB.out
      have HFI := Go.Lib.hid hfin
      clear hfin
      go_wp2_with fail
      go_ret
      exact HFI.out
end Go.Proofs.YtkohcibhefejfaaDoor.W
