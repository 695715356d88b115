/- Contracts of package norm's calls: Same; slices.Equal of rules. -/
import Derived.Test.YtkohcibhefejfaaNormZ
namespace Go.Proofs.Ytkohcibhefejfaa.W
set_option maxRecDepth 20000
set_option linter.unusedVariables false
open Go.RowKit Go.Proofs Arb

set_option maxHeartbeats 4000000 in
theorem pequal_any (u v : Value) (a b : List Rul) (w : World) (hu : Ruls w u a) (hv : Ruls w v b) (ha : a.length ≤ 1000000) (hb : b.length ≤ 1000000) :
    Calls Try.prog 18 #[u, v] w fun e w' => e = .returned (.bool (decide (a = b))) ∧ Below w.heap.size w w' := by
  obtain ⟨r, hr⟩ : ∃ r, decide (a = b) = r := ⟨_, rfl⟩
  rw [hr]
  have hu' := hu
  obtain ⟨A1, n1, c1, rfl, hn1, hc1, -⟩ := hu'
  have hv' := hv
  obtain ⟨A2, n2, c2, rfl, hn2, hc2, -⟩ := hv'
  by_cases hl : n1 = n2
  · subst hl
    have HU := Go.Lib.hid hu; have HV := Go.Lib.hid hv; have HR := Go.Lib.hid hr; have HN1 := Go.Lib.hid hn1; have HN2 := Go.Lib.hid hn2
    have hn1i : n1 ≤ 1000000 := by omega
    clear hu hv hr hn1 hn2 ha hb
    go_enter Try.func18, Try.ntmps18
    go_wp2_with fail
    go_loopw [5, 13, 14, 15, 16, 17, 18, 19, 20, 21, 22, 23, 24, 25] (fun _ i _ _ _ _ _ _ _ _ _ _ _ _ wr => ∃ k : Nat, k ≤ n1 ∧ i = .int .i64 (k : Int) ∧ (∀ j, j < k → a[j]? = b[j]?) ∧ Below w.heap.size w wr) (fun _ i _ _ _ _ _ _ _ _ _ _ _ _ _ => n1 - (intOf i).toNat)
    case atStart => exact ⟨0, by omega, rfl, fun _ h => by omega, Below.refl _ _⟩
    case round =>
      obtain ⟨k, hk, rfl, hall, hbw⟩ := hrel
      by_cases hkn : k < n1
      · have hki : (k : Int) < (n1 : Int) := by omega
        obtain ⟨g1, o1, x, rfl, hx, hx1⟩ := (HU.out.below hbw).at k hkn
        obtain ⟨g2, o2, y, rfl, hy, hy1⟩ := (HV.out.below hbw).at k hkn
        obtain ⟨p0, p1⟩ := rl_cells hx1
        obtain ⟨q0, q1⟩ := rl_cells hy1
        have hq := ne_rl x y
        have hg1 := hx1.lt; have hg2 := hy1.lt
        obtain ⟨d, hd⟩ : ∃ d, decide (x = y) = d := ⟨_, rfl⟩
        rw [hd] at hq
        have HX := Go.Lib.hid hx; have HY := Go.Lib.hid hy; have HBW := Go.Lib.hid hbw; have HALL := Go.Lib.hid hall; have HD := Go.Lib.hid hd
        clear hx hy hbw hall hd hx1 hy1
        have hne := BW.ne wr.heap.size wr
        cases d
        all_goals (
          go_wp2_with fail
          have s0 := fun z : BW wr.heap.size wr => z.cell p0 hg1
          have s1 := fun z : BW wr.heap.size wr => z.cell p1 hg1
          have s2 := fun z : BW wr.heap.size wr => z.cell q0 hg2
          have s3 := fun z : BW wr.heap.size wr => z.cell q1 hg2
          refine wp_region_calm wr.heap.size wr (Below.refl _ _) (by kernel_rfl) (by kernel_rfl) ?_
          repeat (go_big_quiet_step (fail))
          refine wpQuiet_nil ?_
          intro _ hw'
          obtain ⟨z, rfl⟩ := hw')
        · have hne : ¬ (a = b) := fun e => by
            have := HX.out
            rw [e, HY.out] at this
            exact absurd (Option.some.inj this).symm (of_decide_eq_false HD.out)
          have hres : r = false := by rw [← HR.out]; exact decide_eq_false hne
          subst hres
          go_wp2_with fail
          go_ret
          exact ⟨rfl, bstep HBW.out z.2⟩
        · have hnext : ∀ j, j < k + 1 → a[j]? = b[j]? := fun j hj => by
            by_cases hjk : j = k
            · subst hjk
              rw [HX.out, HY.out, of_decide_eq_true HD.out]
            · exact HALL.out j (by omega)
          have HNX := Go.Lib.hid hnext
          clear hnext
          go_wp2_with fail
          exact ⟨⟨k + 1, by omega, by simp, HNX.out, bstep HBW.out z.2⟩, by simp [intOf]; omega⟩
      · obtain rfl : k = n1 := by omega
        have hres : r = true := by
          rw [← HR.out]
          refine decide_eq_true (List.ext_getElem? fun j => ?_)
          by_cases hj : j < k
          · exact hall j hj
          · rw [List.getElem?_eq_none (by have := HN1.out; omega), List.getElem?_eq_none (by have := HN2.out; omega)]
        subst hres
        have HBW := Go.Lib.hid hbw
        clear hall hbw
        go_wp2_with fail
        go_ret
        exact ⟨rfl, HBW.out⟩
  · have hne : ¬ ((n1 : Int) = (n2 : Int)) := by omega
    have hres : r = false := by rw [← hr]; exact decide_eq_false fun e => hl (by rw [← hn1, ← hn2, e])
    subst hres
    clear hr
    go_enter Try.func18, Try.ntmps18
    go_wp2_with fail
    go_ret
    exact ⟨rfl, Below.refl _ _⟩

set_option maxHeartbeats 2000000 in
theorem psame_any (u v : Value) (a b : List Rul) (w : World) (hu : Ruls w u a) (hv : Ruls w v b) (ha : ∀ x ∈ a, x.text.length ≤ 100000) (hb : ∀ x ∈ b, x.text.length ≤ 100000) (hna : a.length ≤ 900) (hnb : b.length ≤ 900) :
    Calls Try.prog 10 #[u, v] w fun e w' => e = .returned (.bool (decide (normOf a = normOf b))) ∧ Below w.heap.size w w' := by
  have HA := Go.Lib.hid (pnorm_any u a w hu ha hna)
  have HBN := Go.Lib.hid (fun W (hW : Below w.heap.size w W) => pnorm_any v b W (hv.below hW) hb hnb)
  have fa := (norm_fits ha hna).2
  have fb := (norm_fits hb hnb).2
  obtain ⟨A, c, rfl, _⟩ := hu.len
  obtain ⟨B, d, rfl, _⟩ := hv.len
  have HS := Go.Lib.hid (fun (x y : Value) W (hx : Ruls W x (normOf a)) (hy : Ruls W y (normOf b)) => pequal_any x y (normOf a) (normOf b) W hx hy (by omega) (by omega))
  clear hu hv ha hb
  go_enter Try.func10, Try.ntmps10
  go_wp2_with fail
  refine Calls.mono HA.out ?_; rintro e w2 ⟨x, rfl, hR, hB⟩
  have HR := Go.Lib.hid hR; have HB := Go.Lib.hid hB; clear hR hB
  go_wp2_with fail
  refine Calls.mono (HBN.out _ HB.out) ?_; rintro e w3 ⟨y, rfl, hR, hB⟩
  have HR2 := Go.Lib.hid hR; have HR3 := Go.Lib.hid (HR.out.below hB); have HB2 := Go.Lib.hid (bstep HB.out hB); clear hR hB
  go_wp2_with fail
  refine Calls.mono (HS.out _ _ _ HR3.out HR2.out) ?_; rintro e w4 ⟨rfl, hB⟩
  have HB3 := Go.Lib.hid (bstep HB2.out hB); clear hB
  go_wp2_with fail
  go_ret
  exact ⟨rfl, HB3.out⟩
end Go.Proofs.Ytkohcibhefejfaa.W
