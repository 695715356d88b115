/- The reference of filters: Same. -/
import Derived.Test.YtkohcibhefejfaaDoorGlobU
namespace Go.Proofs.YtkohcibhefejfaaDoor.W
set_option maxRecDepth 20000
set_option linter.unusedVariables false
open Go.RowKit Go.Proofs Arb

theorem rl_eq {x y : Rul} (h1 : x.kind = y.kind) (h2 : x.text = y.text) : x = y := by
  obtain ⟨a, b⟩ := x
  obtain ⟨c, d⟩ := y
  simp only at h1 h2
  subst h1; subst h2; rfl
set_option maxHeartbeats 1000000 in
theorem eq_rl (x y : Rul) (w : World) : (binOp .eql 29 (rlVal x) (rlVal y)).run Tryd.prog w = .ok (.bool (decide (x = y))) w := by
  rw [rlVal, rlVal, run_eql_struct, run_equalIn_agg _ _ _ _ _ (by kernel_rfl) (by kernel_rfl)]
  unfold rlArr rlCells
  have u25 := Tryd.underlying29
  have u3 := Tryd.underlying3
  have u9 := Tryd.underlying9
  simp only [go_sem, u25]
  go_simp
  by_cases h : x = y
  · subst h; simp
  · rw [decide_eq_false h]
    have hb : ∀ l m : List UInt8, (BS l).toList = (BS m).toList → l = m := fun l m e => by
      rw [Go.Lib.toList_data, Go.Lib.toList_data, BS_list, BS_list] at e; exact e
    split
    · split
      · rename_i h0 h1
        exact absurd (rl_eq h0 (hb _ _ h1)) h
      · rfl
    · rfl
theorem ne_rl (x y : Rul) (w : World) : (binOp .neq 29 (.agg #[.int .i64 x.kind, .string (BS x.text)]) (.agg #[.int .i64 y.kind, .string (BS y.text)])).run Tryd.prog w = .ok (.bool (!decide (x = y))) w := by
  have h := eq_rl x y w
  rw [rlVal, rlVal, run_eql_struct] at h
  show (binOp .neq 29 (.agg (rlArr x)) (.agg (rlArr y))).run Tryd.prog w = _
  rw [run_neq_struct]
  cases hr : (Op.equalIn 10000 29 (.agg (rlArr x)) (.agg (rlArr y))).run Tryd.prog w with
  | ok b w' =>
    rw [hr] at h
    simp only [Result.andThen_ok] at h ⊢
    injection h with h1 h2
    injection h1 with h1
    rw [h1, h2]
  | halt a w' =>
    rw [hr] at h
    simp [Result.andThen] at h

set_option maxHeartbeats 4000000 in
theorem rsame9_any (u v : Value) (a b : List Rul) (w : World) (hu : Ruls w u a) (hv : Ruls w v b) (ha : a.length ≤ 1000000) (hb : b.length ≤ 1000000) :
    Calls Tryd.prog 16 #[u, v] w fun e w' => e = .returned (.bool (decide (a = b))) ∧ Below w.heap.size w w' := by
  obtain ⟨r, hr⟩ : ∃ r, decide (a = b) = r := ⟨_, rfl⟩
  rw [hr]
  have hu' := hu
  obtain ⟨A1, n1, c1, rfl, hn1, hc1, -⟩ := hu'
  have hv' := hv
  obtain ⟨A2, n2, c2, rfl, hn2, hc2, -⟩ := hv'
  by_cases hl : n1 = n2
  · subst hl
    have HU := Go.Lib.hid hu; have HV := Go.Lib.hid hv; have HR := Go.Lib.hid hr; have HN1 := Go.Lib.hid hn1; have HN2 := Go.Lib.hid hn2
    have hn1i : n1 ≤ 1000000 := by omega
    clear hu hv hr hn1 hn2 ha hb
    go_enter Tryd.func16, Tryd.ntmps16
    go_wp2_with fail
    go_loopw [5, 11, 12, 13, 14, 15, 16, 17, 18, 19, 20, 21, 22, 23, 24, 25] (fun i _ _ _ _ _ _ _ _ _ _ _ _ _ _ _ wr => ∃ k : Nat, k ≤ n1 ∧ i = .int .i64 (k : Int) ∧ (∀ j, j < k → a[j]? = b[j]?) ∧ Below w.heap.size w wr) (fun i _ _ _ _ _ _ _ _ _ _ _ _ _ _ _ _ => n1 - (intOf i).toNat)
    case atStart => exact ⟨0, by omega, rfl, fun _ h => by omega, Below.refl _ _⟩
    case round =>
      obtain ⟨k, hk, rfl, hall, hbw⟩ := hrel
      by_cases hkn : k < n1
      · have hki : (k : Int) < (n1 : Int) := by omega
        obtain ⟨g1, o1, x, rfl, hx, hx1⟩ := (HU.out.below hbw).at k hkn
        obtain ⟨g2, o2, y, rfl, hy, hy1⟩ := (HV.out.below hbw).at k hkn
        obtain ⟨p0, p1⟩ := rl_cells hx1
        obtain ⟨q0, q1⟩ := rl_cells hy1
        have hq := ne_rl x y
        have hg1 := hx1.lt; have hg2 := hy1.lt
        obtain ⟨d, hd⟩ : ∃ d, decide (x = y) = d := ⟨_, rfl⟩
        rw [hd] at hq
        have HX := Go.Lib.hid hx; have HY := Go.Lib.hid hy; have HBW := Go.Lib.hid hbw; have HALL := Go.Lib.hid hall; have HD := Go.Lib.hid hd
        clear hx hy hbw hall hd hx1 hy1
        have hne := BW.ne wr.heap.size wr
        cases d
        all_goals (
          go_wp2_with fail
          have s0 := fun z : BW wr.heap.size wr => z.cell p0 hg1
          have s1 := fun z : BW wr.heap.size wr => z.cell p1 hg1
          have s2 := fun z : BW wr.heap.size wr => z.cell q0 hg2
          have s3 := fun z : BW wr.heap.size wr => z.cell q1 hg2
          refine wp_region_calm wr.heap.size wr (Below.refl _ _) (by kernel_rfl) (by kernel_rfl) ?_
          repeat (go_big_quiet_step (fail))
          refine wpQuiet_nil ?_
          intro _ hw'
          obtain ⟨z, rfl⟩ := hw')
        · have hne : ¬ (a = b) := fun e => by
            have := HX.out
            rw [e, HY.out] at this
            exact absurd (Option.some.inj this).symm (of_decide_eq_false HD.out)
          have hres : r = false := by rw [← HR.out]; exact decide_eq_false hne
          subst hres
          go_wp2_with fail
          go_ret
          exact ⟨rfl, bstep HBW.out z.2⟩
        · have hnext : ∀ j, j < k + 1 → a[j]? = b[j]? := fun j hj => by
            by_cases hjk : j = k
            · subst hjk
              rw [HX.out, HY.out, of_decide_eq_true HD.out]
            · exact HALL.out j (by omega)
          have HNX := Go.Lib.hid hnext
          clear hnext
          go_wp2_with fail
          exact ⟨⟨k + 1, by omega, by simp, HNX.out, bstep HBW.out z.2⟩, by simp [intOf]; omega⟩
      · obtain rfl : k = n1 := by omega
        have hres : r = true := by
          rw [← HR.out]
          refine decide_eq_true (List.ext_getElem? fun j => ?_)
          by_cases hj : j < k
          · exact hall j hj
          · rw [List.getElem?_eq_none (by have := HN1.out; omega), List.getElem?_eq_none (by have := HN2.out; omega)]
        subst hres
        have HBW := Go.Lib.hid hbw
        clear hall hbw
        go_wp2_with fail
        go_ret
        exact ⟨rfl, HBW.out⟩
  · have hne : ¬ ((n1 : Int) = (n2 : Int)) := by omega
    have hres : r = false := by rw [← hr]; exact decide_eq_false fun e => hl (by rw [← hn1, ← hn2, e])
    subst hres
    clear hr
    go_enter Tryd.func16, Tryd.ntmps16
    go_wp2_with fail
    go_ret
    exact ⟨rfl, Below.refl _ _⟩
end Go.Proofs.YtkohcibhefejfaaDoor.W
