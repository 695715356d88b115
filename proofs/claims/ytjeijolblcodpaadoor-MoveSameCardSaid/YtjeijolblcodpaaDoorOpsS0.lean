/- The reference of operations: whether two sets are the same. -/
import Derived.Test.YtjeijolblcodpaaDoorMg1
import Derived.Test.YtjeijolblcodpaaDoorMg2
import Derived.WalkSpells
import Derived.WalkLawsBesides
import Derived.Outline
import Derived.Lib.Hide
import Derived.Deep.QuietTactic
import Derived.BigQuiet
namespace Go.Proofs.YtjeijolblcodpaaDoor.W
set_option maxRecDepth 20000
set_option linter.unusedVariables false
open Go.RowKit Go.Proofs Arb

set_option maxRecDepth 20000 in
set_option maxHeartbeats 4000000 in
theorem rsameops_any (u v : Value) (a b : List Opn) (w : World) (hu : Opns w u a) (hv : Opns w v b) (ha : a.length ≤ 1000000) (hb : b.length ≤ 1000000) :
    Calls Tryd.prog 14 #[u, v] w fun e w' => e = .returned (.bool (decide (a = b))) ∧ Below w.heap.size w w' := by
  obtain ⟨r, hr⟩ : ∃ r, decide (a = b) = r := ⟨_, rfl⟩
  rw [hr]
  obtain ⟨A1, c1, rfl, hc1⟩ := hu.len
  obtain ⟨A2, c2, rfl, hc2⟩ := hv.len
  by_cases hl : a.length = b.length
  · rw [← hl] at hv hc2 ⊢
    obtain ⟨n, hn⟩ : ∃ n, a.length = n := ⟨_, rfl⟩
    have hn2 : b.length = n := by omega
    rw [hn] at hu hv hc1 hc2 ha
    rw [hn]
    have HU := Go.Lib.hid hu; clear hu
    have HV := Go.Lib.hid hv; clear hv
    have HR := Go.Lib.hid hr; clear hr
    have HN := Go.Lib.hid hn
    have HN2 := Go.Lib.hid hn2
    clear hl hn hn2 hb
    go_enter Tryd.func14, Tryd.ntmps14
    go_wp2_with fail
    go_loopw [5, 11, 12, 13, 14, 15, 16, 17, 18, 19, 20, 21, 22, 23, 24, 25] (fun i _ _ _ _ _ _ _ _ _ _ _ _ _ _ _ wr => ∃ k : Nat, k ≤ n ∧ i = .int .i64 (k : Int) ∧ (∀ j, j < k → a[j]? = b[j]?) ∧ Below w.heap.size w wr) (fun i _ _ _ _ _ _ _ _ _ _ _ _ _ _ _ _ => n - (intOf i).toNat)
    case atStart => exact ⟨0, by omega, rfl, fun _ h => by omega, Below.refl _ _⟩
    case round =>
      obtain ⟨k, hk, rfl, hall, hbw⟩ := hrel
      have HALL := Go.Lib.hid hall; clear hall
      by_cases hkn : k < n
      · have hkn' : (k : Int) < (n : Int) := by omega
        obtain ⟨b1, o1, x, rfl, hg1, hx⟩ := (HU.out.below hbw).at k hkn
        obtain ⟨b2, o2, y, rfl, hg2, hy⟩ := (HV.out.below hbw).at k hkn
        obtain ⟨c0, c1, c2, c3, c4, c5, c6, c7, c8, c9, c10⟩ := op_cells hx
        obtain ⟨d0, d1, d2, d3, d4, d5, d6, d7, d8, d9, d10⟩ := op_cells hy
        have hq := fun w => ne_op' x y w
        obtain ⟨q, hqe⟩ : ∃ q, decide (x = y) = q := ⟨_, rfl⟩
        rw [hqe] at hq
        have HBW := Go.Lib.hid hbw; clear hbw
        have HG1 := Go.Lib.hid hg1; clear hg1
        have HG2 := Go.Lib.hid hg2; clear hg2
        have HQ := Go.Lib.hid hqe; clear hqe
        clear hx hy
        cases q
        · go_wp2_with fail
          first | (go_quiet (fail)) | skip
          go_wp2_with fail
          go_ret
          refine ⟨?_, below_drewN HBW.out _⟩
          have hab : ¬ a = b := fun h => by
            have h1 := HG1.out
            rw [h, HG2.out] at h1
            injection h1 with h1
            exact of_decide_eq_false HQ.out h1.symm
          rw [← HR.out, decide_eq_false hab]; rfl
        · go_wp2_with fail
          first | (go_quiet (fail)) | skip
          go_wp2_with fail
          refine ⟨⟨k + 1, by omega, by simp, fun j hj => ?_, below_drewN HBW.out _⟩, by simp [intOf]; omega⟩
          rcases Nat.lt_or_ge j k with h | h
          · exact HALL.out j h
          · obtain rfl : j = k := by omega
            rw [HG1.out, HG2.out, of_decide_eq_true HQ.out]
      · obtain rfl : k = n := by omega
        have HBW := Go.Lib.hid hbw; clear hbw
        go_wp2_with fail
        go_ret
        refine ⟨?_, HBW.out⟩
        have hab : a = b := eq_of_getElem a b (by rw [HN.out, HN2.out]) (by rw [HN.out]; exact HALL.out)
        rw [← HR.out, decide_eq_true hab]; rfl
  · have hrf : r = false := by rw [← hr]; simp; intro h; exact hl (by rw [h])
    subst hrf
    have hne : ((a.length : Int) != (b.length : Int)) = true := by simp; omega
    clear hr hu hv
    go_enter Tryd.func14, Tryd.ntmps14
    go_wp2_with fail
    go_ret
    exact ⟨rfl, Below.refl _ _⟩
end Go.Proofs.YtjeijolblcodpaaDoor.W
