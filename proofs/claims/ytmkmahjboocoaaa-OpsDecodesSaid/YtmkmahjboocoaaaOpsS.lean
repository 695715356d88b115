/- The reference of operations: whether two sets are the same; how many there are; those above a vector. -/
import Derived.Test.YtmkmahjboocoaaaOpsR
import Derived.Test.YtmkmahjboocoaaaClockS
import Derived.Test.YtmkmahjboocoaaaCalm
namespace Go.Proofs.Ytmkmahjboocoaaa.W
set_option linter.unusedVariables false
open Go.RowKit Go.Proofs Arb

set_option maxRecDepth 20000 in
set_option maxHeartbeats 4000000 in
theorem rsameops_any (u v : Value) (a b : List Opn) (w : World) (hu : Opns w u a) (hv : Opns w v b) (ha : a.length ≤ 1000000) (hb : b.length ≤ 1000000) :
    Calls Try.prog 22 #[u, v] w fun e w' => e = .returned (.bool (decide (a = b))) ∧ Below w.heap.size w w' := by
  obtain ⟨r, hr⟩ : ∃ r, decide (a = b) = r := ⟨_, rfl⟩
  rw [hr]
  obtain ⟨A1, c1, rfl, hc1⟩ := hu.len
  obtain ⟨A2, c2, rfl, hc2⟩ := hv.len
  by_cases hl : a.length = b.length
  · rw [← hl] at hv hc2 ⊢
    obtain ⟨n, hn⟩ : ∃ n, a.length = n := ⟨_, rfl⟩
    have hn2 : b.length = n := by omega
    rw [hn] at hu hv hc1 hc2 ha
    rw [hn]
    have HU := Go.Lib.hid hu; clear hu
    have HV := Go.Lib.hid hv; clear hv
    have HR := Go.Lib.hid hr; clear hr
    have HN := Go.Lib.hid hn
    have HN2 := Go.Lib.hid hn2
    clear hl hn hn2 hb
    go_enter Try.func22, Try.ntmps22
    go_wp2_with fail
    go_loopw [5, 11, 12, 13, 14, 15, 16, 17, 18, 19, 20, 21, 22, 23, 24, 25] (fun i _ _ _ _ _ _ _ _ _ _ _ _ _ _ _ wr => ∃ k : Nat, k ≤ n ∧ i = .int .i64 (k : Int) ∧ (∀ j, j < k → a[j]? = b[j]?) ∧ Below w.heap.size w wr) (fun i _ _ _ _ _ _ _ _ _ _ _ _ _ _ _ _ => n - (intOf i).toNat)
    case atStart => exact ⟨0, by omega, rfl, fun _ h => by omega, Below.refl _ _⟩
    case round =>
      obtain ⟨k, hk, rfl, hall, hbw⟩ := hrel
      have HALL := Go.Lib.hid hall; clear hall
      by_cases hkn : k < n
      · have hkn' : (k : Int) < (n : Int) := by omega
        obtain ⟨b1, o1, x, rfl, hg1, hx⟩ := (HU.out.below hbw).at k hkn
        obtain ⟨b2, o2, y, rfl, hg2, hy⟩ := (HV.out.below hbw).at k hkn
        obtain ⟨c0, c1, c2, c3, c4, c5, c6, c7, c8, c9, c10⟩ := op_cells hx
        obtain ⟨d0, d1, d2, d3, d4, d5, d6, d7, d8, d9, d10⟩ := op_cells hy
        have hq := fun w => ne_op' x y w
        obtain ⟨q, hqe⟩ : ∃ q, decide (x = y) = q := ⟨_, rfl⟩
        rw [hqe] at hq
        have HBW := Go.Lib.hid hbw; clear hbw
        have HG1 := Go.Lib.hid hg1; clear hg1
        have HG2 := Go.Lib.hid hg2; clear hg2
        have HQ := Go.Lib.hid hqe; clear hqe
        clear hx hy
        cases q
        · go_wp2_with fail
          first | (go_quiet (fail)) | skip
          go_wp2_with fail
          go_ret
          refine ⟨?_, below_drewN HBW.out _⟩
          have hab : ¬ a = b := fun h => by
            have h1 := HG1.out
            rw [h, HG2.out] at h1
            injection h1 with h1
            exact of_decide_eq_false HQ.out h1.symm
          rw [← HR.out, decide_eq_false hab]; rfl
        · go_wp2_with fail
          first | (go_quiet (fail)) | skip
          go_wp2_with fail
          refine ⟨⟨k + 1, by omega, by simp, fun j hj => ?_, below_drewN HBW.out _⟩, by simp [intOf]; omega⟩
          rcases Nat.lt_or_ge j k with h | h
          · exact HALL.out j h
          · obtain rfl : j = k := by omega
            rw [HG1.out, HG2.out, of_decide_eq_true HQ.out]
      · obtain rfl : k = n := by omega
        have HBW := Go.Lib.hid hbw; clear hbw
        go_wp2_with fail
        go_ret
        refine ⟨?_, HBW.out⟩
        have hab : a = b := eq_of_getElem a b (by rw [HN.out, HN2.out]) (by rw [HN.out]; exact HALL.out)
        rw [← HR.out, decide_eq_true hab]; rfl
  · have hrf : r = false := by rw [← hr]; simp; intro h; exact hl (by rw [h])
    subst hrf
    have hne : ((a.length : Int) != (b.length : Int)) = true := by simp; omega
    clear hr hu hv
    go_enter Try.func22, Try.ntmps22
    go_wp2_with fail
    go_ret
    exact ⟨rfl, Below.refl _ _⟩

def fewOps (l : List Opn) : Bool := decide (l.length ≤ 450) && l.all fun x => decide (x.name.length ≤ 200 ∧ x.manifest.length ≤ 2000)
theorem fewOps_true {l : List Opn} (h : fewOps l = true) : l.length ≤ 450 ∧ ∀ x ∈ l, x.name.length ≤ 200 ∧ x.manifest.length ≤ 2000 := by
  unfold fewOps at h
  simpa using h

set_option maxHeartbeats 4000000 in
theorem fewops_any (v : Value) (l : List Opn) (w : World) (h : Opns w v l) (hwf : ∀ x ∈ l, x.name.length ≤ 140737488351232 ∧ x.manifest.length ≤ 140737488351232) :
    Calls Try.prog 12 #[v] w fun e w' => e = .returned (.bool (fewOps l)) ∧ w = w' := by
  obtain ⟨r, hr⟩ : ∃ r, fewOps l = r := ⟨_, rfl⟩
  rw [hr]
  obtain ⟨A, c, rfl, hc⟩ := h.len
  by_cases hn : 450 < l.length
  · have hrf : r = false := by rw [← hr]; unfold fewOps; simp; omega
    subst hrf
    have hn' : decide ((450 : Int) < (l.length : Int)) = true := by simp; omega
    have hn2 : (450 : Int) < (l.length : Int) := by omega
    clear hr h hwf
    go_enter Try.func12, Try.ntmps12
    go_wp2_with fail
    go_ret
    exact ⟨rfl, rfl⟩
  · obtain ⟨n, hnn⟩ : ∃ n, l.length = n := ⟨_, rfl⟩
    rw [hnn] at h hc hn
    rw [hnn]
    have hn2 : ¬ (450 : Int) < (n : Int) := by omega
    have HV := Go.Lib.hid h; clear h
    have HR := Go.Lib.hid hr; clear hr
    have HN := Go.Lib.hid hnn; clear hnn
    have HWF := Go.Lib.hid hwf; clear hwf
    go_enter Try.func12, Try.ntmps12
    go_wp2_with fail
    go_loop [3, 7, 8, 9, 10, 11, 12, 13, 14, 15, 16, 17, 18, 19, 20, 21, 22, 23, 24, 25, 26, 27, 28] (fun i _ _ _ _ _ _ _ _ _ _ _ _ _ _ _ _ _ _ _ _ _ _ => ∃ k : Nat, k ≤ n ∧ i = .int .i64 (k : Int) ∧ ∀ x ∈ l.take k, x.name.length ≤ 200 ∧ x.manifest.length ≤ 2000) (fun i _ _ _ _ _ _ _ _ _ _ _ _ _ _ _ _ _ _ _ _ _ _ => n - (intOf i).toNat)
    case atStart => exact ⟨0, by omega, rfl, by simp⟩
    case round =>
      obtain ⟨k, hk, rfl, hall⟩ := hrel
      have HALL := Go.Lib.hid hall; clear hall
      by_cases hkn : k < n
      · have hkn' : (k : Int) < (n : Int) := by omega
        obtain ⟨b1, o1, x, rfl, hg1, hx⟩ := HV.out.at k hkn
        have hm := List.mem_of_getElem? hg1
        obtain ⟨hw1, hw2⟩ := HWF.out x hm
        obtain ⟨c0, c1, c2, c3, c4, c5, c6, c7, c8, c9, c10⟩ := op_cells hx
        have hs1 : (BS x.name).size = x.name.length := BS_size _
        have hs2 : (BS x.manifest).size = x.manifest.length := BS_size _
        have HG1 := Go.Lib.hid hg1; clear hg1
        clear hx c0 c1 c2 c3 c4 c5 c6 c7 c8
        have hbad : ¬ (x.name.length ≤ 200 ∧ x.manifest.length ≤ 2000) → r = false := fun hx => by
          rw [← HR.out]
          unfold fewOps
          rw [Bool.and_eq_false_iff]
          right
          rw [List.all_eq_false]
          exact ⟨x, hm, by simpa using hx⟩
        have HBAD := Go.Lib.hid hbad; clear hbad hm
        by_cases h1 : 200 < x.name.length
        · have h1' : (200 : Int) < (x.name.length : Int) := by omega
          go_wp2_with fail
          go_ret
          exact ⟨by rw [HBAD.out (by omega)]; rfl, rfl⟩
        · have h1' : ¬ (200 : Int) < (x.name.length : Int) := by omega
          by_cases h2 : 2000 < x.manifest.length
          · have h2' : (2000 : Int) < (x.manifest.length : Int) := by omega
            go_wp2_with fail
            go_ret
            exact ⟨by rw [HBAD.out (by omega)]; rfl, rfl⟩
          · have h2' : ¬ (2000 : Int) < (x.manifest.length : Int) := by omega
            go_wp2_with fail
            refine ⟨⟨k + 1, by omega, by simp, fun y hy => ?_⟩, by simp [intOf]; omega⟩
            rw [List.take_add_one, HG1.out, List.mem_append] at hy
            rcases hy with hy | hy
            · exact HALL.out y hy
            · simp at hy
              subst hy
              omega
      · obtain rfl : k = n := by omega
        go_wp2_with fail
        go_ret
        refine ⟨?_, rfl⟩
        have hrt : r = true := by
          rw [← HR.out]
          unfold fewOps
          rw [Bool.and_eq_true]
          refine ⟨by simp [HN.out]; omega, ?_⟩
          rw [List.all_eq_true]
          intro y hy
          have := HALL.out y (by rw [List.take_of_length_le (by rw [HN.out]; omega)]; exact hy)
          simpa using this
        rw [hrt]; rfl
end Go.Proofs.Ytmkmahjboocoaaa.W
