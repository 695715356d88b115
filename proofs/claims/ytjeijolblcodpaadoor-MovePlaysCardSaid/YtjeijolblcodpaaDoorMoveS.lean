/- Layer 8's law: few. -/
import Derived.Test.YtjeijolblcodpaaDoorMg1
namespace Go.Proofs.YtjeijolblcodpaaDoor.W
set_option maxRecDepth 20000
set_option linter.unusedVariables false
open Go.RowKit Go.Proofs Arb

def few8 (l : List Opn) : Bool := decide (l.length ≤ 120) && l.all fun x => decide (x.name.length ≤ 200 ∧ x.manifest.length ≤ 1000)
theorem few8_true {l : List Opn} (h : few8 l = true) : l.length ≤ 120 ∧ ∀ x ∈ l, x.name.length ≤ 200 ∧ x.manifest.length ≤ 1000 := by
  unfold few8 at h
  simpa using h

set_option maxHeartbeats 4000000 in
theorem few8_any (v : Value) (l : List Opn) (w : World) (h : Opns w v l) (hwf : ∀ x ∈ l, x.name.length ≤ 140737488351232 ∧ x.manifest.length ≤ 140737488351232) :
    Calls Tryd.prog 10 #[v] w fun e w' => e = .returned (.bool (few8 l)) ∧ w = w' := by
  obtain ⟨r, hr⟩ : ∃ r, few8 l = r := ⟨_, rfl⟩
  rw [hr]
  obtain ⟨A, c, rfl, hc⟩ := h.len
  by_cases hn : 120 < l.length
  · have hrf : r = false := by rw [← hr]; unfold few8; simp; omega
    subst hrf
    have hn' : decide ((120 : Int) < (l.length : Int)) = true := by simp; omega
    have hn2 : (120 : Int) < (l.length : Int) := by omega
    clear hr h hwf
    go_enter Tryd.func10, Tryd.ntmps10
    go_wp2_with fail
    go_ret
    exact ⟨rfl, rfl⟩
  · obtain ⟨n, hnn⟩ : ∃ n, l.length = n := ⟨_, rfl⟩
    rw [hnn] at h hc hn
    rw [hnn]
    have hn2 : ¬ (120 : Int) < (n : Int) := by omega
    have HV := Go.Lib.hid h; clear h
    have HR := Go.Lib.hid hr; clear hr
    have HN := Go.Lib.hid hnn; clear hnn
    have HWF := Go.Lib.hid hwf; clear hwf
    go_enter Tryd.func10, Tryd.ntmps10
    go_wp2_with fail
    go_loop [3, 7, 8, 9, 10, 11, 12, 13, 14, 15, 16, 17, 18, 19, 20, 21, 22, 23, 24, 25, 26, 27, 28] (fun i _ _ _ _ _ _ _ _ _ _ _ _ _ _ _ _ _ _ _ _ _ _ => ∃ k : Nat, k ≤ n ∧ i = .int .i64 (k : Int) ∧ ∀ x ∈ l.take k, x.name.length ≤ 200 ∧ x.manifest.length ≤ 1000) (fun i _ _ _ _ _ _ _ _ _ _ _ _ _ _ _ _ _ _ _ _ _ _ => n - (intOf i).toNat)
    case atStart => exact ⟨0, by omega, rfl, by simp⟩
    case round =>
      obtain ⟨k, hk, rfl, hall⟩ := hrel
      have HALL := Go.Lib.hid hall; clear hall
      by_cases hkn : k < n
      · have hkn' : (k : Int) < (n : Int) := by omega
        obtain ⟨b1, o1, x, rfl, hg1, hx⟩ := HV.out.at k hkn
        have hm := List.mem_of_getElem? hg1
        obtain ⟨hw1, hw2⟩ := HWF.out x hm
        obtain ⟨c0, c1, c2, c3, c4, c5, c6, c7, c8, c9, c10⟩ := op_cells hx
        have hs1 : (BS x.name).size = x.name.length := BS_size _
        have hs2 : (BS x.manifest).size = x.manifest.length := BS_size _
        have HG1 := Go.Lib.hid hg1; clear hg1
        clear hx c0 c1 c2 c3 c4 c5 c6 c7 c8
        have hbad : ¬ (x.name.length ≤ 200 ∧ x.manifest.length ≤ 1000) → r = false := fun hx => by
          rw [← HR.out]
          unfold few8
          rw [Bool.and_eq_false_iff]
          right
          rw [List.all_eq_false]
          exact ⟨x, hm, by simpa using hx⟩
        have HBAD := Go.Lib.hid hbad; clear hbad hm
        by_cases h1 : 200 < x.name.length
        · have h1' : (200 : Int) < (x.name.length : Int) := by omega
          go_wp2_with fail
          go_ret
          exact ⟨by rw [HBAD.out (by omega)]; rfl, rfl⟩
        · have h1' : ¬ (200 : Int) < (x.name.length : Int) := by omega
          by_cases h2 : 1000 < x.manifest.length
          · have h2' : (1000 : Int) < (x.manifest.length : Int) := by omega
            go_wp2_with fail
            go_ret
            exact ⟨by rw [HBAD.out (by omega)]; rfl, rfl⟩
          · have h2' : ¬ (1000 : Int) < (x.manifest.length : Int) := by omega
            go_wp2_with fail
            refine ⟨⟨k + 1, by omega, by simp, fun y hy => ?_⟩, by simp [intOf]; omega⟩
            rw [List.take_add_one, HG1.out, List.mem_append] at hy
            rcases hy with hy | hy
            · exact HALL.out y hy
            · simp at hy
              subst hy
              omega
      · obtain rfl : k = n := by omega
        go_wp2_with fail
        go_ret
        refine ⟨?_, rfl⟩
        have hrt : r = true := by
          rw [← HR.out]
          unfold few8
          rw [Bool.and_eq_true]
          refine ⟨by simp [HN.out]; omega, ?_⟩
          rw [List.all_eq_true]
          intro y hy
          have := HALL.out y (by rw [List.take_of_length_le (by rw [HN.out]; omega)]; exact hy)
          simpa using this
        rw [hrt]; rfl
end Go.Proofs.YtjeijolblcodpaaDoor.W
