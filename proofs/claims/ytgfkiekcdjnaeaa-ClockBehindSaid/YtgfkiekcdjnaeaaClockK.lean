/- The walks of the laws of the greater and the lesser numbers, and of a device's next stamp. -/
import Derived.Test.YtgfkiekcdjnaeaaClockF
import Derived.Test.YtgfkiekcdjnaeaaClockL
namespace Go.Proofs.Ytgfkiekcdjnaeaa.W
set_option linter.unusedVariables false
open Go.RowKit Go.Proofs Arb

theorem trim_length (l : List Int) : (trim l).length ≤ l.length := by
  obtain ⟨n, hn, ht, _⟩ := trim_prefix l
  rw [ht, List.length_take]; omega
theorem joinOf_length (ls : List (List Int)) (h : ∀ l ∈ ls, l.length ≤ 1000) : (joinOf ls).length ≤ 1000000 := by
  have h1 := trim_length ((List.range (longestOf ls)).map (vJoin ls))
  have h2 := longest_le ls fun l hl => by have := h l hl; omega
  unfold joinOf
  rw [List.length_map, List.length_range] at h1
  omega
theorem meetOf_length (ls : List (List Int)) (h : ∀ l ∈ ls, l.length ≤ 1000) : (meetOf ls).length ≤ 1000000 := by
  have h1 := trim_length ((List.range (longestOf ls)).map (vMeet ls))
  have h2 := longest_le ls fun l hl => by have := h l hl; omega
  unfold meetOf
  rw [List.length_map, List.length_range] at h1
  omega

set_option maxHeartbeats 2000000 in
theorem clockJoins_walk (A : Option Addr) (n c : Nat) (ls : List (List Int)) (w : World) (hv : Vecs w (.slice A n c) ls) (_ : c * 24 ≤ 140737488351232) (_ : ∀ l ∈ ls, ∀ z ∈ l, (Lit.int .i64 z).wf = true) (_ : ls.length = n) :
    Calls Try.prog 5 #[.slice A n c] w fun e w' => e = .returned (.bool true) ∧ Below w.heap.size w w' := by
  have hf := few_any (.slice A n c) ls w hv
  have HV := Go.Lib.hid hv; clear hv
  cases hfb : fewOf ls with
  | false =>
    rw [hfb] at hf
    have HF := Go.Lib.hid hf; clear hf hfb
    go_enter Try.func5, Try.ntmps5
    go_wp2_with fail
    refine HF.out.mono ?_; rintro e w1 ⟨rfl, rfl⟩
    go_wp2_with fail
    refine (awake_any _).mono ?_; rintro e w1 ⟨rfl, hb1⟩
    have HB1 := Go.Lib.hid hb1; clear hb1
    go_wp2_with fail
    go_ret
    exact ⟨rfl, HB1.out⟩
  | true =>
    rw [hfb] at hf
    obtain ⟨h50, h1000⟩ := few_true hfb
    have hlen := joinOf_length ls h1000
    have HL := Go.Lib.hid h1000; clear h1000
    have HF := Go.Lib.hid hf; clear hf hfb
    obtain ⟨j, hj⟩ : ∃ j, joinOf ls = j := ⟨_, rfl⟩
    rw [hj] at hlen
    have HJ := Go.Lib.hid hj; clear hj
    go_enter Try.func5, Try.ntmps5
    go_wp2_with fail
    refine HF.out.mono ?_; rintro e w1 ⟨rfl, rfl⟩
    go_wp2_with fail
    refine (pjoin_any _ ls _ HV.out (by omega) (fun l hl => by have := HL.out l hl; omega)).mono ?_; rintro e w1 ⟨v1, rfl, hi1, hb1⟩
    rw [HJ.out] at hi1
    have HI1 := Go.Lib.hid hi1; clear hi1
    have HB1 := Go.Lib.hid hb1; clear hb1
    go_wp2_with fail
    refine (rjoin_any _ ls _ (HV.out.below HB1.out) (by omega) (fun l hl => by have := HL.out l hl; omega)).mono ?_; rintro e w2 ⟨v2, rfl, hi2, hb2⟩
    rw [HJ.out] at hi2
    have HI2 := Go.Lib.hid hi2; clear hi2
    have HB2 := Go.Lib.hid hb2; clear hb2
    go_wp2_with fail
    refine (rsame_any v1 v2 j j _ (HI1.out.below HB2.out) HI2.out hlen hlen).mono ?_; rintro e w3 ⟨rfl, m, rfl⟩
    rw [show decide (j = j) = true by simp]
    go_wp2_with fail
    refine (awake_any _).mono ?_; rintro e w4 ⟨rfl, hb4⟩
    have HB4 := Go.Lib.hid hb4; clear hb4
    go_wp2_with fail
    go_ret
    exact ⟨rfl, bstep (below_drewN (bstep HB1.out HB2.out) m) HB4.out⟩

set_option maxHeartbeats 2000000 in
theorem clockMeets_walk (A : Option Addr) (n c : Nat) (ls : List (List Int)) (w : World) (hv : Vecs w (.slice A n c) ls) (_ : c * 24 ≤ 140737488351232) (_ : ∀ l ∈ ls, ∀ z ∈ l, (Lit.int .i64 z).wf = true) (_ : ls.length = n) :
    Calls Try.prog 6 #[.slice A n c] w fun e w' => e = .returned (.bool true) ∧ Below w.heap.size w w' := by
  have hf := few_any (.slice A n c) ls w hv
  have HV := Go.Lib.hid hv; clear hv
  cases hfb : fewOf ls with
  | false =>
    rw [hfb] at hf
    have HF := Go.Lib.hid hf; clear hf hfb
    go_enter Try.func6, Try.ntmps6
    go_wp2_with fail
    refine HF.out.mono ?_; rintro e w1 ⟨rfl, rfl⟩
    go_wp2_with fail
    refine (awake_any _).mono ?_; rintro e w1 ⟨rfl, hb1⟩
    have HB1 := Go.Lib.hid hb1; clear hb1
    go_wp2_with fail
    go_ret
    exact ⟨rfl, HB1.out⟩
  | true =>
    rw [hfb] at hf
    obtain ⟨h50, h1000⟩ := few_true hfb
    have hlen := meetOf_length ls h1000
    have HL := Go.Lib.hid h1000; clear h1000
    have HF := Go.Lib.hid hf; clear hf hfb
    obtain ⟨j, hj⟩ : ∃ j, meetOf ls = j := ⟨_, rfl⟩
    rw [hj] at hlen
    have HJ := Go.Lib.hid hj; clear hj
    go_enter Try.func6, Try.ntmps6
    go_wp2_with fail
    refine HF.out.mono ?_; rintro e w1 ⟨rfl, rfl⟩
    go_wp2_with fail
    refine (pmeet_any _ ls _ HV.out (by omega) (fun l hl => by have := HL.out l hl; omega)).mono ?_; rintro e w1 ⟨v1, rfl, hi1, hb1⟩
    rw [HJ.out] at hi1
    have HI1 := Go.Lib.hid hi1; clear hi1
    have HB1 := Go.Lib.hid hb1; clear hb1
    go_wp2_with fail
    refine (rmeet_any _ ls _ (HV.out.below HB1.out) (by omega) (fun l hl => by have := HL.out l hl; omega)).mono ?_; rintro e w2 ⟨v2, rfl, hi2, hb2⟩
    rw [HJ.out] at hi2
    have HI2 := Go.Lib.hid hi2; clear hi2
    have HB2 := Go.Lib.hid hb2; clear hb2
    go_wp2_with fail
    refine (rsame_any v1 v2 j j _ (HI1.out.below HB2.out) HI2.out hlen hlen).mono ?_; rintro e w3 ⟨rfl, m, rfl⟩
    rw [show decide (j = j) = true by simp]
    go_wp2_with fail
    refine (awake_any _).mono ?_; rintro e w4 ⟨rfl, hb4⟩
    have HB4 := Go.Lib.hid hb4; clear hb4
    go_wp2_with fail
    go_ret
    exact ⟨rfl, bstep (below_drewN (bstep HB1.out HB2.out) m) HB4.out⟩

end Go.Proofs.Ytgfkiekcdjnaeaa.W
