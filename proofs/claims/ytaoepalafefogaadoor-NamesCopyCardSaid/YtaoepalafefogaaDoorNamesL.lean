/- The walks of the laws of layer 5. -/
import Derived.Test.YtaoepalafefogaaDoorNamesW
namespace Go.Proofs.YtaoepalafefogaaDoor.W
set_option linter.unusedVariables false
open Go.RowKit Go.Proofs Arb

set_option maxHeartbeats 1000000 in
theorem namesRight_walk (l : List UInt8) (hl : l.length ≤ 140737488351232) (w : World) (hP : PMet w) :
    Calls Tryd.prog 3 #[.string (BS l)] w fun e w' => e = .returned (.bool true) ∧ Below w.heap.size w w' := by
  have HPM := Go.Lib.hid hP; clear hP
  go_enter Tryd.func3, Tryd.ntmps3
  go_wp2_with fail
  refine (pnright_any l _ hl).mono ?_; rintro e w1 ⟨rfl, hb1⟩
  have HB := Go.Lib.hid hb1; clear hb1
  go_wp2_with fail
  refine (rnright_any l _ hl).mono ?_; rintro e w2 ⟨rfl, rfl⟩
  go_wp2_with fail
  refine (awake_any _ (HPM.out.below HB.out)).mono ?_; rintro e w3 ⟨rfl, hb3⟩
  have HB3 := Go.Lib.hid hb3; clear hb3
  go_wp2_with fail
  go_ret
  exact ⟨rfl, bstep HB.out HB3.out⟩

set_option maxHeartbeats 1000000 in
theorem namesExt_walk (l : List UInt8) (hl : l.length ≤ 140737488351232) (w : World) (hP : PMet w) :
    Calls Tryd.prog 4 #[.string (BS l)] w fun e w' => e = .returned (.bool true) ∧ Below w.heap.size w w' := by
  have HPM := Go.Lib.hid hP; clear hP
  have hp := fun w => pnext_name l w hl
  have hr := fun w => rnext_name l w hl
  obtain ⟨x, hx⟩ : ∃ x, BS (ext l) = x := ⟨_, rfl⟩
  rw [hx] at hp hr
  have HP := Go.Lib.hid hp; have HR := Go.Lib.hid hr; clear hp hr hx
  go_enter Tryd.func4, Tryd.ntmps4
  go_wp2_with fail
  refine (HP.out _).mono ?_; rintro e w1 ⟨rfl, hb1⟩
  have HB := Go.Lib.hid hb1; clear hb1
  go_wp2_with fail
  refine (HR.out _).mono ?_; rintro e w2 ⟨rfl, rfl⟩
  go_wp2_with fail
  refine (awake_any _ (HPM.out.below HB.out)).mono ?_; rintro e w3 ⟨rfl, hb3⟩
  have HB3 := Go.Lib.hid hb3; clear hb3
  go_wp2_with fail
  go_ret
  exact ⟨rfl, bstep HB.out HB3.out⟩

set_option maxHeartbeats 1000000 in
theorem namesCopy_walk (s : List UInt8) (hl : s.length ≤ 140737488351232) (z : Int) (hz : (Lit.int .i64 z).wf = true) (w : World) (hP : PMet w) :
    Calls Tryd.prog 5 #[.string (BS s), .int .i64 z] w fun e w' => e = .returned (.bool true) ∧ Below w.heap.size w w' := by
  have hz' : -9223372036854775808 ≤ z ∧ z ≤ 9223372036854775807 := by
    simp only [Lit.wf, Bool.and_eq_true, decide_eq_true_eq] at hz
    exact ⟨hz.1, hz.2⟩
  have HPM := Go.Lib.hid hP; clear hP
  have hp := fun w (hP : PMet w) => pncopy_any s z w hl hz' hP
  have hr := fun w => rncopy_any s z w hl hz'
  obtain ⟨x, hx⟩ : ∃ x, BS (copyRes s z).1 = x := ⟨_, rfl⟩
  obtain ⟨y, hy⟩ : ∃ y, (copyRes s z).2 = y := ⟨_, rfl⟩
  rw [hx, hy] at hp hr
  have HP := Go.Lib.hid hp; have HR := Go.Lib.hid hr; clear hp hr hx hy
  go_enter Tryd.func5, Tryd.ntmps5
  go_wp2_with fail
  refine (HP.out _ HPM.out).mono ?_; rintro e w1 ⟨rfl, hb1⟩
  have HB := Go.Lib.hid hb1; clear hb1
  go_wp2_with fail
  refine (HR.out _).mono ?_; rintro e w2 ⟨rfl, hb2⟩
  have HB2 := Go.Lib.hid hb2; clear hb2
  go_wp2_with fail
  refine (awake_any _ (HPM.out.below (bstep HB.out HB2.out))).mono ?_; rintro e w3 ⟨rfl, hb3⟩
  have HB3 := Go.Lib.hid hb3; clear hb3
  go_wp2_with fail
  go_ret
  exact ⟨rfl, bstep (bstep HB.out HB2.out) HB3.out⟩

set_option maxHeartbeats 2000000 in
theorem namesUnique_walk (A : Option Addr) (n c : Nat) (ss : List (List UInt8)) (w : World) (hP : PMet w) (hs : Sl w 1 A n c (ss.map fun l => [.string (BS l)])) (_ : c * 16 ≤ 140737488351232) (hw : ∀ l ∈ ss, l.length ≤ 140737488351232) (hn : ss.length = n) :
    Calls Tryd.prog 6 #[.slice A n c] w fun e w' => e = .returned (.bool true) ∧ Below w.heap.size w w' := by
  have HPM := Go.Lib.hid hP; clear hP
  have hc : n ≤ c := hs.2.1
  have hv := Strs.of_sl hs
  have hf := fewS_any (.slice A n c) ss w hv (by omega) hw
  have HV := Go.Lib.hid hv; have HW := Go.Lib.hid hw; have HN := Go.Lib.hid hn; clear hv hs hw hn
  cases hfb : fewS ss with
  | false =>
    rw [hfb] at hf
    have HF := Go.Lib.hid hf; clear hf hfb
    go_enter Tryd.func6, Tryd.ntmps6
    go_wp2_with fail
    refine HF.out.mono ?_; rintro e w1 ⟨rfl, hw1⟩; rw [hw1]
    go_wp2_with fail
    refine (awake_any _ HPM.out).mono ?_; rintro e w1 ⟨rfl, hb1⟩
    have HB1 := Go.Lib.hid hb1; clear hb1
    go_wp2_with fail
    go_ret
    exact ⟨rfl, HB1.out⟩
  | true =>
    rw [hfb] at hf
    have h200 : ss.length ≤ 200 := (of_decide_eq_true hfb).1
    have hlen : (uniqRes ss).1.length ≤ 100000 := by
      unfold uniqRes
      rw [if_neg (by omega)]
      split
      · rw [uniq_outAt, (outAt_len ss ss.length (Nat.le_refl _)).1]; omega
      · simp
    have hp := fun w h (hP : PMet w) => pnuniq_any (.slice A n c) ss w h (by omega) HW.out hP
    have hr := fun w h => rnuniq_any (.slice A n c) ss w h (by omega) HW.out
    obtain ⟨x, hx⟩ : ∃ x, (uniqRes ss).1 = x := ⟨_, rfl⟩
    obtain ⟨y, hy⟩ : ∃ y, (uniqRes ss).2 = y := ⟨_, rfl⟩
    rw [hx] at hlen
    rw [hx, hy] at hp hr
    have HF := Go.Lib.hid hf; have HP := Go.Lib.hid hp; have HR := Go.Lib.hid hr; clear hf hfb hp hr hx hy h200
    go_enter Tryd.func6, Tryd.ntmps6
    go_wp2_with fail
    refine HF.out.mono ?_; rintro e w1 ⟨rfl, hw1⟩; rw [hw1]
    go_wp2_with fail
    refine (HP.out _ HV.out HPM.out).mono ?_; rintro e w1 ⟨v1, rfl, hs1, hb1⟩
    have HS1 := Go.Lib.hid hs1; have HB1 := Go.Lib.hid hb1; clear hs1 hb1
    go_wp2_with fail
    refine (HR.out _ (HV.out.below HB1.out)).mono ?_; rintro e w2 ⟨v2, rfl, hs2, hb2⟩
    have HS2 := Go.Lib.hid hs2; have HB2 := Go.Lib.hid hb2; clear hs2 hb2
    go_wp2_with fail
    refine (texts_any v1 v2 x x _ (HS1.out.below HB2.out) HS2.out hlen hlen).mono ?_; rintro e w3 ⟨rfl, m3, rfl⟩
    rw [show decide (x = x) = true from decide_eq_true rfl]
    have HB3 := Go.Lib.hid (below_draws (bstep HB1.out HB2.out) m3)
    go_wp2_with fail
    refine (awake_any _ (HPM.out.below HB3.out)).mono ?_; rintro e w4 ⟨rfl, hb4⟩
    have HB4 := Go.Lib.hid hb4; clear hb4
    go_wp2_with fail
    go_ret
    exact ⟨rfl, bstep HB3.out HB4.out⟩
end Go.Proofs.YtaoepalafefogaaDoor.W
