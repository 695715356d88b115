/- The program's filters: validType, valid. -/
import Derived.Test.YtkohcibhefejfaaDoorGlobPC
import Derived.Test.YtkohcibhefejfaaDoorNamesI
namespace Go.Proofs.YtkohcibhefejfaaDoor.W
set_option maxRecDepth 20000
set_option linter.unusedVariables false
open Go.RowKit Go.Proofs Arb

set_option maxHeartbeats 4000000 in
theorem ptype_any (t : List UInt8) (w : World) (hl : t.length ≤ 100000) :
    Calls Tryd.prog 37 #[.string (BS t)] w fun e w' => e = .returned (.bool (typeOk t)) ∧ Below w.heap.size w w' := by
  have hsz : (BS t).size = t.length := BS_size t
  have hcat : ({ data := #[120, 46] } : ByteArray) ++ BS t = BS (120 :: 46 :: t) := ByteArray.mk_append_mk _ _
  have hr : typeOk t = (decide (1 ≤ t.length ∧ t.length ≤ 7) && nmOk (120 :: 46 :: t) && decide (ext (120 :: 46 :: t) = t)) := rfl
  have hrn := fun W => pright_same (120 :: 46 :: t) W (by simp; omega)
  have hre := fun W => pnext_name (120 :: 46 :: t) W (by simp; omega)
  have hq3 := right_zero (120 :: 46 :: t)
  have hq4 := bs_eq (ext (120 :: 46 :: t)) t
  obtain ⟨r, hr0⟩ : ∃ r, typeOk t = r := ⟨_, rfl⟩
  rw [hr0] at hr ⊢
  obtain ⟨nm, hnm⟩ : ∃ m, (120 :: 46 :: t : List UInt8) = m := ⟨_, rfl⟩
  rw [hnm] at hcat hrn hre hq3 hq4 hr
  obtain ⟨ex, hex⟩ : ∃ m, ext nm = m := ⟨_, rfl⟩
  rw [hex] at hre hq4 hr
  obtain ⟨z, hz⟩ : ∃ z, nmRight nm = z := ⟨_, rfl⟩
  rw [hz] at hrn hq3
  obtain ⟨d3, hd3⟩ : ∃ d, nmOk nm = d := ⟨_, rfl⟩
  rw [hd3] at hq3 hr
  obtain ⟨d4, hd4⟩ : ∃ d, decide (ex = t) = d := ⟨_, rfl⟩
  rw [hd4] at hq4 hr
  have hbig : ¬ 9223372036854775807 < 2 + t.length := by omega
  have HRN := Go.Lib.hid hrn; have HRE := Go.Lib.hid hre
  clear hrn hre hd3 hd4 hz hex hnm hr0
  by_cases a1 : t.length < 1
  · have a1' : (t.length : Int) < 1 := by omega
    rw [decide_eq_false (by omega : ¬ (1 ≤ t.length ∧ t.length ≤ 7)), Bool.false_and, Bool.false_and] at hr
    subst hr
    go_enter Tryd.func37, Tryd.ntmps37
    go_wp2_with fail
    go_ret
    exact ⟨rfl, Below.refl _ _⟩
  have a1' : decide ((t.length : Int) < 1) = false := decide_eq_false (by omega)
  by_cases a2 : 7 < t.length
  · have a2' : (7 : Int) < (t.length : Int) := by omega
    rw [decide_eq_false (by omega : ¬ (1 ≤ t.length ∧ t.length ≤ 7)), Bool.false_and, Bool.false_and] at hr
    subst hr
    go_enter Tryd.func37, Tryd.ntmps37
    go_wp2_with fail
    go_ret
    exact ⟨rfl, Below.refl _ _⟩
  have a2' : decide ((7 : Int) < (t.length : Int)) = false := decide_eq_false (by omega)
  rw [decide_eq_true (by omega : 1 ≤ t.length ∧ t.length ≤ 7), Bool.true_and] at hr
  subst hr
  cases d3
  · go_enter Tryd.func37, Tryd.ntmps37
    go_wp2_with fail
    refine (HRN.out _).mono ?_; rintro e wc ⟨rfl, hwc⟩
    rw [hwc]
    clear hwc wc
    go_wp2_with fail
    go_ret
    exact ⟨rfl, Below.refl _ _⟩
  · go_enter Tryd.func37, Tryd.ntmps37
    go_wp2_with fail
    refine (HRN.out _).mono ?_; rintro e wc ⟨rfl, hwc⟩
    rw [hwc]
    clear hwc wc
    go_wp2_with fail
    refine (HRE.out _).mono ?_; rintro e w2 ⟨rfl, hb2⟩
    have HB2 := Go.Lib.hid hb2; clear hb2
    go_wp2_with fail
    go_ret
    exact ⟨rfl, HB2.out⟩

set_option maxHeartbeats 4000000 in
theorem pvalid_any (x : Rul) (w : World) (hx : x.text.length ≤ 100000) :
    Calls Tryd.prog 22 #[.agg #[.int .i64 x.kind, .string (BS x.text)]] w fun e w' => e = .returned (.bool (ruleOk x)) ∧ Below w.heap.size w w' := by
  obtain ⟨k, t⟩ := x
  simp only at hx ⊢
  have hb0 : Below w.heap.size w (w.alloc (.cells #[.int .i64 k, .string (BS t)] 29)) := (Below.refl _ _).alloc (Nat.le_refl _) _
  obtain ⟨c0, c1⟩ := rl_cells0 (RulAt.new w ⟨k, t⟩ 29)
  unfold rlArr rlCells at c0 c1
  simp only [] at c0 c1
  obtain ⟨W1, hW1⟩ : ∃ W, w.alloc (.cells #[.int .i64 k, .string (BS t)] 29) = W := ⟨_, rfl⟩
  rw [show ([Value.int .i64 k, .string (BS t)].toArray) = #[.int .i64 k, .string (BS t)] from rfl, hW1] at c0 c1
  rw [hW1] at hb0
  have HB0 := Go.Lib.hid hb0; have HW1 := Go.Lib.hid hW1
  clear hb0 hW1
  by_cases h12 : k = 1 ∨ k = 2
  · have hr : ruleOk ⟨k, t⟩ = (decide (t = [46]) || pathOk t) := by unfold ruleOk; rw [if_pos h12]
    have q1 := BS_beq t [46]
    have hp := fun W => gpath_any t W hx
    obtain ⟨r, hr0⟩ : ∃ r, ruleOk ⟨k, t⟩ = r := ⟨_, rfl⟩
    rw [hr0] at hr
    rw [hr0]
    obtain ⟨d1, hd1⟩ : ∃ d, decide (t = [46]) = d := ⟨_, rfl⟩
    obtain ⟨d2, hd2⟩ : ∃ d, pathOk t = d := ⟨_, rfl⟩
    rw [hd1] at hr q1
    rw [hd2] at hr hp
    have HP := Go.Lib.hid hp
    clear hp hr0 hd1 hd2
    subst hr
    rcases h12 with rfl | rfl
    all_goals (
      cases d1
      · go_enter Tryd.func22, Tryd.ntmps22
        go_wp2_with fail
        first | rw [HW1.out] | skip
        go_wp2_with fail
        refine (HP.out _).mono ?_; rintro e w2 ⟨rfl, hb2⟩
        have HB2 := Go.Lib.hid (bstep HB0.out hb2); clear hb2
        go_wp2_with fail
        go_ret
        exact ⟨rfl, HB2.out⟩
      · go_enter Tryd.func22, Tryd.ntmps22
        go_wp2_with fail
        first | rw [HW1.out] | skip
        go_wp2_with fail
        go_ret
        exact ⟨rfl, HB0.out⟩)
  · have n1 : ¬ k = 1 := fun h => h12 (.inl h)
    have n2 : ¬ k = 2 := fun h => h12 (.inr h)
    have b1 : (k == 1) = false := by simpa using n1
    have b2 : (k == 2) = false := by simpa using n2
    by_cases h3 : k = 3
    · have hr : ruleOk ⟨k, t⟩ = typeOk t := by unfold ruleOk; rw [if_neg h12, if_pos h3]
      have hp := fun W => ptype_any t W hx
      rw [hr]
      obtain ⟨r, hr0⟩ : ∃ r, typeOk t = r := ⟨_, rfl⟩
      rw [hr0] at hp ⊢
      have HP := Go.Lib.hid hp
      clear hp hr hr0 n1 n2 h12
      subst h3
      go_enter Tryd.func22, Tryd.ntmps22
      go_wp2_with fail
      first | rw [HW1.out] | skip
      go_wp2_with fail
      refine (HP.out _).mono ?_; rintro e w2 ⟨rfl, hb2⟩
      have HB2 := Go.Lib.hid (bstep HB0.out hb2); clear hb2
      go_wp2_with fail
      go_ret
      exact ⟨rfl, HB2.out⟩
    · have b3 : (k == 3) = false := by simpa using h3
      have hr : ruleOk ⟨k, t⟩ = false := by unfold ruleOk; rw [if_neg h12, if_neg h3]
      rw [hr]
      clear hr n1 n2 h12 h3
      go_enter Tryd.func22, Tryd.ntmps22
      go_wp2_with fail
      first | rw [HW1.out] | skip
      go_wp2_with fail
      go_ret
      exact ⟨rfl, HB0.out⟩
end Go.Proofs.YtkohcibhefejfaaDoor.W
