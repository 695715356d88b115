/- The reference of filters: Within. -/
import Derived.Test.YtkohcibhefejfaaGlobU
namespace Go.Proofs.Ytkohcibhefejfaa.W
set_option maxRecDepth 20000
set_option linter.unusedVariables false
open Go.RowKit Go.Proofs Arb

set_option maxHeartbeats 2000000 in
theorem rwithin_any (p o : List UInt8) (w : World) (hp : p.length ≤ 100000) (ho : o.length ≤ 100000) :
    Calls Try.prog 24 #[.string (BS p), .string (BS o)] w fun e w' => e = .returned (.bool (withinB p o)) ∧ Below w.heap.size w w' := by
  have hsp : (BS p).size = p.length := BS_size p
  have hso : (BS o).size = o.length := BS_size o
  have q1 := BS_beq o [46]
  have q2 := bs_eq p o
  have hr : withinB p o = (decide (o = [46]) || decide (p = o) || (decide (o.length + 1 < p.length) && decide (p.take o.length = o) && decide (p[o.length]? = some 47))) := rfl
  obtain ⟨r, hr2⟩ : ∃ r, withinB p o = r := ⟨_, rfl⟩
  rw [hr2] at hr
  rw [hr2]
  have hex : (BS p).extract 0 o.length = BS (p.take o.length) := by rw [BS_extract]; simp
  have q4 := bs_eq (p.take o.length) o
  obtain ⟨t, ht⟩ : ∃ t, p.take o.length = t := ⟨_, rfl⟩
  rw [ht] at hex q4 hr
  clear ht hr2
  obtain ⟨d1, hd1⟩ : ∃ d, decide (o = [46]) = d := ⟨_, rfl⟩
  obtain ⟨d2, hd2⟩ : ∃ d, decide (p = o) = d := ⟨_, rfl⟩
  obtain ⟨d4, hd4⟩ : ∃ d, decide (t = o) = d := ⟨_, rfl⟩
  rw [hd1] at q1 hr
  rw [hd2] at q2 hr
  rw [hd4] at q4 hr
  clear hd1 hd2 hd4
  by_cases h3 : o.length + 1 < p.length
  · have h3' : (o.length : Int) + 1 < (p.length : Int) := by omega
    have hlt : o.length < (BS p).size := by omega
    have hlt' : (o.length : Int) < (p.length : Int) := by omega
    have hle' : (o.length : Int) ≤ (p.length : Int) := by omega
    rw [decide_eq_true h3, Bool.true_and, List.getElem?_eq_getElem (show o.length < p.length by omega)] at hr
    obtain ⟨d5, hd5⟩ : ∃ d, decide (some (p[o.length]'(by omega)) = some (47 : UInt8)) = d := ⟨_, rfl⟩
    rw [hd5] at hr
    have q5 : ((((BS p)[o.length]'hlt).toNat : Int) == 47) = d5 := by
      rw [BS_get, ← hd5]
      by_cases h : p[o.length]'(by omega) = 47
      · rw [h]; rfl
      · rw [decide_eq_false (by simpa using h), beq_eq_false_iff_ne]
        intro e
        exact h (UInt8.toNat_inj.1 (by show (p[o.length]'(by omega)).toNat = 47; omega))
    have w1 : IntKind.i64.wrap ((o.length : Int) + 1) = (o.length : Int) + 1 := by rw [IntKind.wrap_i64]; omega
    clear hd5
    subst hr
    cases d1 <;> cases d2 <;> cases d4 <;> cases d5 <;> (
      go_enter Try.func24, Try.ntmps24
      go_wp2_with fail
      go_ret
      exact ⟨rfl, Below.refl _ _⟩)
  · have h3' : ¬ ((o.length : Int) + 1 < (p.length : Int)) := by omega
    have w1 : IntKind.i64.wrap ((o.length : Int) + 1) = (o.length : Int) + 1 := by rw [IntKind.wrap_i64]; omega
    rw [decide_eq_false h3, Bool.false_and, Bool.false_and, Bool.or_false] at hr
    subst hr
    cases d1 <;> cases d2 <;> (
      go_enter Try.func24, Try.ntmps24
      go_wp2_with fail
      go_ret
      exact ⟨rfl, Below.refl _ _⟩)
end Go.Proofs.Ytkohcibhefejfaa.W
