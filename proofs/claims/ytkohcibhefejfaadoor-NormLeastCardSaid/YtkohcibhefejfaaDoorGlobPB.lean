/- The program's filters: word, kindOf, rank, Within. -/
import Derived.Test.YtkohcibhefejfaaDoorGlobPA
import Derived.Test.YtkohcibhefejfaaDoorNamesI0
namespace Go.Proofs.YtkohcibhefejfaaDoor.W
set_option maxRecDepth 20000
set_option linter.unusedVariables false
open Go.RowKit Go.Proofs Arb

/-- What a line begins with, without the space. -/
def wordP (k : Int) : List UInt8 := if k = 1 then [119, 105, 116, 104] else if k = 2 then [119, 105, 116, 104, 111, 117, 116] else [116, 121, 112, 101]
theorem wordP_line (k : Int) : wordP k ++ [32] = wordOf k := by
  unfold wordP wordOf
  repeat' split
  all_goals rfl
theorem wordP_len (k : Int) : (wordP k).length ≤ 7 := by
  unfold wordP
  repeat' split
  all_goals decide
set_option maxHeartbeats 1000000 in
theorem pword_any (k : Int) (w : World) : Calls Tryd.prog 23 #[.int .i64 k] w fun e w' => e = .returned (.string (BS (wordP k))) ∧ w' = w := by
  by_cases h1 : k = 1
  · subst h1
    go_enter Tryd.func23, Tryd.ntmps23
    go_wp2_with fail
    go_ret
    exact ⟨rfl, rfl⟩
  · have b1 : (k == 1) = false := by simpa using h1
    by_cases h2 : k = 2
    · subst h2
      go_enter Tryd.func23, Tryd.ntmps23
      go_wp2_with fail
      go_ret
      exact ⟨rfl, rfl⟩
    · have b2 : (k == 2) = false := by simpa using h2
      have hw : wordP k = [116, 121, 112, 101] := by unfold wordP; rw [if_neg h1, if_neg h2]
      rw [hw]
      clear hw h1 h2
      go_enter Tryd.func23, Tryd.ntmps23
      go_wp2_with fail
      go_ret
      exact ⟨rfl, rfl⟩
set_option maxHeartbeats 1000000 in
theorem prank_any (s : List UInt8) (w : World) (hl : s.length ≤ 100000) : Calls Tryd.prog 29 #[.string (BS s)] w fun e w' => e = .returned (.int .i64 (longOf s + 1)) ∧ w' = w := by
  have hsz : (BS s).size = s.length := BS_size s
  have q1 := BS_beq s [46]
  have hr : longOf s + 1 = if decide (s = [46]) = true then 0 else 1 + (s.length : Int) := by
    unfold longOf
    by_cases h : s = [46]
    · rw [if_pos h, if_pos (decide_eq_true h)]; rfl
    · rw [if_neg h, if_neg (by simpa using h)]; omega
  rw [hr]
  obtain ⟨d1, hd1⟩ : ∃ d, decide (s = [46]) = d := ⟨_, rfl⟩
  rw [hd1] at q1 ⊢
  clear hd1 hr
  obtain ⟨n, hn⟩ : ∃ n, s.length = n := ⟨_, rfl⟩
  rw [hn] at hsz hl ⊢
  clear hn
  have w1 : IntKind.i64.wrap (1 + (n : Int)) = 1 + (n : Int) := by rw [IntKind.wrap_i64]; omega
  cases d1 <;> (
    go_enter Tryd.func29, Tryd.ntmps29
    go_wp2_with fail
    go_ret
    exact ⟨rfl, rfl⟩)

theorem within_cut {p o : List UInt8} (h1 : o ≠ [46]) (h2 : p ≠ o) : withinB p o = (o.isPrefixOf p && decide (1 < (p.drop o.length).length) && decide ((p.drop o.length).head? = some 47)) := by
  unfold withinB
  rw [decide_eq_false h1, decide_eq_false h2, Bool.false_or, Bool.false_or, List.head?_drop, List.length_drop]
  have h3 : decide (p.take o.length = o) = o.isPrefixOf p := by
    rw [Bool.eq_iff_iff, decide_eq_true_eq, List.isPrefixOf_iff_prefix, List.prefix_iff_eq_take]
    exact eq_comm
  rw [h3, Bool.and_comm (decide (o.length + 1 < p.length))]
  congr 2
  rw [decide_eq_decide]
  omega
set_option maxHeartbeats 2000000 in
theorem gwithin_any (p o : List UInt8) (w : World) (hp : p.length ≤ 100000) (ho : o.length ≤ 100000) :
    Calls Tryd.prog 28 #[.string (BS p), .string (BS o)] w fun e w' => e = .returned (.bool (withinB p o)) ∧ Below w.heap.size w w' := by
  have q1 := BS_beq o [46]
  have q2 := bs_eq p o
  have hc := fun W => pprefix_any p o W
  by_cases h1 : o = [46]
  · have hr : withinB p o = true := by rw [h1]; exact within_dot p
    rw [hr]
    rw [decide_eq_true h1] at q1
    clear hr h1 q2 hc
    go_enter Tryd.func28, Tryd.ntmps28
    go_wp2_with fail
    go_ret
    exact ⟨rfl, Below.refl _ _⟩
  by_cases h2 : p = o
  · have hr : withinB p o = true := by rw [h2]; exact within_refl o
    rw [hr]
    rw [decide_eq_false h1] at q1
    rw [decide_eq_true h2] at q2
    clear hr h1 h2 hc
    go_enter Tryd.func28, Tryd.ntmps28
    go_wp2_with fail
    go_ret
    exact ⟨rfl, Below.refl _ _⟩
  have hr := within_cut h1 h2
  obtain ⟨r, hr0⟩ : ∃ r, withinB p o = r := ⟨_, rfl⟩
  rw [hr0] at hr ⊢
  rw [decide_eq_false h1] at q1
  rw [decide_eq_false h2] at q2
  clear hr0 h1 h2
  cases hpre : o.isPrefixOf p with
  | false =>
    rw [hpre] at hr hc
    rw [Bool.false_and, Bool.false_and] at hr
    subst hr
    rw [if_neg (by simp)] at hc
    have HC := Go.Lib.hid hc
    clear hc hpre
    go_enter Tryd.func28, Tryd.ntmps28
    go_wp2_with fail
    refine (HC.out _).mono ?_; rintro e wc ⟨rfl, hwc⟩
    rw [hwc]
    clear hwc wc
    go_wp2_with fail
    go_ret
    exact ⟨rfl, Below.refl _ _⟩
  | true =>
    rw [hpre] at hr hc
    rw [Bool.true_and] at hr
    rw [if_pos rfl] at hc
    have hbl : (p.drop o.length).length ≤ 100000 := by rw [List.length_drop]; omega
    obtain ⟨b, hb⟩ : ∃ b, p.drop o.length = b := ⟨_, rfl⟩
    rw [hb] at hr hc hbl
    have hsz : (BS b).size = b.length := BS_size b
    have HC := Go.Lib.hid hc
    clear hc hpre hb
    by_cases h3 : 1 < b.length
    · have h3' : (1 : Int) < (b.length : Int) := by omega
      have hlt : 0 < (BS b).size := by omega
      rw [decide_eq_true h3, Bool.true_and, List.head?_eq_getElem?, List.getElem?_eq_getElem (show 0 < b.length by omega)] at hr
      obtain ⟨d5, hd5⟩ : ∃ d, decide (some (b[0]'(by omega)) = some (47 : UInt8)) = d := ⟨_, rfl⟩
      rw [hd5] at hr
      have q5 : ((((BS b)[0]'hlt).toNat : Int) == 47) = d5 := by
        rw [BS_get, ← hd5]
        by_cases h : b[0]'(by omega) = 47
        · rw [h]; rfl
        · rw [decide_eq_false (by simpa using h), beq_eq_false_iff_ne]
          intro e
          exact h (UInt8.toNat_inj.1 (by show (b[0]'(by omega)).toNat = 47; omega))
      subst hr
      clear hd5
      cases r <;> (
        go_enter Tryd.func28, Tryd.ntmps28
        go_wp2_with fail
        refine (HC.out _).mono ?_; rintro e wc ⟨rfl, hwc⟩
        rw [hwc]
        clear hwc wc
        go_wp2_with fail
        go_ret
        exact ⟨rfl, Below.refl _ _⟩)
    · have h3' : decide ((1 : Int) < (b.length : Int)) = false := decide_eq_false (by omega)
      rw [decide_eq_false h3, Bool.false_and] at hr
      subst hr
      go_enter Tryd.func28, Tryd.ntmps28
      go_wp2_with fail
      refine (HC.out _).mono ?_; rintro e wc ⟨rfl, hwc⟩
      rw [hwc]
      clear hwc wc
      go_wp2_with fail
      go_ret
      exact ⟨rfl, Below.refl _ _⟩
end Go.Proofs.YtkohcibhefejfaaDoor.W
