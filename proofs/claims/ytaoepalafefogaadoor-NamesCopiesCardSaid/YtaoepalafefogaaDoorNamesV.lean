/- The walk of the law on the names of copies. -/
import Derived.Test.YtaoepalafefogaaDoorNamesL
namespace Go.Proofs.YtaoepalafefogaaDoor.W
set_option linter.unusedVariables false
open Go.RowKit Go.Proofs Arb

set_option maxHeartbeats 4000000 in
theorem namesCopies_walk (s : List UInt8) (hl : s.length ≤ 140737488351232) (z : Int) (hz : (Lit.int .i64 z).wf = true) (y : Int) (hy : (Lit.int .i64 y).wf = true) (w : World) (hP : PMet w) :
    Calls Tryd.prog 8 #[.string (BS s), .int .i64 z, .int .i64 y] w fun e w' => e = .returned (.bool true) ∧ Below w.heap.size w w' := by
  have HPM := Go.Lib.hid hP; clear hP
  have hz' : -9223372036854775808 ≤ z ∧ z ≤ 9223372036854775807 := by
    simp only [Lit.wf, Bool.and_eq_true, decide_eq_true_eq] at hz
    exact ⟨hz.1, hz.2⟩
  have hy' : -9223372036854775808 ≤ y ∧ y ≤ 9223372036854775807 := by
    simp only [Lit.wf, Bool.and_eq_true, decide_eq_true_eq] at hy
    exact ⟨hy.1, hy.2⟩
  have h1 := fun w (hP : PMet w) => pncopy_any s z w hl hz' hP
  have h2 := fun w (hP : PMet w) => pncopy_any s y w hl hy' hP
  have hr := fun w => pnright_any s w hl
  have qe := BS_beq [] []
  rw [decide_eq_true rfl] at qe
  unfold nmRight at hr
  cases hok : nmOk s with
  | false =>
    have c1 : copyRes s z = ([], 23) := by unfold copyRes; rw [hok]; rfl
    have c2 : copyRes s y = ([], 23) := by unfold copyRes; rw [hok]; rfl
    rw [c1] at h1; rw [c2] at h2; rw [hok] at hr
    have h1' : ∀ w, PMet w → Calls Tryd.prog 14 #[.string (BS s), .int .i64 z] w fun e w' => e = .returned (.tuple #[.string (BS []), .int .i64 23]) ∧ Below w.heap.size w w' := h1
    have h2' : ∀ w, PMet w → Calls Tryd.prog 14 #[.string (BS s), .int .i64 y] w fun e w' => e = .returned (.tuple #[.string (BS []), .int .i64 23]) ∧ Below w.heap.size w w' := h2
    have hr' : ∀ w, Calls Tryd.prog 9 #[.string (BS s)] w fun e w' => e = .returned (.int .i64 23) ∧ Below w.heap.size w w' := hr
    have H1 := Go.Lib.hid h1'; have H2 := Go.Lib.hid h2'; have HR := Go.Lib.hid hr'; clear h1 h2 hr h1' h2' hr' c1 c2 hok
    go_enter Tryd.func8, Tryd.ntmps8
    go_wp2_with fail
    refine (H1.out _ HPM.out).mono ?_; rintro e w1 ⟨rfl, hb1⟩
    have HB := Go.Lib.hid hb1; clear hb1
    go_wp2_with fail
    refine (H2.out _ (HPM.out.below HB.out)).mono ?_; rintro e w2 ⟨rfl, hb2⟩
    have HB := Go.Lib.hid (bstep HB.out hb2); clear hb2
    go_wp2_with fail
    refine (HR.out _).mono ?_; rintro e w3 ⟨rfl, hb3⟩
    have HB := Go.Lib.hid (bstep HB.out hb3); clear hb3
    go_wp2_with fail
    refine (awake_any _ (HPM.out.below HB.out)).mono ?_; rintro e w4 ⟨rfl, hb4⟩
    have HB := Go.Lib.hid (bstep HB.out hb4); clear hb4
    go_wp2_with fail
    go_ret
    exact ⟨rfl, HB.out⟩
  | true =>
    rw [hok] at hr
    have hr' : ∀ w, Calls Tryd.prog 9 #[.string (BS s)] w fun e w' => e = .returned (.int .i64 0) ∧ Below w.heap.size w w' := hr
    have HR := Go.Lib.hid hr'; clear hr hr'
    have d2 : ∃ B f, copyRes s y = (B, f) ∧ ((f = 1 ∧ (y < 1 ∨ 9999 < y)) ∨ (f = 0 ∧ 1 ≤ y ∧ y ≤ 9999 ∧ B = copyOf s y.toNat)) := by
      unfold copyRes
      rw [hok, if_pos rfl]
      by_cases h : y < 1 ∨ 9999 < y
      · rw [if_pos h]; exact ⟨_, _, rfl, .inl ⟨rfl, h⟩⟩
      · rw [if_neg h]; exact ⟨_, _, rfl, .inr ⟨rfl, by omega, by omega, rfl⟩⟩
    obtain ⟨B, f, hB, hcase⟩ := d2
    rw [hB] at h2
    have h2' : ∀ w, PMet w → Calls Tryd.prog 14 #[.string (BS s), .int .i64 y] w fun e w' => e = .returned (.tuple #[.string (BS B), .int .i64 f]) ∧ Below w.heap.size w w' := h2
    have H2 := Go.Lib.hid h2'; clear h2 h2' hB
    by_cases hzr : z < 1 ∨ 9999 < z
    · have c1 : copyRes s z = ([], 1) := by unfold copyRes; rw [hok, if_pos rfl, if_pos hzr]
      rw [c1] at h1
      have h1' : ∀ w, PMet w → Calls Tryd.prog 14 #[.string (BS s), .int .i64 z] w fun e w' => e = .returned (.tuple #[.string (BS []), .int .i64 1]) ∧ Below w.heap.size w w' := h1
      have H1 := Go.Lib.hid h1'; clear h1 h1' c1 hok hcase hzr
      go_enter Tryd.func8, Tryd.ntmps8
      go_wp2_with fail
      refine (H1.out _ HPM.out).mono ?_; rintro e w1 ⟨rfl, hb1⟩
      have HB := Go.Lib.hid hb1; clear hb1
      go_wp2_with fail
      refine (H2.out _ (HPM.out.below HB.out)).mono ?_; rintro e w2 ⟨rfl, hb2⟩
      have HB := Go.Lib.hid (bstep HB.out hb2); clear hb2
      go_wp2_with fail
      refine (HR.out _).mono ?_; rintro e w3 ⟨rfl, hb3⟩
      have HB := Go.Lib.hid (bstep HB.out hb3); clear hb3
      go_wp2_with fail
      refine (awake_any _ (HPM.out.below HB.out)).mono ?_; rintro e w4 ⟨rfl, hb4⟩
      have HB := Go.Lib.hid (bstep HB.out hb4); clear hb4
      go_wp2_with fail
      go_ret
      exact ⟨rfl, HB.out⟩
    · obtain ⟨n, rfl⟩ : ∃ n : Nat, z = (n : Int) := ⟨z.toNat, by omega⟩
      have c1 : copyRes s n = (copyOf s n, 0) := by unfold copyRes; rw [hok, if_pos rfl, if_neg hzr, Int.toNat_natCast]
      rw [c1] at h1
      have h1' : ∀ w, PMet w → Calls Tryd.prog 14 #[.string (BS s), .int .i64 (n : Int)] w fun e w' => e = .returned (.tuple #[.string (BS (copyOf s n)), .int .i64 0]) ∧ Below w.heap.size w w' := h1
      have hcok := copy_ok s n hok (by omega)
      have hcl : (copyOf s n).length ≤ 24 := ((ok_spec _).1 hcok).1.2.1
      have hcr := fun w => pnright_any (copyOf s n) w (by omega)
      unfold nmRight at hcr
      rw [hcok] at hcr
      have hcr' : ∀ w, Calls Tryd.prog 9 #[.string (BS (copyOf s n))] w fun e w' => e = .returned (.int .i64 0) ∧ Below w.heap.size w w' := hcr
      have hx := fun w => pnext_name s w hl
      have hcx := fun w => pnext_name (copyOf s n) w (by omega)
      have hce := copy_ext s n
      have hsz : (BS (ext s)).size = (ext s).length := BS_size _
      have hxl : (ext s).length ≤ 24 := by
        have h24 := ((ok_spec s).1 hok).1.2.1
        rcases ext_cases s with h | ⟨p, _, h, _⟩
        · rw [h]; simp
        · have := congrArg List.length h; rw [List.length_append] at this; simp at this; omega
      have heq : (f = 1) ∨ (f = 0 ∧ ((BS (copyOf s n)).toList == (BS B).toList) = ((n : Int) == y)) := by
        rcases hcase with ⟨h, _⟩ | ⟨h, a, b, hB⟩
        · exact .inl h
        · refine .inr ⟨h, ?_⟩
          rw [BS_toList, hB]
          by_cases e : (n : Int) = y
          · subst e; simp
          · rw [decide_eq_false (fun h => e (by have := copy_inj s _ _ h; omega))]
            exact (beq_eq_false_iff_ne.2 e).symm
      have H1 := Go.Lib.hid h1'; have HCR := Go.Lib.hid hcr'; have HX := Go.Lib.hid hx; have HCX := Go.Lib.hid hcx; have HCE := Go.Lib.hid hce
      clear h1 h1' c1 hok hcase hzr hcr hcr' hx hcx hce hcok
      rcases heq with rfl | ⟨rfl, heq⟩
      all_goals
       rcases (by omega : (1 ≤ (ext s).length ∧ (ext s).length ≤ 7) ∨ (ext s).length < 1 ∨ (1 ≤ (ext s).length ∧ 7 < (ext s).length)) with hq | hq | hq
       · have hce := HCE.out hq
         have HCX := HCX.out
         rw [hce] at HCX
         have HCX := Go.Lib.hid HCX; clear hce HCE
         go_enter Tryd.func8, Tryd.ntmps8
         go_wp2_with fail
         have HB := Go.Lib.hid (Below.refl w.heap.size w)
         refine (H1.out _ HPM.out).mono ?_; rintro e w9 ⟨rfl, hb9⟩
         have HB := Go.Lib.hid (bstep HB.out hb9); clear hb9
         go_wp2_with fail
         refine (H2.out _ (HPM.out.below HB.out)).mono ?_; rintro e w9 ⟨rfl, hb9⟩
         have HB := Go.Lib.hid (bstep HB.out hb9); clear hb9
         go_wp2_with fail
         refine (HX.out _).mono ?_; rintro e w9 ⟨rfl, hb9⟩
         have HB := Go.Lib.hid (bstep HB.out hb9); clear hb9
         go_wp2_with fail
         refine (HCX.out _).mono ?_; rintro e w9 ⟨rfl, hb9⟩
         have HB := Go.Lib.hid (bstep HB.out hb9); clear hb9
         go_wp2_with fail
         refine (HCR.out _).mono ?_; rintro e w9 ⟨rfl, hb9⟩
         have HB := Go.Lib.hid (bstep HB.out hb9); clear hb9
         go_wp2_with fail
         refine (awake_any _ (HPM.out.below HB.out)).mono ?_; rintro e w9 ⟨rfl, hb9⟩
         have HB := Go.Lib.hid (bstep HB.out hb9); clear hb9
         go_wp2_with fail
         go_ret
         exact ⟨rfl, HB.out⟩
       · clear HCE HCX
         go_enter Tryd.func8, Tryd.ntmps8
         go_wp2_with fail
         have HB := Go.Lib.hid (Below.refl w.heap.size w)
         refine (H1.out _ HPM.out).mono ?_; rintro e w9 ⟨rfl, hb9⟩
         have HB := Go.Lib.hid (bstep HB.out hb9); clear hb9
         go_wp2_with fail
         refine (H2.out _ (HPM.out.below HB.out)).mono ?_; rintro e w9 ⟨rfl, hb9⟩
         have HB := Go.Lib.hid (bstep HB.out hb9); clear hb9
         go_wp2_with fail
         refine (HX.out _).mono ?_; rintro e w9 ⟨rfl, hb9⟩
         have HB := Go.Lib.hid (bstep HB.out hb9); clear hb9
         go_wp2_with fail
         refine (HCR.out _).mono ?_; rintro e w9 ⟨rfl, hb9⟩
         have HB := Go.Lib.hid (bstep HB.out hb9); clear hb9
         go_wp2_with fail
         refine (awake_any _ (HPM.out.below HB.out)).mono ?_; rintro e w9 ⟨rfl, hb9⟩
         have HB := Go.Lib.hid (bstep HB.out hb9); clear hb9
         go_wp2_with fail
         go_ret
         exact ⟨rfl, HB.out⟩
       · clear HCE HCX
         go_enter Tryd.func8, Tryd.ntmps8
         go_wp2_with fail
         have HB := Go.Lib.hid (Below.refl w.heap.size w)
         refine (H1.out _ HPM.out).mono ?_; rintro e w9 ⟨rfl, hb9⟩
         have HB := Go.Lib.hid (bstep HB.out hb9); clear hb9
         go_wp2_with fail
         refine (H2.out _ (HPM.out.below HB.out)).mono ?_; rintro e w9 ⟨rfl, hb9⟩
         have HB := Go.Lib.hid (bstep HB.out hb9); clear hb9
         go_wp2_with fail
         refine (HX.out _).mono ?_; rintro e w9 ⟨rfl, hb9⟩
         have HB := Go.Lib.hid (bstep HB.out hb9); clear hb9
         go_wp2_with fail
         refine (HCR.out _).mono ?_; rintro e w9 ⟨rfl, hb9⟩
         have HB := Go.Lib.hid (bstep HB.out hb9); clear hb9
         go_wp2_with fail
         refine (awake_any _ (HPM.out.below HB.out)).mono ?_; rintro e w9 ⟨rfl, hb9⟩
         have HB := Go.Lib.hid (bstep HB.out hb9); clear hb9
         go_wp2_with fail
         go_ret
         exact ⟨rfl, HB.out⟩
end Go.Proofs.YtaoepalafefogaaDoor.W
