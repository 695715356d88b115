/- The walk of the law of covering. -/
import Derived.Test.YtgfkiekcdjnaeaaClockX
namespace Go.Proofs.Ytgfkiekcdjnaeaa.W
set_option linter.unusedVariables false
open Go.RowKit Go.Proofs Arb

set_option maxRecDepth 20000 in
set_option maxHeartbeats 2000000 in
theorem clockCovers_walk (A : Option Addr) (n c : Nat) (a : List Int) (w : World) (hsa : Sl w 1 A n c (a.map fun z => [.int .i64 z])) (_ : c * 8 ≤ 140737488351232) (_ : ∀ z ∈ a, (Lit.int .i64 z).wf = true) (_ : a.length = n)
    (A2 : Option Addr) (n2 c2 : Nat) (b : List Int) (hsb : Sl w 1 A2 n2 c2 (b.map fun z => [.int .i64 z])) (_ : c2 * 8 ≤ 140737488351232) (_ : ∀ z ∈ b, (Lit.int .i64 z).wf = true) (_ : b.length = n2) :
    Calls Try.prog 7 #[.slice A n c, .slice A2 n2 c2] w fun e w' => e = .returned (.bool true) ∧ Below w.heap.size w w' := by
  have ha := Ints.of_sl hsa
  have hb := Ints.of_sl hsb
  have hv : Vecs (w.alloc (.cells #[.slice A n c, .slice A2 n2 c2] 36)) (.slice (some ⟨w.heap.size, 0, none⟩) 2 2) [a, b] :=
    Vecs.made (e := 36) [.slice A n c, .slice A2 n2 c2] [a, b] rfl (by
      intro j v l h1 h2
      match j with
      | 0 => simp at h1 h2; subst h1; subst h2; exact ha
      | 1 => simp at h1 h2; subst h1; subst h2; exact hb
      | j + 2 => simp at h1)
  have hB : Below w.heap.size w (w.alloc (.cells #[.slice A n c, .slice A2 n2 c2] 36)) := (Below.refl _ _).alloc (Nat.le_refl _) _
  have hf := few_any _ _ _ hv
  have HA := Go.Lib.hid (ha.below hB); clear ha hsa
  have HB' := Go.Lib.hid (hb.below hB); clear hb hsb
  have HB := Go.Lib.hid hB; clear hB hv
  cases hfb : fewOf [a, b] with
  | false =>
    rw [hfb] at hf
    have HF := Go.Lib.hid hf; clear hf hfb
    go_enter Try.func7, Try.ntmps7
    go_wp2_with fail
    refine HF.out.mono ?_; rintro e w1 ⟨rfl, rfl⟩
    go_wp2_with fail
    refine (awake_any _).mono ?_; rintro e w1 ⟨rfl, hb1⟩
    have HB1 := Go.Lib.hid hb1; clear hb1
    go_wp2_with fail
    go_ret
    exact ⟨rfl, bstep HB.out HB1.out⟩
  | true =>
    rw [hfb] at hf
    obtain ⟨_, h1000⟩ := few_true hfb
    have hla : a.length ≤ 100000 := by have := h1000 a (by simp); omega
    have hlb : b.length ≤ 100000 := by have := h1000 b (by simp); omega
    obtain ⟨r, hr⟩ : ∃ r, coversOf a b = r := ⟨_, rfl⟩
    have hp := fun w h1 h2 => pcovers_any (.slice A n c) (.slice A2 n2 c2) a b w h1 h2 hla hlb
    have hq := fun w h1 h2 => rcovers_any (.slice A n c) (.slice A2 n2 c2) a b w h1 h2 hla hlb
    rw [hr] at hp hq
    have HP := Go.Lib.hid hp; clear hp
    have HQ := Go.Lib.hid hq; clear hq hr h1000
    have HF := Go.Lib.hid hf; clear hf hfb
    go_enter Try.func7, Try.ntmps7
    go_wp2_with fail
    refine HF.out.mono ?_; rintro e w1 ⟨rfl, rfl⟩
    go_wp2_with fail
    refine (HP.out _ HA.out HB'.out).mono ?_; rintro e w1 ⟨rfl, hb1⟩
    have HB1 := Go.Lib.hid hb1; clear hb1
    go_wp2_with fail
    refine (HQ.out _ (HA.out.below HB1.out) (HB'.out.below HB1.out)).mono ?_; rintro e w2 ⟨rfl, rfl⟩
    go_wp2_with fail
    refine (awake_any _).mono ?_; rintro e w3 ⟨rfl, hb3⟩
    have HB3 := Go.Lib.hid hb3; clear hb3
    go_wp2_with fail
    go_ret
    exact ⟨rfl, bstep (bstep HB.out HB1.out) HB3.out⟩
end Go.Proofs.Ytgfkiekcdjnaeaa.W
