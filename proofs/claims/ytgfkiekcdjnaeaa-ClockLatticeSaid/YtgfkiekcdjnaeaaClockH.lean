/- The walk of the law on the greater and the lesser numbers of vectors. -/
import Derived.Test.YtgfkiekcdjnaeaaClockG
import Derived.Deep.Cut
import Derived.Deep.CutRange
namespace Go.Proofs.Ytgfkiekcdjnaeaa.W
set_option linter.unusedVariables false
open Go.RowKit Go.Proofs Arb

set_option maxRecDepth 20000 in
set_option maxHeartbeats 8000000 in
theorem clockLattice_walk (A : Option Addr) (n c : Nat) (a : List Int) (w : World) (hsa : Sl w 1 A n c (a.map fun z => [.int .i64 z])) (_ : c * 8 ≤ 140737488351232) (_ : ∀ z ∈ a, (Lit.int .i64 z).wf = true) (_ : a.length = n)
    (A2 : Option Addr) (n2 c2 : Nat) (b : List Int) (hsb : Sl w 1 A2 n2 c2 (b.map fun z => [.int .i64 z])) (_ : c2 * 8 ≤ 140737488351232) (_ : ∀ z ∈ b, (Lit.int .i64 z).wf = true) (_ : b.length = n2)
    (A3 : Option Addr) (n3 c3 : Nat) (d : List Int) (hsd : Sl w 1 A3 n3 c3 (d.map fun z => [.int .i64 z])) (_ : c3 * 8 ≤ 140737488351232) (_ : ∀ z ∈ d, (Lit.int .i64 z).wf = true) (_ : d.length = n3) :
    Calls Try.prog 10 #[.slice A n c, .slice A2 n2 c2, .slice A3 n3 c3] w fun e w' => e = .returned (.bool true) ∧ Below w.heap.size w w' := by
  have ha := Ints.of_sl hsa
  have hb := Ints.of_sl hsb
  have hd := Ints.of_sl hsd
  have hv := vecs3 (e := 36) ha hb hd
  have hB : Below w.heap.size w (w.alloc (.cells #[.slice A n c, .slice A2 n2 c2, .slice A3 n3 c3] 36)) := (Below.refl _ _).alloc (Nat.le_refl _) _
  have hf := few_any _ _ _ hv
  have ha := ha.below hB; have hb := hb.below hB; have hd := hd.below hB
  obtain ⟨W1, hW1⟩ : ∃ W1, w.alloc (.cells #[.slice A n c, .slice A2 n2 c2, .slice A3 n3 c3] 36) = W1 := ⟨_, rfl⟩
  rw [hW1] at ha hb hd hB hf
  have HA := Go.Lib.hid ha; have HB2 := Go.Lib.hid hb; have HD := Go.Lib.hid hd; have HB := Go.Lib.hid hB; have HW1 := Go.Lib.hid hW1
  clear ha hb hd hB hsa hsb hsd hv hW1
  cases hfb : fewOf [a, b, d] with
  | false =>
    rw [hfb] at hf
    have HF := Go.Lib.hid hf; clear hf hfb
    go_enter Try.func10, Try.ntmps10
    go_wp2_with fail
    rw [HW1.out]
    refine HF.out.mono ?_; rintro e w1 ⟨rfl, rfl⟩
    go_wp2_with fail
    refine (awake_any _).mono ?_; rintro e w1 ⟨rfl, hb1⟩
    have HB1 := Go.Lib.hid hb1; clear hb1
    go_wp2_with fail
    go_ret
    exact ⟨rfl, bstep HB.out HB1.out⟩
  | true =>
    rw [hfb] at hf
    obtain ⟨_, h1000⟩ := few_true hfb
    have hla : a.length ≤ 1000 := h1000 a (by simp)
    have hlb : b.length ≤ 1000 := h1000 b (by simp)
    have hld : d.length ≤ 1000 := h1000 d (by simp)
    have hcj := covers_join a b; have hcm := covers_meet a b
    have hle := covers_least a b d; have hgr := covers_greatest a b d
    have hj := join2_length a b hla hlb; have hm := meet2_length a b hla hlb
    have hjc := join_comm a b; have hmc := meet_comm a b
    obtain ⟨J, hJ⟩ : ∃ J, joinOf [a, b] = J := ⟨_, rfl⟩
    obtain ⟨M, hM⟩ : ∃ M, meetOf [a, b] = M := ⟨_, rfl⟩
    have hab2 : ∀ l ∈ [a, b], l.length ≤ 100000 := by simp; omega
    have hba2 : ∀ l ∈ [b, a], l.length ≤ 100000 := by simp; omega
    have P1 := Go.Lib.hid (fun v w h => pjoin_any v [a, b] w h (by simp) hab2)
    have P2 := Go.Lib.hid (fun v w h => pmeet_any v [a, b] w h (by simp) hab2)
    have P3 := Go.Lib.hid (fun v w h => pjoin_any v [b, a] w h (by simp) hba2)
    have P4 := Go.Lib.hid (fun v w h => pmeet_any v [b, a] w h (by simp) hba2)
    rw [hjc] at P3; rw [hmc] at P4
    rw [hJ] at hcj hle hj P1 P3; rw [hM] at hcm hgr hm P2 P4
    obtain ⟨p, hp⟩ : ∃ p, coversOf d a = p := ⟨_, rfl⟩
    obtain ⟨q, hq⟩ : ∃ q, coversOf d b = q := ⟨_, rfl⟩
    obtain ⟨r, hr⟩ : ∃ r, coversOf a d = r := ⟨_, rfl⟩
    obtain ⟨s, hs⟩ : ∃ s, coversOf b d = s := ⟨_, rfl⟩
    rw [hp, hq] at hle; rw [hr, hs] at hgr
    have HF := Go.Lib.hid hf
    have X1 := Go.Lib.hid hcj; have X2 := Go.Lib.hid hcm; have X3 := Go.Lib.hid hle; have X4 := Go.Lib.hid hgr
    have X5 := Go.Lib.hid hp; have X6 := Go.Lib.hid hq; have X7 := Go.Lib.hid hr; have X8 := Go.Lib.hid hs
    clear hf hfb h1000 hab2 hba2 hjc hmc hJ hM hcj hcm hle hgr hp hq hr hs
    go_enter Try.func10, Try.ntmps10
    go_wp2_with fail
    rw [HW1.out]
    refine HF.out.mono ?_; rintro e w1 ⟨rfl, rfl⟩
    go_wp2_with fail
    refine (P1.out _ _ (vecs2 HA.out HB2.out)).mono ?_; rintro e w1 ⟨j, rfl, hij, hb1⟩
    have hb1 := bstep ((Below.refl _ _).alloc (Nat.le_refl _) _) hb1
    have HIJ := Go.Lib.hid hij; have HB1 := Go.Lib.hid hb1; clear hij hb1
    go_wp2_with fail
    refine (P2.out _ _ (vecs2 (HA.out.below HB1.out) (HB2.out.below HB1.out))).mono ?_; rintro e w2 ⟨m, rfl, him, hb2⟩
    have hb2 := bstep ((Below.refl _ _).alloc (Nat.le_refl _) _) hb2
    have hbw := bstep HB1.out hb2
    have C1 := Go.Lib.hid (covAt X1.out.1 (HIJ.out.below hb2) (HA.out.below hbw) hj hla)
    have C2 := Go.Lib.hid (covAt X1.out.2 (HIJ.out.below hb2) (HB2.out.below hbw) hj hlb)
    have C3 := Go.Lib.hid (covAt X2.out.1 (HA.out.below hbw) him hla hm)
    have C4 := Go.Lib.hid (covAt X2.out.2 (HB2.out.below hbw) him hlb hm)
    have C5 := Go.Lib.hid (covAt X3.out (HD.out.below hbw) (HIJ.out.below hb2) hld hj)
    have C6 := Go.Lib.hid (covAt X4.out him (HD.out.below hbw) hm hld)
    have C7 := Go.Lib.hid (covAt X5.out (HD.out.below hbw) (HA.out.below hbw) hld hla)
    have C8 := Go.Lib.hid (covAt X6.out (HD.out.below hbw) (HB2.out.below hbw) hld hlb)
    have C9 := Go.Lib.hid (covAt X7.out (HA.out.below hbw) (HD.out.below hbw) hla hld)
    have CA := Go.Lib.hid (covAt X8.out (HB2.out.below hbw) (HD.out.below hbw) hlb hld)
    have IJ := Go.Lib.hid (HIJ.out.below hb2); have IM := Go.Lib.hid him; have IA := Go.Lib.hid (HA.out.below hbw); have IB := Go.Lib.hid (HB2.out.below hbw); have HBW := Go.Lib.hid (bstep HB.out hbw)
    have hcur := Below.refl w2.heap.size w2
    clear HIJ him hb2 hbw HB1 X1 X2 X3 X4 X5 X6 X7 X8 HA HB2 HD
    go_upto_region 5 with fail
    go_cut [73] from 24 to 73 (fun t wx => t = .bool false ∧ Below w2.heap.size w2 wx)
    case first =>
      (go_wp2_with fail; refine (C1.out _ hcur).mono ?_; rintro e wn ⟨rfl, hcur⟩; go_wp2_with fail; refine (C2.out _ hcur).mono ?_; rintro e wn ⟨rfl, hcur⟩; go_wp2_with fail; refine (C3.out _ hcur).mono ?_; rintro e wn ⟨rfl, hcur⟩; go_wp2_with fail; refine (C4.out _ hcur).mono ?_; rintro e wn ⟨rfl, hcur⟩; go_wp2_with fail; refine (C5.out _ hcur).mono ?_; rintro e wn ⟨rfl, hcur⟩; go_wp2_with fail; refine (C7.out _ hcur).mono ?_; rintro e wn ⟨rfl, hcur⟩; skip)
      cases p <;> cases q
      case true.true => (go_wp2_with fail; refine (C8.out _ hcur).mono ?_; rintro e wn ⟨rfl, hcur⟩; go_wp2_with fail; refine (C6.out _ hcur).mono ?_; rintro e wn ⟨rfl, hcur⟩; go_wp2_with fail; refine (C9.out _ hcur).mono ?_; rintro e wn ⟨rfl, hcur⟩; skip); cases r <;> cases s <;> first | (go_wp2_with fail; refine (CA.out _ hcur).mono ?_; rintro e wn ⟨rfl, hcur⟩; go_wp2_with fail; go_meet; exact ⟨rfl, hcur⟩) | (go_wp2_with fail; go_meet; exact ⟨rfl, hcur⟩)
      case true.false => (go_wp2_with fail; refine (C8.out _ hcur).mono ?_; rintro e wn ⟨rfl, hcur⟩; go_wp2_with fail; refine (C6.out _ hcur).mono ?_; rintro e wn ⟨rfl, hcur⟩; go_wp2_with fail; refine (C9.out _ hcur).mono ?_; rintro e wn ⟨rfl, hcur⟩; skip); cases r <;> cases s <;> first | (go_wp2_with fail; refine (CA.out _ hcur).mono ?_; rintro e wn ⟨rfl, hcur⟩; go_wp2_with fail; go_meet; exact ⟨rfl, hcur⟩) | (go_wp2_with fail; go_meet; exact ⟨rfl, hcur⟩)
      case false.true => (go_wp2_with fail; refine (C6.out _ hcur).mono ?_; rintro e wn ⟨rfl, hcur⟩; go_wp2_with fail; refine (C9.out _ hcur).mono ?_; rintro e wn ⟨rfl, hcur⟩; skip); cases r <;> cases s <;> first | (go_wp2_with fail; refine (CA.out _ hcur).mono ?_; rintro e wn ⟨rfl, hcur⟩; go_wp2_with fail; go_meet; exact ⟨rfl, hcur⟩) | (go_wp2_with fail; go_meet; exact ⟨rfl, hcur⟩)
      case false.false => (go_wp2_with fail; refine (C6.out _ hcur).mono ?_; rintro e wn ⟨rfl, hcur⟩; go_wp2_with fail; refine (C9.out _ hcur).mono ?_; rintro e wn ⟨rfl, hcur⟩; skip); cases r <;> cases s <;> first | (go_wp2_with fail; refine (CA.out _ hcur).mono ?_; rintro e wn ⟨rfl, hcur⟩; go_wp2_with fail; go_meet; exact ⟨rfl, hcur⟩) | (go_wp2_with fail; go_meet; exact ⟨rfl, hcur⟩)
    case rest =>
      obtain ⟨rfl, hcur⟩ := hcut
      go_wp2_with fail
      refine (P3.out _ _ (vecs2 (IB.out.below hcur) (IA.out.below hcur))).mono ?_; rintro e w5 ⟨j5, rfl, hi5, hb5⟩
      have hb5 := bstep hcur (bstep ((Below.refl _ _).alloc (Nat.le_refl _) _) hb5)
      go_wp2_with fail
      refine (rsame_any j j5 J J _ (IJ.out.below hb5) hi5 (by omega) (by omega)).mono ?_; rintro e w6 ⟨rfl, m6, rfl⟩
      rw [show decide (J = J) = true by simp]
      have hb6 := below_drewN hb5 m6
      have HB6 := Go.Lib.hid hb6
      clear hb6 hb5 hi5 hcur
      go_wp2_with fail
      refine (P4.out _ _ (vecs2 (IB.out.below HB6.out) (IA.out.below HB6.out))).mono ?_; rintro e w7 ⟨j7, rfl, hi7, hb7⟩
      have hb7 := bstep HB6.out (bstep ((Below.refl _ _).alloc (Nat.le_refl _) _) hb7)
      go_wp2_with fail
      refine (rsame_any m j7 M M _ (IM.out.below hb7) hi7 (by omega) (by omega)).mono ?_; rintro e w8 ⟨rfl, m8, rfl⟩
      rw [show decide (M = M) = true by simp]
      have HB8 := Go.Lib.hid (below_drewN hb7 m8)
      clear hb7 hi7
      go_wp2_with fail
      refine (awake_any _).mono ?_; rintro e w9 ⟨rfl, hb9⟩
      have HB9 := Go.Lib.hid hb9; clear hb9
      go_wp2_with fail
      go_ret
      exact ⟨rfl, bstep (bstep HBW.out HB8.out) HB9.out⟩
end Go.Proofs.Ytgfkiekcdjnaeaa.W
