/- The laws of forms: NormForms, NormSame. -/
import Derived.Test.YtkohcibhefejfaaNormA
import Derived.Test.YtkohcibhefejfaaNormZ2
import Derived.Test.YtkohcibhefejfaaNormRC
namespace Go.Proofs.Ytkohcibhefejfaa.W
set_option maxRecDepth 20000
set_option linter.unusedVariables false
open Go.RowKit Go.Proofs Arb

set_option maxHeartbeats 4000000 in
theorem normForms_walk (A : Option Addr) (n c : Nat) (l : List Rul) (w : World) (hs : Sl w 2 A n c (l.map rlCells)) (_ : c * 24 ≤ 140737488351232) (hl : ∀ y ∈ l, rlWf y) (_ : l.length = n) :
    Calls Try.prog 3 #[.slice A n c] w fun e w' => e = .returned (.bool true) ∧ Below w.heap.size w w' := by
  have hR := Ruls.of_sl hs
  have hfw := fun W (h : Ruls W (.slice A n c) l) => few10_any (.slice A n c) l W h hl
  have HA := Go.Lib.hid (fun W => awake10_any W)
  obtain ⟨d, hd⟩ : ∃ d, few10 l = d := ⟨_, rfl⟩
  rw [hd] at hfw
  have HF := Go.Lib.hid hfw; have HR := Go.Lib.hid hR
  clear hfw hR hs
  cases d
  · clear hd
    go_enter Try.func3, Try.ntmps3
    go_wp2_with fail
    refine (HF.out _ HR.out).mono ?_; rintro e w1 ⟨rfl, rfl⟩
    go_wp2_with fail
    refine (HA.out _).mono ?_; rintro e w2 ⟨rfl, hb⟩
    have HB := Go.Lib.hid hb; clear hb
    go_wp2_with fail
    go_ret
    exact ⟨rfl, HB.out⟩
  · obtain ⟨h1, h2⟩ := few10_texts hd
    have ht : ∀ x ∈ l, x.text.length ≤ 100000 := fun x hx => by have := h2 x hx; omega
    have hg := fun W (h : Ruls W (.slice A n c) l) => pnorm_any (.slice A n c) l W h ht (by omega)
    have hr := fun W (h : Ruls W (.slice A n c) l) => rnorm10_any (.slice A n c) l W h ht (by omega)
    have fl := (norm_fits ht (by omega)).2
    obtain ⟨P, hP⟩ : ∃ L, normOf l = L := ⟨_, rfl⟩
    rw [hP] at hg hr fl
    have hsm := fun (x y : Value) W (hx : Ruls W x P) (hy : Ruls W y P) => rsame9_any x y P P W hx hy (by omega) (by omega)
    rw [decide_eq_true rfl] at hsm
    have HG := Go.Lib.hid hg; have HRR := Go.Lib.hid hr; have HS := Go.Lib.hid hsm
    clear hg hr hsm hP hd h1 h2 hl ht
    go_enter Try.func3, Try.ntmps3
    go_wp2_with fail
    refine (HF.out _ HR.out).mono ?_; rintro e w1 ⟨rfl, rfl⟩
    go_wp2_with fail
    refine Calls.mono (HG.out _ HR.out) ?_; rintro e w2 ⟨x, rfl, hx, hb⟩
    have HR2 := Go.Lib.hid (HR.out.below hb); have HB2 := Go.Lib.hid hb; have HX2 := Go.Lib.hid hx; clear hb hx
    go_wp2_with fail
    refine Calls.mono (HRR.out _ HR2.out) ?_; rintro e w3 ⟨y, rfl, hy, hb⟩
    have HB3 := Go.Lib.hid (bstep HB2.out hb); have HX3 := Go.Lib.hid (HX2.out.below hb); have HY3 := Go.Lib.hid hy; clear hb hy
    go_wp2_with fail
    refine Calls.mono (HS.out _ _ _ HX3.out HY3.out) ?_; rintro e w4 ⟨rfl, hb⟩
    have HB4 := Go.Lib.hid (bstep HB3.out hb); clear hb
    go_wp2_with fail
    refine (HA.out _).mono ?_; rintro e w5 ⟨rfl, hb⟩
    have HB5 := Go.Lib.hid (bstep HB4.out hb); clear hb
    go_wp2_with fail
    go_ret
    exact ⟨rfl, HB5.out⟩

set_option maxHeartbeats 4000000 in
theorem normSame_walk (A : Option Addr) (n c : Nat) (l : List Rul) (w : World) (hs : Sl w 2 A n c (l.map rlCells)) (_ : c * 24 ≤ 140737488351232) (hl : ∀ y ∈ l, rlWf y) (_ : l.length = n) (B : Option Addr) (m d : Nat) (k : List Rul) (hs2 : Sl w 2 B m d (k.map rlCells)) (_ : d * 24 ≤ 140737488351232) (hk : ∀ y ∈ k, rlWf y) (_ : k.length = m) :
    Calls Try.prog 4 #[.slice A n c, .slice B m d] w fun e w' => e = .returned (.bool true) ∧ Below w.heap.size w w' := by
  have hR := Ruls.of_sl hs
  have hK := Ruls.of_sl hs2
  have hfw := fun W (h : Ruls W (.slice A n c) l) => few10_any (.slice A n c) l W h hl
  have hfk := fun W (h : Ruls W (.slice B m d) k) => few10_any (.slice B m d) k W h hk
  have HA := Go.Lib.hid (fun W => awake10_any W)
  obtain ⟨e1, he1⟩ : ∃ d, few10 l = d := ⟨_, rfl⟩
  obtain ⟨e2, he2⟩ : ∃ d, few10 k = d := ⟨_, rfl⟩
  rw [he1] at hfw
  rw [he2] at hfk
  have HF := Go.Lib.hid hfw; have HR := Go.Lib.hid hR; have HFK := Go.Lib.hid hfk; have HK := Go.Lib.hid hK
  clear hfw hR hs hfk hK hs2
  cases e1
  · clear he1 he2
    go_enter Try.func4, Try.ntmps4
    go_wp2_with fail
    refine (HF.out _ HR.out).mono ?_; rintro e w1 ⟨rfl, rfl⟩
    go_wp2_with fail
    refine (HA.out _).mono ?_; rintro e w2 ⟨rfl, hb⟩
    have HB := Go.Lib.hid hb; clear hb
    go_wp2_with fail
    go_ret
    exact ⟨rfl, HB.out⟩
  cases e2
  · clear he1 he2
    go_enter Try.func4, Try.ntmps4
    go_wp2_with fail
    refine (HF.out _ HR.out).mono ?_; rintro e w1 ⟨rfl, rfl⟩
    go_wp2_with fail
    refine (HFK.out _ HK.out).mono ?_; rintro e w1 ⟨rfl, rfl⟩
    go_wp2_with fail
    refine (HA.out _).mono ?_; rintro e w2 ⟨rfl, hb⟩
    have HB := Go.Lib.hid hb; clear hb
    go_wp2_with fail
    go_ret
    exact ⟨rfl, HB.out⟩
  obtain ⟨h1, h2⟩ := few10_texts he1
  obtain ⟨g1, g2⟩ := few10_texts he2
  have ht : ∀ x ∈ l, x.text.length ≤ 100000 := fun x hx => by have := h2 x hx; omega
  have gt : ∀ x ∈ k, x.text.length ≤ 100000 := fun x hx => by have := g2 x hx; omega
  have hsl := fun W (h : Ruls W (.slice A n c) l) (g : Ruls W (.slice B m d) k) => psame_any (.slice A n c) (.slice B m d) l k W h g ht gt (by omega) (by omega)
  have hss := fun W (h : Ruls W (.slice A n c) l) => psame_any (.slice A n c) (.slice A n c) l l W h h ht ht (by omega) (by omega)
  rw [decide_eq_true rfl] at hss
  have hr := fun W (h : Ruls W (.slice A n c) l) => rnorm10_any (.slice A n c) l W h ht (by omega)
  have hr2 := fun W (h : Ruls W (.slice B m d) k) => rnorm10_any (.slice B m d) k W h gt (by omega)
  have fl := (norm_fits ht (by omega)).2
  have fk := (norm_fits gt (by omega)).2
  obtain ⟨P, hP⟩ : ∃ L, normOf l = L := ⟨_, rfl⟩
  obtain ⟨Q, hQ⟩ : ∃ L, normOf k = L := ⟨_, rfl⟩
  rw [hP] at hr fl
  rw [hQ] at hr2 fk
  rw [hP, hQ] at hsl
  have hsm := fun (x y : Value) W (hx : Ruls W x P) (hy : Ruls W y Q) => rsame9_any x y P Q W hx hy (by omega) (by omega)
  obtain ⟨b, hb⟩ : ∃ b, decide (P = Q) = b := ⟨_, rfl⟩
  rw [hb] at hsl hsm
  have HSL := Go.Lib.hid hsl; have HSS := Go.Lib.hid hss; have HRR := Go.Lib.hid hr; have HRK := Go.Lib.hid hr2; have HS := Go.Lib.hid hsm
  clear hsl hss hr hr2 hsm hP hQ hb he1 he2 h1 h2 g1 g2 hl hk ht gt
  cases b
  all_goals (
    go_enter Try.func4, Try.ntmps4
    go_wp2_with fail
    refine (HF.out _ HR.out).mono ?_; rintro e w1 ⟨rfl, rfl⟩
    go_wp2_with fail
    refine (HFK.out _ HK.out).mono ?_; rintro e w1 ⟨rfl, rfl⟩
    go_wp2_with fail
    refine Calls.mono (HSL.out _ HR.out HK.out) ?_; rintro e w2 ⟨rfl, hb⟩
    have HR2 := Go.Lib.hid (HR.out.below hb); have HK2 := Go.Lib.hid (HK.out.below hb); have HB2 := Go.Lib.hid hb; clear hb
    go_wp2_with fail
    refine Calls.mono (HRR.out _ HR2.out) ?_; rintro e w3 ⟨x, rfl, hx, hb⟩
    have HB3 := Go.Lib.hid (bstep HB2.out hb); have HR3 := Go.Lib.hid (HR2.out.below hb); have HK3 := Go.Lib.hid (HK2.out.below hb); have HX3 := Go.Lib.hid hx; clear hb hx
    go_wp2_with fail
    refine Calls.mono (HRK.out _ HK3.out) ?_; rintro e w4 ⟨y, rfl, hy, hb⟩
    have HB4 := Go.Lib.hid (bstep HB3.out hb); have HR4 := Go.Lib.hid (HR3.out.below hb); have HX4 := Go.Lib.hid (HX3.out.below hb); have HY4 := Go.Lib.hid hy; clear hb hy
    go_wp2_with fail
    refine Calls.mono (HS.out _ _ _ HX4.out HY4.out) ?_; rintro e w5 ⟨rfl, hb⟩
    have HB5 := Go.Lib.hid (bstep HB4.out hb); have HR5 := Go.Lib.hid (HR4.out.below hb); clear hb
    go_wp2_with fail
    refine Calls.mono (HSS.out _ HR5.out) ?_; rintro e w6 ⟨rfl, hb⟩
    have HB6 := Go.Lib.hid (bstep HB5.out hb); clear hb
    go_wp2_with fail
    refine (HA.out _).mono ?_; rintro e w7 ⟨rfl, hb⟩
    have HB7 := Go.Lib.hid (bstep HB6.out hb); clear hb
    go_wp2_with fail
    go_ret
    exact ⟨rfl, HB7.out⟩)
end Go.Proofs.Ytkohcibhefejfaa.W
