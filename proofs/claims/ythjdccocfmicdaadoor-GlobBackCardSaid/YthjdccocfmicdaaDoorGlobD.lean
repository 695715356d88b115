/- The laws of filters: GlobBack. -/
import Derived.Test.YthjdccocfmicdaaDoorGlobB
namespace Go.Proofs.YthjdccocfmicdaaDoor.W
set_option maxRecDepth 20000
set_option linter.unusedVariables false
open Go.RowKit Go.Proofs Arb

set_option maxHeartbeats 8000000 in
theorem globBack_walk (A : Option Addr) (n c : Nat) (l : List Rul) (w : World) (hs : Sl w 2 A n c (l.map rlCells)) (_ : c * 24 ≤ 140737488351232) (hl : ∀ y ∈ l, rlWf y) (_ : l.length = n) (t : List UInt8) (ht : t.length ≤ 140737488351232) :
    Calls Tryd.prog 8 #[.slice A n c, .string (BS t)] w fun e w' => e = .returned (.bool true) ∧ Below w.heap.size w w' := by
  have hR := Ruls.of_sl hs
  have hsz : (BS t).size = t.length := BS_size t
  have hfw := fun W (h : Ruls W (.slice A n c) l) => few9_any (.slice A n c) l W h hl
  have HA := Go.Lib.hid (fun W => awake9_any W)
  have HB := Go.Lib.hid (Below.refl w.heap.size w)
  obtain ⟨d, hd⟩ : ∃ d, few9 l = d := ⟨_, rfl⟩
  rw [hd] at hfw
  have HF := Go.Lib.hid hfw; have HR := Go.Lib.hid hR
  clear hfw hR hs
  cases d
  · clear hd hl
    go_enter Tryd.func8, Tryd.ntmps8
    go_wp2_with fail
    refine (HF.out _ HR.out).mono ?_; rintro e w1 ⟨rfl, rfl⟩
    by_cases hlen : 10000 < t.length
    · have hl' : (10000 : Int) < (t.length : Int) := by omega
      go_wp2_with fail
      refine (HA.out _).mono ?_; rintro e wz ⟨rfl, hb⟩
      have HB := Go.Lib.hid (bstep HB.out hb); clear hb
      go_wp2_with fail
      go_ret
      exact ⟨rfl, HB.out⟩
    · have hl' : ¬ (10000 : Int) < (t.length : Int) := by omega
      have hpt := fun W => gparse_any t W (by omega)
      obtain ⟨hm16, hmt⟩ := parse_parts t
      have hback := @print_parse t
      have hbad := @parse_bad t
      obtain ⟨M, hM⟩ : ∃ M, (parseOf t).1 = M := ⟨_, rfl⟩
      obtain ⟨E3, hE3⟩ : ∃ M, (parseOf t).2 = M := ⟨_, rfl⟩
      rw [hM, hE3] at hpt
      rw [hM] at hm16 hmt hback hbad
      rw [hE3] at hback hbad
      have HPT := Go.Lib.hid hpt
      clear hpt hM hE3
      by_cases h0 : E3 = 0
      · subst h0
        have hpb := hback rfl
        have hgp := fun v W (k : Ruls W v M) => gprint_any v M W k (fun x hx => by have := hmt x hx; omega) (by omega)
        rw [hpb] at hgp
        have q := bs_eq t t
        rw [decide_eq_true rfl] at q
        have HGP := Go.Lib.hid hgp
        clear hpb hgp hback hbad hm16 hmt
        go_wp2_with fail
        refine Calls.mono (HPT.out _) ?_; rintro e wz ⟨v, rfl, hR, hb⟩
        have HRz := Go.Lib.hid hR; have HB := Go.Lib.hid (bstep HB.out hb); clear hb hR
        go_wp2_with fail
        refine (HGP.out _ _ HRz.out).mono ?_; rintro e wy ⟨rfl, hb⟩
        have HB := Go.Lib.hid (bstep HB.out hb); clear hb
        go_wp2_with fail
        refine (HA.out _).mono ?_; rintro e wx ⟨rfl, hb⟩
        have HB := Go.Lib.hid (bstep HB.out hb); clear hb
        go_wp2_with fail
        go_ret
        exact ⟨rfl, HB.out⟩
      · have hMn : M = [] := hbad h0
        subst hMn
        have hne : (E3 != 0) = true := by simpa using h0
        clear hback hbad hm16 hmt h0
        go_wp2_with fail
        refine Calls.mono (HPT.out _) ?_; rintro e wz ⟨v, rfl, hR, hb⟩
        obtain ⟨A4, c4, rfl, -⟩ := hR.len
        have HB := Go.Lib.hid (bstep HB.out hb); clear hb hR
        simp only [List.length_nil]
        go_wp2_with fail
        refine (HA.out _).mono ?_; rintro e wx ⟨rfl, hb⟩
        have HB := Go.Lib.hid (bstep HB.out hb); clear hb
        go_wp2_with fail
        go_ret
        exact ⟨rfl, HB.out⟩

  · obtain ⟨h1, h2⟩ := few_texts hd
    have hg := fun W (h : Ruls W (.slice A n c) l) => gprint_any (.slice A n c) l W h (fun x hx => by have := h2 x hx; omega) (by omega)
    have hpp := @parse_print l
    have hpl : (printOf l).1.length ≤ 100000 := by
      unfold printOf
      split
      · simp
      · split
        · have h3 : ∀ m : List Rul, (∀ x ∈ m, x.text.length ≤ 1000) → (linesOf m).length ≤ m.length * 1009 := by
            intro m
            induction m with
            | nil => intro _; simp [linesOf]
            | cons x m ih =>
              intro hm
              have k1 := ih fun y hy => hm y (List.mem_cons_of_mem _ hy)
              have k2 := hm x (List.mem_cons_self ..)
              have k3 := word_len x.kind
              have e : (linesOf (x :: m)).length = (wordOf x.kind).length + x.text.length + 1 + (linesOf m).length := by simp [linesOf, lineOf]; omega
              rw [e, List.length_cons]
              omega
          have h4 := h3 l h2
          show (linesOf l).length ≤ _
          omega
        · simp
    obtain ⟨P, hP⟩ : ∃ L, (printOf l).1 = L := ⟨_, rfl⟩
    obtain ⟨E1, hE1⟩ : ∃ E, (printOf l).2 = E := ⟨_, rfl⟩
    rw [hP, hE1] at hg
    rw [hP] at hpl hpp
    rw [hE1] at hpp
    have hq := fun W => gparse_any P W hpl
    by_cases h0 : E1 = 0
    · subst h0
      rw [hpp rfl] at hq
      have hsm := fun v W (k1 : Ruls W (.slice A n c) l) (k2 : Ruls W v l) => rsame9_any (.slice A n c) v l l W k1 k2 (by omega) (by omega)
      rw [decide_eq_true rfl] at hsm
      have HG := Go.Lib.hid hg; have HQ := Go.Lib.hid hq; have HSM := Go.Lib.hid hsm
      clear hg hq hsm hpp hP hE1 hpl hd h1 h2 hl
      go_enter Tryd.func8, Tryd.ntmps8
      go_wp2_with fail
      refine (HF.out _ HR.out).mono ?_; rintro e w1 ⟨rfl, rfl⟩
      go_wp2_with fail
      refine (HG.out _ HR.out).mono ?_; rintro e w2 ⟨rfl, hb⟩
      have HR2 := Go.Lib.hid (HR.out.below hb); have HB := Go.Lib.hid (bstep HB.out hb); clear hb
      go_wp2_with fail
      refine Calls.mono (HQ.out _) ?_; rintro e w3 ⟨v, rfl, hR3, hb⟩
      have HR4 := Go.Lib.hid (HR2.out.below hb); have HR3 := Go.Lib.hid hR3; have HB := Go.Lib.hid (bstep HB.out hb); clear hb hR3
      go_wp2_with fail
      refine (HSM.out _ _ HR4.out HR3.out).mono ?_; rintro e w4 ⟨rfl, hb⟩
      have HB := Go.Lib.hid (bstep HB.out hb); clear hb
      by_cases hlen : 10000 < t.length
      · have hl' : (10000 : Int) < (t.length : Int) := by omega
        go_wp2_with fail
        refine (HA.out _).mono ?_; rintro e wz ⟨rfl, hb⟩
        have HB := Go.Lib.hid (bstep HB.out hb); clear hb
        go_wp2_with fail
        go_ret
        exact ⟨rfl, HB.out⟩
      · have hl' : ¬ (10000 : Int) < (t.length : Int) := by omega
        have hpt := fun W => gparse_any t W (by omega)
        obtain ⟨hm16, hmt⟩ := parse_parts t
        have hback := @print_parse t
        have hbad := @parse_bad t
        obtain ⟨M, hM⟩ : ∃ M, (parseOf t).1 = M := ⟨_, rfl⟩
        obtain ⟨E3, hE3⟩ : ∃ M, (parseOf t).2 = M := ⟨_, rfl⟩
        rw [hM, hE3] at hpt
        rw [hM] at hm16 hmt hback hbad
        rw [hE3] at hback hbad
        have HPT := Go.Lib.hid hpt
        clear hpt hM hE3
        by_cases h0 : E3 = 0
        · subst h0
          have hpb := hback rfl
          have hgp := fun v W (k : Ruls W v M) => gprint_any v M W k (fun x hx => by have := hmt x hx; omega) (by omega)
          rw [hpb] at hgp
          have q := bs_eq t t
          rw [decide_eq_true rfl] at q
          have HGP := Go.Lib.hid hgp
          clear hpb hgp hback hbad hm16 hmt
          go_wp2_with fail
          refine Calls.mono (HPT.out _) ?_; rintro e wz ⟨v, rfl, hR, hb⟩
          have HRz := Go.Lib.hid hR; have HB := Go.Lib.hid (bstep HB.out hb); clear hb hR
          go_wp2_with fail
          refine (HGP.out _ _ HRz.out).mono ?_; rintro e wy ⟨rfl, hb⟩
          have HB := Go.Lib.hid (bstep HB.out hb); clear hb
          go_wp2_with fail
          refine (HA.out _).mono ?_; rintro e wx ⟨rfl, hb⟩
          have HB := Go.Lib.hid (bstep HB.out hb); clear hb
          go_wp2_with fail
          go_ret
          exact ⟨rfl, HB.out⟩
        · have hMn : M = [] := hbad h0
          subst hMn
          have hne : (E3 != 0) = true := by simpa using h0
          clear hback hbad hm16 hmt h0
          go_wp2_with fail
          refine Calls.mono (HPT.out _) ?_; rintro e wz ⟨v, rfl, hR, hb⟩
          obtain ⟨A4, c4, rfl, -⟩ := hR.len
          have HB := Go.Lib.hid (bstep HB.out hb); clear hb hR
          simp only [List.length_nil]
          go_wp2_with fail
          refine (HA.out _).mono ?_; rintro e wx ⟨rfl, hb⟩
          have HB := Go.Lib.hid (bstep HB.out hb); clear hb
          go_wp2_with fail
          go_ret
          exact ⟨rfl, HB.out⟩

    · have hne : (E1 == 0) = false := by simpa using h0
      obtain ⟨M2, hM2⟩ : ∃ M, (parseOf P).1 = M := ⟨_, rfl⟩
      obtain ⟨E2, hE2⟩ : ∃ M, (parseOf P).2 = M := ⟨_, rfl⟩
      rw [hM2, hE2] at hq
      have HG := Go.Lib.hid hg; have HQ := Go.Lib.hid hq
      clear hg hq hpp hP hE1 hpl hd h1 h2 hl hM2 hE2 h0
      go_enter Tryd.func8, Tryd.ntmps8
      go_wp2_with fail
      refine (HF.out _ HR.out).mono ?_; rintro e w1 ⟨rfl, rfl⟩
      go_wp2_with fail
      refine (HG.out _ HR.out).mono ?_; rintro e w2 ⟨rfl, hb⟩
      have HB := Go.Lib.hid (bstep HB.out hb); clear hb
      go_wp2_with fail
      refine Calls.mono (HQ.out _) ?_; rintro e w3 ⟨v, rfl, -, hb⟩
      have HB := Go.Lib.hid (bstep HB.out hb); clear hb
      by_cases hlen : 10000 < t.length
      · have hl' : (10000 : Int) < (t.length : Int) := by omega
        go_wp2_with fail
        refine (HA.out _).mono ?_; rintro e wz ⟨rfl, hb⟩
        have HB := Go.Lib.hid (bstep HB.out hb); clear hb
        go_wp2_with fail
        go_ret
        exact ⟨rfl, HB.out⟩
      · have hl' : ¬ (10000 : Int) < (t.length : Int) := by omega
        have hpt := fun W => gparse_any t W (by omega)
        obtain ⟨hm16, hmt⟩ := parse_parts t
        have hback := @print_parse t
        have hbad := @parse_bad t
        obtain ⟨M, hM⟩ : ∃ M, (parseOf t).1 = M := ⟨_, rfl⟩
        obtain ⟨E3, hE3⟩ : ∃ M, (parseOf t).2 = M := ⟨_, rfl⟩
        rw [hM, hE3] at hpt
        rw [hM] at hm16 hmt hback hbad
        rw [hE3] at hback hbad
        have HPT := Go.Lib.hid hpt
        clear hpt hM hE3
        by_cases h0 : E3 = 0
        · subst h0
          have hpb := hback rfl
          have hgp := fun v W (k : Ruls W v M) => gprint_any v M W k (fun x hx => by have := hmt x hx; omega) (by omega)
          rw [hpb] at hgp
          have q := bs_eq t t
          rw [decide_eq_true rfl] at q
          have HGP := Go.Lib.hid hgp
          clear hpb hgp hback hbad hm16 hmt
          go_wp2_with fail
          refine Calls.mono (HPT.out _) ?_; rintro e wz ⟨v, rfl, hR, hb⟩
          have HRz := Go.Lib.hid hR; have HB := Go.Lib.hid (bstep HB.out hb); clear hb hR
          go_wp2_with fail
          refine (HGP.out _ _ HRz.out).mono ?_; rintro e wy ⟨rfl, hb⟩
          have HB := Go.Lib.hid (bstep HB.out hb); clear hb
          go_wp2_with fail
          refine (HA.out _).mono ?_; rintro e wx ⟨rfl, hb⟩
          have HB := Go.Lib.hid (bstep HB.out hb); clear hb
          go_wp2_with fail
          go_ret
          exact ⟨rfl, HB.out⟩
        · have hMn : M = [] := hbad h0
          subst hMn
          have hne : (E3 != 0) = true := by simpa using h0
          clear hback hbad hm16 hmt h0
          go_wp2_with fail
          refine Calls.mono (HPT.out _) ?_; rintro e wz ⟨v, rfl, hR, hb⟩
          obtain ⟨A4, c4, rfl, -⟩ := hR.len
          have HB := Go.Lib.hid (bstep HB.out hb); clear hb hR
          simp only [List.length_nil]
          go_wp2_with fail
          refine (HA.out _).mono ?_; rintro e wx ⟨rfl, hb⟩
          have HB := Go.Lib.hid (bstep HB.out hb); clear hb
          go_wp2_with fail
          go_ret
          exact ⟨rfl, HB.out⟩

end Go.Proofs.YthjdccocfmicdaaDoor.W
