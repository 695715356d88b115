/- The laws of forms: right, NormMatches. -/
import Derived.Test.YtkohcibhefejfaaDoorNormA
import Derived.Test.YtkohcibhefejfaaDoorGlobPF
namespace Go.Proofs.YtkohcibhefejfaaDoor.W
set_option maxRecDepth 20000
set_option linter.unusedVariables false
open Go.RowKit Go.Proofs Arb

theorem print_one (x : Rul) : (printOf [x]).2 = if ruleOk x = true then 0 else 30 := by
  unfold printOf
  rw [if_neg (by simp)]
  cases h : ruleOk x <;> simp [h]
set_option maxHeartbeats 4000000 in
theorem right10_any (v : Value) (l : List Rul) (w : World) (h : Ruls w v l) (ht : ∀ x ∈ l, x.text.length ≤ 100000) (hn6 : l.length ≤ 100000) :
    Calls Tryd.prog 6 #[v] w fun e w' => e = .returned (.bool (l.all ruleOk)) ∧ Below w.heap.size w w' := by
  obtain ⟨r, hr⟩ : ∃ r, l.all ruleOk = r := ⟨_, rfl⟩
  rw [hr]
  have h' := h
  obtain ⟨A, n, c, rfl, hn, hc, -⟩ := h'
  rw [hn] at hn6
  have HL := Go.Lib.hid h; have HN := Go.Lib.hid hn; have HT := Go.Lib.hid ht; have HR := Go.Lib.hid hr
  clear h hn ht hr
  go_enter Tryd.func6, Tryd.ntmps6
  go_wp2_with fail
  go_loopw [3, 4, 5, 6, 7, 8, 9, 10, 11, 12, 13, 14, 15, 16, 17, 18, 19, 20, 21, 22] (fun i _ _ _ _ _ _ _ _ _ _ _ _ _ _ _ _ _ _ _ wr => ∃ k : Nat, k ≤ n ∧ i = .int .i64 (k : Int) ∧ (∀ x ∈ l.take k, ruleOk x = true) ∧ Below w.heap.size w wr) (fun i _ _ _ _ _ _ _ _ _ _ _ _ _ _ _ _ _ _ _ _ => n - (intOf i).toNat)
  case atStart => exact ⟨0, by omega, rfl, by simp, Below.refl _ _⟩
  case round =>
    obtain ⟨k, hk, rfl, hall, hb⟩ := hrel
    by_cases hkn : k < n
    · have hki : (k : Int) < (n : Int) := by omega
      obtain ⟨g, o, x, rfl, hx, hx1⟩ := (HL.out.below hb).at k hkn
      obtain ⟨p0, p1⟩ := rl_cells hx1
      have hxt := HT.out x (List.mem_of_getElem? hx)
      have hpr := fun v W (h : Ruls W v [x]) => gprint_any v [x] W h (by intro y hy; simp at hy; rw [hy]; exact hxt) (by simp)
      rw [print_one] at hpr
      obtain ⟨P, hP⟩ : ∃ P, (printOf [x]).1 = P := ⟨_, rfl⟩
      rw [hP] at hpr
      cases hok : ruleOk x with
      | true =>
        rw [hok, if_pos rfl] at hpr
        have hnext : ∀ y ∈ l.take (k + 1), ruleOk y = true := fun y hy => by
          rw [List.take_add_one, hx] at hy
          rcases List.mem_append.1 hy with hy | hy
          · exact hall y hy
          · simp at hy; rw [hy]; exact hok
        have HNX := Go.Lib.hid hnext; have HP := Go.Lib.hid hpr; have HB := Go.Lib.hid hb
        clear hnext hall hx hx1 hpr hP hok hb
        go_wp2_with fail
        refine (HP.out _ _ (Ruls.lit wr [x] _ _ rfl _ _ rfl rfl)).mono ?_; rintro e w2 ⟨rfl, hb2⟩
        have HB2 := Go.Lib.hid (bstep (HB.out.alloc HB.out.size _) hb2); clear hb2
        go_wp2_with fail
        exact ⟨⟨k + 1, by omega, by simp, HNX.out, HB2.out⟩, by simp [intOf]; omega⟩
      | false =>
        rw [hok, if_neg (by simp)] at hpr
        have hres : r = false := by
          rw [← HR.out, List.all_eq_false]
          exact ⟨x, List.mem_of_getElem? hx, by rw [hok]; simp⟩
        subst hres
        have HP := Go.Lib.hid hpr; have HB := Go.Lib.hid hb
        clear hall hx hx1 hpr hP hok hb
        go_wp2_with fail
        refine (HP.out _ _ (Ruls.lit wr [x] _ _ rfl _ _ rfl rfl)).mono ?_; rintro e w2 ⟨rfl, hb2⟩
        have HB2 := Go.Lib.hid (bstep (HB.out.alloc HB.out.size _) hb2); clear hb2
        go_wp2_with fail
        go_ret
        exact ⟨rfl, HB2.out⟩
    · obtain rfl : k = n := by omega
      have hres : r = true := by
        rw [← HR.out, List.all_eq_true]
        intro y hy
        refine hall y ?_
        rwa [List.take_of_length_le (by have := HN.out; omega)]
      subst hres
      have HB := Go.Lib.hid hb
      clear hall hb
      go_wp2_with fail
      go_ret
      exact ⟨rfl, HB.out⟩

set_option maxHeartbeats 8000000 in
theorem normMatches_walk (A : Option Addr) (n c : Nat) (l : List Rul) (w : World) (hs : Sl w 2 A n c (l.map rlCells)) (_ : c * 24 ≤ 140737488351232) (hl : ∀ y ∈ l, rlWf y) (_ : l.length = n) (p : List UInt8) (hp : p.length ≤ 140737488351232) (dir : Bool) :
    Calls Tryd.prog 3 #[.slice A n c, .string (BS p), .bool dir] w fun e w' => e = .returned (.bool true) ∧ Below w.heap.size w w' := by
  have hR := Ruls.of_sl hs
  have hsz : (BS p).size = p.length := BS_size p
  have hfw := fun W (h : Ruls W (.slice A n c) l) => few10_any (.slice A n c) l W h hl
  have HA := Go.Lib.hid (fun W => awake10_any W)
  obtain ⟨d, hd⟩ : ∃ d, few10 l = d := ⟨_, rfl⟩
  rw [hd] at hfw
  have HF := Go.Lib.hid hfw; have HR := Go.Lib.hid hR
  clear hfw hR hs
  cases d
  · clear hd
    go_enter Tryd.func3, Tryd.ntmps3
    go_wp2_with fail
    refine (HF.out _ HR.out).mono ?_; rintro e w1 ⟨rfl, rfl⟩
    go_wp2_with fail
    refine (HA.out _).mono ?_; rintro e w2 ⟨rfl, hb⟩
    have HB := Go.Lib.hid hb; clear hb
    go_wp2_with fail
    go_ret
    exact ⟨rfl, HB.out⟩
  obtain ⟨h1, h2⟩ := few10_texts hd
  have ht : ∀ x ∈ l, x.text.length ≤ 100000 := fun x hx => by have := h2 x hx; omega
  have hrt := fun W (h : Ruls W (.slice A n c) l) => right10_any (.slice A n c) l W h ht (by omega)
  obtain ⟨ro, hro⟩ : ∃ b, l.all ruleOk = b := ⟨_, rfl⟩
  rw [hro] at hrt
  have HRT := Go.Lib.hid hrt
  clear hrt hro
  cases ro
  · clear hd h1 h2 ht hl
    go_enter Tryd.func3, Tryd.ntmps3
    go_wp2_with fail
    refine (HF.out _ HR.out).mono ?_; rintro e w1 ⟨rfl, rfl⟩
    go_wp2_with fail
    refine (HRT.out _ HR.out).mono ?_; rintro e w2 ⟨rfl, hb⟩
    have HB := Go.Lib.hid hb; clear hb
    go_wp2_with fail
    refine (HA.out _).mono ?_; rintro e w3 ⟨rfl, hb⟩
    have HB2 := Go.Lib.hid (bstep HB.out hb); clear hb
    go_wp2_with fail
    go_ret
    exact ⟨rfl, HB2.out⟩
  by_cases h : 500 < p.length
  · have h' : decide ((500 : Int) < (p.length : Int)) = true := decide_eq_true (by omega)
    clear hd h1 h2 ht hl
    go_enter Tryd.func3, Tryd.ntmps3
    go_wp2_with fail
    refine (HF.out _ HR.out).mono ?_; rintro e w1 ⟨rfl, rfl⟩
    go_wp2_with fail
    refine (HRT.out _ HR.out).mono ?_; rintro e w2 ⟨rfl, hb⟩
    have HB := Go.Lib.hid hb; clear hb
    go_wp2_with fail
    refine (HA.out _).mono ?_; rintro e w3 ⟨rfl, hb⟩
    have HB2 := Go.Lib.hid (bstep HB.out hb); clear hb
    go_wp2_with fail
    go_ret
    exact ⟨rfl, HB2.out⟩
  have h' : decide ((500 : Int) < (p.length : Int)) = false := decide_eq_false (by omega)
  have hpa := fun W => gpath_any p W (by omega)
  obtain ⟨po, hpo⟩ : ∃ b, pathOk p = b := ⟨_, rfl⟩
  rw [hpo] at hpa
  have HPA := Go.Lib.hid hpa
  clear hpa
  cases po
  · clear hd h1 h2 ht hl hpo
    go_enter Tryd.func3, Tryd.ntmps3
    go_wp2_with fail
    refine (HF.out _ HR.out).mono ?_; rintro e w1 ⟨rfl, rfl⟩
    go_wp2_with fail
    refine (HRT.out _ HR.out).mono ?_; rintro e w2 ⟨rfl, hb⟩
    have HB := Go.Lib.hid hb; clear hb
    go_wp2_with fail
    refine (HPA.out _).mono ?_; rintro e w3 ⟨rfl, hb⟩
    have HB2 := Go.Lib.hid (bstep HB.out hb); clear hb
    go_wp2_with fail
    refine (HA.out _).mono ?_; rintro e w4 ⟨rfl, hb⟩
    have HB3 := Go.Lib.hid (bstep HB2.out hb); clear hb
    go_wp2_with fail
    go_ret
    exact ⟨rfl, HB3.out⟩
  have hg := fun W (k : Ruls W (.slice A n c) l) => gmatch_any (.slice A n c) l p dir W k ht (by omega) (by omega)
  have hno := fun W (k : Ruls W (.slice A n c) l) => pnorm_any (.slice A n c) l W k ht (by omega)
  obtain ⟨f1, f2⟩ := norm_fits ht (by omega)
  have hg2 := fun v W (k : Ruls W v (normOf l)) => gmatch_any v (normOf l) p dir W k f1 (by omega) (by omega)
  rw [norm_match l hpo] at hg2
  obtain ⟨M, hM⟩ : ∃ L, matchOf l p dir = L := ⟨_, rfl⟩
  rw [hM] at hg hg2
  obtain ⟨NL, hNL⟩ : ∃ L, normOf l = L := ⟨_, rfl⟩
  rw [hNL] at hno hg2
  have HG := Go.Lib.hid hg; have HG2 := Go.Lib.hid hg2; have HNO := Go.Lib.hid hno
  clear hg hg2 hno hM hNL hd h1 h2 hl ht hpo f1 f2
  cases M
  all_goals (
    go_enter Tryd.func3, Tryd.ntmps3
    go_wp2_with fail
    refine (HF.out _ HR.out).mono ?_; rintro e w1 ⟨rfl, rfl⟩
    go_wp2_with fail
    refine (HRT.out _ HR.out).mono ?_; rintro e w2 ⟨rfl, hb⟩
    have HR2 := Go.Lib.hid (HR.out.below hb); have HB := Go.Lib.hid hb; clear hb
    go_wp2_with fail
    refine (HPA.out _).mono ?_; rintro e w3 ⟨rfl, hb⟩
    have HR3 := Go.Lib.hid (HR2.out.below hb); have HB2 := Go.Lib.hid (bstep HB.out hb); clear hb
    go_wp2_with fail
    refine (HG.out _ HR3.out).mono ?_; rintro e w4 ⟨rfl, hb⟩
    have HR4 := Go.Lib.hid (HR3.out.below hb); have HB3 := Go.Lib.hid (bstep HB2.out hb); clear hb
    go_wp2_with fail
    refine Calls.mono (HNO.out _ HR4.out) ?_; rintro e w5 ⟨x, rfl, hx, hb⟩
    obtain ⟨XA, XC, rfl, _⟩ := hx.len
    have HX := Go.Lib.hid hx; have HB4 := Go.Lib.hid (bstep HB3.out hb); clear hb hx
    go_wp2_with fail
    refine (HG2.out _ _ HX.out).mono ?_; rintro e w6 ⟨rfl, hb⟩
    have HB5 := Go.Lib.hid (bstep HB4.out hb); clear hb
    go_wp2_with fail
    refine (HA.out _).mono ?_; rintro e w7 ⟨rfl, hb⟩
    have HB6 := Go.Lib.hid (bstep HB5.out hb); clear hb
    go_wp2_with fail
    go_ret
    exact ⟨rfl, HB6.out⟩)
end Go.Proofs.YtkohcibhefejfaaDoor.W
