/- The laws of forms: NormLeast. -/
import Derived.Test.YtkohcibhefejfaaDoorNormC
import Derived.Test.YtkohcibhefejfaaDoorGlobE0
namespace Go.Proofs.YtkohcibhefejfaaDoor.W
set_option maxRecDepth 20000
set_option linter.unusedVariables false
open Go.RowKit Go.Proofs Arb

theorem cut_at (a : Int) (L : Nat) (h0 : 0 < L) (h1 : L ≤ 200000) : ∃ m : Nat, m < L ∧ (wrap64 (a.tmod L + L)).tmod L = (m : Int) := by
  have ha : -(L : Int) < a.tmod L ∧ a.tmod L < L := by
    have h2 := Int.tmod_lt_of_pos a (b := (L : Int)) (by omega)
    have h3 := Int.lt_tmod_of_pos a (b := (L : Int)) (by omega)
    exact ⟨h3, h2⟩
  have hw : wrap64 (a.tmod L + L) = a.tmod L + L := by unfold wrap64; omega
  rw [hw, Int.tmod_eq_emod_of_nonneg (by omega)]
  have h2 := Int.emod_nonneg (a.tmod L + L) (b := (L : Int)) (by omega)
  have h3 := Int.emod_lt_of_pos (a.tmod L + L) (b := (L : Int)) (by omega)
  exact ⟨((a.tmod L + L) % L).toNat, by omega, by omega⟩

set_option maxHeartbeats 16000000 in
theorem normLeast_walk (A : Option Addr) (n c : Nat) (l : List Rul) (w : World) (hs : Sl w 2 A n c (l.map rlCells)) (_ : c * 24 ≤ 140737488351232) (hl : ∀ y ∈ l, rlWf y) (_ : l.length = n) (at' : Int) (hat : (Lit.int .i64 at').wf = true) :
    Calls Tryd.prog 4 #[.slice A n c, .int .i64 at'] w fun e w' => e = .returned (.bool true) ∧ Below w.heap.size w w' := by
  have hR := Ruls.of_sl hs
  have hfw := fun W (h : Ruls W (.slice A n c) l) => few10_any (.slice A n c) l W h hl
  have HA := Go.Lib.hid (fun W => awake10_any W)
  obtain ⟨d, hd⟩ : ∃ d, few10 l = d := ⟨_, rfl⟩
  rw [hd] at hfw
  have HF := Go.Lib.hid hfw; have HR := Go.Lib.hid hR
  clear hfw hR hs
  cases d
  · clear hd
    go_enter Tryd.func4, Tryd.ntmps4
    go_wp2_with fail
    refine (HF.out _ HR.out).mono ?_; rintro e w1 ⟨rfl, rfl⟩
    go_wp2_with fail
    refine (HA.out _).mono ?_; rintro e w2 ⟨rfl, hb⟩
    have HB := Go.Lib.hid hb; clear hb
    go_wp2_with fail
    go_ret
    exact ⟨rfl, HB.out⟩
  obtain ⟨h1, h2⟩ := few10_texts hd
  have ht : ∀ x ∈ l, x.text.length ≤ 100000 := fun x hx => by have := h2 x hx; omega
  have hrt := fun W (h : Ruls W (.slice A n c) l) => right10_any (.slice A n c) l W h ht (by omega)
  obtain ⟨ro, hro⟩ : ∃ b, l.all ruleOk = b := ⟨_, rfl⟩
  rw [hro] at hrt
  have HRT := Go.Lib.hid hrt
  clear hrt
  cases ro
  · clear hd h1 h2 ht hl hro
    go_enter Tryd.func4, Tryd.ntmps4
    go_wp2_with fail
    refine (HF.out _ HR.out).mono ?_; rintro e w1 ⟨rfl, rfl⟩
    go_wp2_with fail
    refine (HRT.out _ HR.out).mono ?_; rintro e w2 ⟨rfl, hb⟩
    have HB := Go.Lib.hid hb; clear hb
    go_wp2_with fail
    refine (HA.out _).mono ?_; rintro e w3 ⟨rfl, hb⟩
    have HB2 := Go.Lib.hid (bstep HB.out hb); clear hb
    go_wp2_with fail
    go_ret
    exact ⟨rfl, HB2.out⟩
  have hno := fun W (k : Ruls W (.slice A n c) l) => pnorm_any (.slice A n c) l W k ht (by omega)
  obtain ⟨f1, f2⟩ := norm_fits ht (by omega)
  have hle := fun (k : Nat) (y : Rul) (hy : (normOf l)[k]? = some y) (h3 : y.kind ≠ 3) (h46 : y.text ≠ [46]) => least_at (l := l) (fun x hx => List.all_eq_true.1 hro x hx) hy h3 h46
  obtain ⟨NL, hNL⟩ : ∃ L, normOf l = L := ⟨_, rfl⟩
  rw [hNL] at hno f1 f2 hle
  have hmt := fun (m : List Rul) (hm : ∀ x ∈ m, x ∈ NL) (hml : m.length ≤ 4000) (t : List UInt8) (htl : t.length ≤ 100000) v W (k : Ruls W v m) => gmatch_any v m t true W k (fun x hx => f1 x (hm x hx)) (by omega) htl
  have HNO := Go.Lib.hid hno; have HF1 := Go.Lib.hid f1; have HLE := Go.Lib.hid hle; have HMT := Go.Lib.hid hmt
  clear hno f1 hle hmt hNL hd h1 h2 hl ht hro
  obtain ⟨mm, hmm⟩ : ∃ m, NL.length = m := ⟨_, rfl⟩
  rw [hmm] at f2
  have HMM := Go.Lib.hid hmm
  clear hmm
  go_enter Tryd.func4, Tryd.ntmps4
  go_wp2_with fail
  refine (HF.out _ HR.out).mono ?_; rintro e w1 ⟨rfl, rfl⟩
  go_wp2_with fail
  refine (HRT.out _ HR.out).mono ?_; rintro e w2 ⟨rfl, hb⟩
  have HR2 := Go.Lib.hid (HR.out.below hb); have HB := Go.Lib.hid hb; clear hb
  go_wp2_with fail
  refine Calls.mono (HNO.out _ HR2.out) ?_; rintro e w3 ⟨x, rfl, hx, hb⟩
  obtain ⟨XA, XC, rfl, hxc⟩ := hx.len
  rw [HMM.out] at hx hxc ⊢
  have HX := Go.Lib.hid hx; have HB3 := Go.Lib.hid (bstep HB.out hb); clear hb hx
  by_cases h0 : mm = 0
  · subst h0
    go_wp2_with fail
    refine (HA.out _).mono ?_; rintro e w4 ⟨rfl, hb⟩
    have HB4 := Go.Lib.hid (bstep HB3.out hb); clear hb
    go_wp2_with fail
    go_ret
    exact ⟨rfl, HB4.out⟩
  obtain ⟨q, hqm, hq⟩ := cut_at at' mm (by omega) (by omega)
  have h0' : ((mm : Int) == 0) = false := by simpa using h0
  obtain ⟨g, o, y, rfl, hy, hy0⟩ := HX.out.at q hqm
  obtain ⟨c0, c1⟩ := rl_cells hy0
  have hgl := hy0.lt
  have hqi : (q : Int) < (mm : Int) := by omega
  have hyt := HF1.out y (List.mem_of_getElem? hy)
  have q3 := BS_beq y.text [46]
  obtain ⟨t3, ht3⟩ : ∃ d, (y.kind == 3) = d := ⟨_, rfl⟩
  obtain ⟨t46, ht46⟩ : ∃ d, decide (y.text = [46]) = d := ⟨_, rfl⟩
  rw [ht46] at q3
  cases t3 with
  | true =>
    have hk3 : y.kind = 3 := by simpa using ht3
    rw [hk3] at c0
    clear hy hy0 ht46 h0 ht3 hk3
    go_wp2_with fail
    refine (HA.out _).mono ?_; rintro e w4 ⟨rfl, hb⟩
    have HB4 := Go.Lib.hid (bstep HB3.out hb); clear hb
    go_wp2_with fail
    go_ret
    exact ⟨rfl, HB4.out⟩
  | false =>
    cases t46 with
    | true =>
      clear hy hy0 ht46 h0
      go_wp2_with fail
      refine (HA.out _).mono ?_; rintro e w4 ⟨rfl, hb⟩
      have HB4 := Go.Lib.hid (bstep HB3.out hb); clear hb
      go_wp2_with fail
      go_ret
      exact ⟨rfl, HB4.out⟩
    | false =>
      have hle := HLE.out q y hy (by simpa using ht3) (by simpa using ht46)
      have m1 := fun v W (k : Ruls W v NL) => HMT.out NL (fun x hx => hx) (by have := HMM.out; omega) y.text hyt v W k
      have m2 := fun v W (k : Ruls W v (NL.take q ++ NL.drop (q + 1))) => HMT.out _ (fun x hx => by
        rcases List.mem_append.1 hx with hx | hx
        · exact List.mem_of_mem_take hx
        · exact List.mem_of_mem_drop hx) (by rw [List.length_append, List.length_take, List.length_drop, HMM.out]; omega) y.text hyt v W k
      obtain ⟨b1, hb1⟩ : ∃ b, matchOf NL y.text true = b := ⟨_, rfl⟩
      obtain ⟨b2, hb2⟩ : ∃ b, matchOf (NL.take q ++ NL.drop (q + 1)) y.text true = b := ⟨_, rfl⟩
      rw [hb1] at m1 hle
      rw [hb2] at m2 hle
      have M1 := Go.Lib.hid m1; have M2 := Go.Lib.hid m2; have HC1 := Go.Lib.hid c1
      have hqm1 : (q : Int) + 1 ≤ (mm : Int) := by omega
      have hqc1 : (q : Int) ≤ (XC : Int) := by omega
      have hmc1 : (mm : Int) ≤ (XC : Int) := by omega
      have hw1 : IntKind.i64.wrap ((q : Int) + 1) = (q : Int) + 1 := by rw [IntKind.wrap_i64]; omega
      clear m1 m2 hb1 hb2 hy hy0 ht46 h0
      by_cases hc : XC = q + 1
      · subst hc
        have hz : mm - (q + 1) = 0 := by omega
        have hdr : NL.drop (q + 1) = [] := List.drop_of_length_le (by have := HMM.out; omega)
        have M2 := Go.Lib.hid (show ∀ v W, Ruls W v (NL.take q ++ []) → Calls Tryd.prog 9 #[v, .string (BS y.text), .bool true] W fun e w' => e = .returned (.bool b2) ∧ Below W.heap.size W w' from by rw [← hdr]; exact M2.out)
        clear hdr
        go_wp2_with (first
          | (at_builtin; refine wpList_append_rls rfl (.tmp 48) (.tmp 51) rfl w3.heap.size (.slice none 0 0) 0 [] rfl (Row.nil _ _ _ _) (.slice (some ⟨g, o, none⟩) q (q + 1)) q (NL.take q) rfl (HX.out.rdTake q (by omega)) (by omega) (by omega) (Nat.le_refl _) ?_; intro v4 w4 hr4 hb4; rw [Nat.zero_add, List.nil_append] at hr4; obtain ⟨A4, c4, hv4⟩ := row_form hr4; subst hv4; have HR4 := Go.Lib.hid hr4; have HB4 := Go.Lib.hid hb4; clear hr4 hb4)
          | (at_builtin; refine wpList_append_rls rfl (.tmp 53) (.tmp 57) rfl w3.heap.size (.slice A4 q c4) q (NL.take q) rfl HR4.out (.slice (some ⟨g, o, none⟩) 0 0) 0 [] rfl ⟨rfl, .inr ⟨_, _, rfl, fun j u hu => by simp [rlsCells] at hu⟩⟩ (by omega) (by omega) HB4.out.size ?_; intro v5 w5 hr5 hb5; obtain ⟨A5, c5, hv5⟩ := row_form hr5; subst hv5; have HR5 := Go.Lib.hid hr5; have HB5 := Go.Lib.hid (HB4.out.trans hb5); clear hr5 hb5))
        have hne := BW.ne w5.heap.size w5
        have HM := Go.Lib.hid (Ruls.of_row HR5.out)
        have cc : w5.cell? ⟨g, o + q * 2 + 1, none⟩ = some (.string (BS y.text)) := (HB5.out.cell (p := ⟨g, o + q * 2 + 1, none⟩) hgl).trans HC1.out
        have hg5 : g < w5.heap.size := World.block_lt_of_cell? w5 _ cc
        have s1 := fun z : BW w5.heap.size w5 => z.cell cc hg5
        have HX5 := Go.Lib.hid (HX.out.below HB5.out)
        have G1 := Go.Lib.hid (fun z : BW w5.heap.size w5 => M1.out _ z.w (HX5.out.below z.2))
        have G2 := Go.Lib.hid (fun z : BW w5.heap.size w5 => M2.out _ z.w (HM.out.below z.2))
        have hB5 := Go.Lib.hid (bstep HB3.out HB5.out)
        have hbb : b1 ≠ b2 := hle
        clear c0 c1 cc
        cases b1 <;> cases b2
        · exact absurd rfl hbb
        · refine wp_region_calm w5.heap.size w5 (Below.refl _ _) (by kernel_rfl) (by kernel_rfl) ?_
          repeat (go_big_quiet_step (first | (go_at_call 9; first | (with_reducible exact bw_of (Nat.le_refl _) (G1.out _)) | (with_reducible exact bw_of (Nat.le_refl _) (G2.out _))) | (go_at_call 8; with_reducible exact bw_of (Nat.le_refl _) (HA.out _))))
          refine wpQuiet_nil ?_
          intro _ hw'
          obtain ⟨z, rfl⟩ := hw'
          go_wp2_with fail
          go_ret
          exact ⟨rfl, bstep hB5.out z.2⟩
        · refine wp_region_calm w5.heap.size w5 (Below.refl _ _) (by kernel_rfl) (by kernel_rfl) ?_
          repeat (go_big_quiet_step (first | (go_at_call 9; first | (with_reducible exact bw_of (Nat.le_refl _) (G1.out _)) | (with_reducible exact bw_of (Nat.le_refl _) (G2.out _))) | (go_at_call 8; with_reducible exact bw_of (Nat.le_refl _) (HA.out _))))
          refine wpQuiet_nil ?_
          intro _ hw'
          obtain ⟨z, rfl⟩ := hw'
          go_wp2_with fail
          go_ret
          exact ⟨rfl, bstep hB5.out z.2⟩
        · exact absurd rfl hbb
      · have hc' : ¬ XC = q + 1 := hc
        clear hc
        go_wp2_with (first
          | (at_builtin; refine wpList_append_rls rfl (.tmp 48) (.tmp 51) rfl w3.heap.size (.slice none 0 0) 0 [] rfl (Row.nil _ _ _ _) (.slice (some ⟨g, o, none⟩) q XC) q (NL.take q) rfl (HX.out.rdTake q (by omega)) (by omega) (by omega) (Nat.le_refl _) ?_; intro v4 w4 hr4 hb4; rw [Nat.zero_add, List.nil_append] at hr4; obtain ⟨A4, c4, hv4⟩ := row_form hr4; subst hv4; have HR4 := Go.Lib.hid hr4; have HB4 := Go.Lib.hid hb4; clear hr4 hb4)
          | (at_builtin; refine wpList_append_rls rfl (.tmp 53) (.tmp 57) rfl w3.heap.size (.slice A4 q c4) q (NL.take q) rfl HR4.out (.slice (some ⟨g, o + (q + 1) * 2, none⟩) (mm - (q + 1)) (XC - (q + 1))) (mm - (q + 1)) (NL.drop (q + 1)) rfl ((HX.out.below HB4.out).rdDrop (q + 1) (by omega) _ (fun _ => rfl) _ rfl _) (by omega) (by omega) HB4.out.size ?_; intro v5 w5 hr5 hb5; obtain ⟨A5, c5, hv5⟩ := row_form hr5; subst hv5; have HR5 := Go.Lib.hid hr5; have HB5 := Go.Lib.hid (HB4.out.trans hb5); clear hr5 hb5))
        have hne := BW.ne w5.heap.size w5
        have HM := Go.Lib.hid (Ruls.of_row HR5.out)
        have cc : w5.cell? ⟨g, o + q * 2 + 1, none⟩ = some (.string (BS y.text)) := (HB5.out.cell (p := ⟨g, o + q * 2 + 1, none⟩) hgl).trans HC1.out
        have hg5 : g < w5.heap.size := World.block_lt_of_cell? w5 _ cc
        have s1 := fun z : BW w5.heap.size w5 => z.cell cc hg5
        have HX5 := Go.Lib.hid (HX.out.below HB5.out)
        have G1 := Go.Lib.hid (fun z : BW w5.heap.size w5 => M1.out _ z.w (HX5.out.below z.2))
        have G2 := Go.Lib.hid (fun z : BW w5.heap.size w5 => M2.out _ z.w (HM.out.below z.2))
        have hB5 := Go.Lib.hid (bstep HB3.out HB5.out)
        have hbb : b1 ≠ b2 := hle
        clear c0 c1 cc
        cases b1 <;> cases b2
        · exact absurd rfl hbb
        · refine wp_region_calm w5.heap.size w5 (Below.refl _ _) (by kernel_rfl) (by kernel_rfl) ?_
          repeat (go_big_quiet_step (first | (go_at_call 9; first | (with_reducible exact bw_of (Nat.le_refl _) (G1.out _)) | (with_reducible exact bw_of (Nat.le_refl _) (G2.out _))) | (go_at_call 8; with_reducible exact bw_of (Nat.le_refl _) (HA.out _))))
          refine wpQuiet_nil ?_
          intro _ hw'
          obtain ⟨z, rfl⟩ := hw'
          go_wp2_with fail
          go_ret
          exact ⟨rfl, bstep hB5.out z.2⟩
        · refine wp_region_calm w5.heap.size w5 (Below.refl _ _) (by kernel_rfl) (by kernel_rfl) ?_
          repeat (go_big_quiet_step (first | (go_at_call 9; first | (with_reducible exact bw_of (Nat.le_refl _) (G1.out _)) | (with_reducible exact bw_of (Nat.le_refl _) (G2.out _))) | (go_at_call 8; with_reducible exact bw_of (Nat.le_refl _) (HA.out _))))
          refine wpQuiet_nil ?_
          intro _ hw'
          obtain ⟨z, rfl⟩ := hw'
          go_wp2_with fail
          go_ret
          exact ⟨rfl, bstep hB5.out z.2⟩
        · exact absurd rfl hbb
end Go.Proofs.YtkohcibhefejfaaDoor.W
