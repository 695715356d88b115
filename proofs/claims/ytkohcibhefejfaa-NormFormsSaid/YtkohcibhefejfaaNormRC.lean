/- The reference of forms: Norm. -/
import Derived.Test.YtkohcibhefejfaaNormRB
namespace Go.Proofs.Ytkohcibhefejfaa.W
set_option maxRecDepth 20000
set_option linter.unusedVariables false
open Go.RowKit Go.Proofs Arb

theorem texts_take {f : Rul → Bool} {l : List Rul} {k : Nat} {x : Rul} (h : l[k]? = some x) : textsOf f (l.take (k + 1)) = if f x then putOf (textsOf f (l.take k)) x.text else textsOf f (l.take k) := by
  unfold textsOf
  rw [List.take_add_one, h]
  simp
theorem row_text {w : World} {base n : Nat} {v : Value} {P : List (List UInt8)} (h : Row w base 9 1 v n (P.map tx)) (k : Nat) (hk : k < n) : ∃ g c p, v = .slice (some ⟨g, 0, none⟩) n c ∧ n ≤ c ∧ P[k]? = some p ∧ w.cell? ⟨g, k, none⟩ = some (.string (BS p)) := by
  have hl : P.length = n := by have := h.1; simpa using this
  obtain ⟨g, cap, rfl, hc, _, _, hcs, _⟩ := h.open (by omega)
  have hg := List.getElem?_eq_getElem (l := P) (i := k) (by omega)
  exact ⟨g, cap, _, rfl, hc, hg, hcs k _ (by rw [List.getElem?_map, hg]; rfl)⟩
/-- The rules of the first places. -/
def formK (l : List Rul) (P : List (List UInt8)) : List Rul := (P.filter fun t => decide (kindAt l t ≠ aboveOf l t)).map fun t => ⟨kindAt l t, t⟩
theorem formK_take {l : List Rul} {P : List (List UInt8)} {k : Nat} {p : List UInt8} (h : P[k]? = some p) : formK l (P.take (k + 1)) = if kindAt l p ≠ aboveOf l p then formK l (P.take k) ++ [⟨kindAt l p, p⟩] else formK l (P.take k) := by
  unfold formK
  rw [List.take_add_one, h]
  simp only [Option.toList_some, List.filter_append, List.map_append]
  split
  · rename_i hne; rw [List.filter_cons_of_pos (by simpa using hne)]; rfl
  · rename_i hne; rw [List.filter_cons_of_neg (by simpa using hne)]; simp
theorem formK_len (l : List Rul) (P : List (List UInt8)) : (formK l P).length ≤ P.length := by
  unfold formK
  rw [List.length_map]
  exact List.length_filter_le _ _

set_option maxHeartbeats 16000000 in
theorem rnorm10_any (v : Value) (l : List Rul) (w : World) (h : Ruls w v l) (ht : ∀ x ∈ l, x.text.length ≤ 100000) (hn6 : l.length ≤ 900) :
    Calls Try.prog 8 #[v] w fun e w' => ∃ v', e = .returned v' ∧ Ruls w' v' (normOf l) ∧ Below w.heap.size w w' := by
  have h' := h
  obtain ⟨A, n, c, rfl, hn, hc, -⟩ := h'
  have hkd := fun (t : List UInt8) (W : World) (hb : Below w.heap.size w W) => rkind10_any (.slice A n c) l t W (h.below hb) (by omega)
  have hab := fun (t : List UInt8) (htl : t.length ≤ 100000) (W : World) (hb : Below w.heap.size w W) => rabove10_any (.slice A n c) l t W (h.below hb) ht (by omega) htl
  rw [hn] at hn6
  have HL := Go.Lib.hid h; have HN := Go.Lib.hid hn; have HT := Go.Lib.hid ht; have HKD := Go.Lib.hid hkd; have HAB := Go.Lib.hid hab
  clear h hn ht hkd hab
  go_enter Try.func8, Try.ntmps8
  go_wp2_with fail
  go_loopw [3, 4, 5, 10, 11, 12, 13, 14, 15, 16, 17, 18, 19, 20, 21, 22, 23, 24, 25, 26, 27, 28, 29, 30, 31, 32, 33, 34, 35, 36, 37, 38, 39, 40, 41, 42, 43, 44, 45, 46, 47, 48, 49] (fun pv tv i _ _ _ _ _ _ _ _ _ _ _ _ _ _ _ _ _ _ _ _ _ _ _ _ _ _ _ _ _ _ _ _ _ _ _ _ _ _ _ _ wr => ∃ (k n1 n2 : Nat), k ≤ n ∧ n1 ≤ k ∧ n2 ≤ k ∧ i = .int .i64 (k : Int) ∧ Row wr w.heap.size 9 1 pv n1 ((placesOf (l.take k)).map tx) ∧ Row wr w.heap.size 9 1 tv n2 ((typesOf (l.take k)).map tx) ∧ Below w.heap.size w wr) (fun _ _ i _ _ _ _ _ _ _ _ _ _ _ _ _ _ _ _ _ _ _ _ _ _ _ _ _ _ _ _ _ _ _ _ _ _ _ _ _ _ _ _ _ => n - (intOf i).toNat)
  case atStart => exact ⟨0, 0, 0, by omega, by omega, by omega, rfl, Row.nil _ _ _ _, Row.nil _ _ _ _, Below.refl _ _⟩
  case round =>
    obtain ⟨k, n1, n2, hk, hn1, hn2, rfl, hrp, hrt, hb⟩ := hrel
    by_cases hkn : k < n
    · have hki : (k : Int) < (n : Int) := by omega
      obtain ⟨g, o, x, rfl, hx, hx0⟩ := (HL.out.below hb).at k hkn
      obtain ⟨c0, c1⟩ := rl_cells hx0
      have hxt := HT.out x (List.mem_of_getElem? hx)
      have hnp : placesOf (l.take (k + 1)) = if decide (isPl x) = true then putOf (placesOf (l.take k)) x.text else placesOf (l.take k) := texts_take hx
      have hnt : typesOf (l.take (k + 1)) = if decide (x.kind = 3) = true then putOf (typesOf (l.take k)) x.text else typesOf (l.take k) := texts_take hx
      obtain ⟨t1, ht1⟩ : ∃ d, (x.kind == 1) = d := ⟨_, rfl⟩
      obtain ⟨t2, ht2⟩ : ∃ d, (x.kind == 2) = d := ⟨_, rfl⟩
      obtain ⟨t3, ht3⟩ : ∃ d, (x.kind == 3) = d := ⟨_, rfl⟩
      have e1 : decide (isPl x) = (t1 || t2) := by rw [← ht1, ← ht2, Bool.eq_iff_iff, decide_eq_true_eq]; simp [isPl]
      have e3 : decide (x.kind = 3) = t3 := ht3
      have e13 : t3 = true → t1 = false ∧ t2 = false := fun h => by
        rw [← ht3] at h
        have : x.kind = 3 := by simpa using h
        rw [← ht1, ← ht2, this]; exact ⟨rfl, rfl⟩
      rw [e1] at hnp
      rw [e3] at hnt
      have HNP := Go.Lib.hid hnp; have HNT := Go.Lib.hid hnt; have HRP := Go.Lib.hid hrp; have HRT := Go.Lib.hid hrt; have HB := Go.Lib.hid hb; have HX := Go.Lib.hid hx0
      clear hnp hnt hrp hrt hb hx hx0 e1 e3
      cases t3 with
      | true =>
        obtain ⟨rfl, rfl⟩ := e13 rfl
        clear e13
        go_wp2_with fail
        refine (rput10_any w.heap.size _ n2 _ x.text wr HRT.out HB.out.size (by omega)).mono ?_; rintro e w3 ⟨v3, n3, rfl, hn3, hr3, hb3⟩
        have hbb := HB.out.trans (hb3.mono HB.out.size)
        have hro := HRP.out.below hb3
        have HB3 := Go.Lib.hid hbb; have HR3 := Go.Lib.hid hr3; have HRO := Go.Lib.hid hro
        clear hbb hr3 hro hb3
        go_wp2_with fail
        exact ⟨⟨k + 1, n1, n3, by omega, by omega, by omega, by simp, by rw [HNP.out]; exact HRO.out, by rw [HNT.out]; exact HR3.out, HB3.out⟩, by simp [intOf]; omega⟩
      | false =>
        clear e13
        by_cases hpl : (t1 || t2) = true
        · have hpl2 : t1 = true ∨ (t1 = false ∧ t2 = true) := by cases t1 <;> simp_all
          have hnp : placesOf (l.take (k + 1)) = putOf (placesOf (l.take k)) x.text := by rw [HNP.out, if_pos hpl]
          have HNP := Go.Lib.hid hnp
          clear hpl hnp
          rcases hpl2 with rfl | ⟨rfl, rfl⟩
          all_goals (
            go_wp2_with fail
            refine (rput10_any w.heap.size _ n1 _ x.text wr HRP.out HB.out.size (by omega)).mono ?_; rintro e w3 ⟨v3, n3, rfl, hn3, hr3, hb3⟩
            have hbb := HB.out.trans (hb3.mono HB.out.size)
            have hro := HRT.out.below hb3
            have hx3 := HX.out.below hb3
            obtain ⟨d0, d1⟩ := rl_cells hx3
            have HB3 := Go.Lib.hid hbb; have HR3 := Go.Lib.hid hr3; have HRO := Go.Lib.hid hro
            clear hbb hr3 hro hb3 hx3 c0 c1
            go_wp2_with fail
            exact ⟨⟨k + 1, n3, n2, by omega, by omega, by omega, by simp, by rw [HNP.out]; exact HR3.out, by rw [HNT.out]; exact HRO.out, HB3.out⟩, by simp [intOf]; omega⟩)
        · have hpl0 : (t1 || t2) = false := by simpa using hpl
          have hnp : placesOf (l.take (k + 1)) = placesOf (l.take k) := by rw [HNP.out, if_neg hpl]
          have HNP := Go.Lib.hid hnp
          rw [Bool.or_eq_false_iff] at hpl0
          obtain ⟨rfl, rfl⟩ := hpl0
          clear hpl hnp
          go_wp2_with fail
          exact ⟨⟨k + 1, n1, n2, by omega, by omega, by omega, by simp, by rw [HNP.out]; exact HRP.out, by rw [HNT.out]; exact HRT.out, HB.out⟩, by simp [intOf]; omega⟩
    · obtain rfl : k = n := by omega
      rw [List.take_of_length_le (by have := HN.out; omega)] at hrp hrt
      obtain ⟨W2, hW2⟩ : ∃ W2, W2 = wr := ⟨wr, rfl⟩
      subst hW2
      have hplen : (placesOf l).length = n1 := by have := hrp.1; simpa using this
      have htlen : (typesOf l).length = n2 := by have := hrt.1; simpa using this
      have hpt : ∀ p ∈ placesOf l, p.length ≤ 100000 := fun p hp => by
        obtain ⟨x, hx, _, rfl⟩ := place_mem.1 hp
        exact HT.out x hx
      have hnorm : normOf l = formK l (placesOf l) ++ (typesOf l).map fun t => ⟨3, t⟩ := rfl
      obtain ⟨P, hP⟩ : ∃ P, placesOf l = P := ⟨_, rfl⟩
      obtain ⟨T, hTT⟩ : ∃ P, typesOf l = P := ⟨_, rfl⟩
      rw [hP] at hrp hplen hpt hnorm
      rw [hTT] at hrt htlen hnorm
      obtain ⟨PA, PC, hpv⟩ := row_form1 hrp
      obtain ⟨TA, TC, htv⟩ := row_form1 hrt
      subst hpv
      subst htv
      have HRP := Go.Lib.hid hrp; have HRT := Go.Lib.hid hrt; have HB := Go.Lib.hid hb; have HPL := Go.Lib.hid hplen; have HTL := Go.Lib.hid htlen; have HPT := Go.Lib.hid hpt; have HNO := Go.Lib.hid hnorm
      clear hrp hrt hb hplen htlen hpt hnorm hP hTT
      go_wp2_with fail
      go_loopw [6, 7, 8, 50, 51, 52, 53, 54, 55, 56, 57, 58, 59, 60, 61, 62, 63, 64, 65, 66, 67, 68, 69, 70, 71, 72, 73, 74, 75, 76, 77, 78] (fun ov i _ _ _ _ _ _ _ _ _ _ _ _ _ _ _ _ _ _ _ _ _ _ _ _ _ _ _ _ _ _ wr => ∃ (q : Nat), q ≤ n1 ∧ i = .int .i64 (q : Int) ∧ Row wr W2.heap.size 29 2 ov (formK l (P.take q)).length (rlsCells (formK l (P.take q))) ∧ Below W2.heap.size W2 wr) (fun _ i _ _ _ _ _ _ _ _ _ _ _ _ _ _ _ _ _ _ _ _ _ _ _ _ _ _ _ _ _ _ _ => n1 - (intOf i).toNat)
      case atStart => exact ⟨0, by omega, rfl, Row.nil _ _ _ _, Below.refl _ _⟩
      case round =>
        obtain ⟨q, hq, rfl, hro, hb2⟩ := hrel
        have hbw := HB.out.trans (hb2.mono HB.out.size)
        by_cases hqn : q < n1
        · have hqi : (q : Int) < (n1 : Int) := by omega
          obtain ⟨g, c9, p, he, hc9, hp, c0⟩ := row_text (HRP.out.below hb2) q hqn
          cases he
          have hpl := HPT.out p (List.mem_of_getElem? hp)
          have hnx := formK_take (l := l) hp
          have hkd := HKD.out p wr hbw
          have hlen := formK_len l (P.take q)
          rw [List.length_take] at hlen
          obtain ⟨F, hF⟩ : ∃ F, formK l (P.take q) = F := ⟨_, rfl⟩
          rw [hF] at hro hnx hlen
          obtain ⟨K, hK⟩ : ∃ K, kindAt l p = K := ⟨_, rfl⟩
          rw [hK] at hkd hnx
          have habv := HAB.out p hpl wr hbw
          obtain ⟨B, hB⟩ : ∃ B, aboveOf l p = B := ⟨_, rfl⟩
          rw [hB] at habv hnx
          have HRO := Go.Lib.hid hro; have HB2 := Go.Lib.hid hb2; have HBW := Go.Lib.hid hbw; have HNX := Go.Lib.hid hnx; have HK := Go.Lib.hid hkd; have HA := Go.Lib.hid habv
          have HC := Go.Lib.hid c0
          clear hro hb2 hbw hnx hkd habv hp hF hK hB
          go_wp2_with fail
          refine HK.out.mono ?_; rintro e w3 ⟨rfl, hw3⟩
          rw [hw3]
          clear hw3 w3
          go_wp2_with fail
          refine HA.out.mono ?_; rintro e w3 ⟨rfl, hb3⟩
          have hbx := HB2.out.trans (hb3.mono HB2.out.size)
          have hrx := HRO.out.below hb3
          have cc : w3.cell? ⟨g, q, none⟩ = some (.string (BS p)) := (hb3.cell (p := ⟨g, q, none⟩) (World.block_lt_of_cell? wr _ HC.out)).trans HC.out
          have HB3 := Go.Lib.hid hbx; have HR3 := Go.Lib.hid hrx
          clear hb3 hbx hrx c0
          by_cases hkb : K = B
          · have hkb' : (K != B) = false := by simpa using hkb
            have hnx2 : formK l (P.take (q + 1)) = F := by rw [HNX.out, if_neg (fun h => h hkb)]
            have HN2 := Go.Lib.hid hnx2
            clear hkb hnx2
            go_wp2_with fail
            exact ⟨⟨q + 1, by omega, by simp, by rw [HN2.out]; exact HR3.out, HB3.out⟩, by simp [intOf]; omega⟩
          · have hkb' : (K != B) = true := by simpa using hkb
            have hnx2 : formK l (P.take (q + 1)) = F ++ [⟨K, p⟩] := by rw [HNX.out, if_pos hkb]
            have HN2 := Go.Lib.hid hnx2
            clear hkb hnx2
            obtain ⟨OA, OC, hov⟩ := row_form1 HR3.out
            subst hov
            go_wp2_with (at_builtin; refine wpList_append_rl rfl (.tmp 70) (.tmp 77) rfl W2.heap.size (.slice OA F.length OC) F.length F rfl HR3.out ⟨K, p⟩ _ rfl rfl (by omega) HB3.out.size ?_; intro v5 w5 hr5 hb5; have HR5 := Go.Lib.hid hr5; have HB5 := Go.Lib.hid (HB3.out.trans hb5); clear hr5 hb5)
            exact ⟨⟨q + 1, by omega, by simp, by rw [HN2.out, List.length_append]; exact HR5.out, HB5.out⟩, by simp [intOf]; omega⟩
        · obtain rfl : q = n1 := by omega
          rw [List.take_of_length_le (Nat.le_of_eq HPL.out)] at hro
          have hlen := formK_len l P
          rw [HPL.out] at hlen
          have hno := HNO.out
          obtain ⟨F, hF⟩ : ∃ F, formK l P = F := ⟨_, rfl⟩
          rw [hF] at hro hlen hno
          obtain ⟨W3, hW3⟩ : ∃ W3, W3 = wr := ⟨wr, rfl⟩
          subst hW3
          have HRO := Go.Lib.hid hro; have HB2 := Go.Lib.hid hb2; have HBW := Go.Lib.hid hbw; have HNF := Go.Lib.hid hno
          clear hro hb2 hbw hno hF
          go_wp2_with fail
          go_loopw [6, 9, 79, 80, 81, 82, 83, 84, 85, 86, 87, 88, 89, 90, 91, 92] (fun ov i _ _ _ _ _ _ _ _ _ _ _ _ _ _ wr => ∃ (q : Nat), q ≤ n2 ∧ i = .int .i64 (q : Int) ∧ Row wr W2.heap.size 29 2 ov (F.length + q) (rlsCells (F ++ (T.take q).map fun t => ⟨3, t⟩)) ∧ Below W2.heap.size W2 wr) (fun _ i _ _ _ _ _ _ _ _ _ _ _ _ _ _ _ => n2 - (intOf i).toNat)
          case atStart => exact ⟨0, by omega, rfl, by simpa using HRO.out, HB2.out⟩
          case round =>
            obtain ⟨z, hz, rfl, hro, hb2⟩ := hrel
            by_cases hzn : z < n2
            · have hzi : (z : Int) < (n2 : Int) := by omega
              obtain ⟨g, c9, p, he, hc9, hp, c0⟩ := row_text (HRT.out.below hb2) z hzn
              cases he
              have hnx : F ++ (T.take (z + 1)).map (fun t => (⟨3, t⟩ : Rul)) = (F ++ (T.take z).map fun t => ⟨3, t⟩) ++ [⟨3, p⟩] := by
                rw [List.take_add_one, hp]; simp
              obtain ⟨G, hG⟩ : ∃ G, F ++ (T.take z).map (fun t => (⟨3, t⟩ : Rul)) = G := ⟨_, rfl⟩
              rw [hG] at hro hnx
              obtain ⟨OA, OC, hov⟩ := row_form1 hro
              subst hov
              have HR3 := Go.Lib.hid hro; have HB3 := Go.Lib.hid hb2; have HNX := Go.Lib.hid hnx
              clear hro hb2 hnx hp hG
              go_wp2_with (at_builtin; refine wpList_append_rl rfl (.tmp 85) (.tmp 91) rfl W2.heap.size (.slice OA (F.length + z) OC) (F.length + z) G rfl HR3.out ⟨3, p⟩ _ rfl rfl (by omega) HB3.out.size ?_; intro v5 w5 hr5 hb5; have HR5 := Go.Lib.hid hr5; have HB5 := Go.Lib.hid (HB3.out.trans hb5); clear hr5 hb5)
              exact ⟨⟨z + 1, by omega, by simp, by rw [HNX.out]; exact HR5.out, HB5.out⟩, by simp [intOf]; omega⟩
            · obtain rfl : z = n2 := by omega
              rw [List.take_of_length_le (Nat.le_of_eq HTL.out), ← HNF.out] at hro
              have hbw := HB.out.trans (hb2.mono HB.out.size)
              have HR3 := Go.Lib.hid hro; have HB3 := Go.Lib.hid hbw
              clear hro hb2 hbw
              go_wp2_with fail
              go_ret
              exact ⟨_, rfl, Ruls.of_row HR3.out, HB3.out⟩
end Go.Proofs.Ytkohcibhefejfaa.W
