/- The walk of the law that the order in which operations are added does not matter. -/
import Derived.Test.YtmkmahjboocoaaaOpsJ
import Derived.Test.YtmkmahjboocoaaaOpsE
namespace Go.Proofs.Ytmkmahjboocoaaa.W
set_option linter.unusedVariables false
open Go.RowKit Go.Proofs Arb

/-- The first from the index j on whose device is z, or 0. -/
def FstAt (l : List Opn) (z : Int) (j a : Nat) : Prop :=
  (a = 0 ∧ ∀ i y, j ≤ i → l[i]? = some y → y.stamp.who ≠ z) ∨ (j ≤ a ∧ (∃ y, l[a]? = some y ∧ y.stamp.who = z) ∧ ∀ i y, j ≤ i → i < a → l[i]? = some y → y.stamp.who ≠ z)
theorem FstAt.start (l : List Opn) (z : Int) : FstAt l z l.length 0 := .inl ⟨rfl, fun i y hi hy => by have := (List.getElem?_eq_some_iff.1 hy).1; omega⟩
theorem FstAt.hit {l : List Opn} {z : Int} {p : Nat} {y : Opn} (hy : l[p]? = some y) (hz : y.stamp.who = z) : FstAt l z p p := .inr ⟨Nat.le_refl _, ⟨y, hy, hz⟩, fun i u h1 h2 => by omega⟩
theorem FstAt.miss {l : List Opn} {z : Int} {p a : Nat} {y : Opn} (h : FstAt l z (p + 1) a) (hy : l[p]? = some y) (hz : y.stamp.who ≠ z) : FstAt l z p a := by
  rcases h with ⟨h1, h2⟩ | ⟨h1, h2, h3⟩
  · refine .inl ⟨h1, fun i u hi hu => ?_⟩
    rcases Nat.lt_or_ge p i with h | h
    · exact h2 i u h hu
    · obtain rfl : i = p := by omega
      rw [hy] at hu; injection hu with hu; rw [← hu]; exact hz
  · refine .inr ⟨by omega, h2, fun i u hi hia hu => ?_⟩
    rcases Nat.lt_or_ge p i with h | h
    · exact h3 i u h hia hu
    · obtain rfl : i = p := by omega
      rw [hy] at hu; injection hu with hu; rw [← hu]; exact hz
theorem FstAt.fst {l : List Opn} {z : Int} {a : Nat} (h : FstAt l z 0 a) (x : Opn) (hx : l[a]? = some x) : ∀ (j : Nat) (y : Opn), j < a → l[j]? = some y → y.stamp.who ≠ x.stamp.who := by
  intro j y hj hy
  rcases h with ⟨h1, _⟩ | ⟨_, ⟨u, hu, huz⟩, h3⟩
  · omega
  · rw [hx] at hu; injection hu with hu
    rw [hu, huz]
    exact h3 j y (by omega) hj hy
theorem FstAt.lt {l : List Opn} {z : Int} {j a : Nat} (h : FstAt l z j a) (hl : 0 < l.length) : a < l.length := by
  rcases h with ⟨h1, _⟩ | ⟨_, ⟨u, hu, _⟩, _⟩
  · omega
  · exact (List.getElem?_eq_some_iff.1 hu).1

set_option maxRecDepth 20000 in
set_option maxHeartbeats 16000000 in
theorem opsOrder_go (A : Option Addr) (n c : Nat) (l : List Opn) (A1 : Option Addr) (np cp : Nat) (ps : List Int) (w : World) (hv : Opns w (.slice A n c) l) (hl : ∀ y ∈ l, opWf y) (hu : Ints w (.slice A1 np cp) ps) (hcp : np ≤ 1000000000000000) :
    Calls Try.prog 10 #[.slice A n c, .slice A1 np cp] w fun e w' => e = .returned (.bool true) ∧ Below w.heap.size w w' := by
  have hF := fun w v h => fewops_any v l w h (ops_wf hl)
  have hlen : l.length = n := by obtain ⟨A', n', c', he, h, _⟩ := hv; cases he; exact h
  have hlp : ps.length = np := by obtain ⟨A', n', c', he, h, _⟩ := hu; cases he; exact h
  obtain ⟨b, hb⟩ : ∃ b, fewOps l = b := ⟨_, rfl⟩
  rw [hb] at hF
  have HF := Go.Lib.hid hF; have HL := Go.Lib.hid hl; have HV := Go.Lib.hid hv; have HU := Go.Lib.hid hu
  clear hF hl hv hu
  cases b
  · go_enter Try.func10, Try.ntmps10
    go_wp2_with fail
    refine (HF.out _ _ HV.out).mono ?_; rintro e w2 ⟨rfl, rfl⟩
    go_wp2_with fail
    refine (awake_any _).mono ?_; rintro e w3 ⟨rfl, hb⟩
    go_wp2_with fail
    go_ret
    exact ⟨rfl, hb⟩
  · by_cases h60 : 60 < n
    · have h1' : (60 : Int) < (n : Int) := by omega
      clear hb
      go_enter Try.func10, Try.ntmps10
      go_wp2_with fail
      refine (HF.out _ _ HV.out).mono ?_; rintro e w2 ⟨rfl, rfl⟩
      go_wp2_with fail
      refine (awake_any _).mono ?_; rintro e w3 ⟨rfl, hb⟩
      go_wp2_with fail
      go_ret
      exact ⟨rfl, hb⟩
    · have h1' : ¬ (60 : Int) < (n : Int) := by omega
      by_cases hnp : np = 0
      · subst hnp
        clear hb
        go_enter Try.func10, Try.ntmps10
        go_wp2_with fail
        refine (HF.out _ _ HV.out).mono ?_; rintro e w2 ⟨rfl, rfl⟩
        go_wp2_with fail
        refine (awake_any _).mono ?_; rintro e w3 ⟨rfl, hb⟩
        go_wp2_with fail
        go_ret
        exact ⟨rfl, hb⟩
      · have hnp' : ((np : Int) == 0) = false := by simp; omega
        obtain ⟨-, htx⟩ := fewOps_true hb
        obtain ⟨bu, ou, hA1⟩ : ∃ b o, A1 = some ⟨b, o, none⟩ := by
          obtain ⟨A', n', c', he, h, _, hz⟩ := HU.out
          cases he
          obtain ⟨b, o, h9, _⟩ := hz (by omega)
          exact ⟨b, o, h9⟩
        subst hA1
        have HTX := Go.Lib.hid htx; have HLEN := Go.Lib.hid hlen; have HLP := Go.Lib.hid hlp
        clear hb htx hlen hlp
        go_enter Try.func10, Try.ntmps10
        go_wp2_with fail
        refine (HF.out _ _ HV.out).mono ?_; rintro e w2 ⟨rfl, rfl⟩
        go_wp2_with fail
        go_loopw [5, 6, 7, 8, 32, 33, 34, 35, 36, 37, 38, 39, 40, 41, 42, 43, 44, 45, 46, 47, 48, 49] (fun vo i _ _ _ _ _ _ _ _ _ _ _ _ _ _ _ _ _ _ _ _ wr => ∃ k : Nat, k ≤ n ∧ i = .int .i64 (k : Int) ∧ (∃ A2 c2, vo = .slice A2 (build (l.take k)).length c2) ∧ Opns wr vo (build (l.take k)) ∧ Below w.heap.size w wr) (fun _ i _ _ _ _ _ _ _ _ _ _ _ _ _ _ _ _ _ _ _ _ _ => n - (intOf i).toNat)
        case atStart => exact ⟨0, by omega, rfl, ⟨none, 0, rfl⟩, Opns.nil _, Below.refl _ _⟩
        case round =>
          obtain ⟨k, hk, rfl, ⟨A2, cc2, rfl⟩, hO, hbw⟩ := hrel
          have hbl := build_length (l.take k)
          have htl : (l.take k).length ≤ n := by rw [List.length_take]; omega
          by_cases hkn : k < n
          · have hkn' : (k : Int) < (n : Int) := by omega
            obtain ⟨b1, o1, x, rfl, hg1, hx⟩ := (HV.out.below hbw).at k hkn
            have hxm := List.mem_of_getElem? hg1
            have hxw := HL.out x hxm
            obtain ⟨hxn, hxmf⟩ := HTX.out x hxm
            obtain ⟨c0, c1, c2, c3, c4, c5, c6, c7, c8, c9, c10⟩ := op_cells hx
            have hst := build_take l k x hg1
            have hwf : ∀ y ∈ build (l.take k), opWf y := fun y hy => HL.out y (List.mem_of_mem_take (build_mem _ y hy))
            have hp := fun W v h => padd_any v (build (l.take k)) x W h (by omega) hwf hxw (by omega) (by omega)
            obtain ⟨sk, hsk⟩ : ∃ s, build (l.take k) = s := ⟨_, rfl⟩
            rw [hsk] at hO hbl hp hst hwf
            rw [hsk]
            unfold addStep at hst
            obtain ⟨a, ha⟩ : ∃ a, (addOf sk x).1 = a := ⟨_, rfl⟩
            obtain ⟨ev, hev⟩ : ∃ r, (addOf sk x).2 = r := ⟨_, rfl⟩
            rw [ha, hev] at hp hst
            unfold opVal at hp
            unfold opArr opCells at hp
            have HP := Go.Lib.hid hp; clear hp
            have HST := Go.Lib.hid hst; clear hst
            have HO := Go.Lib.hid hO; clear hO
            have HBW := Go.Lib.hid hbw; clear hbw
            clear hx hsk hwf hev ha hg1
            by_cases he : ev = 0
            · have hst := HST.out
              rw [if_pos he] at hst
              subst he
              have HST2 := Go.Lib.hid hst; clear hst HST
              go_wp2_with fail
              refine (HP.out _ _ HO.out).mono ?_; rintro e w3 ⟨v3, rfl, hO3, hb3⟩
              obtain ⟨A3, cc3, rfl, _⟩ := hO3.len
              have HO3 := Go.Lib.hid hO3; clear hO3
              have HB3 := Go.Lib.hid (bstep HBW.out hb3); clear hb3
              go_wp2_with fail
              exact ⟨⟨k + 1, by omega, by simp, ⟨A3, cc3, by rw [HST2.out]⟩, by rw [HST2.out]; exact HO3.out, HB3.out⟩, by simp [intOf]; omega⟩
            · have hst := HST.out
              rw [if_neg he] at hst
              have HST2 := Go.Lib.hid hst; clear hst HST
              have hne : (ev == 0) = false := by simp [he]
              clear he
              go_wp2_with fail
              refine (HP.out _ _ HO.out).mono ?_; rintro e w3 ⟨v3, rfl, hO3, hb3⟩
              have HO4 := Go.Lib.hid (HO.out.below hb3)
              have HB3 := Go.Lib.hid (bstep HBW.out hb3); clear hb3 hO3
              go_wp2_with fail
              exact ⟨⟨k + 1, by omega, by simp, ⟨A2, cc2, by rw [HST2.out]⟩, by rw [HST2.out]; exact HO4.out, HB3.out⟩, by simp [intOf]; omega⟩
          · obtain rfl : n = k := by omega
            rw [List.take_of_length_le (by rw [HLEN.out]; exact Nat.le_refl _)] at hO hbl
            have hI := build_inv l
            have hwf : ∀ y ∈ build l, opWf y := fun y hy => HL.out y (build_mem _ y hy)
            have htx2 : ∀ y ∈ build l, y.name.length ≤ 200 ∧ y.manifest.length ≤ 2000 := fun y hy => HTX.out y (build_mem _ y hy)
            rw [List.take_of_length_le (by rw [HLEN.out]; exact Nat.le_refl _)]
            rw [HLEN.out] at hbl
            obtain ⟨S, hS⟩ : ∃ S, build l = S := ⟨_, rfl⟩
            rw [hS] at hO hbl hI hwf htx2
            rw [hS]
            clear hS
            obtain ⟨m, hm⟩ : ∃ m, S.length = m := ⟨_, rfl⟩
            rw [hm] at hbl hO
            rw [hm]
            have HO := Go.Lib.hid hO; clear hO
            have HBW := Go.Lib.hid hbw; clear hbw
            have HM := Go.Lib.hid hm; clear hm
            have HI := Go.Lib.hid hI; clear hI
            have HWF := Go.Lib.hid hwf; clear hwf
            have HTX2 := Go.Lib.hid htx2; clear htx2
            obtain ⟨W, hW⟩ : ∃ W, W = wr := ⟨_, rfl⟩
            subst hW
            have hrd : Rd (W.alloc (.cells #[] 25)) 11 (.slice A2 m cc2) m (opsCells S) := by
              have := (HO.out.below ((Below.refl W.heap.size W).alloc (Nat.le_refl _) (.cells #[] 25))).rdTake m (Nat.le_refl _)
              rwa [List.take_of_length_le (by rw [HM.out]; exact Nat.le_refl _)] at this
            have HRD := Go.Lib.hid hrd; clear hrd
            go_wp2_with (at_builtin; refine wpList_append_ops rfl (.tmp 50) (.tmp 51) rfl W.heap.size (.slice (some ⟨W.heap.size, 0, none⟩) 0 0) 0 [] rfl (Row.made W #[] 25 0 11 (Nat.le_refl _) (by unfold maxLen; omega) rfl) (.slice A2 m cc2) m S rfl HRD.out (by omega) (by omega) (by simp) ?_; intro v9 V9 hr9 hb9; have hown := Opns.of_row hr9; have HOWN := Go.Lib.hid hown; have HB9 := Go.Lib.hid hb9; clear hr9 hb9 hown)
            obtain ⟨A9, cp9, h9, _⟩ := HOWN.out.len
            rw [List.nil_append] at h9
            rw [HM.out] at h9
            subst h9
            have hown := HOWN.out
            rw [List.nil_append] at hown
            have HOWN2 := Go.Lib.hid hown; clear hown HOWN
            have hal := (Below.refl W.heap.size W).alloc (Nat.le_refl _) (.cells #[] 25)
            have HS := Go.Lib.hid (HO.out.below (hal.trans HB9.out)); have HBV := Go.Lib.hid (bstep HBW.out (hal.trans HB9.out)); clear hal
            clear HRD HO HBW HB9
            go_loopw [9, 10, 11, 12, 13, 14, 15, 16, 17, 53, 54, 55, 56, 57, 58, 59, 60, 61, 62, 63, 64, 65, 66, 67, 68, 69, 70, 71, 72, 73, 74, 75, 76, 77, 78, 79, 80, 81, 82, 83, 84, 85, 86, 87, 88, 89, 90, 91, 92, 93, 94, 95, 96, 97, 98, 99, 100, 101, 102, 103, 104, 105, 106] (fun vl va i _ _ _ _ _ _ _ _ _ _ _ _ _ _ _ _ _ _ _ _ _ _ _ _ _ _ _ _ _ _ _ _ _ _ _ _ _ _ _ _ _ _ _ _ _ _ _ _ _ _ _ _ _ _ _ _ _ _ _ _ wr => ∃ (left again : List Opn) (AL AG : Option Addr) (cL cG : Nat), vl = .slice AL left.length cL ∧ va = .slice AG again.length cG ∧ left.length ≤ m ∧ again.length = m - left.length ∧ i = .int .i64 ((m - left.length : Nat) : Int) ∧ Opns wr vl left ∧ Opns wr va again ∧ Parts S left again ∧ Below V9.heap.size V9 wr) (fun vl _ _ _ _ _ _ _ _ _ _ _ _ _ _ _ _ _ _ _ _ _ _ _ _ _ _ _ _ _ _ _ _ _ _ _ _ _ _ _ _ _ _ _ _ _ _ _ _ _ _ _ _ _ _ _ _ _ _ _ _ _ _ _ => match vl with | .slice _ n _ => n | _ => 0)
            case atStart => exact ⟨S, [], A9, none, cp9, 0, by rw [HM.out], rfl, by rw [HM.out]; exact Nat.le_refl _, by rw [HM.out, Nat.sub_self]; rfl, by rw [HM.out, Nat.sub_self]; rfl, HOWN2.out, Opns.nil _, Parts.start S, Below.refl _ _⟩
            case round =>
              obtain ⟨left, again, AL, AG, cL, cG, rfl, rfl, hlm, hgl, rfl, hOL, hOA, hP, hb⟩ := hrel
              obtain ⟨p, hp⟩ : ∃ p, left.length = p := ⟨_, rfl⟩
              rw [hp] at hlm hOL hgl
              rw [hgl] at hOA
              rw [hgl]
              rw [hp]
              have hsame := fun W u v hu hv => same_self u v S W hu hv (by have := HM.out; omega)
              have HSM := Go.Lib.hid hsame; clear hsame
              have HOL := Go.Lib.hid hOL; have HOA := Go.Lib.hid hOA; have HP := Go.Lib.hid hP; have HLN := Go.Lib.hid hp
              have HB := Go.Lib.hid hb
              clear hOL hOA hP hp hb
              by_cases hp0 : p = 0
              · subst hp0
                have hnil := List.length_eq_zero_iff.1 HLN.out
                subst hnil
                have hag := HP.out.end HI.out
                subst hag
                go_wp2_with fail
                refine (HSM.out _ _ _ HOA.out (HS.out.below HB.out)).mono ?_; rintro e w7 ⟨rfl, hb7⟩
                go_wp2_with fail
                refine (awake_any _).mono ?_; rintro e w8 ⟨rfl, hb8⟩
                go_wp2_with fail
                go_ret
                exact ⟨rfl, bstep (bstep (bstep HBV.out HB.out) hb7) hb8⟩
              · have hp1 : 0 < p := by omega
                obtain ⟨bL, oL, x0, rfl, -, -⟩ := HOL.out.at 0 hp1
                have hpc : p ≤ cL := by obtain ⟨A', n', c', he, _, h, _⟩ := HOL.out; cases he; exact h
                obtain ⟨kk, hkk⟩ : ∃ k, (m - p) % np = k := ⟨_, rfl⟩
                have hkn : kk < np := by rw [← hkk]; exact Nat.mod_lt _ (by omega)
                have hcell := ((HU.out.below HBV.out).below HB.out).cell kk hkn
                obtain ⟨z0, hz0⟩ : ∃ z, ps.getD kk 0 = z := ⟨_, rfl⟩
                rw [hz0] at hcell
                clear hz0
                obtain ⟨z, hz⟩ : ∃ z, (wrap64 (z0.tmod 15 + 15)).tmod 15 = z := ⟨_, rfl⟩
                have HZ := Go.Lib.hid hz; clear hz
                go_wp2_with fail
                rw [HZ.out]
                go_loopw [13, 14, 71, 72, 73, 74, 75, 76, 77, 78, 79, 80, 81, 82, 83] (fun va vk _ _ _ _ _ _ _ _ _ _ _ _ _ w2 => ∃ (j a : Nat) (q : Int), j ≤ p ∧ q = (j : Int) - 1 ∧ a < p ∧ va = .int .i64 (a : Int) ∧ vk = .int .i64 q ∧ FstAt left z j a ∧ w2 = wr) (fun _ i _ _ _ _ _ _ _ _ _ _ _ _ _ _ => (intOf i + 1).toNat)
                case atStart => exact ⟨p, 0, (p : Int) - 1, Nat.le_refl _, rfl, hp1, rfl, rfl, by rw [← HLN.out]; exact FstAt.start left z, rfl⟩
                case round =>
                  obtain ⟨j, a, q, hjp, hq, hap, rfl, rfl, hfst, rfl⟩ := hrel
                  have HF1 := Go.Lib.hid hfst; clear hfst
                  by_cases hj0 : j = 0
                  · have hq0 : ¬ 0 ≤ q := by omega
                    have hq1 : q < 0 := by omega
                    subst hj0
                    clear hq
                    obtain ⟨b1, o1, x, he, hg1, hx⟩ := HOL.out.at a hap
                    cases he
                    obtain ⟨c0, c1, c2, c3, c4, c5, c6, c7, c8, c9, c10⟩ := op_cells hx
                    have hxl := List.mem_of_getElem? hg1
                    have hxS := HP.out.sub.subset hxl
                    have hxw := HWF.out x hxS
                    obtain ⟨hxn, hxmf⟩ := HTX2.out x hxS
                    obtain ⟨hadd, hnext⟩ := HP.out.next HI.out (by have := HM.out; omega) a x hg1 (HF1.out.fst x hg1)
                    have hwf : ∀ y ∈ again, opWf y := fun y hy => HWF.out y ((HP.out.mem y).1 hy).1
                    have hp := fun W v h => padd_any v again x W h (by omega) hwf hxw (by omega) (by omega)
                    rw [hadd] at hp
                    have hal := insAt_length again x
                    unfold opVal at hp
                    unfold opArr opCells at hp
                    have HPA := Go.Lib.hid hp; clear hp
                    have HNX := Go.Lib.hid hnext; clear hnext
                    clear hx hwf hadd hg1
                    go_wp2_with fail
                    refine (HPA.out _ _ HOA.out).mono ?_; rintro e w3 ⟨v3, rfl, hO3, hb3⟩
                    obtain ⟨A3, cc3, rfl, _⟩ := hO3.len
                    have HO3 := Go.Lib.hid hO3; clear hO3
                    have HOL3 := Go.Lib.hid (HOL.out.below hb3)
                    have HB3 := Go.Lib.hid (bstep HB.out hb3); clear hb3
                    have hac : a ≤ cL := by omega
                    have hac1 : a + 1 ≤ cL := by omega
                    have hgl3 := hgl
                    by_cases ha1 : a + 1 < p
                    · go_wp2_with (first | (at_builtin; refine wpList_append_ops rfl (.tmp 96) (.tmp 99) rfl w3.heap.size (.slice none 0 0) 0 [] rfl (Row.nil _ _ _ _) _ a (left.take a) rfl (HOL3.out.rdTake a (by omega)) (by omega) (by omega) (Nat.le_refl _) ?_; intro v6 V6 hr6 hb6; have HR6 := Go.Lib.hid hr6; have HB6 := Go.Lib.hid hb6; have HZ6 := Go.Lib.hid hb6.size; have HV6 := Go.Lib.hid (HOL3.out.below hb6); clear hr6 hb6) | (at_builtin; refine wpList_append_ops rfl (.tmp 101) (.tmp 105) rfl w3.heap.size v6 (0 + a) ([] ++ left.take a) rfl HR6.out _ _ (left.drop (a + 1)) rfl (HV6.out.rdDrop (a + 1) (by omega) _ (by intro h9; omega) _ (by omega) _) (by omega) (by omega) HZ6.out ?_; intro v8 V8 hr8 hb8; have hops := Opns.of_row hr8; have HO8 := Go.Lib.hid hops; have HB8 := Go.Lib.hid (HB6.out.trans hb8); have HB9 := Go.Lib.hid (bstep HB3.out (HB6.out.trans hb8)); have HO9 := Go.Lib.hid (HO3.out.below (HB6.out.trans hb8)); clear hr8 hb8 hops))
                      obtain ⟨A8, c8, h8, _⟩ := HO8.out.len
                      have hops := HO8.out
                      rw [List.nil_append] at hops h8
                      subst h8
                      have hln : (left.take a ++ left.drop (a + 1)).length = p - 1 := by have := HLN.out; simp; omega
                      have h9 := HO9.out
                      rw [hal, hgl3] at h9
                      refine ⟨⟨left.take a ++ left.drop (a + 1), insAt again x, A8, A3, c8, cc3, rfl, by rw [hal, hgl3], by omega, by rw [hal]; omega, by congr 1; omega, hops, h9, HNX.out, HB9.out⟩, ?_⟩
                      show (left.take a ++ left.drop (a + 1)).length < p
                      omega
                    · obtain rfl : p = a + 1 := by omega
                      go_wp2_with (first | (at_builtin; refine wpList_append_ops rfl (.tmp 96) (.tmp 99) rfl w3.heap.size (.slice none 0 0) 0 [] rfl (Row.nil _ _ _ _) _ a (left.take a) rfl (HOL3.out.rdTake a (by omega)) (by omega) (by omega) (Nat.le_refl _) ?_; intro v6 V6 hr6 hb6; have HR6 := Go.Lib.hid hr6; have HB6 := Go.Lib.hid hb6; have HZ6 := Go.Lib.hid hb6.size; have HV6 := Go.Lib.hid (HOL3.out.below hb6); clear hr6 hb6) | (at_builtin; refine wpList_append_ops rfl (.tmp 101) (.tmp 105) rfl w3.heap.size v6 (0 + a) ([] ++ left.take a) rfl HR6.out _ 0 (left.drop (a + 1)) rfl (rdEnd left (a + 1) (by rw [HLN.out]; exact Nat.le_refl _)) (by omega) (by omega) HZ6.out ?_; intro v8 V8 hr8 hb8; have hops := Opns.of_row hr8; have HO8 := Go.Lib.hid hops; have HB8 := Go.Lib.hid (HB6.out.trans hb8); have HB9 := Go.Lib.hid (bstep HB3.out (HB6.out.trans hb8)); have HO9 := Go.Lib.hid (HO3.out.below (HB6.out.trans hb8)); clear hr8 hb8 hops))
                      obtain ⟨A8, c8, h8, _⟩ := HO8.out.len
                      have hops := HO8.out
                      rw [List.nil_append] at hops h8
                      subst h8
                      have hln : (left.take a ++ left.drop (a + 1)).length = a := by have := HLN.out; simp; omega
                      have h9 := HO9.out
                      rw [hal, hgl3] at h9
                      refine ⟨⟨left.take a ++ left.drop (a + 1), insAt again x, A8, A3, c8, cc3, rfl, by rw [hal, hgl3], by omega, by rw [hal]; omega, by congr 1; omega, hops, h9, HNX.out, HB9.out⟩, ?_⟩
                      show (left.take a ++ left.drop (a + 1)).length < a + 1
                      omega
                  · obtain ⟨y, rfl⟩ : ∃ y, j = y + 1 := ⟨j - 1, by omega⟩
                    obtain rfl : q = (y : Int) := by omega
                    clear hq hj0
                    obtain ⟨b1, o1, x, he, hg1, hx⟩ := HOL.out.at y (by omega)
                    cases he
                    obtain ⟨c0, c1, c2, c3, c4, c5, c6, c7, c8, c9, c10⟩ := op_cells hx
                    have HG1 := Go.Lib.hid hg1; clear hg1 hx
                    by_cases hw : x.stamp.who = z
                    · have hwb : (x.stamp.who == z) = true := by simp [hw]
                      have HW := Go.Lib.hid hw; clear hw
                      go_wp2_with fail
                      exact ⟨⟨y, y, (y : Int) - 1, by omega, rfl, by omega, rfl, rfl, FstAt.hit HG1.out HW.out, by first | rfl | trivial⟩, by simp [intOf] <;> omega⟩
                    · have hwb : (x.stamp.who == z) = false := by simp [hw]
                      have HW := Go.Lib.hid hw; clear hw
                      go_wp2_with fail
                      exact ⟨⟨y, a, (y : Int) - 1, by omega, rfl, by omega, rfl, rfl, HF1.out.miss HG1.out HW.out, by first | rfl | trivial⟩, by simp [intOf] <;> omega⟩
theorem opsOrder_walk (A : Option Addr) (n c : Nat) (l : List Opn) (w : World) (hs : Sl w 11 A n c (l.map opCells)) (_ : c * 104 ≤ 140737488351232) (hl : ∀ y ∈ l, opWf y) (_ : l.length = n) (A2 : Option Addr) (n2 c2 : Nat) (ys : List Int)
    (hs2 : Sl w 1 A2 n2 c2 (ys.map fun z => [.int .i64 z])) (hc2 : c2 * 8 ≤ 140737488351232) (_ : ∀ z ∈ ys, (Lit.int .i64 z).wf = true) (_ : ys.length = n2) :
    Calls Try.prog 10 #[.slice A n c, .slice A2 n2 c2] w fun e w' => e = .returned (.bool true) ∧ Below w.heap.size w w' :=
  opsOrder_go A n c l A2 n2 c2 ys w (Opns.of_sl hs) hl (Ints.of_sl hs2) (by have := hs2.2.1; omega)
end Go.Proofs.Ytmkmahjboocoaaa.W
