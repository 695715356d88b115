/- The reference of filters: Parse. -/
import Derived.Test.YthjdccocfmicdaaDoorGlobR4
namespace Go.Proofs.YthjdccocfmicdaaDoor.W
set_option maxRecDepth 20000
set_option linter.unusedVariables false
open Go.RowKit Go.Proofs Arb

/-- The rule that a line says, of the first j kinds. -/
def fnd (s : List UInt8) : Nat → Option Rul
  | 0 => none
  | j + 1 => match fnd s j with
    | some x => some x
    | none => if saysOf ((j + 1 : Nat) : Int) s then some ⟨((j + 1 : Nat) : Int), s.drop (wordOf ((j + 1 : Nat) : Int)).length⟩ else none
theorem fnd_all (s : List UInt8) : fnd s 3 = ruleAt s := by
  have e1 : (wordOf (1 : Int)).length = 5 := rfl
  have e2 : (wordOf (2 : Int)).length = 8 := rfl
  have e3 : (wordOf (3 : Int)).length = 5 := rfl
  unfold ruleAt
  simp only [fnd, Nat.zero_add, Nat.reduceAdd]
  show (match (match (if saysOf 1 s then some (⟨1, s.drop (wordOf 1).length⟩ : Rul) else none) with | some x => some x | none => if saysOf 2 s then some (⟨2, s.drop (wordOf 2).length⟩ : Rul) else none) with | some x => some x | none => if saysOf 3 s then some (⟨3, s.drop (wordOf 3).length⟩ : Rul) else none) = _
  rw [e1, e2, e3]
  cases saysOf 1 s <;> cases saysOf 2 s <;> cases saysOf 3 s <;> rfl
theorem rulesAt_snoc : ∀ (l : List (List UInt8)) (s : List UInt8), rulesAt (l ++ [s]) = match rulesAt l, ruleAt s with
    | some r, some x => some (r ++ [x])
    | _, _ => none
  | [], s => by
    show (match ruleAt s with | none => none | some x => (rulesAt []).map (x :: ·)) = _
    cases ruleAt s <;> rfl
  | a :: l, s => by
    rw [List.cons_append, rulesAt, rulesAt_snoc l s, rulesAt]
    cases ruleAt a with
    | none => rfl
    | some y => cases rulesAt l <;> cases ruleAt s <;> rfl
theorem rulesAt_none {l m : List (List UInt8)} {s : List UInt8} (h : ruleAt s = none) : rulesAt (l ++ s :: m) = none := by
  induction l with
  | nil => simp [rulesAt, h]
  | cons a l ih =>
    rw [List.cons_append, rulesAt, ih]
    cases ruleAt a <;> rfl

set_option maxHeartbeats 8000000 in
theorem rparse_any (t : List UInt8) (w : World) (hl : t.length ≤ 100000) :
    Calls Tryd.prog 13 #[.string (BS t)] w fun e w' => ∃ v, e = .returned (.tuple #[v, .int .i64 (parseOf t).2]) ∧ Ruls w' v (parseOf t).1 ∧ Below w.heap.size w w' := by
  obtain ⟨r, hr⟩ : ∃ r, parseOf t = r := ⟨_, rfl⟩
  rw [hr]
  have hsz : (BS t).size = t.length := BS_size t
  have q0 := bs_eq t []
  by_cases h0 : t = []
  · have hres : r = ([], 0) := by rw [← hr, h0]; rfl
    subst hres
    rw [decide_eq_true h0] at q0
    have q0' : ((BS t).toList == []) = true := by rw [BS_beq, decide_eq_true h0]
    clear hr
    have h00 : t.length = 0 := by rw [h0]; rfl
    subst h0
    go_enter Tryd.func13, Tryd.ntmps13
    go_wp2_with fail
    go_ret2
    exact ⟨_, rfl, Ruls.nil _, Below.refl _ _⟩
  · have q0' : ((BS t).toList == []) = false := by rw [BS_beq, decide_eq_false h0]
    have hpos : 0 < t.length := by
      cases t with
      | nil => exact absurd rfl h0
      | cons _ _ => simp
    obtain ⟨n, hn⟩ : ∃ n, t.length - 1 = n := ⟨_, rfl⟩
    have hltn : n < (BS t).size := by omega
    have hni : (n : Int) < (t.length : Int) := by omega
    have hni2 : (n : Int) ≤ (t.length : Int) := by omega
    have w1 : IntKind.i64.wrap ((t.length : Int) - 1) = (n : Int) := by rw [IntKind.wrap_i64]; omega
    have hld : t.getLast? = some (t[n]'(by omega)) := by
      rw [List.getLast?_eq_getElem?, hn, List.getElem?_eq_getElem (by omega)]
    unfold parseOf at hr
    rw [if_neg h0, hld] at hr
    by_cases h10 : t[n]'(by omega) = 10
    · have q1 : ((((BS t)[n]'hltn).toNat : Int) == 10) = true := by
        rw [beq_iff_eq, BS_get]
        exact congrArg (fun b : UInt8 => (b.toNat : Int)) h10
      have q1' : ((((BS t)[n]'hltn).toNat : Int) != 10) = false := by
        unfold bne; rw [q1]; rfl
      rw [if_neg (by rw [h10]; simp)] at hr
      have hdl : t.dropLast = t.take n := by rw [List.dropLast_eq_take, hn]
      have hex : (BS t).extract 0 n = BS t.dropLast := by rw [BS_extract, hdl]; simp
      have hdn : t.dropLast.length ≤ 100000 := by simp; omega
      have hsp := fun W => rsplit_any 10 t.dropLast W hdn
      have hpl : ∀ x ∈ spl 10 t.dropLast, x.length ≤ 100000 := fun x hx => Nat.le_trans (part_len x hx) hdn
      obtain ⟨D, hD⟩ : ∃ D, t.dropLast = D := ⟨_, rfl⟩
      rw [hD] at hr hex hsp hpl
      obtain ⟨L, hL⟩ : ∃ L, spl 10 D = L := ⟨_, rfl⟩
      rw [hL] at hr hsp hpl
      have HSP := Go.Lib.hid hsp; have HPL := Go.Lib.hid hpl; have HR := Go.Lib.hid hr
      clear hsp hpl hr hL hD hdl hdn h10 hld h0 hn
      go_enter Tryd.func13, Tryd.ntmps13
      go_wp2_with fail
      refine (HSP.out _).mono ?_; rintro e w2 ⟨v, rfl, hT, hb2⟩
      have hT' := hT
      obtain ⟨A, m, c, rfl, hm, hc, -⟩ := hT'
      have HT := Go.Lib.hid hT; have HM := Go.Lib.hid hm; have HB2 := Go.Lib.hid hb2
      clear hT hm hb2
      by_cases h16 : 16 < m
      · have h16' : (16 : Int) < (m : Int) := by omega
        have hres : r = ([], 40) := by rw [← HR.out, HM.out, if_pos h16]
        subst hres
        go_wp2_with fail
        go_ret2
        exact ⟨_, rfl, Ruls.nil _, HB2.out⟩
      · have h16' : ¬ ((16 : Int) < (m : Int)) := by omega
        have hra : (match rulesAt L with | none => (([], 30) : List Rul × Int) | some l => (l, 0)) = r := by
          rw [← HR.out, HM.out, if_neg h16]; rfl
        have HRA := Go.Lib.hid hra
        clear hra HR
        go_wp2_with fail
--LOOP
        go_loopw [5, 6, 7, 8, 9, 10, 28, 29, 30, 31, 32, 33, 34, 35, 36, 37, 38, 39, 40, 41, 42, 43, 44, 45, 46, 47, 48, 49, 50, 51, 52, 53, 54, 55, 56, 57, 58, 59, 60, 61, 62, 63, 64, 65, 66, 67, 68, 69, 70, 71, 72, 73, 74, 75, 76, 77, 78, 79] (fun vo i _ _ _ _ _ _ _ _ _ _ _ _ _ _ _ _ _ _ _ _ _ _ _ _ _ _ _ _ _ _ _ _ _ _ _ _ _ _ _ _ _ _ _ _ _ _ _ _ _ _ _ _ _ _ _ _ wr => ∃ (k : Nat) (O : List Rul), k ≤ m ∧ i = .int .i64 (k : Int) ∧ rulesAt (L.take k) = some O ∧ O.length ≤ k ∧ Row wr w2.heap.size 37 2 vo O.length (rlsCells O) ∧ Below w2.heap.size w2 wr) (fun _ i _ _ _ _ _ _ _ _ _ _ _ _ _ _ _ _ _ _ _ _ _ _ _ _ _ _ _ _ _ _ _ _ _ _ _ _ _ _ _ _ _ _ _ _ _ _ _ _ _ _ _ _ _ _ _ _ _ => m - (intOf i).toNat)
        case atStart => exact ⟨0, [], by omega, rfl, rfl, Nat.le_refl _, Row.nil _ _ _ _, Below.refl _ _⟩
        case round =>
          obtain ⟨k, O, hk, rfl, hRO, hOk, hrow, hb⟩ := hrel
          by_cases hkm : k < m
          · have hki : (k : Int) < (m : Int) := by omega
            obtain ⟨g, o, s, rfl, hs, hcell0⟩ := HT.out.at k hkm
            have hsl := HPL.out s (List.mem_of_getElem? hs)
            have hsz2 : (BS s).size = s.length := BS_size s
            have hcellW : ∀ W, Below w2.heap.size w2 W → W.cell? ⟨g, o + k, none⟩ = some (.string (BS s)) := fun W hW => (hW.cell (p := ⟨g, o + k, none⟩) (World.block_lt_of_cell? w2 _ hcell0)).trans hcell0
            have HS := Go.Lib.hid hs; have HRO := Go.Lib.hid hRO; have HC := Go.Lib.hid hcellW; have HROW := Go.Lib.hid hrow; have HB := Go.Lib.hid hb
            clear hs hRO hcell0 hcellW hrow hb
            go_wp2_with fail
            go_loopw [5, 7, 8, 9, 10, 34, 35, 36, 37, 38, 39, 40, 41, 42, 43, 44, 45, 46, 47, 48, 49, 50, 51, 52, 53, 54, 55, 56, 57, 58, 59, 60, 61, 62, 63, 64, 65, 66, 67, 68, 69, 70, 71, 72, 73, 74, 75, 76, 77] (fun vo f kk _ _ _ _ _ _ _ _ _ _ _ _ _ _ _ _ _ _ _ _ _ _ _ _ _ _ _ _ _ _ _ _ _ _ _ _ _ _ _ _ _ _ _ _ _ _ wr => ∃ j : Nat, j ≤ 3 ∧ kk = .int .i64 ((j : Int) + 1) ∧ f = .bool (fnd s j).isSome ∧ Row wr w2.heap.size 37 2 vo (O.length + (fnd s j).toList.length) (rlsCells (O ++ (fnd s j).toList)) ∧ Below w2.heap.size w2 wr) (fun _ _ kk _ _ _ _ _ _ _ _ _ _ _ _ _ _ _ _ _ _ _ _ _ _ _ _ _ _ _ _ _ _ _ _ _ _ _ _ _ _ _ _ _ _ _ _ _ _ _ => 4 - (intOf kk).toNat)
            case atStart => exact ⟨0, by omega, rfl, rfl, by simpa [fnd] using HROW.out, HB.out⟩
            case round =>
              obtain ⟨j, hj, rfl, rfl, hrow, hb⟩ := hrel
              by_cases hj3 : j < 3
              · have hji : ((j : Int) + 1) ≤ 3 := by omega
                have hw1 : IntKind.i64.wrap ((j : Int) + 1 + 1) = (j : Int) + 1 + 1 := by rw [IntKind.wrap_i64]; omega
                have hwd := fun W => rword_any ((j : Int) + 1) W
                have hwl := word_len ((j : Int) + 1)
                obtain ⟨WD, hWD⟩ : ∃ O, wordOf ((j : Int) + 1) = O := ⟨_, rfl⟩
                rw [hWD] at hwd hwl
                have z1 : (BS WD).size = WD.length := BS_size _
                have hfn : fnd s (j + 1) = match fnd s j with
                    | some x => some x
                    | none => if decide (WD.length < s.length ∧ s.take WD.length = WD) && ruleOk ⟨(j : Int) + 1, s.drop WD.length⟩ then some ⟨(j : Int) + 1, s.drop WD.length⟩ else none := by
                  rw [← hWD]; rfl
                have HWD := Go.Lib.hid hwd; have HFN := Go.Lib.hid hfn; have HROW2 := Go.Lib.hid hrow; have HB3 := Go.Lib.hid hb
                clear hwd hfn hrow hb hWD
                obtain ⟨b, hb⟩ : ∃ b, (fnd s j).isSome = b := ⟨_, rfl⟩
                rw [hb]
                have HBB := Go.Lib.hid hb
                clear hb
                go_wp2_with fail
                refine (HWD.out _).mono ?_; rintro e w3 ⟨rfl, hb3⟩
                have hb4 := HB3.out.trans (hb3.mono HB3.out.size)
                have hcell := HC.out w3 hb4
                have hrow3 := HROW2.out.below hb3
                have HB4 := Go.Lib.hid hb4; have HROW3 := Go.Lib.hid hrow3
                clear hb3 hb4 hrow3
                by_cases c1 : WD.length < s.length
                · have c1' : (WD.length : Int) < (s.length : Int) := by omega
                  have c1'' : (WD.length : Int) ≤ (s.length : Int) := by omega
                  have hex : (BS s).extract 0 WD.length = BS (s.take WD.length) := by rw [BS_extract]; simp
                  have q2 := bs_eq (s.take WD.length) WD
                  obtain ⟨TK, hTK⟩ : ∃ T, s.take WD.length = T := ⟨_, rfl⟩
                  rw [hTK] at hex q2
                  by_cases c2 : TK = WD
                  · rw [decide_eq_true c2] at q2
                    have hex2 : (BS s).extract WD.length s.length = BS (s.drop WD.length) := by rw [← hsz2]; exact BS_tail s _
                    have hfn2 := HFN.out
                    rw [decide_eq_true ⟨c1, hTK.trans c2⟩, Bool.true_and] at hfn2
                    have hrl : (s.drop WD.length).length ≤ 100000 := by rw [List.length_drop]; omega
                    obtain ⟨RT, hRT⟩ : ∃ T, s.drop WD.length = T := ⟨_, rfl⟩
                    rw [hRT] at hex2 hfn2 hrl
                    have hrt := fun W => rright9_any ⟨(j : Int) + 1, RT⟩ W hrl
                    obtain ⟨d, hd⟩ : ∃ d, ruleOk ⟨(j : Int) + 1, RT⟩ = d := ⟨_, rfl⟩
                    rw [hd] at hrt hfn2
                    obtain ⟨W4, hW4⟩ : ∃ W, w3.alloc (.cells #[.int .i64 ((j : Int) + 1), .string (BS RT)] 37) = W := ⟨_, rfl⟩
                    have hb4 : Below w2.heap.size w2 W4 := by rw [← hW4]; exact HB4.out.alloc HB4.out.size _
                    have hr4 : Row W4 w2.heap.size 37 2 u5 (O.length + (fnd s j).toList.length) (rlsCells (O ++ (fnd s j).toList)) := by rw [← hW4]; exact HROW3.out.alloc _
                    have hx4 : RulAt W4 w3.heap.size 0 ⟨(j : Int) + 1, RT⟩ := by rw [← hW4]; exact RulAt.new _ _ _
                    have HRT := Go.Lib.hid hrt; have HFN2 := Go.Lib.hid hfn2; have HW4 := Go.Lib.hid hW4; have HB5 := Go.Lib.hid hb4; have HR4 := Go.Lib.hid hr4; have HX4 := Go.Lib.hid hx4
                    clear hrt hfn2 hW4 hb4 hr4 hx4 hd hRT hTK c2
                    go_wp2_with fail
                    rw [HW4.out]
                    refine (HRT.out _).mono ?_; rintro e w5 ⟨rfl, hb5⟩
                    have hx5 := HX4.out.below hb5
                    obtain ⟨p0, p1⟩ := rl_cells0 hx5
                    have hrow5 := HR4.out.below hb5
                    have HB6 := Go.Lib.hid (HB5.out.trans (hb5.mono HB5.out.size)); have HROW5 := Go.Lib.hid hrow5
                    clear hb5 hx5 hrow5 hcell
                    cases b with
                    | true =>
                      obtain ⟨y, hy⟩ := Option.isSome_iff_exists.1 HBB.out
                      have hnx : fnd s (j + 1) = fnd s j := by rw [HFN2.out, hy]
                      have HNX := Go.Lib.hid hnx
                      clear hnx hy
                      cases d
                      all_goals (
                        go_wp2_with fail
                        exact ⟨⟨j + 1, by omega, by simp, by rw [HNX.out, HBB.out], by rw [HNX.out]; exact HROW5.out, HB6.out⟩, by simp [intOf]; omega⟩)
                    | false =>
                      have hno : fnd s j = none := by
                        have := HBB.out
                        cases h : fnd s j with
                        | none => rfl
                        | some _ => rw [h] at this; cases this
                      have hr6 := HROW5.out
                      rw [hno] at hr6
                      have hnx := HFN2.out
                      rw [hno] at hnx
                      simp only [Option.toList_none, List.append_nil, List.length_nil, Nat.add_zero] at hr6
                      cases d with
                      | false =>
                        have HR6 := Go.Lib.hid hr6
                        have hnx2 : fnd s (j + 1) = none := hnx
                        have HNX := Go.Lib.hid hnx2
                        clear hnx hnx2 hr6 hno
                        go_wp2_with fail
                        exact ⟨⟨j + 1, by omega, by simp, by rw [HNX.out]; rfl, by rw [HNX.out]; simpa using HR6.out, HB6.out⟩, by simp [intOf]; omega⟩
                      | true =>
                        have hnx2 : fnd s (j + 1) = some ⟨(j : Int) + 1, RT⟩ := hnx
                        have HR6 := Go.Lib.hid hr6; have HNX := Go.Lib.hid hnx2
                        clear hnx hnx2 hr6 hno
                        go_wp2_with (at_builtin; refine wpList_append_rl rfl (.tmp 74) (.tmp 76) rfl w2.heap.size u5 O.length O rfl HR6.out ⟨(j : Int) + 1, RT⟩ _ rfl rfl (by omega) HB6.out.size ?_; intro v6 w6 hr7 hb7; have HR7 := Go.Lib.hid hr7; have HB7 := Go.Lib.hid (HB6.out.trans hb7); clear hr7 hb7)
                        exact ⟨⟨j + 1, by omega, by simp, by rw [HNX.out]; rfl, by rw [HNX.out]; exact HR7.out, HB7.out⟩, by simp [intOf]; omega⟩
                  · rw [decide_eq_false c2] at q2
                    have hnx : fnd s (j + 1) = fnd s j := by
                      rw [HFN.out, decide_eq_false (fun h => c2 (hTK.symm.trans h.2)), Bool.false_and]
                      cases fnd s j <;> rfl
                    have HNX := Go.Lib.hid hnx
                    clear hnx c2 hTK
                    go_wp2_with fail
                    exact ⟨⟨j + 1, by omega, by simp, by rw [HNX.out, HBB.out], by rw [HNX.out]; exact HROW3.out, HB4.out⟩, by simp [intOf]; omega⟩
                · have c1' : ¬ (WD.length : Int) < (s.length : Int) := by omega
                  have hnx : fnd s (j + 1) = fnd s j := by
                    rw [HFN.out, decide_eq_false (fun h => c1 h.1), Bool.false_and]
                    cases fnd s j <;> rfl
                  have HNX := Go.Lib.hid hnx
                  clear hnx
                  go_wp2_with fail
                  exact ⟨⟨j + 1, by omega, by simp, by rw [HNX.out, HBB.out], by rw [HNX.out]; exact HROW3.out, HB4.out⟩, by simp [intOf]; omega⟩
              · obtain rfl : j = 3 := by omega
                rw [fnd_all] at hrow ⊢
                cases hra : ruleAt s with
                | none =>
                  rw [hra] at hrow
                  have hL : ∃ M, L = L.take k ++ s :: M := ⟨L.drop (k + 1), by
                    obtain ⟨hlt, he⟩ := List.getElem?_eq_some_iff.1 HS.out
                    have := (List.take_append_drop k L).symm
                    rwa [List.drop_eq_getElem_cons hlt, he] at this⟩
                  obtain ⟨M, hM⟩ := hL
                  have hres : r = ([], 30) := by
                    rw [← HRA.out, hM, rulesAt_none hra]
                  subst hres
                  have HB8 := Go.Lib.hid hb
                  clear hrow hM hra hb
                  go_wp2_with fail
                  go_ret2
                  exact ⟨_, rfl, Ruls.nil _, bstep HB2.out HB8.out⟩
                | some y =>
                  rw [hra] at hrow
                  have hnext : rulesAt (L.take (k + 1)) = some (O ++ [y]) := by
                    rw [List.take_add_one, HS.out]
                    show rulesAt (L.take k ++ [s]) = _
                    rw [rulesAt_snoc, HRO.out, hra]
                  have HNX := Go.Lib.hid hnext; have HB8 := Go.Lib.hid hb; have HR8 := Go.Lib.hid hrow
                  clear hnext hrow hra hb
                  go_wp2_with fail
                  exact ⟨⟨k + 1, O ++ [y], by omega, by simp, HNX.out, by simp; omega, by simpa using HR8.out, HB8.out⟩, by simp [intOf]; omega⟩
          · obtain rfl : k = m := by omega
            have htk : L.take k = L := List.take_of_length_le (by have := HM.out; omega)
            rw [htk] at hRO
            have hres : r = (O, 0) := by rw [← HRA.out, hRO]
            subst hres
            have HB8 := Go.Lib.hid hb; have HR8 := Go.Lib.hid hrow
            clear hRO htk hb hrow
            go_wp2_with fail
            go_ret2
            exact ⟨_, rfl, Ruls.of_row HR8.out, bstep HB2.out HB8.out⟩
    · have q1 : ((((BS t)[n]'hltn).toNat : Int) == 10) = false := by
        rw [beq_eq_false_iff_ne, BS_get]
        intro e
        exact h10 (UInt8.toNat_inj.1 (by show (t[n]'(by omega)).toNat = 10; omega))
      have hres : r = ([], 30) := by rw [← hr, if_pos]; simpa using h10
      subst hres
      clear hr h10 hld h0
      go_enter Tryd.func13, Tryd.ntmps13
      go_wp2_with fail
      go_ret2
      exact ⟨_, rfl, Ruls.nil _, Below.refl _ _⟩
end Go.Proofs.YthjdccocfmicdaaDoor.W
