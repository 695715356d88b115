/- The walk of the law on names that are given, no two the same. -/
import Derived.Test.YtaoepalafefogaaDoorNamesL
import Derived.Test.YtaoepalafefogaaDoorSets
import Derived.Test.YtaoepalafefogaaDoorCalm
namespace Go.Proofs.YtaoepalafefogaaDoor.W
set_option linter.unusedVariables false
open Go.RowKit Go.Proofs Arb

theorem Strs.rows {w : World} {A : Option Addr} {n c : Nat} {ss : List (List UInt8)} (h : Strs w (.slice A n c) ss) (h0 : 0 < ss.length) :
    ∃ b off, A = some ⟨b, off, none⟩ ∧ ∀ j (hj : j < ss.length), w.cell? ⟨b, off + j, none⟩ = some (.string (BS ss[j])) := by
  obtain ⟨A', cc, hA', _, hr⟩ := h.open
  cases hA'
  exact hr h0

set_option maxHeartbeats 4000000 in
theorem namesApart_walk (A : Option Addr) (n c : Nat) (ss : List (List UInt8)) (w : World) (hP : PMet w) (hs : Sl w 1 A n c (ss.map fun l => [.string (BS l)])) (_ : c * 16 ≤ 140737488351232) (hw : ∀ l ∈ ss, l.length ≤ 140737488351232) (hn : ss.length = n) :
    Calls Tryd.prog 7 #[.slice A n c] w fun e w' => e = .returned (.bool true) ∧ Below w.heap.size w w' := by
  have HPM := Go.Lib.hid hP; clear hP
  have hc : n ≤ c := hs.2.1
  have hv := Strs.of_sl hs
  have hf := fewS_any (.slice A n c) ss w hv (by omega) hw
  have HV := Go.Lib.hid hv; have HW := Go.Lib.hid hw; have HN := Go.Lib.hid hn; clear hv hs hw hn
  cases hfb : fewS ss with
  | false =>
    rw [hfb] at hf
    have HF := Go.Lib.hid hf; clear hf hfb
    go_enter Tryd.func7, Tryd.ntmps7
    go_wp2_with fail
    refine HF.out.mono ?_; rintro e w1 ⟨rfl, hw1⟩; rw [hw1]
    go_wp2_with fail
    refine (awake_any _ HPM.out).mono ?_; rintro e w1 ⟨rfl, hb1⟩
    have HB1 := Go.Lib.hid hb1; clear hb1
    go_wp2_with fail
    go_ret
    exact ⟨rfl, HB1.out⟩
  | true =>
    rw [hfb] at hf
    have h200 : ss.length ≤ 200 := (of_decide_eq_true hfb).1
    have hp := fun w h (hP : PMet w) => pnuniq_any (.slice A n c) ss w h (by omega) HW.out hP
    obtain ⟨x, hx⟩ : ∃ x, (uniqRes ss).1 = x := ⟨_, rfl⟩
    obtain ⟨y, hy⟩ : ∃ y, (uniqRes ss).2 = y := ⟨_, rfl⟩
    rw [hx, hy] at hp
    have hbad := uniq_bad (ss := ss) (by omega)
    have hgood := uniq_good (ss := ss) (by omega)
    have HF := Go.Lib.hid hf; have HP := Go.Lib.hid hp; have HX := Go.Lib.hid hx; have HY := Go.Lib.hid hy
    have HUB := Go.Lib.hid hbad; have HUG := Go.Lib.hid hgood
    clear hf hfb hp hx hy hbad hgood
    have hmm := @run_makeMap Tryd.prog
    go_enter Tryd.func7, Tryd.ntmps7
    go_wp2_with fail
    refine HF.out.mono ?_; rintro e w1 ⟨rfl, hw1⟩; rw [hw1]
    go_wp2_with fail
    refine (HP.out _ HV.out HPM.out).mono ?_; rintro e w1 ⟨v1, rfl, hs1, hb1⟩
    obtain ⟨A2, c2, rfl, hc2, _⟩ := hs1.open
    obtain ⟨m, hm⟩ : ∃ m, x.length = m := ⟨_, rfl⟩
    have HS1 := Go.Lib.hid hs1; have HB1 := Go.Lib.hid hb1; clear hs1 hb1
    rw [hm] at HS1 hc2 ⊢
    have HM := Go.Lib.hid hm; clear hm
    go_wp2_with fail
    go_loopw [5] (fun i wr => ∃ k : Nat, k ≤ n ∧ i = .int .i64 (k : Int) ∧ (∀ j (hj : j < ss.length), j < k → nmOk ss[j] = true) ∧ Strs wr (.slice A2 m c2) x ∧ Below w.heap.size w wr) (fun i _ => n - (intOf i).toNat)
    case atStart => exact ⟨0, by omega, rfl, fun j _ h => by omega, HS1.out, HB1.out⟩
    case round =>
      obtain ⟨k, hk, rfl, hall, hsx, hbel⟩ := hrel
      have HA := Go.Lib.hid hall; have HSX := Go.Lib.hid hsx; have HB := Go.Lib.hid hbel; clear hall hsx hbel
      by_cases hkn : k < n
      · have hkl : k < ss.length := by have := HN.out; omega
        obtain ⟨b, off, rfl, hz⟩ := (HV.out.below HB.out).rows (by omega)
        have hcell := hz k hkl
        have hki : (k : Int) < (n : Int) := by omega
        have hR := fun w => pnright_any ss[k] w (HW.out _ (List.getElem_mem hkl))
        unfold nmRight at hR
        cases hok : nmOk ss[k] with
        | true =>
          rw [hok] at hR
          have hR' : ∀ w, Calls Tryd.prog 9 #[.string (BS ss[k])] w fun e w' => e = .returned (.int .i64 0) ∧ Below w.heap.size w w' := hR
          have HR' := Go.Lib.hid hR'; have HOK := Go.Lib.hid hok
          clear hR hR' hz hok
          go_wp2_with fail
          refine (HR'.out _).mono ?_; rintro e w2 ⟨rfl, hb2⟩
          have HB2 := Go.Lib.hid hb2; clear hb2
          go_wp2_with fail
          refine ⟨⟨k + 1, by omega, by simp, fun j hj hjk => ?_, HSX.out.below HB2.out, bstep HB.out HB2.out⟩, by simp [intOf]; omega⟩
          by_cases e : j = k
          · subst e; exact HOK.out
          · exact HA.out j hj (by omega)
        | false =>
          rw [hok] at hR
          have hR' : ∀ w, Calls Tryd.prog 9 #[.string (BS ss[k])] w fun e w' => e = .returned (.int .i64 23) ∧ Below w.heap.size w w' := hR
          have HR' := Go.Lib.hid hR'
          have hu := HUB.out (by rw [List.all_eq_false]; exact ⟨ss[k], List.getElem_mem hkl, by rw [hok]; simp⟩)
          have hx0 : x = [] := by rw [← HX.out, hu]
          obtain rfl : y = 23 := by rw [← HY.out, hu]
          obtain rfl : m = 0 := by rw [← HM.out, hx0]; rfl
          clear hR hR' hz hok hu hx0
          go_wp2_with fail
          refine (HR'.out _).mono ?_; rintro e w2 ⟨rfl, hb2⟩
          have HB2 := Go.Lib.hid (bstep HB.out hb2); clear hb2
          go_wp2_with fail
          refine (awake_any _ (HPM.out.below HB2.out)).mono ?_; rintro e w3 ⟨rfl, hb3⟩
          have HB3 := Go.Lib.hid (bstep HB2.out hb3); clear hb3
          go_wp2_with fail
          go_ret
          exact ⟨rfl, HB3.out⟩
      · obtain rfl : k = n := by omega
        have hallok : ∀ x ∈ ss, nmOk x = true := fun x hx => by
          obtain ⟨j, hj, rfl⟩ := List.getElem_of_mem hx
          exact HA.out j hj (by have := HN.out; omega)
        have hu := HUG.out (by rw [List.all_eq_true]; exact hallok)
        have hx0 : x = (outAt ss ss.length).1 := by rw [← HX.out, hu]
        obtain rfl : y = 0 := by rw [← HY.out, hu]
        obtain rfl : m = k := by rw [← HM.out, hx0, (outAt_len ss ss.length (Nat.le_refl _)).1]; exact HN.out
        have HX0 := Go.Lib.hid hx0; have HOK := Go.Lib.hid hallok
        clear hu hallok HA HUB HUG hx0 HF HP
        go_wp2_with fail
        obtain ⟨W2, rfl⟩ : ∃ W2, W2 = wr := ⟨wr, rfl⟩
        have hu4 : Tryd.prog.underlying 4 = some .bool := by kernel_rfl
        have hu9 : Tryd.prog.underlying 9 = some .string := by kernel_rfl
        have hu36 : Tryd.prog.underlying 36 = some (.map 9 4) := by kernel_rfl
        have hzb : ∀ w, (zeroValue 4).run Tryd.prog w = .ok (.bool false) w := fun w => by kernel_rfl
        have HU4 := Go.Lib.hid hu4; have HU9 := Go.Lib.hid hu9; have HU36 := Go.Lib.hid hu36; have HZB := Go.Lib.hid hzb; clear hu4 hu9 hu36 hzb
        go_loopw [8] (fun i wr => ∃ q : Nat, q ≤ m ∧ i = .int .i64 (q : Int) ∧ Below W2.heap.size W2 wr ∧ SetIs wr Tryd.prog 9 4 W2.heap.size q (outAt ss q).1 ∧ SetIs wr Tryd.prog 9 4 (W2.heap.size + 1) q (ss.take q)) (fun i _ => m - (intOf i).toNat)
        case atStart =>
          refine ⟨0, by omega, rfl, ((Below.refl _ _).alloc (Nat.le_refl _) _).alloc (by simp) _, ?_, ?_⟩
          · exact (SetIs.made W2 _ _ _).below ((Below.refl _ _).alloc (Nat.le_refl _) _)
          · have := SetIs.made (W2.alloc (.map #[] 0)) Tryd.prog 9 4
            rw [World.size_alloc] at this
            exact this
        case round =>
          obtain ⟨q, hq, rfl, hbw, hs1, hs2⟩ := hrel
          have HBW := Go.Lib.hid hbw; have HT1 := Go.Lib.hid hs1; have HT2 := Go.Lib.hid hs2; clear hbw hs1 hs2
          by_cases hqm : q < m
          · have hql : q < ss.length := by have := HN.out; omega
            have hqi : (q : Int) < (m : Int) := by omega
            obtain ⟨y, hy1, hy2, hy3, hy4⟩ := outAt_step ss q hql (by omega) HOK.out
            have hpre := outAt_prefix ss (ss.length - (q + 1)) (q + 1) (by omega)
            rw [show q + 1 + (ss.length - (q + 1)) = ss.length by omega, ← HX0.out, hy1] at hpre
            have hlq := (outAt_len ss q (by omega)).1
            have hxq : ∃ h : q < x.length, x[q] = y := by
              have hl : q < x.length := by have := HM.out; omega
              refine ⟨hl, ?_⟩
              have h2 := congrArg (fun l => l[q]?) hpre
              simp only [List.getElem?_take] at h2
              rw [if_pos (by omega), List.getElem?_eq_getElem hl, List.getElem?_append_right (by omega), hlq, Nat.sub_self] at h2
              simpa using h2
            obtain ⟨hxl, hxy⟩ := hxq
            obtain ⟨b1, off1, rfl, hz1⟩ := (HV.out.below HB.out).rows (by omega)
            obtain ⟨b2, off2, rfl, hz2⟩ := HSX.out.rows (by omega)
            have hc1w := hz1 q hql
            have hc2w := hz2 q hxl
            rw [hxy] at hc2w
            obtain ⟨s, hs⟩ : ∃ s, ss[q] = s := ⟨_, rfl⟩
            have hsl := HW.out _ (List.getElem_mem hql)
            rw [hs] at hc1w
            have hlw1 := World.block_lt_of_cell? _ _ hc1w
            have hlw2 := World.block_lt_of_cell? _ _ hc2w
            have hc1 := (HBW.out.cell hlw1).trans hc1w
            have hc2 := (HBW.out.cell hlw2).trans hc2w
            have hyl : y.length ≤ 24 := ((ok_spec _).1 hy3).1.2.1
            rw [hs] at hsl hy4
            have hR := fun w => pnright_any y w (by omega)
            unfold nmRight at hR
            rw [hy3] at hR
            have hR' : ∀ w, Calls Tryd.prog 9 #[.string (BS y)] w fun e w' => e = .returned (.int .i64 0) ∧ Below w.heap.size w w' := hR
            have HR' := Go.Lib.hid hR'
            have hl1 : ∀ X : BW wr.heap.size wr, (Instr.lookup 36 (.map (some W2.heap.size)) (.string (BS y)) false).run Tryd.prog X.w = .ok (.bool false) X.w := by
              intro X
              have := (HT1.out.below X.2).look HU9.out HU36.out HU4.out (HZB.out _) y (by unfold maxLen; omega)
              rw [decide_eq_false hy2] at this
              exact this
            obtain ⟨g, hg⟩ : ∃ g, decide (s ∈ ss.take q) = g := ⟨_, rfl⟩
            have hl2 : ∀ X : BW wr.heap.size wr, (Instr.lookup 36 (.map (some (W2.heap.size + 1))) (.string (BS s)) false).run Tryd.prog X.w = .ok (.bool g) X.w := by
              intro X
              have := (HT2.out.below X.2).look HU9.out HU36.out HU4.out (HZB.out _) s (by unfold maxLen; omega)
              rw [hg] at this
              exact this
            have hlt1 := World.block_lt_of_cell? _ _ hc1
            have hlt2 := World.block_lt_of_cell? _ _ hc2
            have q1 := fun X : BW wr.heap.size wr => X.cell hc1 hlt1
            have q2 := fun X : BW wr.heap.size wr => X.cell hc2 hlt2
            have hne := BW.ne wr.heap.size wr
            have hyst : g = true ∨ (g = false ∧ ((BS y).toList == (BS s).toList) = true) := by
              cases g with
              | true => exact .inl rfl
              | false =>
                refine .inr ⟨rfl, ?_⟩
                rw [BS_toList]
                rcases hy4 with h | h
                · rw [decide_eq_false_iff_not] at hg; exact absurd h hg
                · exact decide_eq_true h
            have HY1 := Go.Lib.hid hy1; have HS := Go.Lib.hid hs; have HLQ := Go.Lib.hid hlq
            clear hy1 hs hlq hR hR' hz1 hz2 hxy hpre hg hy2 hy3 hy4
            go_wp2_with fail
            have HHS := Go.Lib.hid hl1
            rcases hyst with rfl | ⟨rfl, hyst⟩
            all_goals
              refine wp_region_calm wr.heap.size wr (Below.refl _ _) (by kernel_rfl) (by kernel_rfl) ?_
              repeat (go_big_quiet_step ((go_at_call 9; exact bw_of (Nat.le_refl _) (HR'.out _))))
              refine wpQuiet_nil ?_
              intro _ hw'
              obtain ⟨x9, rfl⟩ := hw'
              have e1 := q1 x9
              have e2 := q2 x9
              have hT1 := HT1.out.below x9.2
              have hT2 := HT2.out.below x9.2
              have hlow : Below W2.heap.size W2 x9.w := bstep HBW.out x9.2
              clear q1 q2 hl1 hl2 hmm HHS
              go_wp2_with (first
                | (refine wpList_set_add hT1 HU9.out HU36.out HU4.out rfl _ _ _ rfl rfl (by unfold maxLen; omega) y (by unfold maxLen; omega) rfl rfl ?_
                   intro w3 hT3 hg3
                   have hb3 : Below W2.heap.size W2 w3 := hlow.trans (below_grown hg3 (Nat.le_refl _) hlow.size)
                   have hT4 := hT2.kept hg3 (by simp)
                   have hc3 := (hb3.cell hlw1).trans hc1w)
                | (refine wpList_set_add hT4 HU9.out HU36.out HU4.out rfl _ _ _ rfl rfl (by unfold maxLen; omega) s (by unfold maxLen; omega) rfl rfl ?_
                   intro w4 hT5 hg4))
              refine ⟨⟨q + 1, by omega, by simp, hb3.trans (below_grown hg4 (Nat.le_succ _) hb3.size), ?_, ?_⟩, by simp [intOf]; omega⟩
              · rw [HY1.out]; exact hT3.kept hg4 (by simp)
              · rw [List.take_succ_eq_append_getElem hql, HS.out]; exact hT5
          · obtain rfl : q = m := by omega
            clear hmm
            go_wp2_with fail
            refine (awake_any _ (HPM.out.below (bstep HB.out HBW.out))).mono ?_; rintro e w3 ⟨rfl, hb3⟩
            have HB3 := Go.Lib.hid (bstep (bstep HB.out HBW.out) hb3); clear hb3
            go_wp2_with fail
            go_ret
            exact ⟨rfl, HB3.out⟩
end Go.Proofs.YtaoepalafefogaaDoor.W
