/- The program's names: Unique. -/
import Derived.Test.YtaoepalafefogaaDoorNamesK
import Derived.Test.YtaoepalafefogaaDoorNamesG
import Derived.Test.YtaoepalafefogaaDoorNamesQ
import Derived.Laws.MakeOwn
namespace Go.Proofs.YtaoepalafefogaaDoor.W
set_option linter.unusedVariables false
open Go.RowKit Go.Proofs Arb

theorem grown_cell (W : World) (b i : Nat) (v : Value) : W.grownBy (W.setCell ⟨b, i, none⟩ v) (some b) :=
  ⟨rfl, rfl, rfl, by simp [World.setCell], fun k _ hk => Below.heap_setCell _ _ _ k (fun e => hk (by rw [e]))⟩
theorem zero_val (l : List UInt8) : setVal (fun _ => 0) l 0 = fun _ => 0 := funext fun q => by unfold setVal; split <;> rfl
theorem run_makeMap_hint (n : Int) (W : World) : (Instr.makeMap 40 (some (.int .i64 n))).run Tryd.prog W = .ok (.map (some W.heap.size)) (W.alloc (.map #[] 0)) := by
  simp [Instr.makeMap, run_underlying Tryd.underlying40, asInt, asIntOf, Result.andThen]
theorem made_strings (n : Nat) : (madeCells (Value.string ByteArray.empty).cells (n * 1)).toList = List.replicate n (.string ByteArray.empty) := by
  rw [Nat.mul_one]; exact toList_madeCells_one _ _
theorem fill_set (A : List Value) (n q : Nat) (z u : Value) (hA : A.length = q) (hq : q < n) : (A ++ List.replicate (n - q) z).set q u = (A ++ [u]) ++ List.replicate (n - (q + 1)) z := by
  obtain ⟨m, hm⟩ : ∃ m, n - q = m + 1 := ⟨n - q - 1, by omega⟩
  rw [List.set_append_right _ _ (by omega), hA, Nat.sub_self, hm, List.replicate_succ, List.set_cons_zero, show n - (q + 1) = m by omega, List.append_assoc]
  rfl
theorem fill_at (A : List Value) (n q : Nat) (z : Value) (hA : A.length = q) (hq : q < n) : (A ++ List.replicate (n - q) z)[q]? = some z := by
  rw [List.getElem?_append_right (by omega), hA, Nat.sub_self, List.getElem?_replicate, if_pos (by omega)]

set_option maxRecDepth 20000 in
set_option maxHeartbeats 4000000 in
theorem pnuniq_any (v : Value) (ss : List (List UInt8)) (w : World) (h : Strs w v ss) (hl : ss.length ≤ 140737488351232) (hw : ∀ l ∈ ss, l.length ≤ 140737488351232) (hP : PMet w) :
    Calls Tryd.prog 17 #[v] w fun e w' => ∃ u, e = .returned (.tuple #[u, .int .i64 (uniqRes ss).2]) ∧ Strs w' u (uniqRes ss).1 ∧ Below w.heap.size w w' := by
  obtain ⟨A, c, rfl, hc, hr⟩ := h.open
  obtain ⟨iS, hi, hz0, hz1, hz2⟩ := info_parts infoS
  obtain ⟨n, hn⟩ : ∃ n, ss.length = n := ⟨_, rfl⟩
  have HS := Go.Lib.hid h; have HR := Go.Lib.hid hr; have HN := Go.Lib.hid hn; have HW := Go.Lib.hid hw; have HP := Go.Lib.hid hP
  rw [hn] at hl hc ⊢
  clear hr h hw hP
  by_cases h1000 : 1000 < n
  · have hu : uniqRes ss = ([], 40) := by unfold uniqRes; rw [if_pos (by omega)]
    have HU := Go.Lib.hid hu; clear hu hn
    go_enter Tryd.func17, Tryd.ntmps17
    go_wp2_with fail
    go_ret2
    exact ⟨.slice none 0 0, by rw [HU.out]; rfl, by rw [HU.out]; exact ⟨none, 0, 0, rfl, rfl, Nat.le_refl _, fun h => by omega⟩, Below.refl _ _⟩
  have hubad := uniq_bad (ss := ss) (by omega)
  have hugood := uniq_good (ss := ss) (by omega)
  have HUB := Go.Lib.hid hubad; have HUG := Go.Lib.hid hugood
  clear hubad hugood hn
  have hmm := run_makeMap_hint (n : Int)
  have hmk : ∀ W : World, (Instr.makeSlice 30 (.int .i64 (n : Int)) (.int .i64 (n : Int))).run Tryd.prog W = .ok (.slice (some ⟨W.heap.size, 0, none⟩) n n) (W.alloc (.cells (madeCells (Value.string ByteArray.empty).cells (n * 1)) 9)) := fun W => by
    have h := run_make (P := Tryd.prog) W 30 9 iS (.string ByteArray.empty) Tryd.underlying30 hi hz0 .i64 .i64 (n : Int) (n : Int) (by omega) (by omega) (by rw [hz2]; omega) (by omega)
    rw [hz1] at h
    rw [h]
    simp
  have HMK := Go.Lib.hid hmk; clear hmk
  go_enter Tryd.func17, Tryd.ntmps17
  go_wp2_with fail
  clear hmm
  go_loopw [6, 7, 19, 20, 21, 22, 23, 24, 25, 26, 27, 28, 29, 30] (fun _ _ i _ _ _ _ _ _ _ _ _ _ _ wr => ∃ k : Nat, k ≤ n ∧ i = .int .i64 (k : Int) ∧ (∀ j (hj : j < ss.length), j < k → nmOk ss[j] = true) ∧ Exist wr w.heap.size k (ss.take k) (fun _ => 0) ∧ Below w.heap.size w wr) (fun _ _ i _ _ _ _ _ _ _ _ _ _ _ _ => n - (intOf i).toNat)
  case atStart => exact ⟨0, by omega, rfl, fun j _ h => by omega, NumsIs.made w _ _ _, (Below.refl _ _).alloc (Nat.le_refl _) _⟩
  case round =>
    obtain ⟨k, hk, rfl, hall, hex, hbel⟩ := hrel
    have HA := Go.Lib.hid hall; have HE := Go.Lib.hid hex; have HB := Go.Lib.hid hbel; clear hall hex hbel
    by_cases hkn : k < n
    · have hkl : k < ss.length := by have := HN.out; omega
      obtain ⟨b, off, rfl, hz⟩ := HR.out (by have := HN.out; omega)
      have hc0 := hz k hkl
      have hcell := (HB.out.cell (World.block_lt_of_cell? w _ hc0)).trans hc0
      have hki : (k : Int) < (n : Int) := by omega
      have hR := fun w => pright_same ss[k] w (HW.out _ (List.getElem_mem hkl))
      unfold nmRight at hR
      cases hok : nmOk ss[k] with
      | true =>
        rw [hok] at hR
        have hR' : ∀ w, Calls Tryd.prog 9 #[.string (BS ss[k])] w fun e w' => e = .returned (.int .i64 0) ∧ w' = w := hR
        have htk : ss.take (k + 1) = ss.take k ++ [ss[k]] := List.take_succ_eq_append_getElem hkl
        have h24 := pcopy_right hok
        obtain ⟨s, hs⟩ : ∃ s, ss[k] = s := ⟨_, rfl⟩
        rw [hs] at hcell hR' htk h24 hok
        have HR' := Go.Lib.hid hR'; have HOK := Go.Lib.hid hok; have HTK := Go.Lib.hid htk; have HSS := Go.Lib.hid hs
        clear hR hR' hz hok htk hc0 hs
        go_wp2_with fail
        refine (HR'.out _).mono ?_; rintro e w1 ⟨rfl, hw1⟩; rw [hw1]
        go_wp2_with (refine wpList_nums_put HE.out Tryd.underlying9 Tryd.underlying40 Tryd.underlying3 rfl _ _ _ rfl rfl (by unfold maxLen; omega) s (by unfold maxLen; omega) 0 (by decide) rfl rfl ?_
                     intro w3 hN3 hg3)
        rw [zero_val, ← HTK.out] at hN3
        refine ⟨⟨k + 1, by omega, by simp, fun j hj hjk => ?_, hN3, HB.out.trans (below_grown hg3 (Nat.le_refl _) HB.out.size)⟩, by simp [intOf]; omega⟩
        by_cases e : j = k
        · subst e; rw [HSS.out]; exact HOK.out
        · exact HA.out j hj (by omega)
      | false =>
        rw [hok] at hR
        have hR' : ∀ w, Calls Tryd.prog 9 #[.string (BS ss[k])] w fun e w' => e = .returned (.int .i64 23) ∧ w' = w := hR
        have HR' := Go.Lib.hid hR'
        have hu := HUB.out (by rw [List.all_eq_false]; exact ⟨ss[k], List.getElem_mem hkl, by rw [hok]; simp⟩)
        have HU := Go.Lib.hid hu
        clear hR hR' hz hok hu hc0
        go_wp2_with (go_at_call 9; refine (HR'.out _).mono ?_; rintro e w1 ⟨rfl, hw1⟩; rw [hw1])
        go_ret2
        exact ⟨.slice none 0 0, by rw [HU.out]; rfl, by rw [HU.out]; exact ⟨none, 0, 0, rfl, rfl, Nat.le_refl _, fun h => by omega⟩, HB.out⟩
    · obtain rfl : k = n := by omega
      have hallok : ∀ x ∈ ss, nmOk x = true := fun x hx => by
        obtain ⟨j, hj, rfl⟩ := List.getElem_of_mem hx
        exact HA.out j hj (by have := HN.out; omega)
      have hu := HUG.out (by rw [List.all_eq_true]; exact hallok)
      rw [HN.out] at hu
      have hexs := HE.out
      rw [List.take_of_length_le (by have := HN.out; omega)] at hexs
      have HU := Go.Lib.hid hu; have HOK := Go.Lib.hid hallok; have HEX := Go.Lib.hid hexs
      clear hu hallok HA HUB HUG hexs HE
      obtain ⟨W2, rfl⟩ : ∃ W2, W2 = wr := ⟨wr, rfl⟩
      have hlt := HEX.out.lt
      have hmk2 := HMK.out W2
      go_wp2_with fail
      clear hmk2
      go_loopw [9, 10, 36, 37, 38, 39, 40, 41, 42, 43, 44, 45, 46, 47] (fun _ _ i _ _ _ _ _ _ _ _ _ _ _ wr => ∃ q : Nat, q ≤ k ∧ i = .int .i64 (q : Int) ∧
          Row wr w.heap.size 9 1 (.slice (some ⟨W2.heap.size, 0, none⟩) k k) k (strVals (outAt ss q).1 ++ List.replicate (k - q) (.string ByteArray.empty)) ∧
          (∃ S val m, m ≤ k + 2 * q ∧ Exist wr w.heap.size m S val ∧ Tries ss q S val) ∧ Below w.heap.size w wr) (fun _ _ i _ _ _ _ _ _ _ _ _ _ _ _ => k - (intOf i).toNat)
      case atStart =>
        refine ⟨0, by omega, rfl, ?_, ⟨ss, _, k, by omega, HEX.out.below ((Below.refl _ _).alloc (Nat.le_refl _) _), Tries.start ss⟩, HB.out.alloc HB.out.size _⟩
        have := Row.made (base := w.heap.size) W2 (madeCells (Value.string ByteArray.empty).cells (k * 1)) 9 k 1 HB.out.size (by unfold maxLen; omega) (by rw [← Array.length_toList, made_strings, List.length_replicate]; omega)
        rw [made_strings] at this
        simpa [Value.cells, strVals, outAt] using this
      case round =>
        obtain ⟨q, hq, rfl, hrow, ⟨S, val, m, hm, hex, htr⟩, hbel⟩ := hrel
        have HROW := Go.Lib.hid hrow; have HE := Go.Lib.hid hex; have HT := Go.Lib.hid htr; have HB2 := Go.Lib.hid hbel; clear hrow hex htr hbel
        by_cases hqn : q < k
        · have hql : q < ss.length := by have := HN.out; omega
          obtain ⟨b, off, rfl, hz⟩ := HR.out (by have := HN.out; omega)
          have hc0 := hz q hql
          have hcell := (HB2.out.cell (World.block_lt_of_cell? w _ hc0)).trans hc0
          have hqi : (q : Int) < (k : Int) := by omega
          have h24 := pcopy_right (HOK.out _ (List.getElem_mem hql))
          have hlo := (outAt_len ss q (by omega)).1
          have hne : ∀ (w3 : World), wr.grownBy w3 (some w.heap.size) → ∃ z, w3.cell? ⟨W2.heap.size, q, none⟩ = some z ∧ w3.frozen? ⟨W2.heap.size, q, none⟩ = false ∧
              Row w3 w.heap.size 9 1 (.slice (some ⟨W2.heap.size, 0, none⟩) k k) k (strVals (outAt ss q).1 ++ List.replicate (k - q) (.string ByteArray.empty)) := fun w3 hg3 => by
            have h3 := HROW.out.kept hg3 (.inr (by simp [Value.ownBlock]; omega))
            obtain ⟨g, cap, hgv, _, _, _, hcs, hfs⟩ := h3.open (by omega)
            cases hgv
            exact ⟨_, hcs q _ (fill_at _ k q _ (by simpa [strVals] using hlo) hqn), hfs q (by omega), h3⟩
          by_cases hm2 : ss[q] ∈ ss.take q
          · obtain ⟨v, e1, e2, e3, e4, e5, e6, e7⟩ := HT.out.next hql hm2
            have hnx := outAt_more hql hm2
            have hn2 := HN.out
            obtain ⟨F, hF⟩ : ∃ F, freshN ss (outAt ss q).2 ss[q] = F := ⟨_, rfl⟩
            rw [hF] at e3 e4 e5 e6 e7 hnx
            obtain ⟨s, hs⟩ : ∃ s, ss[q] = s := ⟨_, rfl⟩
            rw [hs] at e1 e5 e6 e7 hnx hcell h24
            have htk := ptake_more w.heap.size m S val s v F wr HE.out (by omega) h24 e1 e2 e3 (by omega) e5 e6 (HP.out.below HB2.out)
            obtain ⟨cF, hcF⟩ : ∃ cF, copyOf s F = cF := ⟨_, rfl⟩
            rw [hcF] at htk e7 hnx
            have HTK := Go.Lib.hid htk; have HNX := Go.Lib.hid hnx; have HT7 := Go.Lib.hid e7; have HNE := Go.Lib.hid hne; have HLO := Go.Lib.hid hlo
            clear htk hnx e1 e2 e3 e4 e5 e6 e7 hs hcF hF hc0 hz hm2 hne hlo
            go_wp2_with fail
            refine HTK.out.mono ?_; rintro e w3 ⟨rfl, hm3, hg3⟩
            obtain ⟨z, hz3, hf3, hrow3⟩ := HNE.out w3 hg3
            have HM3 := Go.Lib.hid hm3; have HG3 := Go.Lib.hid hg3; have HR3 := Go.Lib.hid hrow3; clear hm3 hg3 hrow3
            go_wp2_with fail
            have hb3 := HB2.out.trans (below_grown HG3.out (Nat.le_refl _) HB2.out.size)
            refine ⟨⟨q + 1, by omega, by simp, ?_, ⟨_, _, m + 2, by omega, HM3.out.kept (grown_cell w3 W2.heap.size q _) (by simp; omega), HT7.out⟩, hb3.trans (below_grown (grown_cell w3 W2.heap.size q _) (by omega) hb3.size)⟩, by simp [intOf]; omega⟩
            have h4 := HR3.out.set W2.heap.size k q rfl (.string (BS cF))
            rw [fill_set _ k q _ _ (by simpa [strVals] using HLO.out) hqn] at h4
            rw [HNX.out, strVals_append]
            exact h4
          · have e1 := HT.out.zero _ (List.getElem_mem hql) hm2
            have e7 := HT.out.first hql hm2
            have hnx := outAt_first hql hm2
            obtain ⟨s, hs⟩ : ∃ s, ss[q] = s := ⟨_, rfl⟩
            rw [hs] at e1 e7 hnx hcell h24
            have htk := ptake_first w.heap.size m S val s wr HE.out (by omega) h24 e1
            have HTK := Go.Lib.hid htk; have HNX := Go.Lib.hid hnx; have HT7 := Go.Lib.hid e7; have HNE := Go.Lib.hid hne; have HLO := Go.Lib.hid hlo
            clear htk hnx e1 e7 hs hc0 hz hm2 hne hlo
            go_wp2_with fail
            refine HTK.out.mono ?_; rintro e w3 ⟨rfl, hm3, hg3⟩
            obtain ⟨z, hz3, hf3, hrow3⟩ := HNE.out w3 hg3
            have HM3 := Go.Lib.hid hm3; have HG3 := Go.Lib.hid hg3; have HR3 := Go.Lib.hid hrow3; clear hm3 hg3 hrow3
            go_wp2_with fail
            have hb3 := HB2.out.trans (below_grown HG3.out (Nat.le_refl _) HB2.out.size)
            refine ⟨⟨q + 1, by omega, by simp, ?_, ⟨_, _, m + 1, by omega, HM3.out.kept (grown_cell w3 W2.heap.size q _) (by simp; omega), HT7.out⟩, hb3.trans (below_grown (grown_cell w3 W2.heap.size q _) (by omega) hb3.size)⟩, by simp [intOf]; omega⟩
            have h4 := HR3.out.set W2.heap.size k q rfl (.string (BS s))
            rw [fill_set _ k q _ _ (by simpa [strVals] using HLO.out) hqn] at h4
            rw [HNX.out, strVals_append]
            exact h4
        · obtain rfl : q = k := by omega
          go_wp2_with fail
          go_ret2
          refine ⟨_, by rw [HU.out]; rfl, ?_, HB2.out⟩
          rw [HU.out]
          have h4 := HROW.out
          rw [Nat.sub_self, List.replicate_zero, List.append_nil] at h4
          exact Strs.of_row h4
end Go.Proofs.YtaoepalafefogaaDoor.W
