/- The reference of names: Unique. -/
import Derived.Test.YtaoepalafefogaaDoorNamesF
namespace Go.Proofs.YtaoepalafefogaaDoor.W
set_option linter.unusedVariables false
open Go.RowKit Go.Proofs Arb

theorem below_draws {B : Nat} {a w : World} (h : Below B a w) (n : Nat) : Below B a (w.drewN n) := ⟨h.os, h.tape, h.output, h.size, h.block⟩
theorem infoS : (Tryd.prog.info? 9).map (fun i => (i.zero, i.size, i.bytes)) = some (some (.string ByteArray.empty), 1, 16) := by kernel_rfl
def strVals (a : List (List UInt8)) : List Value := a.map fun l => .string (BS l)
theorem strVals_append (a b : List (List UInt8)) : strVals (a ++ b) = strVals a ++ strVals b := by simp [strVals]
/-- Two rows of the call's own that share nothing. -/
def Two (base : Nat) (w : World) (ov gv : Value) (a b : List (List UInt8)) : Prop :=
  w.ownsRow base 9 1 ov a.length (strVals a) ∧ w.ownsRow base 9 1 gv b.length (strVals b) ∧ ∀ g, ov.ownBlock = some g → gv.ownBlock = some g → False
theorem Two.below {base : Nat} {w w' : World} {ov gv : Value} {a b : List (List UInt8)} (h : Two base w ov gv a b) (hb : Below w.heap.size w w') : Two base w' ov gv a b :=
  ⟨below_own h.1 hb, below_own h.2.1 hb, h.2.2⟩
theorem Two.drew {base : Nat} {w : World} {ov gv : Value} {a b : List (List UInt8)} (h : Two base w ov gv a b) (n : Nat) : Two base (w.drewN n) ov gv a b :=
  h.below ⟨rfl, rfl, rfl, Nat.le_refl _, fun _ _ => rfl⟩
theorem Two.left {base : Nat} {w w' : World} {o : Obj} {ov gv ov' : Value} {a b : List (List UInt8)} {s : List UInt8} (h : Two base w ov gv a b) (hr : w'.ownsRow base 9 1 ov' (a.length + 1) (strVals a ++ [.string (BS s)]))
    (hg : (w.alloc o).grownBy w' ov.ownBlock) (ho : ov'.ownBlock = ov.ownBlock ∨ ov'.ownBlock = some (w.alloc o).heap.size) : Two base w' ov' gv (a ++ [s]) b := by
  have h2 := h.2.1.alloc o
  have hne : gv.ownBlock = none ∨ gv.ownBlock ≠ ov.ownBlock := by
    cases hgv : gv.ownBlock with
    | none => exact .inl rfl
    | some g => exact .inr fun e => h.2.2 g e.symm hgv
  refine ⟨by rw [strVals_append, List.length_append]; exact hr, h2.kept hg hne, fun g h3 h4 => ?_⟩
  rcases ho with e | e
  · exact h.2.2 g (e ▸ h3) h4
  · have := (h.2.1.lt g h4).2
    rw [e] at h3
    simp at h3
    omega
theorem Two.right {base : Nat} {w w' : World} {o : Obj} {ov gv gv' : Value} {a b : List (List UInt8)} {s : List UInt8} (h : Two base w ov gv a b) (hr : w'.ownsRow base 9 1 gv' (b.length + 1) (strVals b ++ [.string (BS s)]))
    (hg : (w.alloc o).grownBy w' gv.ownBlock) (ho : gv'.ownBlock = gv.ownBlock ∨ gv'.ownBlock = some (w.alloc o).heap.size) : Two base w' ov gv' a (b ++ [s]) := by
  have h1 := h.1.alloc o
  have hne : ov.ownBlock = none ∨ ov.ownBlock ≠ gv.ownBlock := by
    cases hov : ov.ownBlock with
    | none => exact .inl rfl
    | some g => exact .inr fun e => h.2.2 g hov e.symm
  refine ⟨h1.kept hg hne, by rw [strVals_append, List.length_append]; exact hr, fun g h3 h4 => ?_⟩
  rcases ho with e | e
  · exact h.2.2 g h3 (e ▸ h4)
  · have := (h.1.lt g h3).2
    rw [e] at h4
    simp at h4
    omega
theorem strs_own {w : World} {base n : Nat} {v : Value} {a : List (List UInt8)} (h : w.ownsRow base 9 1 v a.length (strVals a)) : Strs w v a := Strs.of_row (Row.of h)
theorem uniq_bad {ss : List (List UInt8)} (h1000 : ss.length ≤ 1000) (h : ss.all nmOk = false) : uniqRes ss = ([], 23) := by
  unfold uniqRes; rw [if_neg (by omega), h]; rfl
theorem uniq_good {ss : List (List UInt8)} (h1000 : ss.length ≤ 1000) (h : ss.all nmOk = true) : uniqRes ss = ((outAt ss ss.length).1, 0) := by
  unfold uniqRes; rw [if_neg (by omega), h, if_pos rfl, uniq_outAt]
theorem grown_from {base : Nat} {w w1 w' : World} {o : Obj} {v : Value} (hb : Below base w w1) (hbase : base ≤ w.heap.size) (hg : (w1.alloc o).grownBy w' v.ownBlock) (hlt : ∀ k, v.ownBlock = some k → base ≤ k) : Below base w w' :=
  (hb.alloc (Nat.le_trans hbase hb.size) o).grown hg (by have := hb.size; simp; omega) hlt

set_option maxRecDepth 20000 in
set_option maxHeartbeats 4000000 in
theorem rnuniq_any (v : Value) (ss : List (List UInt8)) (w : World) (h : Strs w v ss) (hl : ss.length ≤ 140737488351232) (hw : ∀ l ∈ ss, l.length ≤ 140737488351232) :
    Calls Tryd.prog 18 #[v] w fun e w' => ∃ u, e = .returned (.tuple #[u, .int .i64 (uniqRes ss).2]) ∧ Strs w' u (uniqRes ss).1 ∧ Below w.heap.size w w' := by
  obtain ⟨A, c, rfl, hc, hr⟩ := h.open
  obtain ⟨iS, hi, hz0, hz1, hz2⟩ := info_parts infoS
  obtain ⟨n, hn⟩ : ∃ n, ss.length = n := ⟨_, rfl⟩
  have HS := Go.Lib.hid h; have HR := Go.Lib.hid hr; have HN := Go.Lib.hid hn; have HW := Go.Lib.hid hw
  rw [hn] at hl hc ⊢
  clear hr h hw
  by_cases h1000 : 1000 < n
  · have hu : uniqRes ss = ([], 40) := by unfold uniqRes; rw [if_pos (by omega)]
    have HU := Go.Lib.hid hu; clear hu hn
    go_enter Tryd.func18, Tryd.ntmps18
    go_wp2_with fail
    go_ret2
    exact ⟨.slice none 0 0, by rw [HU.out]; rfl, by rw [HU.out]; exact ⟨none, 0, 0, rfl, rfl, Nat.le_refl _, fun h => by omega⟩, Below.refl _ _⟩
  have hubad := uniq_bad (ss := ss) (by omega)
  have hugood := uniq_good (ss := ss) (by omega)
  have HUB := Go.Lib.hid hubad; have HUG := Go.Lib.hid hugood
  clear hubad hugood hn
  go_enter Tryd.func18, Tryd.ntmps18
  go_wp2_with fail
  go_loop [4] (fun i => ∃ k : Nat, k ≤ n ∧ i = .int .i64 (k : Int) ∧ ∀ j (hj : j < ss.length), j < k → nmOk ss[j] = true) (fun i => n - (intOf i).toNat)
  case atStart => exact ⟨0, by omega, rfl, fun j _ h => by omega⟩
  case round =>
    obtain ⟨k, hk, rfl, hall⟩ := hrel
    have HA := Go.Lib.hid hall; clear hall
    by_cases hkn : k < n
    · have hkl : k < ss.length := by have := HN.out; omega
      obtain ⟨b, off, rfl, hz⟩ := HR.out (by have := HN.out; omega)
      have hcell := hz k hkl
      have hki : (k : Int) < (n : Int) := by omega
      have hR := fun w => rnright_any ss[k] w (HW.out _ (List.getElem_mem hkl))
      unfold nmRight at hR
      cases hok : nmOk ss[k] with
      | true =>
        rw [hok] at hR
        have hR' : ∀ w, Calls Tryd.prog 10 #[.string (BS ss[k])] w fun e w' => e = .returned (.int .i64 0) ∧ w' = w := hR
        have HR' := Go.Lib.hid hR'; have HOK := Go.Lib.hid hok
        clear hR hR' hz hok
        go_wp2_with (go_at_call 10; refine (HR'.out _).mono ?_; rintro e w1 ⟨rfl, hw1⟩; rw [hw1])
        refine ⟨⟨k + 1, by omega, by simp, fun j hj hjk => ?_⟩, by simp [intOf]; omega⟩
        by_cases e : j = k
        · subst e; exact HOK.out
        · exact HA.out j hj (by omega)
      | false =>
        rw [hok] at hR
        have hR' : ∀ w, Calls Tryd.prog 10 #[.string (BS ss[k])] w fun e w' => e = .returned (.int .i64 23) ∧ w' = w := hR
        have HR' := Go.Lib.hid hR'
        have hu := HUB.out (by rw [List.all_eq_false]; exact ⟨ss[k], List.getElem_mem hkl, by rw [hok]; simp⟩)
        have HU := Go.Lib.hid hu
        clear hR hR' hz hok hu
        go_wp2_with (go_at_call 10; refine (HR'.out _).mono ?_; rintro e w1 ⟨rfl, hw1⟩; rw [hw1])
        go_ret2
        exact ⟨.slice none 0 0, by rw [HU.out]; rfl, by rw [HU.out]; exact ⟨none, 0, 0, rfl, rfl, Nat.le_refl _, fun h => by omega⟩, Below.refl _ _⟩
    · obtain rfl : k = n := by omega
      have hallok : ∀ x ∈ ss, nmOk x = true := fun x hx => by
        obtain ⟨j, hj, rfl⟩ := List.getElem_of_mem hx
        exact HA.out j hj (by have := HN.out; omega)
      have hu := HUG.out (by rw [List.all_eq_true]; exact hallok)
      rw [HN.out] at hu
      have HU := Go.Lib.hid hu; have HOK := Go.Lib.hid hallok
      clear hu hallok HA HUB HUG
      go_wp2_with fail
      go_loopw [5, 6, 7] (fun ov gv i wr => ∃ q : Nat, q ≤ k ∧ i = .int .i64 (q : Int) ∧ Two w.heap.size wr ov gv (outAt ss q).1 (outAt ss q).2 ∧ Below w.heap.size w wr) (fun _ _ i _ => k - (intOf i).toNat)
      case atStart => exact ⟨0, by omega, rfl, ⟨World.ownsRow_nil _ _ _ _, World.ownsRow_nil _ _ _ _, fun g h => by cases h⟩, Below.refl _ _⟩
      case round =>
        obtain ⟨q, hq, rfl, htwo, hbel⟩ := hrel
        have HT := Go.Lib.hid htwo; have HB := Go.Lib.hid hbel; clear htwo hbel
        by_cases hqn : q < k
        · have hql : q < ss.length := by have := HN.out; omega
          obtain ⟨b, off, rfl, hz⟩ := HR.out (by have := HN.out; omega)
          have hc0 := hz q hql
          have hblt := World.block_lt_of_cell? w _ hc0
          have hcell := (HB.out.cell hblt).trans hc0
          have hqi : (q : Int) < (k : Int) := by omega
          have hqk : (q : Int) ≤ (k : Int) := by omega
          have hqc : (q : Int) ≤ (c : Int) := by omega
          have hsn : nmOk ss[q] = true := HOK.out _ (List.getElem_mem hql)
          have hslen := HW.out _ (List.getElem_mem hql)
          have hlens := outAt_len ss q (by omega)
          obtain ⟨s, hs⟩ : ∃ s, ss[q] = s := ⟨_, rfl⟩
          rw [hs] at hcell hc0 hsn hslen
          have hhas : ∀ W, Below w.heap.size w W → Calls Tryd.prog 25 #[.slice (some ⟨b, off, none⟩) q c, .string (BS s)] W fun e w' => e = .returned (.bool (decide (s ∈ ss.take q))) ∧ w' = W :=
            fun W hb => rhas_any _ (ss.take q) s W ((HS.out.take q (by omega)).below hb) (by rw [List.length_take]; omega)
          by_cases hm : s ∈ ss.take q
          · have hnext : outAt ss (q + 1) = ((outAt ss q).1 ++ [copyOf s (freshN ss (outAt ss q).2 s)], (outAt ss q).2 ++ [copyOf s (freshN ss (outAt ss q).2 s)]) := by
              rw [outAt, List.getElem?_eq_getElem hql]; simp only [hs]; rw [if_pos hm]
            rw [decide_eq_true hm] at hhas
            have HH := Go.Lib.hid hhas
            obtain ⟨f1, f2, f3, f4, f5⟩ := fresh_spec ss (outAt ss q).2 s
            obtain ⟨os, hos⟩ : ∃ os, (outAt ss q).1 = os := ⟨_, rfl⟩
            obtain ⟨gs, hgs⟩ : ∃ gs, (outAt ss q).2 = gs := ⟨_, rfl⟩
            have HT := HT.out
            rw [hos, hgs] at HT hlens hnext
            rw [hgs] at f1 f2 f3 f4 f5
            obtain ⟨F, hF⟩ : ∃ F, freshN ss gs s = F := ⟨_, rfl⟩
            rw [hF] at f1 f2 f3 f4 f5 hnext
            have HT := Go.Lib.hid HT; have HNX := Go.Lib.hid hnext
            have hcp : ∀ (j : Nat) W, 1 ≤ j → j ≤ F → Calls Tryd.prog 15 #[.string (BS s), .int .i64 (j : Int)] W fun e w' => e = .returned (.tuple #[.string (BS (copyOf s j)), .int .i64 0]) ∧ Below W.heap.size W w' := by
              intro j W h1 h2
              have hj : j ≤ 9999 := by have := HN.out; omega
              have := rncopy_any s j W hslen (by omega)
              rwa [show copyRes s j = (copyOf s j, 0) by unfold copyRes; rw [hsn, if_pos rfl, if_neg (by omega), Int.toNat_natCast]] at this
            have hF9 : F ≤ 9999 := by have := HN.out; omega
            have HCP := Go.Lib.hid hcp; have F1 := Go.Lib.hid f1; have F2 := Go.Lib.hid f2; have F5 := Go.Lib.hid f5
            clear hhas hnext hm hz hs hos hgs hF hcp f1 f2 f5 hsn hslen
            go_wp2_with fail
            go_quiet ((go_at_call 25; exact Calls.quiet_of_same (HH.out _ (below_draws HB.out _))))
            go_wp2_with fail
            refine (HCP.out 1 _ (by omega) f3).mono ?_
            rintro e w1 ⟨rfl, hb1⟩
            have ht1 := (HT.out.drew nq).below hb1
            have hbw1 := (below_draws HB.out nq).trans (hb1.mono (by have := HB.out.size; exact this))
            have HT1 := Go.Lib.hid ht1; have HB1 := Go.Lib.hid hbw1
            clear hb1 ht1 hbw1
            go_wp2_with fail
            go_loopw [8, 9] (fun nv sv w2 => ∃ j : Nat, 1 ≤ j ∧ j ≤ F ∧ nv = .int .i64 (j : Int) ∧ sv = .string (BS (copyOf s j)) ∧ Two w.heap.size w2 u5 u6 os gs ∧ Below w.heap.size w w2) (fun nv _ _ => F - (intOf nv).toNat)
            case atStart => exact ⟨1, by omega, f3, rfl, rfl, HT1.out, HB1.out⟩
            case round =>
              obtain ⟨j, hj1, hjF, rfl, rfl, ht2, hb2⟩ := hrel
              have HT2 := Go.Lib.hid ht2; have HB2 := Go.Lib.hid hb2; clear ht2 hb2
              have hcell2 := (HB2.out.cell hblt).trans hc0
              obtain ⟨cj, hcj⟩ : ∃ cj, copyOf s j = cj := ⟨_, rfl⟩
              rw [hcj]
              have hh1 : ∀ W, Below w.heap.size w W → Calls Tryd.prog 25 #[.slice (some ⟨b, off, none⟩) k c, .string (BS cj)] W fun e w' => e = .returned (.bool (decide (cj ∈ ss))) ∧ w' = W :=
                fun W hb => rhas_any _ ss cj W (by have := HS.out; rw [HN.out] at this; exact this.below hb) (by have := HN.out; omega)
              have hh2 : Calls Tryd.prog 25 #[u6, .string (BS cj)] wr fun e w' => e = .returned (.bool (decide (cj ∈ gs))) ∧ w' = wr := rhas_any _ gs cj _ (strs_own (base := w.heap.size) (n := 0) HT2.out.2.1) (by omega)
              have HH1 := Go.Lib.hid hh1; have HH2 := Go.Lib.hid hh2; clear hh1 hh2
              by_cases hjl : j < F
              · have h12 := F5.out j hj1 hjl
                rw [hcj] at h12
                by_cases c1 : cj ∈ ss
                · have HH1 := HH1.out
                  rw [decide_eq_true c1] at HH1
                  have HH1 := Go.Lib.hid HH1; clear h12 c1
                  have hcp1 := HCP.out (j + 1) wr (by omega) (by omega)
                  rw [show ((j + 1 : Nat) : Int) = (j : Int) + 1 by omega] at hcp1
                  have HCP1 := Go.Lib.hid hcp1; clear hcp1
                  go_wp2_with fail
                  refine (HH1.out _ HB2.out).mono ?_; rintro e w9 ⟨rfl, hw9⟩; rw [hw9]
                  go_wp2_with fail
                  refine HCP1.out.mono ?_
                  rintro e w3 ⟨rfl, hb3⟩
                  have ht3 := HT2.out.below hb3
                  have hbw3 := HB2.out.trans (hb3.mono HB2.out.size)
                  have HT3 := Go.Lib.hid ht3; have HB3 := Go.Lib.hid hbw3
                  clear hb3 ht3 hbw3
                  go_wp2_with fail
                  exact ⟨⟨j + 1, by omega, by omega, by simp, rfl, HT3.out, HB3.out⟩, by simp [intOf]; omega⟩
                · have c2 : cj ∈ gs := h12.resolve_left c1
                  have HH1 := HH1.out; have HH2 := HH2.out
                  rw [decide_eq_false c1] at HH1
                  rw [decide_eq_true c2] at HH2
                  have HH1 := Go.Lib.hid HH1; have HH2 := Go.Lib.hid HH2; clear h12 c1 c2
                  have hcp1 := HCP.out (j + 1) wr (by omega) (by omega)
                  rw [show ((j + 1 : Nat) : Int) = (j : Int) + 1 by omega] at hcp1
                  have HCP1 := Go.Lib.hid hcp1; clear hcp1
                  go_wp2_with fail
                  refine (HH1.out _ HB2.out).mono ?_; rintro e w9 ⟨rfl, hw9⟩; rw [hw9]
                  go_wp2_with fail
                  refine HH2.out.mono ?_; rintro e w8 ⟨rfl, hw8⟩; rw [hw8]
                  go_wp2_with fail
                  refine HCP1.out.mono ?_
                  rintro e w3 ⟨rfl, hb3⟩
                  have ht3 := HT2.out.below hb3
                  have hbw3 := HB2.out.trans (hb3.mono HB2.out.size)
                  have HT3 := Go.Lib.hid ht3; have HB3 := Go.Lib.hid hbw3
                  clear hb3 ht3 hbw3
                  go_wp2_with fail
                  exact ⟨⟨j + 1, by omega, by omega, by simp, rfl, HT3.out, HB3.out⟩, by simp [intOf]; omega⟩
              · obtain rfl : j = F := by omega
                have c1 := F1.out; have c2 := F2.out
                rw [hcj] at c1 c2
                have HH1 := HH1.out; have HH2 := HH2.out
                rw [decide_eq_false c1] at HH1
                rw [decide_eq_false c2] at HH2
                have HH1 := Go.Lib.hid HH1; have HH2 := Go.Lib.hid HH2; clear c1 c2
                have HNX' := HNX.out
                rw [hcj] at HNX'
                have HNX2 := Go.Lib.hid HNX'; clear HNX'
                go_wp2_with fail
                refine (HH1.out _ HB2.out).mono ?_; rintro e w9 ⟨rfl, hw9⟩; rw [hw9]
                go_wp2_with fail
                refine HH2.out.mono ?_; rintro e w8 ⟨rfl, hw8⟩; rw [hw8]
                go_wp2_with (first | (at_builtin; refine wpList_append_rd rfl (.tmp 76) (.tmp 78) _ rfl w.heap.size 9 iS (.string ByteArray.empty) 1 16 Tryd.underlying30 hi hz0 hz1 hz2 rfl (by decide) u6 gs.length (strVals gs) rfl ((HT2.out.2.1).alloc _) _ 1 [.string (BS cj)] rfl (Rd.new _ _ _ 1 1 1 rfl) (by simp [Value.oneCell']) (by unfold maxLen; omega) (by omega) (by have := HB2.out.size; simp; omega) ?_; intro v1 w4 hown1 hg1 ho1; have htr := HT2.out.right (s := cj) hown1 hg1 ho1; have hbr := grown_from HB2.out (Nat.le_refl _) hg1 (fun k hk => (HT2.out.2.1.lt k hk).1); have HTR := Go.Lib.hid htr; have HBR := Go.Lib.hid hbr; clear htr hbr hown1 hg1 ho1) | (at_builtin; refine wpList_append_rd rfl (.tmp 80) (.tmp 82) _ rfl w.heap.size 9 iS (.string ByteArray.empty) 1 16 Tryd.underlying30 hi hz0 hz1 hz2 rfl (by decide) u5 os.length (strVals os) rfl ((HTR.out.1).alloc _) _ 1 [.string (BS cj)] rfl (Rd.new _ _ _ 1 1 1 rfl) (by simp [Value.oneCell']) (by unfold maxLen; omega) (by omega) (by have := HBR.out.size; simp; omega) ?_; intro v2 w5 hown2 hg2 ho2))
                have htl := HTR.out.left (s := cj) hown2 hg2 ho2
                have hbl := grown_from HBR.out (Nat.le_refl _) hg2 (fun k hk => (HTR.out.1.lt k hk).1)
                refine ⟨⟨q + 1, by omega, by simp, ?_, hbl⟩, by simp [intOf]; omega⟩
                rw [HNX2.out]
                exact htl
          · have hnext : outAt ss (q + 1) = ((outAt ss q).1 ++ [s], (outAt ss q).2) := by
              rw [outAt, List.getElem?_eq_getElem hql]; simp only [hs]; rw [if_neg hm]
            rw [decide_eq_false hm] at hhas
            have HH := Go.Lib.hid hhas; have HNX := Go.Lib.hid hnext
            obtain ⟨os, hos⟩ : ∃ os, (outAt ss q).1 = os := ⟨_, rfl⟩
            obtain ⟨gs, hgs⟩ : ∃ gs, (outAt ss q).2 = gs := ⟨_, rfl⟩
            have HT := HT.out
            rw [hos, hgs] at HT hlens
            have HT := Go.Lib.hid HT; have HOS := Go.Lib.hid hos; have HGS := Go.Lib.hid hgs
            clear hhas hnext hm hz hc0 hblt hs hos hgs
            go_wp2_with fail
            go_quiet ((go_at_call 25; exact Calls.quiet_of_same (HH.out _ (below_draws HB.out _))))
            go_wp2_with (at_builtin; refine wpList_append_rd rfl (.tmp 41) (.tmp 46) _ rfl w.heap.size 9 iS (.string ByteArray.empty) 1 16 Tryd.underlying30 hi hz0 hz1 hz2 rfl (by decide) u5 os.length (strVals os) rfl (((HT.out.drew nq).1).alloc _) _ 1 [.string (BS s)] rfl (Rd.new _ _ _ 1 1 1 rfl) (by simp [Value.oneCell']) (by unfold maxLen; omega) (by omega) (by have := HB.out.size; simp; omega) ?_; intro v1 w1 hown1 hg1 ho1)
            have ht := (HT.out.drew nq).left (s := s) hown1 hg1 ho1
            have hb := grown_from (below_draws HB.out nq) (Nat.le_refl _) hg1 (fun k hk => (HT.out.1.lt k hk).1)
            refine ⟨⟨q + 1, by omega, by simp, ?_, hb⟩, by simp [intOf]; omega⟩
            rw [HNX.out, HOS.out, HGS.out]
            exact ht
        · obtain rfl : q = k := by omega
          go_wp2_with fail
          go_ret2
          exact ⟨_, by rw [HU.out]; rfl, by rw [HU.out]; exact strs_own (base := w.heap.size) (n := 0) HT.out.1, HB.out⟩
end Go.Proofs.YtaoepalafefogaaDoor.W
