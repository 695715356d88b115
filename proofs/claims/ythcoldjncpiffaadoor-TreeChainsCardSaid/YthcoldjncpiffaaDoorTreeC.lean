/- Layer 7's law: right. -/
import Derived.Test.YthcoldjncpiffaaDoorTreeB
namespace Go.Proofs.YthcoldjncpiffaaDoor.W
set_option linter.unusedVariables false
open Go.RowKit Go.Proofs Arb

theorem ptfind_out (v : Value) (l : List Nod) (s : St) (w : World) (y : Nod) (b : Bool) (hy : foundOf l s = (y, b)) (h : Nods w v l) (hl : l.length ≤ 1000) (hwf : ∀ n ∈ l, ndWf n) :
    Calls Tryd.prog 19 #[v, .agg #[.int .i64 s.count, .int .i64 s.who]] w fun e w' => e = .returned (.tuple #[.agg #[.int .i64 y.id.count, .int .i64 y.id.who, .bool y.dir, .int .i64 y.parent.count, .int .i64 y.parent.who, .string (BS y.name), .string (BS y.manifest)], .bool b]) ∧ Below w.heap.size w w' := by
  have := ptfind_any v l s w h hl hwf
  rw [hy] at this
  exact this

set_option maxRecDepth 20000 in
set_option maxHeartbeats 16000000 in
theorem rright7_any (v : Value) (l : List Nod) (w : World) (h : Nods w v l) (hT : Tree l) (hl : l.length ≤ 1000) (hwf : ∀ n ∈ l, ndWf n) :
    Calls Tryd.prog 27 #[v] w fun e w' => e = .returned (.bool true) ∧ Below w.heap.size w w' := by
  have hch := fun w s h => ptchain_any v l s w h hl hwf
  have hfd := fun s w y b hy h => ptfind_out v l s w y b hy h hl hwf
  obtain ⟨A, c, rfl, hc⟩ := h.len
  obtain ⟨n, hnn⟩ : ∃ n, l.length = n := ⟨_, rfl⟩
  rw [hnn] at h hc hl hch hfd
  rw [hnn]
  have HV := Go.Lib.hid h; have HT := Go.Lib.hid hT; have HCH0 := Go.Lib.hid hch; have HFD0 := Go.Lib.hid hfd; have HN := Go.Lib.hid hnn
  clear h hT hch hfd hnn hwf
  go_enter Tryd.func27, Tryd.ntmps27
  go_wp2_with fail
  go_loopw [3, 4, 5, 6, 7, 8, 9, 10, 11, 12, 13, 14, 15, 16, 17, 18, 19, 20, 21, 22, 23, 24, 25, 26, 27, 28, 29, 30, 31, 32, 33, 34, 35, 36, 37, 38, 39, 40, 41, 42, 43, 44, 45, 46, 47, 48, 49, 50, 51, 52, 53, 54, 55, 56, 57, 58, 59, 60, 61, 62, 63, 64, 65, 66, 67, 68, 69, 70, 71, 72, 73, 74, 75, 76, 77, 78, 79, 80, 81, 82, 83, 84, 85, 86, 87, 88, 89, 90, 91, 92] (fun i _ _ _ _ _ _ _ _ _ _ _ _ _ _ _ _ _ _ _ _ _ _ _ _ _ _ _ _ _ _ _ _ _ _ _ _ _ _ _ _ _ _ _ _ _ _ _ _ _ _ _ _ _ _ _ _ _ _ _ _ _ _ _ _ _ _ _ _ _ _ _ _ _ _ _ _ _ _ _ _ _ _ _ _ _ _ _ _ _ wr => ∃ k : Nat, k ≤ n ∧ i = .int .i64 (k : Int) ∧ Below w.heap.size w wr) (fun i _ _ _ _ _ _ _ _ _ _ _ _ _ _ _ _ _ _ _ _ _ _ _ _ _ _ _ _ _ _ _ _ _ _ _ _ _ _ _ _ _ _ _ _ _ _ _ _ _ _ _ _ _ _ _ _ _ _ _ _ _ _ _ _ _ _ _ _ _ _ _ _ _ _ _ _ _ _ _ _ _ _ _ _ _ _ _ _ _ _ => n - (intOf i).toNat)
  case atStart => exact ⟨0, by omega, rfl, Below.refl _ _⟩
  case round =>
    obtain ⟨k, hk, rfl, hbw⟩ := hrel
    by_cases hkn : k < n
    · have hkn' : (k : Int) < (n : Int) := by omega
      have hvr := HV.out.below hbw
      obtain ⟨b, off, x, rfl, hgk, hx⟩ := hvr.at k hkn
      obtain ⟨P, s, hlen, hg0, hg1, hg2, hz, hdir⟩ := tree_looks HT.out (List.mem_of_getElem? hgk)
      have hP : P ≤ n := by have := chainOf_length l x.id; rw [hlen, HN.out] at this; omega
      obtain ⟨L, hL⟩ : ∃ L, P + 2 = L := ⟨_, rfl⟩
      obtain ⟨Q, hQ⟩ : ∃ Q, P + 1 = Q := ⟨_, rfl⟩
      rw [hL] at hlen
      rw [hQ] at hg2
      have hLn : L ≤ n + 2 := by omega
      have hL2 : 2 ≤ L := by omega
      have hQL : Q + 1 = L := by omega
      clear hL hQ hP
      obtain ⟨y, fb, hy⟩ : ∃ y fb, foundOf l x.parent = (y, fb) := ⟨_, _, rfl⟩
      rw [hy] at hdir
      have hch := fun w => HCH0.out w x.id
      have hfd := fun w => HFD0.out x.parent w y fb hy
      have hfb : fb = false ∨ y.dir = true := by
        cases fb
        · exact .inl rfl
        · exact .inr (hdir rfl)
      have HCH := Go.Lib.hid hch; have HFD := Go.Lib.hid hfd; have HL5 := Go.Lib.hid hlen; have HG0 := Go.Lib.hid hg0; have HG1 := Go.Lib.hid hg1; have HG2 := Go.Lib.hid hg2; have HGK := Go.Lib.hid hgk; have HVR := Go.Lib.hid hvr; have HX := Go.Lib.hid hx; have HBW := Go.Lib.hid hbw
      clear hch hfd hlen hg0 hg1 hg2 hgk hvr hx hbw hy hdir
      have hpre : ∀ (Q : Prop), True := fun _ => trivial
      clear hpre
      obtain ⟨c0, c1, -⟩ := nd_cells HX.out
      rcases Nat.eq_zero_or_pos k with h0 | h0
      · have hz0 : decide (0 < k) = false := decide_eq_false (by omega)
        clear h0
        go_wp2_with fail
        go_quiet (fail)
        obtain ⟨Vq, hVq⟩ : ∃ V, wr.drewN nq = V := ⟨_, rfl⟩
        have hbq : Below wr.heap.size wr Vq := by rw [← hVq]; exact below_drewN (Below.refl _ _) _
        rw [hVq]
        have HVq := Go.Lib.hid (HVR.out.below hbq); have HBq := Go.Lib.hid (bstep HBW.out hbq)
        have hxq := HX.out.below hbq
        clear hVq hbq c0 c1 hz0
        obtain ⟨c0, c1, -⟩ := nd_cells hxq
        clear hxq
        go_wp2_with fail
        clear c0 c1
        rcases hfb with rfl | hyd
        · refine (HCH.out _ HVq.out).mono ?_; rintro e w5 ⟨u5, rfl, hs5, hb5⟩
          have hbw5 := bstep HBq.out hb5
          have hv5 := HVq.out.below hb5
          obtain ⟨A5, cc5, hu5, hcc5⟩ := hs5.len
          rw [HL5.out] at hu5 hcc5
          subst hu5
          obtain ⟨b5, o5, s0, hA5, hg0, hs0⟩ := hs5.at 0 (by omega)
          obtain ⟨b5', o5', s1, hA5', hg1', hs1⟩ := hs5.at 1 (by omega)
          obtain ⟨b5'', o5'', s2, hA5'', hg2, hs2⟩ := hs5.at Q (by omega)
          subst hA5
          cases hA5'
          cases hA5''
          rw [HG0.out] at hg0
          rw [HG1.out] at hg1'
          rw [HG2.out] at hg2
          cases hg0
          cases hg1'
          cases hg2
          obtain ⟨a0, a1⟩ := st_cells hs0
          obtain ⟨a2, a3⟩ := st_cells hs1
          obtain ⟨a4, a5⟩ := st_cells hs2
          simp only [Nat.zero_mul, Nat.add_zero, Nat.one_mul] at a0 a1 a2 a3
          obtain ⟨bb, oo, xx, hbb, hgx, hx5⟩ := hv5.at k hkn
          cases hbb
          rw [HGK.out] at hgx
          cases hgx
          obtain ⟨n0, n1, n2, n3, n4, n5, n6⟩ := nd_cells hx5
          have hq1 := fun w => ne_st x.id x.id w
          have hq2 := fun w => ne_st x.parent x.parent w
          rw [decide_eq_true rfl] at hq1 hq2
          have hl2 : ¬ ((L : Int) < 2) := by omega
          have hld2 : decide ((L : Int) < 2) = false := decide_eq_false (by omega)
          have hl0 : (0 : Int) < (L : Int) := by omega
          have hl1 : (1 : Int) < (L : Int) := by omega
          have hlq : (Q : Int) < (L : Int) := by omega
          have hlw : IntKind.i64.wrap ((L : Int) - 1) = (Q : Int) := by rw [IntKind.wrap_i64]; omega
          have hS5 := hs5
          have HV5 := Go.Lib.hid hv5; have HBW5 := Go.Lib.hid hbw5; have HX5 := Go.Lib.hid hx5
          clear hv5 hbw5 hx5 hs5 hs0 hs1 hb5 hS5
          rcases hz with rfl | rfl
          · have q3 := fun w => ne_st ⟨0, 0⟩ ⟨0, 0⟩ w
            have q4 := fun w => ne_st ⟨0, 0⟩ ⟨0, 1⟩ w
            rw [show decide ((⟨0, 0⟩ : St) = ⟨0, 0⟩) = true by decide] at q3
            rw [show decide ((⟨0, 0⟩ : St) = ⟨0, 1⟩) = false by decide] at q4
            have a4' : w5.cell? ⟨b5, o5 + Q * 2, none⟩ = some (.int .i64 0) := a4
            have a5' : w5.cell? ⟨b5, o5 + Q * 2 + 1, none⟩ = some (.int .i64 0) := a5
            clear a4 a5
            go_wp2_with fail
            go_quiet (fail)
            obtain ⟨V, hV⟩ : ∃ V, w5.drewN nq = V := ⟨_, rfl⟩
            have hbV : Below w5.heap.size w5 V := by rw [← hV]; exact below_drewN (Below.refl _ _) _
            rw [hV]
            have z4 : V.cell? ⟨b5, o5 + Q * 2, none⟩ = some (.int .i64 0) := (hbV.cell hs2.lt).trans a4'
            have z5 : V.cell? ⟨b5, o5 + Q * 2 + 1, none⟩ = some (.int .i64 0) := (hbV.cell hs2.lt).trans a5'
            have hbV2 : Below w.heap.size w (V.alloc (.cells #[.int .i64 0, .int .i64 0] 30)) := (bstep HBW5.out hbV).alloc (bstep HBW5.out hbV).size _
            have hb52 : Below w5.heap.size w5 (V.alloc (.cells #[.int .i64 0, .int .i64 0] 30)) := hbV.alloc hbV.size _
            have hv6 := HV5.out.below hb52
            have hx6 := HX5.out.below hb52
            have HV6 := Go.Lib.hid hv6; have HB6 := Go.Lib.hid hbV2
            clear hV hbV a0 a1 a2 a3 a4' a5' n0 n1 n2 n3 n4 n5 n6 hbV2 hb52 hv6 hs2
            obtain ⟨n0, n1, n2, n3, n4, n5, n6⟩ := nd_cells hx6
            clear hx6
            go_wp2_with (go_at_call 19; with_reducible refine (HFD.out _ HV6.out).mono ?_; rintro e w7 ⟨rfl, hb7⟩; have HB7 := Go.Lib.hid (bstep HB6.out hb7); clear hb7)
            exact ⟨⟨k + 1, by omega, by simp, HB7.out.alloc HB7.out.size _⟩, by simp [intOf]; omega⟩
          · have q3 := fun w => ne_st ⟨0, 1⟩ ⟨0, 0⟩ w
            have q4 := fun w => ne_st ⟨0, 1⟩ ⟨0, 1⟩ w
            rw [show decide ((⟨0, 1⟩ : St) = ⟨0, 0⟩) = false by decide] at q3
            rw [show decide ((⟨0, 1⟩ : St) = ⟨0, 1⟩) = true by decide] at q4
            have a4' : w5.cell? ⟨b5, o5 + Q * 2, none⟩ = some (.int .i64 0) := a4
            have a5' : w5.cell? ⟨b5, o5 + Q * 2 + 1, none⟩ = some (.int .i64 1) := a5
            clear a4 a5
            go_wp2_with fail
            go_quiet (fail)
            obtain ⟨V, hV⟩ : ∃ V, w5.drewN nq = V := ⟨_, rfl⟩
            have hbV : Below w5.heap.size w5 V := by rw [← hV]; exact below_drewN (Below.refl _ _) _
            rw [hV]
            have z4 : V.cell? ⟨b5, o5 + Q * 2, none⟩ = some (.int .i64 0) := (hbV.cell hs2.lt).trans a4'
            have z5 : V.cell? ⟨b5, o5 + Q * 2 + 1, none⟩ = some (.int .i64 1) := (hbV.cell hs2.lt).trans a5'
            have hbV2 : Below w.heap.size w (V.alloc (.cells #[.int .i64 0, .int .i64 1] 30)) := (bstep HBW5.out hbV).alloc (bstep HBW5.out hbV).size _
            have hb52 : Below w5.heap.size w5 (V.alloc (.cells #[.int .i64 0, .int .i64 1] 30)) := hbV.alloc hbV.size _
            have hv6 := HV5.out.below hb52
            have hx6 := HX5.out.below hb52
            have HV6 := Go.Lib.hid hv6; have HB6 := Go.Lib.hid hbV2
            clear hV hbV a0 a1 a2 a3 a4' a5' n0 n1 n2 n3 n4 n5 n6 hbV2 hb52 hv6 hs2
            obtain ⟨n0, n1, n2, n3, n4, n5, n6⟩ := nd_cells hx6
            clear hx6
            go_wp2_with (go_at_call 19; with_reducible refine (HFD.out _ HV6.out).mono ?_; rintro e w7 ⟨rfl, hb7⟩; have HB7 := Go.Lib.hid (bstep HB6.out hb7); clear hb7)
            exact ⟨⟨k + 1, by omega, by simp, HB7.out.alloc HB7.out.size _⟩, by simp [intOf]; omega⟩
        · cases fb
          · refine (HCH.out _ HVq.out).mono ?_; rintro e w5 ⟨u5, rfl, hs5, hb5⟩
            have hbw5 := bstep HBq.out hb5
            have hv5 := HVq.out.below hb5
            obtain ⟨A5, cc5, hu5, hcc5⟩ := hs5.len
            rw [HL5.out] at hu5 hcc5
            subst hu5
            obtain ⟨b5, o5, s0, hA5, hg0, hs0⟩ := hs5.at 0 (by omega)
            obtain ⟨b5', o5', s1, hA5', hg1', hs1⟩ := hs5.at 1 (by omega)
            obtain ⟨b5'', o5'', s2, hA5'', hg2, hs2⟩ := hs5.at Q (by omega)
            subst hA5
            cases hA5'
            cases hA5''
            rw [HG0.out] at hg0
            rw [HG1.out] at hg1'
            rw [HG2.out] at hg2
            cases hg0
            cases hg1'
            cases hg2
            obtain ⟨a0, a1⟩ := st_cells hs0
            obtain ⟨a2, a3⟩ := st_cells hs1
            obtain ⟨a4, a5⟩ := st_cells hs2
            simp only [Nat.zero_mul, Nat.add_zero, Nat.one_mul] at a0 a1 a2 a3
            obtain ⟨bb, oo, xx, hbb, hgx, hx5⟩ := hv5.at k hkn
            cases hbb
            rw [HGK.out] at hgx
            cases hgx
            obtain ⟨n0, n1, n2, n3, n4, n5, n6⟩ := nd_cells hx5
            have hq1 := fun w => ne_st x.id x.id w
            have hq2 := fun w => ne_st x.parent x.parent w
            rw [decide_eq_true rfl] at hq1 hq2
            have hl2 : ¬ ((L : Int) < 2) := by omega
            have hld2 : decide ((L : Int) < 2) = false := decide_eq_false (by omega)
            have hl0 : (0 : Int) < (L : Int) := by omega
            have hl1 : (1 : Int) < (L : Int) := by omega
            have hlq : (Q : Int) < (L : Int) := by omega
            have hlw : IntKind.i64.wrap ((L : Int) - 1) = (Q : Int) := by rw [IntKind.wrap_i64]; omega
            have hS5 := hs5
            have HV5 := Go.Lib.hid hv5; have HBW5 := Go.Lib.hid hbw5; have HX5 := Go.Lib.hid hx5
            clear hv5 hbw5 hx5 hs5 hs0 hs1 hb5 hS5
            rcases hz with rfl | rfl
            · have q3 := fun w => ne_st ⟨0, 0⟩ ⟨0, 0⟩ w
              have q4 := fun w => ne_st ⟨0, 0⟩ ⟨0, 1⟩ w
              rw [show decide ((⟨0, 0⟩ : St) = ⟨0, 0⟩) = true by decide] at q3
              rw [show decide ((⟨0, 0⟩ : St) = ⟨0, 1⟩) = false by decide] at q4
              have a4' : w5.cell? ⟨b5, o5 + Q * 2, none⟩ = some (.int .i64 0) := a4
              have a5' : w5.cell? ⟨b5, o5 + Q * 2 + 1, none⟩ = some (.int .i64 0) := a5
              clear a4 a5
              go_wp2_with fail
              go_quiet (fail)
              obtain ⟨V, hV⟩ : ∃ V, w5.drewN nq = V := ⟨_, rfl⟩
              have hbV : Below w5.heap.size w5 V := by rw [← hV]; exact below_drewN (Below.refl _ _) _
              rw [hV]
              have z4 : V.cell? ⟨b5, o5 + Q * 2, none⟩ = some (.int .i64 0) := (hbV.cell hs2.lt).trans a4'
              have z5 : V.cell? ⟨b5, o5 + Q * 2 + 1, none⟩ = some (.int .i64 0) := (hbV.cell hs2.lt).trans a5'
              have hbV2 : Below w.heap.size w (V.alloc (.cells #[.int .i64 0, .int .i64 0] 30)) := (bstep HBW5.out hbV).alloc (bstep HBW5.out hbV).size _
              have hb52 : Below w5.heap.size w5 (V.alloc (.cells #[.int .i64 0, .int .i64 0] 30)) := hbV.alloc hbV.size _
              have hv6 := HV5.out.below hb52
              have hx6 := HX5.out.below hb52
              have HV6 := Go.Lib.hid hv6; have HB6 := Go.Lib.hid hbV2
              clear hV hbV a0 a1 a2 a3 a4' a5' n0 n1 n2 n3 n4 n5 n6 hbV2 hb52 hv6 hs2
              obtain ⟨n0, n1, n2, n3, n4, n5, n6⟩ := nd_cells hx6
              clear hx6
              go_wp2_with (go_at_call 19; with_reducible refine (HFD.out _ HV6.out).mono ?_; rintro e w7 ⟨rfl, hb7⟩; have HB7 := Go.Lib.hid (bstep HB6.out hb7); clear hb7)
              exact ⟨⟨k + 1, by omega, by simp, HB7.out.alloc HB7.out.size _⟩, by simp [intOf]; omega⟩
            · have q3 := fun w => ne_st ⟨0, 1⟩ ⟨0, 0⟩ w
              have q4 := fun w => ne_st ⟨0, 1⟩ ⟨0, 1⟩ w
              rw [show decide ((⟨0, 1⟩ : St) = ⟨0, 0⟩) = false by decide] at q3
              rw [show decide ((⟨0, 1⟩ : St) = ⟨0, 1⟩) = true by decide] at q4
              have a4' : w5.cell? ⟨b5, o5 + Q * 2, none⟩ = some (.int .i64 0) := a4
              have a5' : w5.cell? ⟨b5, o5 + Q * 2 + 1, none⟩ = some (.int .i64 1) := a5
              clear a4 a5
              go_wp2_with fail
              go_quiet (fail)
              obtain ⟨V, hV⟩ : ∃ V, w5.drewN nq = V := ⟨_, rfl⟩
              have hbV : Below w5.heap.size w5 V := by rw [← hV]; exact below_drewN (Below.refl _ _) _
              rw [hV]
              have z4 : V.cell? ⟨b5, o5 + Q * 2, none⟩ = some (.int .i64 0) := (hbV.cell hs2.lt).trans a4'
              have z5 : V.cell? ⟨b5, o5 + Q * 2 + 1, none⟩ = some (.int .i64 1) := (hbV.cell hs2.lt).trans a5'
              have hbV2 : Below w.heap.size w (V.alloc (.cells #[.int .i64 0, .int .i64 1] 30)) := (bstep HBW5.out hbV).alloc (bstep HBW5.out hbV).size _
              have hb52 : Below w5.heap.size w5 (V.alloc (.cells #[.int .i64 0, .int .i64 1] 30)) := hbV.alloc hbV.size _
              have hv6 := HV5.out.below hb52
              have hx6 := HX5.out.below hb52
              have HV6 := Go.Lib.hid hv6; have HB6 := Go.Lib.hid hbV2
              clear hV hbV a0 a1 a2 a3 a4' a5' n0 n1 n2 n3 n4 n5 n6 hbV2 hb52 hv6 hs2
              obtain ⟨n0, n1, n2, n3, n4, n5, n6⟩ := nd_cells hx6
              clear hx6
              go_wp2_with (go_at_call 19; with_reducible refine (HFD.out _ HV6.out).mono ?_; rintro e w7 ⟨rfl, hb7⟩; have HB7 := Go.Lib.hid (bstep HB6.out hb7); clear hb7)
              exact ⟨⟨k + 1, by omega, by simp, HB7.out.alloc HB7.out.size _⟩, by simp [intOf]; omega⟩
          · refine (HCH.out _ HVq.out).mono ?_; rintro e w5 ⟨u5, rfl, hs5, hb5⟩
            have hbw5 := bstep HBq.out hb5
            have hv5 := HVq.out.below hb5
            obtain ⟨A5, cc5, hu5, hcc5⟩ := hs5.len
            rw [HL5.out] at hu5 hcc5
            subst hu5
            obtain ⟨b5, o5, s0, hA5, hg0, hs0⟩ := hs5.at 0 (by omega)
            obtain ⟨b5', o5', s1, hA5', hg1', hs1⟩ := hs5.at 1 (by omega)
            obtain ⟨b5'', o5'', s2, hA5'', hg2, hs2⟩ := hs5.at Q (by omega)
            subst hA5
            cases hA5'
            cases hA5''
            rw [HG0.out] at hg0
            rw [HG1.out] at hg1'
            rw [HG2.out] at hg2
            cases hg0
            cases hg1'
            cases hg2
            obtain ⟨a0, a1⟩ := st_cells hs0
            obtain ⟨a2, a3⟩ := st_cells hs1
            obtain ⟨a4, a5⟩ := st_cells hs2
            simp only [Nat.zero_mul, Nat.add_zero, Nat.one_mul] at a0 a1 a2 a3
            obtain ⟨bb, oo, xx, hbb, hgx, hx5⟩ := hv5.at k hkn
            cases hbb
            rw [HGK.out] at hgx
            cases hgx
            obtain ⟨n0, n1, n2, n3, n4, n5, n6⟩ := nd_cells hx5
            have hq1 := fun w => ne_st x.id x.id w
            have hq2 := fun w => ne_st x.parent x.parent w
            rw [decide_eq_true rfl] at hq1 hq2
            have hl2 : ¬ ((L : Int) < 2) := by omega
            have hld2 : decide ((L : Int) < 2) = false := decide_eq_false (by omega)
            have hl0 : (0 : Int) < (L : Int) := by omega
            have hl1 : (1 : Int) < (L : Int) := by omega
            have hlq : (Q : Int) < (L : Int) := by omega
            have hlw : IntKind.i64.wrap ((L : Int) - 1) = (Q : Int) := by rw [IntKind.wrap_i64]; omega
            have hS5 := hs5
            have HV5 := Go.Lib.hid hv5; have HBW5 := Go.Lib.hid hbw5; have HX5 := Go.Lib.hid hx5
            clear hv5 hbw5 hx5 hs5 hs0 hs1 hb5 hS5
            rcases hz with rfl | rfl
            · have q3 := fun w => ne_st ⟨0, 0⟩ ⟨0, 0⟩ w
              have q4 := fun w => ne_st ⟨0, 0⟩ ⟨0, 1⟩ w
              rw [show decide ((⟨0, 0⟩ : St) = ⟨0, 0⟩) = true by decide] at q3
              rw [show decide ((⟨0, 0⟩ : St) = ⟨0, 1⟩) = false by decide] at q4
              have a4' : w5.cell? ⟨b5, o5 + Q * 2, none⟩ = some (.int .i64 0) := a4
              have a5' : w5.cell? ⟨b5, o5 + Q * 2 + 1, none⟩ = some (.int .i64 0) := a5
              clear a4 a5
              go_wp2_with fail
              go_quiet (fail)
              obtain ⟨V, hV⟩ : ∃ V, w5.drewN nq = V := ⟨_, rfl⟩
              have hbV : Below w5.heap.size w5 V := by rw [← hV]; exact below_drewN (Below.refl _ _) _
              rw [hV]
              have z4 : V.cell? ⟨b5, o5 + Q * 2, none⟩ = some (.int .i64 0) := (hbV.cell hs2.lt).trans a4'
              have z5 : V.cell? ⟨b5, o5 + Q * 2 + 1, none⟩ = some (.int .i64 0) := (hbV.cell hs2.lt).trans a5'
              have hbV2 : Below w.heap.size w (V.alloc (.cells #[.int .i64 0, .int .i64 0] 30)) := (bstep HBW5.out hbV).alloc (bstep HBW5.out hbV).size _
              have hb52 : Below w5.heap.size w5 (V.alloc (.cells #[.int .i64 0, .int .i64 0] 30)) := hbV.alloc hbV.size _
              have hv6 := HV5.out.below hb52
              have hx6 := HX5.out.below hb52
              have HV6 := Go.Lib.hid hv6; have HB6 := Go.Lib.hid hbV2
              clear hV hbV a0 a1 a2 a3 a4' a5' n0 n1 n2 n3 n4 n5 n6 hbV2 hb52 hv6 hs2
              obtain ⟨n0, n1, n2, n3, n4, n5, n6⟩ := nd_cells hx6
              clear hx6
              go_wp2_with (go_at_call 19; with_reducible refine (HFD.out _ HV6.out).mono ?_; rintro e w7 ⟨rfl, hb7⟩; have HB7 := Go.Lib.hid (bstep HB6.out hb7); clear hb7)
              exact ⟨⟨k + 1, by omega, by simp, HB7.out.alloc HB7.out.size _⟩, by simp [intOf]; omega⟩
            · have q3 := fun w => ne_st ⟨0, 1⟩ ⟨0, 0⟩ w
              have q4 := fun w => ne_st ⟨0, 1⟩ ⟨0, 1⟩ w
              rw [show decide ((⟨0, 1⟩ : St) = ⟨0, 0⟩) = false by decide] at q3
              rw [show decide ((⟨0, 1⟩ : St) = ⟨0, 1⟩) = true by decide] at q4
              have a4' : w5.cell? ⟨b5, o5 + Q * 2, none⟩ = some (.int .i64 0) := a4
              have a5' : w5.cell? ⟨b5, o5 + Q * 2 + 1, none⟩ = some (.int .i64 1) := a5
              clear a4 a5
              go_wp2_with fail
              go_quiet (fail)
              obtain ⟨V, hV⟩ : ∃ V, w5.drewN nq = V := ⟨_, rfl⟩
              have hbV : Below w5.heap.size w5 V := by rw [← hV]; exact below_drewN (Below.refl _ _) _
              rw [hV]
              have z4 : V.cell? ⟨b5, o5 + Q * 2, none⟩ = some (.int .i64 0) := (hbV.cell hs2.lt).trans a4'
              have z5 : V.cell? ⟨b5, o5 + Q * 2 + 1, none⟩ = some (.int .i64 1) := (hbV.cell hs2.lt).trans a5'
              have hbV2 : Below w.heap.size w (V.alloc (.cells #[.int .i64 0, .int .i64 1] 30)) := (bstep HBW5.out hbV).alloc (bstep HBW5.out hbV).size _
              have hb52 : Below w5.heap.size w5 (V.alloc (.cells #[.int .i64 0, .int .i64 1] 30)) := hbV.alloc hbV.size _
              have hv6 := HV5.out.below hb52
              have hx6 := HX5.out.below hb52
              have HV6 := Go.Lib.hid hv6; have HB6 := Go.Lib.hid hbV2
              clear hV hbV a0 a1 a2 a3 a4' a5' n0 n1 n2 n3 n4 n5 n6 hbV2 hb52 hv6 hs2
              obtain ⟨n0, n1, n2, n3, n4, n5, n6⟩ := nd_cells hx6
              clear hx6
              go_wp2_with (go_at_call 19; with_reducible refine (HFD.out _ HV6.out).mono ?_; rintro e w7 ⟨rfl, hb7⟩; have HB7 := Go.Lib.hid (bstep HB6.out hb7); clear hb7)
              exact ⟨⟨k + 1, by omega, by simp, HB7.out.alloc HB7.out.size _⟩, by simp [intOf]; omega⟩
      · obtain ⟨p, hp1⟩ : ∃ p, k = p + 1 := ⟨k - 1, by omega⟩
        obtain ⟨bp, op, z, hep, hgz, hzn⟩ := HVR.out.at p (by omega)
        cases hep
        have hls := rises_less HT.out.rise hgz HGK.out (by omega)
        have hl2 := fun w => pless_any z.id x.id w
        rw [hls] at hl2
        simp only [stCells] at hl2
        obtain ⟨d0, d1, -⟩ := nd_cells hzn
        have hlx := HX.out.lt
        have hq4 : decide (0 < k) = true := decide_eq_true (by omega)
        have hq2 : IntKind.i64.wrap ((k : Int) - 1) = (p : Int) := by rw [IntKind.wrap_i64]; omega
        have hq3 : (p : Int) < (n : Int) := by omega
        have HL2 := Go.Lib.hid hl2; have HP1 := Go.Lib.hid hp1
        clear hl2 hls hp1 h0 hgz
        obtain ⟨Vr, hVr⟩ : ∃ V, V = wr := ⟨_, rfl⟩
        subst hVr
        have hne := BW.ne Vr.heap.size Vr
        have q0 := fun z : BW Vr.heap.size Vr => z.cell c0 hlx
        have q1 := fun z : BW Vr.heap.size Vr => z.cell c1 hlx
        have q2 := fun z : BW Vr.heap.size Vr => z.cell d0 hlx
        have q3 := fun z : BW Vr.heap.size Vr => z.cell d1 hlx
        go_wp2_with fail
        refine wp_region_calm Vr.heap.size Vr (Below.refl _ _) (by kernel_rfl) (by kernel_rfl) ?_
        repeat (go_big_quiet_step ((go_at_call 40; with_reducible exact bw_of (Nat.le_refl _) (HL2.out _))))
        refine wpQuiet_nil ?_
        intro _ hw'
        obtain ⟨zz, rfl⟩ := hw'
        obtain ⟨Vq, hVq⟩ : ∃ V, zz.w = V := ⟨_, rfl⟩
        have hbq : Below Vr.heap.size Vr Vq := by rw [← hVq]; exact zz.2
        rw [hVq]
        have HVq := Go.Lib.hid (HVR.out.below hbq); have HBq := Go.Lib.hid (bstep HBW.out hbq)
        have hxq := HX.out.below hbq
        clear hVq hbq c0 c1 d0 d1 hne q0 q1 q2 q3 hq4 hq2 hq3 hlx hzn
        obtain ⟨c0, c1, -⟩ := nd_cells hxq
        clear hxq
        go_wp2_with fail
        clear c0 c1
        rcases hfb with rfl | hyd
        · refine (HCH.out _ HVq.out).mono ?_; rintro e w5 ⟨u5, rfl, hs5, hb5⟩
          have hbw5 := bstep HBq.out hb5
          have hv5 := HVq.out.below hb5
          obtain ⟨A5, cc5, hu5, hcc5⟩ := hs5.len
          rw [HL5.out] at hu5 hcc5
          subst hu5
          obtain ⟨b5, o5, s0, hA5, hg0, hs0⟩ := hs5.at 0 (by omega)
          obtain ⟨b5', o5', s1, hA5', hg1', hs1⟩ := hs5.at 1 (by omega)
          obtain ⟨b5'', o5'', s2, hA5'', hg2, hs2⟩ := hs5.at Q (by omega)
          subst hA5
          cases hA5'
          cases hA5''
          rw [HG0.out] at hg0
          rw [HG1.out] at hg1'
          rw [HG2.out] at hg2
          cases hg0
          cases hg1'
          cases hg2
          obtain ⟨a0, a1⟩ := st_cells hs0
          obtain ⟨a2, a3⟩ := st_cells hs1
          obtain ⟨a4, a5⟩ := st_cells hs2
          simp only [Nat.zero_mul, Nat.add_zero, Nat.one_mul] at a0 a1 a2 a3
          obtain ⟨bb, oo, xx, hbb, hgx, hx5⟩ := hv5.at k hkn
          cases hbb
          rw [HGK.out] at hgx
          cases hgx
          obtain ⟨n0, n1, n2, n3, n4, n5, n6⟩ := nd_cells hx5
          have hq1 := fun w => ne_st x.id x.id w
          have hq2 := fun w => ne_st x.parent x.parent w
          rw [decide_eq_true rfl] at hq1 hq2
          have hl2 : ¬ ((L : Int) < 2) := by omega
          have hld2 : decide ((L : Int) < 2) = false := decide_eq_false (by omega)
          have hl0 : (0 : Int) < (L : Int) := by omega
          have hl1 : (1 : Int) < (L : Int) := by omega
          have hlq : (Q : Int) < (L : Int) := by omega
          have hlw : IntKind.i64.wrap ((L : Int) - 1) = (Q : Int) := by rw [IntKind.wrap_i64]; omega
          have hS5 := hs5
          have HV5 := Go.Lib.hid hv5; have HBW5 := Go.Lib.hid hbw5; have HX5 := Go.Lib.hid hx5
          clear hv5 hbw5 hx5 hs5 hs0 hs1 hb5 hS5
          rcases hz with rfl | rfl
          · have q3 := fun w => ne_st ⟨0, 0⟩ ⟨0, 0⟩ w
            have q4 := fun w => ne_st ⟨0, 0⟩ ⟨0, 1⟩ w
            rw [show decide ((⟨0, 0⟩ : St) = ⟨0, 0⟩) = true by decide] at q3
            rw [show decide ((⟨0, 0⟩ : St) = ⟨0, 1⟩) = false by decide] at q4
            have a4' : w5.cell? ⟨b5, o5 + Q * 2, none⟩ = some (.int .i64 0) := a4
            have a5' : w5.cell? ⟨b5, o5 + Q * 2 + 1, none⟩ = some (.int .i64 0) := a5
            clear a4 a5
            go_wp2_with fail
            go_quiet (fail)
            obtain ⟨V, hV⟩ : ∃ V, w5.drewN nq = V := ⟨_, rfl⟩
            have hbV : Below w5.heap.size w5 V := by rw [← hV]; exact below_drewN (Below.refl _ _) _
            rw [hV]
            have z4 : V.cell? ⟨b5, o5 + Q * 2, none⟩ = some (.int .i64 0) := (hbV.cell hs2.lt).trans a4'
            have z5 : V.cell? ⟨b5, o5 + Q * 2 + 1, none⟩ = some (.int .i64 0) := (hbV.cell hs2.lt).trans a5'
            have hbV2 : Below w.heap.size w (V.alloc (.cells #[.int .i64 0, .int .i64 0] 30)) := (bstep HBW5.out hbV).alloc (bstep HBW5.out hbV).size _
            have hb52 : Below w5.heap.size w5 (V.alloc (.cells #[.int .i64 0, .int .i64 0] 30)) := hbV.alloc hbV.size _
            have hv6 := HV5.out.below hb52
            have hx6 := HX5.out.below hb52
            have HV6 := Go.Lib.hid hv6; have HB6 := Go.Lib.hid hbV2
            clear hV hbV a0 a1 a2 a3 a4' a5' n0 n1 n2 n3 n4 n5 n6 hbV2 hb52 hv6 hs2
            obtain ⟨n0, n1, n2, n3, n4, n5, n6⟩ := nd_cells hx6
            clear hx6
            go_wp2_with (go_at_call 19; with_reducible refine (HFD.out _ HV6.out).mono ?_; rintro e w7 ⟨rfl, hb7⟩; have HB7 := Go.Lib.hid (bstep HB6.out hb7); clear hb7)
            exact ⟨⟨k + 1, by omega, by simp, HB7.out.alloc HB7.out.size _⟩, by simp [intOf]; omega⟩
          · have q3 := fun w => ne_st ⟨0, 1⟩ ⟨0, 0⟩ w
            have q4 := fun w => ne_st ⟨0, 1⟩ ⟨0, 1⟩ w
            rw [show decide ((⟨0, 1⟩ : St) = ⟨0, 0⟩) = false by decide] at q3
            rw [show decide ((⟨0, 1⟩ : St) = ⟨0, 1⟩) = true by decide] at q4
            have a4' : w5.cell? ⟨b5, o5 + Q * 2, none⟩ = some (.int .i64 0) := a4
            have a5' : w5.cell? ⟨b5, o5 + Q * 2 + 1, none⟩ = some (.int .i64 1) := a5
            clear a4 a5
            go_wp2_with fail
            go_quiet (fail)
            obtain ⟨V, hV⟩ : ∃ V, w5.drewN nq = V := ⟨_, rfl⟩
            have hbV : Below w5.heap.size w5 V := by rw [← hV]; exact below_drewN (Below.refl _ _) _
            rw [hV]
            have z4 : V.cell? ⟨b5, o5 + Q * 2, none⟩ = some (.int .i64 0) := (hbV.cell hs2.lt).trans a4'
            have z5 : V.cell? ⟨b5, o5 + Q * 2 + 1, none⟩ = some (.int .i64 1) := (hbV.cell hs2.lt).trans a5'
            have hbV2 : Below w.heap.size w (V.alloc (.cells #[.int .i64 0, .int .i64 1] 30)) := (bstep HBW5.out hbV).alloc (bstep HBW5.out hbV).size _
            have hb52 : Below w5.heap.size w5 (V.alloc (.cells #[.int .i64 0, .int .i64 1] 30)) := hbV.alloc hbV.size _
            have hv6 := HV5.out.below hb52
            have hx6 := HX5.out.below hb52
            have HV6 := Go.Lib.hid hv6; have HB6 := Go.Lib.hid hbV2
            clear hV hbV a0 a1 a2 a3 a4' a5' n0 n1 n2 n3 n4 n5 n6 hbV2 hb52 hv6 hs2
            obtain ⟨n0, n1, n2, n3, n4, n5, n6⟩ := nd_cells hx6
            clear hx6
            go_wp2_with (go_at_call 19; with_reducible refine (HFD.out _ HV6.out).mono ?_; rintro e w7 ⟨rfl, hb7⟩; have HB7 := Go.Lib.hid (bstep HB6.out hb7); clear hb7)
            exact ⟨⟨k + 1, by omega, by simp, HB7.out.alloc HB7.out.size _⟩, by simp [intOf]; omega⟩
        · cases fb
          · refine (HCH.out _ HVq.out).mono ?_; rintro e w5 ⟨u5, rfl, hs5, hb5⟩
            have hbw5 := bstep HBq.out hb5
            have hv5 := HVq.out.below hb5
            obtain ⟨A5, cc5, hu5, hcc5⟩ := hs5.len
            rw [HL5.out] at hu5 hcc5
            subst hu5
            obtain ⟨b5, o5, s0, hA5, hg0, hs0⟩ := hs5.at 0 (by omega)
            obtain ⟨b5', o5', s1, hA5', hg1', hs1⟩ := hs5.at 1 (by omega)
            obtain ⟨b5'', o5'', s2, hA5'', hg2, hs2⟩ := hs5.at Q (by omega)
            subst hA5
            cases hA5'
            cases hA5''
            rw [HG0.out] at hg0
            rw [HG1.out] at hg1'
            rw [HG2.out] at hg2
            cases hg0
            cases hg1'
            cases hg2
            obtain ⟨a0, a1⟩ := st_cells hs0
            obtain ⟨a2, a3⟩ := st_cells hs1
            obtain ⟨a4, a5⟩ := st_cells hs2
            simp only [Nat.zero_mul, Nat.add_zero, Nat.one_mul] at a0 a1 a2 a3
            obtain ⟨bb, oo, xx, hbb, hgx, hx5⟩ := hv5.at k hkn
            cases hbb
            rw [HGK.out] at hgx
            cases hgx
            obtain ⟨n0, n1, n2, n3, n4, n5, n6⟩ := nd_cells hx5
            have hq1 := fun w => ne_st x.id x.id w
            have hq2 := fun w => ne_st x.parent x.parent w
            rw [decide_eq_true rfl] at hq1 hq2
            have hl2 : ¬ ((L : Int) < 2) := by omega
            have hld2 : decide ((L : Int) < 2) = false := decide_eq_false (by omega)
            have hl0 : (0 : Int) < (L : Int) := by omega
            have hl1 : (1 : Int) < (L : Int) := by omega
            have hlq : (Q : Int) < (L : Int) := by omega
            have hlw : IntKind.i64.wrap ((L : Int) - 1) = (Q : Int) := by rw [IntKind.wrap_i64]; omega
            have hS5 := hs5
            have HV5 := Go.Lib.hid hv5; have HBW5 := Go.Lib.hid hbw5; have HX5 := Go.Lib.hid hx5
            clear hv5 hbw5 hx5 hs5 hs0 hs1 hb5 hS5
            rcases hz with rfl | rfl
            · have q3 := fun w => ne_st ⟨0, 0⟩ ⟨0, 0⟩ w
              have q4 := fun w => ne_st ⟨0, 0⟩ ⟨0, 1⟩ w
              rw [show decide ((⟨0, 0⟩ : St) = ⟨0, 0⟩) = true by decide] at q3
              rw [show decide ((⟨0, 0⟩ : St) = ⟨0, 1⟩) = false by decide] at q4
              have a4' : w5.cell? ⟨b5, o5 + Q * 2, none⟩ = some (.int .i64 0) := a4
              have a5' : w5.cell? ⟨b5, o5 + Q * 2 + 1, none⟩ = some (.int .i64 0) := a5
              clear a4 a5
              go_wp2_with fail
              go_quiet (fail)
              obtain ⟨V, hV⟩ : ∃ V, w5.drewN nq = V := ⟨_, rfl⟩
              have hbV : Below w5.heap.size w5 V := by rw [← hV]; exact below_drewN (Below.refl _ _) _
              rw [hV]
              have z4 : V.cell? ⟨b5, o5 + Q * 2, none⟩ = some (.int .i64 0) := (hbV.cell hs2.lt).trans a4'
              have z5 : V.cell? ⟨b5, o5 + Q * 2 + 1, none⟩ = some (.int .i64 0) := (hbV.cell hs2.lt).trans a5'
              have hbV2 : Below w.heap.size w (V.alloc (.cells #[.int .i64 0, .int .i64 0] 30)) := (bstep HBW5.out hbV).alloc (bstep HBW5.out hbV).size _
              have hb52 : Below w5.heap.size w5 (V.alloc (.cells #[.int .i64 0, .int .i64 0] 30)) := hbV.alloc hbV.size _
              have hv6 := HV5.out.below hb52
              have hx6 := HX5.out.below hb52
              have HV6 := Go.Lib.hid hv6; have HB6 := Go.Lib.hid hbV2
              clear hV hbV a0 a1 a2 a3 a4' a5' n0 n1 n2 n3 n4 n5 n6 hbV2 hb52 hv6 hs2
              obtain ⟨n0, n1, n2, n3, n4, n5, n6⟩ := nd_cells hx6
              clear hx6
              go_wp2_with (go_at_call 19; with_reducible refine (HFD.out _ HV6.out).mono ?_; rintro e w7 ⟨rfl, hb7⟩; have HB7 := Go.Lib.hid (bstep HB6.out hb7); clear hb7)
              exact ⟨⟨k + 1, by omega, by simp, HB7.out.alloc HB7.out.size _⟩, by simp [intOf]; omega⟩
            · have q3 := fun w => ne_st ⟨0, 1⟩ ⟨0, 0⟩ w
              have q4 := fun w => ne_st ⟨0, 1⟩ ⟨0, 1⟩ w
              rw [show decide ((⟨0, 1⟩ : St) = ⟨0, 0⟩) = false by decide] at q3
              rw [show decide ((⟨0, 1⟩ : St) = ⟨0, 1⟩) = true by decide] at q4
              have a4' : w5.cell? ⟨b5, o5 + Q * 2, none⟩ = some (.int .i64 0) := a4
              have a5' : w5.cell? ⟨b5, o5 + Q * 2 + 1, none⟩ = some (.int .i64 1) := a5
              clear a4 a5
              go_wp2_with fail
              go_quiet (fail)
              obtain ⟨V, hV⟩ : ∃ V, w5.drewN nq = V := ⟨_, rfl⟩
              have hbV : Below w5.heap.size w5 V := by rw [← hV]; exact below_drewN (Below.refl _ _) _
              rw [hV]
              have z4 : V.cell? ⟨b5, o5 + Q * 2, none⟩ = some (.int .i64 0) := (hbV.cell hs2.lt).trans a4'
              have z5 : V.cell? ⟨b5, o5 + Q * 2 + 1, none⟩ = some (.int .i64 1) := (hbV.cell hs2.lt).trans a5'
              have hbV2 : Below w.heap.size w (V.alloc (.cells #[.int .i64 0, .int .i64 1] 30)) := (bstep HBW5.out hbV).alloc (bstep HBW5.out hbV).size _
              have hb52 : Below w5.heap.size w5 (V.alloc (.cells #[.int .i64 0, .int .i64 1] 30)) := hbV.alloc hbV.size _
              have hv6 := HV5.out.below hb52
              have hx6 := HX5.out.below hb52
              have HV6 := Go.Lib.hid hv6; have HB6 := Go.Lib.hid hbV2
              clear hV hbV a0 a1 a2 a3 a4' a5' n0 n1 n2 n3 n4 n5 n6 hbV2 hb52 hv6 hs2
              obtain ⟨n0, n1, n2, n3, n4, n5, n6⟩ := nd_cells hx6
              clear hx6
              go_wp2_with (go_at_call 19; with_reducible refine (HFD.out _ HV6.out).mono ?_; rintro e w7 ⟨rfl, hb7⟩; have HB7 := Go.Lib.hid (bstep HB6.out hb7); clear hb7)
              exact ⟨⟨k + 1, by omega, by simp, HB7.out.alloc HB7.out.size _⟩, by simp [intOf]; omega⟩
          · refine (HCH.out _ HVq.out).mono ?_; rintro e w5 ⟨u5, rfl, hs5, hb5⟩
            have hbw5 := bstep HBq.out hb5
            have hv5 := HVq.out.below hb5
            obtain ⟨A5, cc5, hu5, hcc5⟩ := hs5.len
            rw [HL5.out] at hu5 hcc5
            subst hu5
            obtain ⟨b5, o5, s0, hA5, hg0, hs0⟩ := hs5.at 0 (by omega)
            obtain ⟨b5', o5', s1, hA5', hg1', hs1⟩ := hs5.at 1 (by omega)
            obtain ⟨b5'', o5'', s2, hA5'', hg2, hs2⟩ := hs5.at Q (by omega)
            subst hA5
            cases hA5'
            cases hA5''
            rw [HG0.out] at hg0
            rw [HG1.out] at hg1'
            rw [HG2.out] at hg2
            cases hg0
            cases hg1'
            cases hg2
            obtain ⟨a0, a1⟩ := st_cells hs0
            obtain ⟨a2, a3⟩ := st_cells hs1
            obtain ⟨a4, a5⟩ := st_cells hs2
            simp only [Nat.zero_mul, Nat.add_zero, Nat.one_mul] at a0 a1 a2 a3
            obtain ⟨bb, oo, xx, hbb, hgx, hx5⟩ := hv5.at k hkn
            cases hbb
            rw [HGK.out] at hgx
            cases hgx
            obtain ⟨n0, n1, n2, n3, n4, n5, n6⟩ := nd_cells hx5
            have hq1 := fun w => ne_st x.id x.id w
            have hq2 := fun w => ne_st x.parent x.parent w
            rw [decide_eq_true rfl] at hq1 hq2
            have hl2 : ¬ ((L : Int) < 2) := by omega
            have hld2 : decide ((L : Int) < 2) = false := decide_eq_false (by omega)
            have hl0 : (0 : Int) < (L : Int) := by omega
            have hl1 : (1 : Int) < (L : Int) := by omega
            have hlq : (Q : Int) < (L : Int) := by omega
            have hlw : IntKind.i64.wrap ((L : Int) - 1) = (Q : Int) := by rw [IntKind.wrap_i64]; omega
            have hS5 := hs5
            have HV5 := Go.Lib.hid hv5; have HBW5 := Go.Lib.hid hbw5; have HX5 := Go.Lib.hid hx5
            clear hv5 hbw5 hx5 hs5 hs0 hs1 hb5 hS5
            rcases hz with rfl | rfl
            · have q3 := fun w => ne_st ⟨0, 0⟩ ⟨0, 0⟩ w
              have q4 := fun w => ne_st ⟨0, 0⟩ ⟨0, 1⟩ w
              rw [show decide ((⟨0, 0⟩ : St) = ⟨0, 0⟩) = true by decide] at q3
              rw [show decide ((⟨0, 0⟩ : St) = ⟨0, 1⟩) = false by decide] at q4
              have a4' : w5.cell? ⟨b5, o5 + Q * 2, none⟩ = some (.int .i64 0) := a4
              have a5' : w5.cell? ⟨b5, o5 + Q * 2 + 1, none⟩ = some (.int .i64 0) := a5
              clear a4 a5
              go_wp2_with fail
              go_quiet (fail)
              obtain ⟨V, hV⟩ : ∃ V, w5.drewN nq = V := ⟨_, rfl⟩
              have hbV : Below w5.heap.size w5 V := by rw [← hV]; exact below_drewN (Below.refl _ _) _
              rw [hV]
              have z4 : V.cell? ⟨b5, o5 + Q * 2, none⟩ = some (.int .i64 0) := (hbV.cell hs2.lt).trans a4'
              have z5 : V.cell? ⟨b5, o5 + Q * 2 + 1, none⟩ = some (.int .i64 0) := (hbV.cell hs2.lt).trans a5'
              have hbV2 : Below w.heap.size w (V.alloc (.cells #[.int .i64 0, .int .i64 0] 30)) := (bstep HBW5.out hbV).alloc (bstep HBW5.out hbV).size _
              have hb52 : Below w5.heap.size w5 (V.alloc (.cells #[.int .i64 0, .int .i64 0] 30)) := hbV.alloc hbV.size _
              have hv6 := HV5.out.below hb52
              have hx6 := HX5.out.below hb52
              have HV6 := Go.Lib.hid hv6; have HB6 := Go.Lib.hid hbV2
              clear hV hbV a0 a1 a2 a3 a4' a5' n0 n1 n2 n3 n4 n5 n6 hbV2 hb52 hv6 hs2
              obtain ⟨n0, n1, n2, n3, n4, n5, n6⟩ := nd_cells hx6
              clear hx6
              go_wp2_with (go_at_call 19; with_reducible refine (HFD.out _ HV6.out).mono ?_; rintro e w7 ⟨rfl, hb7⟩; have HB7 := Go.Lib.hid (bstep HB6.out hb7); clear hb7)
              exact ⟨⟨k + 1, by omega, by simp, HB7.out.alloc HB7.out.size _⟩, by simp [intOf]; omega⟩
            · have q3 := fun w => ne_st ⟨0, 1⟩ ⟨0, 0⟩ w
              have q4 := fun w => ne_st ⟨0, 1⟩ ⟨0, 1⟩ w
              rw [show decide ((⟨0, 1⟩ : St) = ⟨0, 0⟩) = false by decide] at q3
              rw [show decide ((⟨0, 1⟩ : St) = ⟨0, 1⟩) = true by decide] at q4
              have a4' : w5.cell? ⟨b5, o5 + Q * 2, none⟩ = some (.int .i64 0) := a4
              have a5' : w5.cell? ⟨b5, o5 + Q * 2 + 1, none⟩ = some (.int .i64 1) := a5
              clear a4 a5
              go_wp2_with fail
              go_quiet (fail)
              obtain ⟨V, hV⟩ : ∃ V, w5.drewN nq = V := ⟨_, rfl⟩
              have hbV : Below w5.heap.size w5 V := by rw [← hV]; exact below_drewN (Below.refl _ _) _
              rw [hV]
              have z4 : V.cell? ⟨b5, o5 + Q * 2, none⟩ = some (.int .i64 0) := (hbV.cell hs2.lt).trans a4'
              have z5 : V.cell? ⟨b5, o5 + Q * 2 + 1, none⟩ = some (.int .i64 1) := (hbV.cell hs2.lt).trans a5'
              have hbV2 : Below w.heap.size w (V.alloc (.cells #[.int .i64 0, .int .i64 1] 30)) := (bstep HBW5.out hbV).alloc (bstep HBW5.out hbV).size _
              have hb52 : Below w5.heap.size w5 (V.alloc (.cells #[.int .i64 0, .int .i64 1] 30)) := hbV.alloc hbV.size _
              have hv6 := HV5.out.below hb52
              have hx6 := HX5.out.below hb52
              have HV6 := Go.Lib.hid hv6; have HB6 := Go.Lib.hid hbV2
              clear hV hbV a0 a1 a2 a3 a4' a5' n0 n1 n2 n3 n4 n5 n6 hbV2 hb52 hv6 hs2
              obtain ⟨n0, n1, n2, n3, n4, n5, n6⟩ := nd_cells hx6
              clear hx6
              go_wp2_with (go_at_call 19; with_reducible refine (HFD.out _ HV6.out).mono ?_; rintro e w7 ⟨rfl, hb7⟩; have HB7 := Go.Lib.hid (bstep HB6.out hb7); clear hb7)
              exact ⟨⟨k + 1, by omega, by simp, HB7.out.alloc HB7.out.size _⟩, by simp [intOf]; omega⟩
    · obtain rfl : k = n := by omega
      have HBW := Go.Lib.hid hbw; clear hbw
      go_wp2_with fail
      go_ret
      exact ⟨rfl, HBW.out⟩
end Go.Proofs.YthcoldjncpiffaaDoor.W
