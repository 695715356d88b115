/- Contracts of package sha's calls: Sum; Key. -/
import Derived.Test.YtlkcmnpcfldbcaaDoorShaI
import Derived.Test.YtlkcmnpcfldbcaaDoorShaK
import Derived.Deep.Cut
import Derived.Deep.CutRange
namespace Go.Proofs.YtlkcmnpcfldbcaaDoor.W
set_option linter.unusedVariables false
open Go.RowKit Go.Proofs Arb

theorem shaRun_append : ∀ (n1 n2 : Nat) (h : List Nat) (a b : List UInt8), a.length = 128 * n1 → shaRun (n1 + n2) h (a ++ b) = shaRun n2 (shaRun n1 h a) b
  | 0, n2, h, a, b, ha => by
    have : a = [] := List.eq_nil_of_length_eq_zero (by omega)
    subst this
    rw [Nat.zero_add]; rfl
  | n1 + 1, n2, h, a, b, ha => by
    have ih := shaRun_append n1 n2 (compress h (a.take 128)) (a.drop 128) b (by rw [List.length_drop]; omega)
    rw [show n1 + 1 + n2 = (n1 + n2) + 1 by omega]
    show shaRun (n1 + n2) (compress h ((a ++ b).take 128)) ((a ++ b).drop 128) = _
    rw [List.take_append_of_le_length (by omega), List.drop_append_of_le_length (by omega), ih]
    rfl
theorem KMet.heap {w w' : World} (h : KMet w) (hh : w'.heap = w.heap) : KMet w' := by
  intro t ht
  have := h t ht
  unfold World.cell? at *
  rw [hh]
  exact this

theorem cells_of8 {w : World} {b : Nat} {t : TypeId} {x0 x1 x2 x3 x4 x5 x6 x7 : Value} (h : w.heap[b]? = some (.cells #[x0, x1, x2, x3, x4, x5, x6, x7] t (0, 0))) :
    (w.cell? ⟨b, 0, none⟩ = some x0 ∧ w.cell? ⟨b, 1, none⟩ = some x1 ∧ w.cell? ⟨b, 2, none⟩ = some x2 ∧ w.cell? ⟨b, 3, none⟩ = some x3 ∧ w.cell? ⟨b, 4, none⟩ = some x4 ∧ w.cell? ⟨b, 5, none⟩ = some x5 ∧ w.cell? ⟨b, 6, none⟩ = some x6 ∧ w.cell? ⟨b, 7, none⟩ = some x7) ∧
    ∀ i, w.frozen? ⟨b, i, none⟩ = false := by
  refine ⟨⟨?_, ?_, ?_, ?_, ?_, ?_, ?_, ?_⟩, fun i => frozen_of_row _ _ i _ _ h⟩ <;> (rw [cell_of_row _ _ _ _ _ _ h]; rfl)
theorem set8 {w : World} {b : Nat} {t : TypeId} {x0 x1 x2 x3 x4 x5 x6 x7 v0 v1 v2 v3 v4 v5 v6 v7 : Value} (h : w.heap[b]? = some (.cells #[x0, x1, x2, x3, x4, x5, x6, x7] t (0, 0))) :
    ((((((((w.setCell ⟨b, 0, none⟩ v0).setCell ⟨b, 1, none⟩ v1).setCell ⟨b, 2, none⟩ v2).setCell ⟨b, 3, none⟩ v3).setCell ⟨b, 4, none⟩ v4).setCell ⟨b, 5, none⟩ v5).setCell ⟨b, 6, none⟩ v6).setCell ⟨b, 7, none⟩ v7) =
      w.setRow b #[v0, v1, v2, v3, v4, v5, v6, v7] := by
  have h0 := setRow_heap w b #[x0, x1, x2, x3, x4, x5, x6, x7] #[v0, x1, x2, x3, x4, x5, x6, x7] t (0, 0) h
  have h1 := setRow_heap w b #[x0, x1, x2, x3, x4, x5, x6, x7] #[v0, v1, x2, x3, x4, x5, x6, x7] t (0, 0) h
  have h2 := setRow_heap w b #[x0, x1, x2, x3, x4, x5, x6, x7] #[v0, v1, v2, x3, x4, x5, x6, x7] t (0, 0) h
  have h3 := setRow_heap w b #[x0, x1, x2, x3, x4, x5, x6, x7] #[v0, v1, v2, v3, x4, x5, x6, x7] t (0, 0) h
  have h4 := setRow_heap w b #[x0, x1, x2, x3, x4, x5, x6, x7] #[v0, v1, v2, v3, v4, x5, x6, x7] t (0, 0) h
  have h5 := setRow_heap w b #[x0, x1, x2, x3, x4, x5, x6, x7] #[v0, v1, v2, v3, v4, v5, x6, x7] t (0, 0) h
  have h6 := setRow_heap w b #[x0, x1, x2, x3, x4, x5, x6, x7] #[v0, v1, v2, v3, v4, v5, v6, x7] t (0, 0) h
  rw [setCell_eq_setRow w b 0 _ t (0, 0) v0 h]
  simp only [List.setIfInBounds_toArray, List.set_cons_zero]
  rw [setCell_eq_setRow _ b 1 _ t (0, 0) v1 h0, setRow_setRow]
  simp only [List.setIfInBounds_toArray, List.set_cons_zero, List.set_cons_succ]
  rw [setCell_eq_setRow _ b 2 _ t (0, 0) v2 h1, setRow_setRow]
  simp only [List.setIfInBounds_toArray, List.set_cons_zero, List.set_cons_succ]
  rw [setCell_eq_setRow _ b 3 _ t (0, 0) v3 h2, setRow_setRow]
  simp only [List.setIfInBounds_toArray, List.set_cons_zero, List.set_cons_succ]
  rw [setCell_eq_setRow _ b 4 _ t (0, 0) v4 h3, setRow_setRow]
  simp only [List.setIfInBounds_toArray, List.set_cons_zero, List.set_cons_succ]
  rw [setCell_eq_setRow _ b 5 _ t (0, 0) v5 h4, setRow_setRow]
  simp only [List.setIfInBounds_toArray, List.set_cons_zero, List.set_cons_succ]
  rw [setCell_eq_setRow _ b 6 _ t (0, 0) v6 h5, setRow_setRow]
  simp only [List.setIfInBounds_toArray, List.set_cons_zero, List.set_cons_succ]
  rw [setCell_eq_setRow _ b 7 _ t (0, 0) v7 h6, setRow_setRow]
  simp only [List.setIfInBounds_toArray, List.set_cons_zero, List.set_cons_succ]
theorem bjoin {w b c : World} (h : Below w.heap.size w b) (k : Below b.heap.size b c) : Below w.heap.size w c := h.trans (k.mono h.size)
theorem zeros_len (n : Nat) : ∃ K, n + 17 + zerosOf n = 128 * K := ⟨(n + 17 + zerosOf n) / 128, by unfold zerosOf; omega⟩
theorem pad_length (n : Nat) : (([128] : List UInt8) ++ List.replicate (zerosOf n) 0 ++ be8 0 ++ be8 (8 * n)).length = 17 + zerosOf n := by
  simp only [List.length_append, List.length_cons, List.length_nil, List.length_replicate, be8_length]
  omega
theorem padded_eq (l : List UInt8) : padded l = l ++ ([128] ++ List.replicate (zerosOf l.length) 0 ++ be8 0 ++ be8 (8 * l.length)) := by
  unfold padded
  simp only [List.append_assoc]
theorem KMet.alloc {w : World} (h : KMet w) (o : Obj) : KMet (w.alloc o) := fun t ht => cell_more (h t ht)
theorem KMet.after {w w' : World} (h : KMet w) (hb : Below w.heap.size w w') : KMet w' := h.below hb h.lt

set_option maxRecDepth 20000 in
set_option maxHeartbeats 4000000 in
theorem psum_any (l : List UInt8) (w : World) (hl : l.length ≤ 1000000) (hK : KMet w) :
    Calls Tryd.prog 6 #[.string (BS l)] w fun e w' => e = .returned (.string (BS (sha512 l))) ∧ Below w.heap.size w w' := by
  have hsz : (BS l).size = l.length := BS_size l
  obtain ⟨n, hn⟩ : ∃ n, l.length = n := ⟨_, rfl⟩
  rw [hn] at hsz hl
  obtain ⟨nb, hnb⟩ : ∃ nb, n / 128 = nb := ⟨_, rfl⟩
  obtain ⟨p, hp⟩ : ∃ p, 128 * nb = p := ⟨_, rfl⟩
  have hwh : (n : Int) - (n : Int) % 128 = (p : Int) := by omega
  have hpn : (p : Int) ≤ (n : Int) := by omega
  have hext : (BS l).extract 0 p = BS (l.take p) := by rw [BS_extract]; rfl
  have hal : (l.take p).length = 128 * nb := by rw [List.length_take]; omega
  have hlt' : 0 < w.heap.size := hK.lt
  have hHl : ∀ x ∈ shaH, x < 18446744073709551616 := by decide
  have hst8 := shaRun_length nb shaH (l.take p) rfl
  obtain ⟨st, hst⟩ : ∃ st, shaRun nb shaH (l.take p) = st := ⟨_, rfl⟩
  have hwb := fun w hK => withBlocks_any shaH (l.take p) nb w rfl hHl hal (by omega) hK
  have hstlt := shaRun_lt nb shaH (l.take p) hHl
  rw [hst] at hwb hst8 hstlt
  obtain ⟨s0, s1, s2, s3, s4, s5, s6, s7, rfl⟩ := eight_of st hst8
  have hsE : cells64 [s0, s1, s2, s3, s4, s5, s6, s7] = #[.int .u64 (s0 : Int), .int .u64 (s1 : Int), .int .u64 (s2 : Int), .int .u64 (s3 : Int), .int .u64 (s4 : Int), .int .u64 (s5 : Int), .int .u64 (s6 : Int), .int .u64 (s7 : Int)] := rfl
  rw [hsE] at hwb
  have HSE := Go.Lib.hid hsE; have HLT := Go.Lib.hid hstlt
  have HWB := Go.Lib.hid hwb
  have HEXT := Go.Lib.hid hext; have HWH := Go.Lib.hid hwh; have HK := Go.Lib.hid hK; have HST := Go.Lib.hid hst; have HP := Go.Lib.hid hp; have HNB := Go.Lib.hid hnb; have HHL := Go.Lib.hid hHl
  clear hext hwh hK hst hp hnb hHl hwb hst8 hstlt hsE
  go_enter Tryd.func6, Tryd.ntmps6
  go_upto_region 2 with fail
  rw [HWH.out]
  go_cut [4] from 4 to 15 (fun v wc => ∃ g, v = .pointer (some ⟨g, 0, none⟩) ∧ wc.heap[g]? = some (.cells #[.int .u64 (s0 : Int), .int .u64 (s1 : Int), .int .u64 (s2 : Int), .int .u64 (s3 : Int), .int .u64 (s4 : Int), .int .u64 (s5 : Int), .int .u64 (s6 : Int), .int .u64 (s7 : Int)] 26 (0, 0)) ∧ w.heap.size ≤ g ∧ Below w.heap.size w wc)
  case first =>
    have hk0 := HK.out
    have kd : KMet w.drew := hk0.heap rfl
    have HKD := Go.Lib.hid kd
    clear hk0 kd
    go_region_held3 (fun _ => True) (first | trivial) (first
      | (go_at_call 12
         refine (initial_any _).mono ?_
         rintro e w1 ⟨rfl, hb1⟩
         have hk1 : KMet w1 := (by first | exact KMet.after HKD.out hb1 | exact KMet.after (HKD.out.alloc _) hb1 | exact KMet.after ((HKD.out.alloc _).heap rfl) hb1)
         (first
           | (have hA : w1.heap[w.heap.size]? = some (.cells #[.int .u64 0, .int .u64 0, .int .u64 0, .int .u64 0, .int .u64 0, .int .u64 0, .int .u64 0, .int .u64 0] 26 (0, 0)) := (hb1.block _ (by simp)).trans (heap_alloc_new _ _)
              have HA := Go.Lib.hid hA; clear hA)
           | skip)
         have HB1 := Go.Lib.hid hb1; have HK1 := Go.Lib.hid hk1; clear hb1 hk1)
      | (go_at_call 11
         rw [HEXT.out]
         refine (HWB.out _ (by first | exact HK1.out | exact HK1.out.alloc _)).mono ?_
         rintro e w2 ⟨rfl, hb2⟩
         (first
           | (have hA2 : w2.heap[w.heap.size]? = some (.cells #[.int .u64 0, .int .u64 0, .int .u64 0, .int .u64 0, .int .u64 0, .int .u64 0, .int .u64 0, .int .u64 0] 26 (0, 0)) := (hb2.block _ ((Array.getElem?_eq_some_iff.1 HA.out).1)).trans HA.out
              obtain ⟨⟨f0, f1, f2, f3, f4, f5, f6, f7⟩, hfz⟩ := cells_of8 hA2
              have z0 := hfz 0; have z1 := hfz 1; have z2 := hfz 2; have z3 := hfz 3; have z4 := hfz 4; have z5 := hfz 5; have z6 := hfz 6; have z7 := hfz 7
              have HA2 := Go.Lib.hid hA2; clear hA2 hfz)
           | (have hB2 : w2.heap[w1.heap.size]? = some (.cells #[.int .u64 0, .int .u64 0, .int .u64 0, .int .u64 0, .int .u64 0, .int .u64 0, .int .u64 0, .int .u64 0] 26 (0, 0)) := (hb2.block _ (by simp)).trans (heap_alloc_new w1 _)
              obtain ⟨⟨f0, f1, f2, f3, f4, f5, f6, f7⟩, hfz⟩ := cells_of8 hB2
              have z0 := hfz 0; have z1 := hfz 1; have z2 := hfz 2; have z3 := hfz 3; have z4 := hfz 4; have z5 := hfz 5; have z6 := hfz 6; have z7 := hfz 7
              have HBB2 := Go.Lib.hid hB2; clear hB2 hfz)
           | skip)
         have HB2 := Go.Lib.hid hb2; clear hb2))
    all_goals (go_wp2_with fail; go_meet)
    · have hw1 : Below w.heap.size w w1 := below_from HB1.out rfl rfl rfl rfl
      have hw2 := bjoin hw1 HB2.out
      exact ⟨w2.heap.size, rfl, heap_alloc_new _ _, hw2.size, hw2.alloc hw2.size _⟩
    · have hw1 : Below w.heap.size w w1 := below_from HB1.out rfl rfl rfl rfl
      have hw2 := bjoin (hw1.alloc hw1.size _) HB2.out
      rw [set8 HBB2.out]
      exact ⟨w1.heap.size, rfl, setRow_heap _ _ _ _ _ _ HBB2.out, hw1.size, below_setRow hw2 hw1.size _⟩
    · have hA0 := (Below.refl w.heap.size w).alloc (Nat.le_refl _) (.cells #[.int .u64 0, .int .u64 0, .int .u64 0, .int .u64 0, .int .u64 0, .int .u64 0, .int .u64 0, .int .u64 0] 26)
      have hA1 : Below w.heap.size w (w.alloc (.cells #[.int .u64 0, .int .u64 0, .int .u64 0, .int .u64 0, .int .u64 0, .int .u64 0, .int .u64 0, .int .u64 0] 26)).drew := ⟨hA0.os, hA0.tape, hA0.output, hA0.size, hA0.block⟩
      have hw1 : Below w.heap.size w w1 := bjoin hA1 HB1.out
      have hw2 := bjoin hw1 HB2.out
      rw [set8 HA2.out]
      exact ⟨w.heap.size, rfl, setRow_heap _ _ _ _ _ _ HA2.out, Nat.le_refl _, below_setRow hw2 (Nat.le_refl _) _⟩
  case rest =>
    obtain ⟨g, rfl, hg, hgw, hbc⟩ := hcut
    obtain ⟨⟨f0, f1, f2, f3, f4, f5, f6, f7⟩, hfz⟩ := cells_of8 hg
    obtain ⟨pl, hpl⟩ : ∃ pl, ([128] : List UInt8) ++ List.replicate (zerosOf n) 0 ++ be8 0 ++ be8 (8 * n) = pl := ⟨_, rfl⟩
    have hpll : pl.length = 17 + zerosOf n := by rw [← hpl]; exact pad_length n
    have hpad := fun w => padding_any n w hl
    rw [hpl] at hpad
    have hp := HP.out; have hnb := HNB.out
    obtain ⟨K, hKK⟩ := zeros_len n
    have hext2 : (BS l).extract p n = BS (l.drop p) := by rw [← hsz, BS_tail]
    have hrl : (l.drop p).length = n - p := by rw [List.length_drop, hn]
    have hr1 : (BS (l.drop p)).size = n - p := by rw [BS_size, hrl]
    have hr2 : (BS pl).size = 17 + zerosOf n := by rw [BS_size, hpll]
    have hz : zerosOf n < 128 := by unfold zerosOf; omega
    have hcat : BS (l.drop p) ++ BS pl = BS (l.drop p ++ pl) := BS_append _ _
    have htl : (l.drop p ++ pl).length = 128 * (K - nb) := by rw [List.length_append, hrl, hpll]; omega
    have hwb2 := fun w hK => withBlocks_any [s0, s1, s2, s3, s4, s5, s6, s7] (l.drop p ++ pl) (K - nb) w rfl HLT.out htl (by omega) hK
    have hsha : sha512 l = bytesOf (shaRun (K - nb) [s0, s1, s2, s3, s4, s5, s6, s7] (l.drop p ++ pl)) := by
      unfold sha512
      have e1 : padded l = l.take p ++ (l.drop p ++ pl) := by rw [padded_eq, hn, hpl, ← List.append_assoc, List.take_append_drop]
      have e2 : (padded l).length / 128 = nb + (K - nb) := by rw [padded_eq, hn, hpl, List.length_append, hn, hpll]; omega
      rw [e2, e1, shaRun_append _ _ _ _ _ hal, HST.out]
    have hf8 := shaRun_length (K - nb) [s0, s1, s2, s3, s4, s5, s6, s7] (l.drop p ++ pl) rfl
    obtain ⟨fs, hfs⟩ : ∃ fs, shaRun (K - nb) [s0, s1, s2, s3, s4, s5, s6, s7] (l.drop p ++ pl) = fs := ⟨_, rfl⟩
    rw [hfs] at hwb2 hsha hf8
    obtain ⟨y0, y1, y2, y3, y4, y5, y6, y7, rfl⟩ := eight_of fs hf8
    have hyE : cells64 [y0, y1, y2, y3, y4, y5, y6, y7] = #[.int .u64 (y0 : Int), .int .u64 (y1 : Int), .int .u64 (y2 : Int), .int .u64 (y3 : Int), .int .u64 (y4 : Int), .int .u64 (y5 : Int), .int .u64 (y6 : Int), .int .u64 (y7 : Int)] := rfl
    rw [hyE, HSE.out] at hwb2
    have hkc : KMet wc := HK.out.after hbc
    have hpn2 : (p : Int) ≤ n := by omega
    have HG := Go.Lib.hid hg; have HBC := Go.Lib.hid hbc; have HPAD := Go.Lib.hid hpad; have HWB2 := Go.Lib.hid hwb2; have HSHA := Go.Lib.hid hsha; have HE2 := Go.Lib.hid hext2; have HCAT := Go.Lib.hid hcat; have HKC := Go.Lib.hid hkc
    have HY := Go.Lib.hid hyE; have HGW := Go.Lib.hid hgw
    obtain ⟨pz, hpz⟩ : ∃ pz, 17 + zerosOf n = pz := ⟨_, rfl⟩
    have hpzl : pz < 145 := by omega
    rw [hpz] at hr2
    have hno : ¬ 9223372036854775807 < n - p + pz := by omega
    clear hg hbc hpad hwb2 hsha hext2 hcat hkc hyE hgw hp hnb hKK hpl hpll hrl htl hfs hfz hpz hz
    go_upto_region 3 with fail
    go_region_law (first
      | (go_simp
         go_at_call 13
         refine (HPAD.out _).mono ?_
         rintro e w1 ⟨rfl, hb1⟩
         have hg1 : w1.heap[g]? = some (.cells #[.int .u64 (s0 : Int), .int .u64 (s1 : Int), .int .u64 (s2 : Int), .int .u64 (s3 : Int), .int .u64 (s4 : Int), .int .u64 (s5 : Int), .int .u64 (s6 : Int), .int .u64 (s7 : Int)] 26 (0, 0)) := (hb1.block _ ((Array.getElem?_eq_some_iff.1 HG.out).1)).trans HG.out
         obtain ⟨⟨d0, d1, d2, d3, d4, d5, d6, d7⟩, _⟩ := cells_of8 hg1
         have hbw1 : Below w.heap.size w w1 := bjoin HBC.out (below_from hb1 rfl rfl rfl rfl)
         have HG1 := Go.Lib.hid hg1; have HW1 := Go.Lib.hid hbw1
         clear hg1 hb1 hbw1)
      | (go_simp
         go_at_call 11
         rw [HE2.out, HCAT.out]
         refine (HWB2.out _ (HK.out.after HW1.out)).mono ?_
         rintro e w2 ⟨rfl, hb2⟩
         have hg2 : w2.heap[g]? = some (.cells #[.int .u64 (s0 : Int), .int .u64 (s1 : Int), .int .u64 (s2 : Int), .int .u64 (s3 : Int), .int .u64 (s4 : Int), .int .u64 (s5 : Int), .int .u64 (s6 : Int), .int .u64 (s7 : Int)] 26 (0, 0)) := (hb2.block _ ((Array.getElem?_eq_some_iff.1 HG1.out).1)).trans HG1.out
         obtain ⟨⟨e0, e1, e2, e3, e4, e5, e6, e7⟩, hfz⟩ := cells_of8 hg2
         have z0 := hfz 0; have z1 := hfz 1; have z2 := hfz 2; have z3 := hfz 3; have z4 := hfz 4; have z5 := hfz 5; have z6 := hfz 6; have z7 := hfz 7
         have hbw2 : Below w.heap.size w w2 := bjoin HW1.out hb2
         have HG2 := Go.Lib.hid hg2; have HW2 := Go.Lib.hid hbw2
         clear hg2 hb2 hbw2 hfz))
    all_goals
      have hg3 := setRow_heap w2 g _ #[.int .u64 (y0 : Int), .int .u64 (y1 : Int), .int .u64 (y2 : Int), .int .u64 (y3 : Int), .int .u64 (y4 : Int), .int .u64 (y5 : Int), .int .u64 (y6 : Int), .int .u64 (y7 : Int)] 26 (0, 0) HG2.out
      have hb3 : Below w.heap.size w (w2.setRow g #[.int .u64 (y0 : Int), .int .u64 (y1 : Int), .int .u64 (y2 : Int), .int .u64 (y3 : Int), .int .u64 (y4 : Int), .int .u64 (y5 : Int), .int .u64 (y6 : Int), .int .u64 (y7 : Int)]) := below_setRow HW2.out HGW.out _
      rw [set8 HG2.out]
      obtain ⟨W3, hW3⟩ : ∃ W3, w2.setRow g #[.int .u64 (y0 : Int), .int .u64 (y1 : Int), .int .u64 (y2 : Int), .int .u64 (y3 : Int), .int .u64 (y4 : Int), .int .u64 (y5 : Int), .int .u64 (y6 : Int), .int .u64 (y7 : Int)] = W3 := ⟨_, rfl⟩
      rw [hW3] at hg3 hb3 ⊢
      have HG3 := Go.Lib.hid hg3; have HW3 := Go.Lib.hid hb3
      clear hg3 hb3 hW3
      go_wp2_with fail
      refine (numbersText_any [y0, y1, y2, y3, y4, y5, y6, y7] g 8 _ rfl (by omega) (by omega) ?_).mono ?_
      · intro i hi
        rw [cell_of_row _ _ _ _ _ _ HG3.out]
        exact cells64_get [y0, y1, y2, y3, y4, y5, y6, y7] i hi
      rintro e w4 ⟨rfl, hb4⟩
      have hb := bjoin HW3.out hb4
      have HB4 := Go.Lib.hid hb
      clear hb hb4
      go_wp2_with fail
      go_ret
      exact ⟨by rw [HSHA.out]; rfl, HB4.out⟩

set_option maxRecDepth 20000 in
theorem pkey_any (l : List UInt8) (w : World) (hl : l.length ≤ 1000000) (hK : KMet w) :
    Calls Tryd.prog 9 #[.string (BS l)] w fun e w' => e = .returned (.string (BS ((sha512 l).take 32))) ∧ Below w.heap.size w w' := by
  obtain ⟨d, hd⟩ : ∃ d, sha512 l = d := ⟨_, rfl⟩
  have hdl : d.length = 64 := by rw [← hd]; exact sha512_length l
  have hr := fun w hK => psum_any l w hl hK
  rw [hd] at hr
  rw [hd]
  have hsz : (BS d).size = 64 := by rw [BS_size]; exact hdl
  have hle : 32 ≤ (BS d).size := by omega
  have hext : (BS d).extract 0 32 = BS (d.take 32) := by rw [BS_extract]; rfl
  have HR := Go.Lib.hid hr; have HK := Go.Lib.hid hK
  clear hr hd hK
  go_enter Tryd.func9, Tryd.ntmps9
  go_wp2_with (go_at_call 6; refine (HR.out _ HK.out).mono ?_; rintro e w1 ⟨rfl, hb1⟩; have HB1 := Go.Lib.hid hb1; clear hb1)
  go_ret
  refine ⟨?_, HB1.out⟩
  first | rfl | (rw [← hext]; rfl)
end Go.Proofs.YtlkcmnpcfldbcaaDoor.W
