/- Contracts of package sha's state behind a block. -/
import Derived.Test.YtlkcmnpcfldbcaaDoorShaD
namespace Go.Proofs.YtlkcmnpcfldbcaaDoor.W
set_option linter.unusedVariables false
open Go.RowKit Go.Proofs Arb

/-- The constants stand in the package's variable. -/
def KMet (w : World) : Prop := ∀ t, t < 80 → w.cell? ⟨0, t, none⟩ = some (.int .u64 ((shaK.getD t 0 : Nat) : Int))
theorem KMet.lt {w : World} (h : KMet w) : 0 < w.heap.size := by
  have := World.block_lt_of_cell? w ⟨0, 0, none⟩ (h 0 (by omega))
  simpa using this
theorem KMet.below {w w' : World} {B : Nat} (h : KMet w) (hb : Below B w w') (hB : 0 < B) : KMet w' := fun t ht => (hb.cell (by simpa using hB)).trans (h t ht)
theorem setRow_alloc_at (w : World) (c c' : Array Value) (t : TypeId) (g : Nat) (hg : g = w.heap.size) : (w.alloc (.cells c t)).setRow g c' = w.alloc (.cells c' t) := by subst hg; exact World.setRow_alloc_new w c c' t
theorem eight_of (l : List Nat) (h : l.length = 8) : ∃ x0 x1 x2 x3 x4 x5 x6 x7, l = [x0, x1, x2, x3, x4, x5, x6, x7] := by
  match l, h with
  | [x0, x1, x2, x3, x4, x5, x6, x7], _ => exact ⟨x0, x1, x2, x3, x4, x5, x6, x7, rfl⟩
theorem rnd_sum (v : List Nat) (k w : Nat) : rnd v ((k + w) % 18446744073709551616) 0 = rnd v k w := by
  have e : ∀ e f g h : Nat, rx e f g h ((k + w) % 18446744073709551616) 0 = rx e f g h k w := by
    intro e f g h
    unfold rx
    omega
  unfold rnd
  simp only [e]

set_option maxRecDepth 20000 in
set_option maxHeartbeats 4000000 in
theorem withBlock_any (h : List Nat) (blk : List UInt8) (w : World) (hh8 : h.length = 8) (hlt : ∀ x ∈ h, x < 18446744073709551616) (hbl : blk.length = 128) (hK : KMet w) :
    Calls Tryd.prog 18 #[.agg (cells64 h), .string (BS blk)] w fun e w' => e = .returned (.agg (cells64 (compress h blk))) ∧ Below w.heap.size w w' := by
  have hz80 := zero_rounds
  have hz8 := zero_eight
  obtain ⟨us, hus⟩ : ∃ us, sched (words blk 16) 64 = us := ⟨_, rfl⟩
  have husl : us.length = 80 := by rw [← hus, sched_length, words_length]
  have huslt : ∀ x ∈ us, x < 18446744073709551616 := by rw [← hus]; exact sched_lt _ (words_lt _ _) _
  have hcomp : compress h blk = addAll h (rounds us h 80) := by unfold compress; rw [hus]
  have hsch := fun w => schedule_any blk w hbl
  rw [hus] at hsch
  obtain ⟨sc, hsc⟩ : ∃ sc, cells64 us = sc := ⟨_, rfl⟩
  have hscs : sc.size = 80 := by rw [← hsc, cells64_size, husl]
  have hscone : sc.all (·.oneCell') = true := by rw [← hsc]; exact cells64_all _
  obtain ⟨ah, hah⟩ : ∃ ah, cells64 h = ah := ⟨_, rfl⟩
  have hahs : ah.size = 8 := by rw [← hah, cells64_size, hh8]
  have hahone : ah.all (·.oneCell') = true := by rw [← hah]; exact cells64_all _
  obtain ⟨z8, hz8e⟩ : ∃ z8, cells64 [0, 0, 0, 0, 0, 0, 0, 0] = z8 := ⟨_, rfl⟩
  have hz8s : z8.size = 8 := by rw [← hz8e]; rfl
  obtain ⟨z80, hz80e⟩ : ∃ z80, cells64 (padTo []) = z80 := ⟨_, rfl⟩
  have hz80s : z80.size = 80 := by rw [← hz80e]; rfl
  rw [hz8e] at hz8
  rw [hz80e] at hz80
  rw [hsc] at hsch
  rw [hah]
  have HSCH := Go.Lib.hid hsch; have HCOMP := Go.Lib.hid hcomp; have HSC := Go.Lib.hid hsc; have HAH := Go.Lib.hid hah
  have HSCS := Go.Lib.hid hscs; have HAHS := Go.Lib.hid hahs; have HZ8S := Go.Lib.hid hz8s; have HZ80S := Go.Lib.hid hz80s; have HSCO := Go.Lib.hid hscone; have HAHO := Go.Lib.hid hahone
  have HKM := Go.Lib.hid hK
  clear hus hcomp hsch hsc hah hscs hahs hz8s hz80s hscone hahone hK hz8e hz80e
  go_enter Tryd.func18, Tryd.ntmps18
  go_wp2_with fail
  refine (HSCH.out _).mono ?_
  rintro e w1 ⟨rfl, hb1⟩
  have hbw : Below w.heap.size w w1 := ((Below.refl _ w).alloc (Nat.le_refl _) _).alloc (by simp) _ |>.trans (hb1.mono (by simp <;> omega))
  have hsz : w.heap.size + 2 ≤ w1.heap.size := by have := hb1.size; simp at this; omega
  have i0 : w1.heap[w.heap.size]? = some (.cells ah 26 (0, 0)) := (hb1.block _ (by simp <;> omega)).trans ((Below.heap_alloc (w.alloc (.cells ah 26)) _ _ (by simp)).trans (heap_alloc_new _ _))
  have i1 : w1.heap[w.heap.size + 1]? = some (.cells z8 26 (0, 0)) := (hb1.block _ (by simp <;> omega)).trans (by have := heap_alloc_new (w.alloc (.cells ah 26)) (.cells z8 26); rwa [World.size_alloc] at this)
  have j0 : (w1.alloc (.cells z80 40)).heap[w1.heap.size]? = some (.cells z80 40 (0, 0)) := heap_alloc_new _ _
  have j1 : (w1.alloc (.cells sc 40)).heap[w.heap.size]? = some (.cells ah 26 (0, 0)) := (Below.heap_alloc w1 _ _ (by omega)).trans i0
  have j2 : ((w1.alloc (.cells sc 40)).alloc (.cells z8 26)).heap[w1.heap.size + 1]? = some (.cells z8 26 (0, 0)) := by
    have := heap_alloc_new (w1.alloc (.cells sc 40)) (.cells z8 26); rwa [World.size_alloc] at this
  have HB1 := Go.Lib.hid hbw; have I0 := Go.Lib.hid i0; have I1 := Go.Lib.hid i1; have J0 := Go.Lib.hid j0; have J1 := Go.Lib.hid j1; have J2 := Go.Lib.hid j2
  clear hb1 hbw i0 i1 j0 j1 j2
  go_wp2_with (first
    | (refine wpList_store_row rfl 40 (.tmp 5) (.tmp 10) rfl w1.heap.size sc rfl rfl 40 z80 J0.out (size_rounds.trans (by rw [HSCS.out])) (by rw [HSCS.out, HZ80S.out]) HSCO.out ?_
       rw [World.setRow_alloc_new])
    | refine wpList_load_row rfl 26 (.tmp 2) rfl w.heap.size rfl 26 ah (0, 0) _ J1.out Tryd.underlying26 rfl (size_eight.trans (by rw [HAHS.out])) ?_
    | (refine wpList_store_row rfl 26 (.tmp 6) (.tmp 11) rfl (w1.heap.size + 1) ah rfl rfl 26 z8 J2.out (size_eight.trans (by rw [HAHS.out])) (by rw [HAHS.out, HZ8S.out]) HAHO.out ?_
       rw [setRow_alloc_at _ _ _ _ (w1.heap.size + 1) (by simp)]))
  obtain ⟨gs, hgs⟩ : ∃ gs, w1.heap.size = gs := ⟨_, rfl⟩
  have k0 : ((w1.alloc (.cells sc 40)).alloc (.cells ah 26)).heap[w.heap.size]? = some (.cells ah 26 (0, 0)) := (Below.heap_alloc _ _ _ (by simp; omega)).trans J1.out
  have k1 : ((w1.alloc (.cells sc 40)).alloc (.cells ah 26)).heap[w.heap.size + 1]? = some (.cells z8 26 (0, 0)) := (Below.heap_alloc _ _ _ (by simp; omega)).trans ((Below.heap_alloc w1 _ _ (by omega)).trans I1.out)
  have k2 : ((w1.alloc (.cells sc 40)).alloc (.cells ah 26)).heap[gs]? = some (.cells sc 40 (0, 0)) := (Below.heap_alloc _ _ _ (by simp; omega)).trans (by rw [← hgs]; exact heap_alloc_new _ _)
  have k3 : ((w1.alloc (.cells sc 40)).alloc (.cells ah 26)).heap[gs + 1]? = some (.cells ah 26 (0, 0)) := by
    have := heap_alloc_new (w1.alloc (.cells sc 40)) (.cells ah 26); rwa [World.size_alloc, hgs] at this
  have kb : Below w.heap.size w ((w1.alloc (.cells sc 40)).alloc (.cells ah 26)) := (HB1.out.alloc (by omega) _).alloc (by simp; omega) _
  obtain ⟨W2, hW2⟩ : ∃ W2, (w1.alloc (.cells sc 40)).alloc (.cells ah 26) = W2 := ⟨_, rfl⟩
  rw [hW2] at k0 k1 k2 k3 kb
  rw [hW2, hgs]
  rw [hgs] at hsz
  have K0 := Go.Lib.hid k0; have K1 := Go.Lib.hid k1; have K2 := Go.Lib.hid k2; have K3 := Go.Lib.hid k3; have KB := Go.Lib.hid kb
  clear k0 k1 k2 k3 kb hW2 J0 J1 J2 I0 I1 HB1 hgs
  have hlt' : 0 < w.heap.size := HKM.out.lt
  go_loopw [12] (fun idx wr => ∃ t : Nat, t ≤ 80 ∧ idx = .int .i64 (t : Int) ∧ wr.heap[gs + 1]? = some (.cells (cells64 (rounds us h t)) 26 (0, 0)) ∧
    wr.heap[gs]? = some (.cells sc 40 (0, 0)) ∧ wr.heap[w.heap.size]? = some (.cells ah 26 (0, 0)) ∧ wr.heap[w.heap.size + 1]? = some (.cells z8 26 (0, 0)) ∧ Below w.heap.size w wr) (fun idx _ => 80 - (intOf idx).toNat)
  case atStart => exact ⟨0, by omega, rfl, by rw [K3.out, ← HAH.out]; rfl, K2.out, K0.out, K1.out, KB.out⟩
  case round =>
    obtain ⟨t, ht, rfl, hv, hs, hp, hq, hb⟩ := hrel
    have hvl : (rounds us h t).length = 8 := rounds_length us h hh8 t
    have hvlt := rounds_lt us h hlt t
    by_cases h80 : t < 80
    · have hk0 : wr.cell? ⟨0, t, none⟩ = some (.int .u64 ((shaK.getD t 0 : Nat) : Int)) := HKM.out.below hb hlt' t h80
      have hw0 : wr.cell? ⟨gs, t, none⟩ = some (.int .u64 ((us.getD t 0 : Nat) : Int)) := by
        rw [cell_of_row _ _ _ _ _ _ hs, ← HSC.out]; exact cells64_get us t (by omega)
      have hnext : rounds us h (t + 1) = rnd (rounds us h t) ((shaK.getD t 0 + us.getD t 0) % 18446744073709551616) 0 := by rw [rnd_sum]; rfl
      have lk := getD_lt shaK (by decide) t
      have lw := getD_lt us huslt t
      obtain ⟨vs, hvs⟩ : ∃ vs, rounds us h t = vs := ⟨_, rfl⟩
      rw [hvs] at hv hvl hvlt hnext
      obtain ⟨x0, x1, x2, x3, x4, x5, x6, x7, rfl⟩ := eight_of vs hvl
      have l0 := hvlt x0 (by simp)
      have l1 := hvlt x1 (by simp)
      have l2 := hvlt x2 (by simp)
      have l3 := hvlt x3 (by simp)
      have l4 := hvlt x4 (by simp)
      have l5 := hvlt x5 (by simp)
      have l6 := hvlt x6 (by simp)
      have l7 := hvlt x7 (by simp)
      obtain ⟨kt, hkt⟩ : ∃ x, shaK.getD t 0 = x := ⟨_, rfl⟩
      obtain ⟨wt, hwt⟩ : ∃ x, us.getD t 0 = x := ⟨_, rfl⟩
      rw [hkt] at hk0 lk hnext
      rw [hwt] at hw0 lw hnext
      have hsum : IntKind.u64.wrap ((kt : Int) + (wt : Int)) = (((kt + wt) % 18446744073709551616 : Nat) : Int) := by rw [IntKind.wrap_u64]; omega
      have had : (kt + wt) % 18446744073709551616 < 18446744073709551616 := Nat.mod_lt _ (by omega)
      obtain ⟨ad, hadE⟩ : ∃ x, (kt + wt) % 18446744073709551616 = x := ⟨_, rfl⟩
      rw [hadE] at hsum had hnext
      have ht80 : (t : Int) < 80 := by omega
      have d0 : wr.cell? ⟨gs + 1, 0, none⟩ = some (.int .u64 (x0 : Int)) := by rw [cell_of_row _ _ _ _ _ _ hv]; rfl
      have d1 : wr.cell? ⟨gs + 1, 1, none⟩ = some (.int .u64 (x1 : Int)) := by rw [cell_of_row _ _ _ _ _ _ hv]; rfl
      have d2 : wr.cell? ⟨gs + 1, 2, none⟩ = some (.int .u64 (x2 : Int)) := by rw [cell_of_row _ _ _ _ _ _ hv]; rfl
      have d3 : wr.cell? ⟨gs + 1, 3, none⟩ = some (.int .u64 (x3 : Int)) := by rw [cell_of_row _ _ _ _ _ _ hv]; rfl
      have d4 : wr.cell? ⟨gs + 1, 4, none⟩ = some (.int .u64 (x4 : Int)) := by rw [cell_of_row _ _ _ _ _ _ hv]; rfl
      have d5 : wr.cell? ⟨gs + 1, 5, none⟩ = some (.int .u64 (x5 : Int)) := by rw [cell_of_row _ _ _ _ _ _ hv]; rfl
      have d6 : wr.cell? ⟨gs + 1, 6, none⟩ = some (.int .u64 (x6 : Int)) := by rw [cell_of_row _ _ _ _ _ _ hv]; rfl
      have d7 : wr.cell? ⟨gs + 1, 7, none⟩ = some (.int .u64 (x7 : Int)) := by rw [cell_of_row _ _ _ _ _ _ hv]; rfl
      have HSUM := Go.Lib.hid hsum; have HNX := Go.Lib.hid hnext
      have HV := Go.Lib.hid hv; have HS := Go.Lib.hid hs; have HP := Go.Lib.hid hp; have HQ := Go.Lib.hid hq; have HB := Go.Lib.hid hb
      clear hsum hnext hv hs hp hq hb hvs hvl hvlt hkt hwt hadE
      go_wp2_with fail
      go_still_tail 8, (by kernel_rfl)
      rw [HSUM.out]
      go_wp2_with fail
      refine (round_any x0 x1 x2 x3 x4 x5 x6 x7 ad _ l0 l1 l2 l3 l4 l5 l6 l7 had).mono ?_
      rintro e w2 ⟨rfl, hb2⟩
      rw [← HNX.out]
      have hcl : (rounds us h (t + 1)).length = 8 := rounds_length us h hh8 (t + 1)
      have gl : gs + 1 < wr.heap.size := (Array.getElem?_eq_some_iff.1 HV.out).1
      have m3 : w2.heap[gs + 1]? = some (.cells (cells64 [x0, x1, x2, x3, x4, x5, x6, x7]) 26 (0, 0)) := (hb2.block _ gl).trans HV.out
      have m2 : w2.heap[gs]? = some (.cells sc 40 (0, 0)) := (hb2.block _ (show gs < wr.heap.size by omega)).trans HS.out
      have m0 : w2.heap[w.heap.size]? = some (.cells ah 26 (0, 0)) := (hb2.block _ (show w.heap.size < wr.heap.size by omega)).trans HP.out
      have m1 : w2.heap[w.heap.size + 1]? = some (.cells z8 26 (0, 0)) := (hb2.block _ (show w.heap.size + 1 < wr.heap.size by omega)).trans HQ.out
      have mb : Below w.heap.size w w2 := HB.out.trans (below_from (hb2.mono (show w.heap.size ≤ wr.heap.size by omega)) rfl rfl rfl rfl)
      obtain ⟨ac, hac⟩ : ∃ ac, cells64 (rounds us h (t + 1)) = ac := ⟨_, rfl⟩
      have hacs : ac.size = 8 := by rw [← hac, cells64_size, hcl]
      have haco : ac.all (·.oneCell') = true := by rw [← hac]; exact cells64_all _
      rw [hac]
      have n3 : (w2.setRow (gs + 1) ac).heap[gs + 1]? = some (.cells (cells64 (rounds us h (t + 1))) 26 (0, 0)) := by rw [hac]; exact setRow_heap _ _ _ _ _ _ m3
      have n2 : (w2.setRow (gs + 1) ac).heap[gs]? = some (.cells sc 40 (0, 0)) := (setRow_other w2 (gs + 1) gs ac (by omega)).trans m2
      have n0 : (w2.setRow (gs + 1) ac).heap[w.heap.size]? = some (.cells ah 26 (0, 0)) := (setRow_other w2 (gs + 1) _ ac (by omega)).trans m0
      have n1 : (w2.setRow (gs + 1) ac).heap[w.heap.size + 1]? = some (.cells z8 26 (0, 0)) := (setRow_other w2 (gs + 1) _ ac (by omega)).trans m1
      have nb : Below w.heap.size w (w2.setRow (gs + 1) ac) := below_setRow mb (by omega) _
      have M3 := Go.Lib.hid m3; have N3 := Go.Lib.hid n3; have N2 := Go.Lib.hid n2; have N0 := Go.Lib.hid n0; have N1 := Go.Lib.hid n1; have NB := Go.Lib.hid nb; have HACS := Go.Lib.hid hacs; have HACO := Go.Lib.hid haco
      clear m3 m2 m0 m1 mb n3 n2 n0 n1 nb hacs haco hac hb2
      go_wp2_with (refine wpList_store_row rfl 26 (.tmp 6) (.tmp 23) rfl (gs + 1) ac rfl rfl 26 _ M3.out (size_eight.trans (by rw [HACS.out])) (by rw [HACS.out]; rfl) HACO.out ?_)
      exact ⟨⟨t + 1, by omega, by simp, N3.out, N2.out, N0.out, N1.out, NB.out⟩, by simp [intOf]; omega⟩
    · obtain rfl : t = 80 := by omega
      obtain ⟨vs, hvs⟩ : ∃ vs, rounds us h 80 = vs := ⟨_, rfl⟩
      rw [hvs] at hv hvl hvlt
      have hcomp : compress h blk = addAll h vs := by rw [HCOMP.out, hvs]
      have HC := Go.Lib.hid hcomp
      rw [← HAH.out] at hp
      have HV := Go.Lib.hid hv; have HP := Go.Lib.hid hp; have HQ := Go.Lib.hid hq; have HB := Go.Lib.hid hb
      clear hv hs hp hq hb hcomp hvs
      go_wp2_with fail
      go_loopw [25] (fun idx w2 => ∃ q : Nat, q ≤ 8 ∧ idx = .int .i64 (q : Int) ∧ w2.heap[w.heap.size]? = some (.cells (cells64 ((addAll h vs).take q ++ h.drop q)) 26 (0, 0)) ∧
        w2.heap[gs + 1]? = some (.cells (cells64 vs) 26 (0, 0)) ∧ w2.heap[w.heap.size + 1]? = some (.cells z8 26 (0, 0)) ∧ Below w.heap.size w w2) (fun idx _ => 8 - (intOf idx).toNat)
      case atStart => exact ⟨0, by omega, rfl, by rw [List.take_zero, List.drop_zero]; exact HP.out, HV.out, HQ.out, HB.out⟩
      case round =>
        obtain ⟨q, hq8, rfl, a0, a1, a2, ab⟩ := hrel
        by_cases h8 : q < 8
        · have hcur := add_at h vs q hh8 hvl h8
          have hlen := add_len h vs q hh8 hvl hq8
          have hst := add_step h vs q hh8 hvl h8
          obtain ⟨cs, hcs⟩ : ∃ cs, (addAll h vs).take q ++ h.drop q = cs := ⟨_, rfl⟩
          rw [hcs] at hcur hlen hst a0
          have hch : wr.cell? ⟨w.heap.size, q, none⟩ = some (.int .u64 ((h.getD q 0 : Nat) : Int)) := by rw [cell_of_row _ _ _ _ _ _ a0, cells64_get _ _ (by omega), hcur]
          have hcv : wr.cell? ⟨gs + 1, q, none⟩ = some (.int .u64 ((vs.getD q 0 : Nat) : Int)) := by rw [cell_of_row _ _ _ _ _ _ a1]; exact cells64_get _ _ (by omega)
          have hfz : wr.frozen? ⟨w.heap.size, q, none⟩ = false := frozen_of_row _ _ q _ _ a0
          have hmid : cs.set q ((h.getD q 0 + vs.getD q 0) % 18446744073709551616) = (addAll h vs).take (q + 1) ++ h.drop (q + 1) := hst
          obtain ⟨xh, hxh⟩ : ∃ x, h.getD q 0 = x := ⟨_, rfl⟩
          obtain ⟨xv, hxv⟩ : ∃ x, vs.getD q 0 = x := ⟨_, rfl⟩
          rw [hxh] at hch hmid
          rw [hxv] at hcv hmid
          have hnv : IntKind.u64.wrap ((xh : Int) + (xv : Int)) = (((xh + xv) % 18446744073709551616 : Nat) : Int) := by rw [IntKind.wrap_u64]; omega
          have g0 := heap_setCell_same wr w.heap.size q _ _ (.int .u64 (((xh + xv) % 18446744073709551616 : Nat) : Int)) a0
          rw [cells64_set, hmid] at g0
          have g1 : (wr.setCell ⟨w.heap.size, q, none⟩ (.int .u64 (((xh + xv) % 18446744073709551616 : Nat) : Int))).heap[gs + 1]? = some (.cells (cells64 vs) 26 (0, 0)) := (heap_setCell_other _ _ _ _ (by simp; omega)).trans a1
          have g2 : (wr.setCell ⟨w.heap.size, q, none⟩ (.int .u64 (((xh + xv) % 18446744073709551616 : Nat) : Int))).heap[w.heap.size + 1]? = some (.cells z8 26 (0, 0)) := (heap_setCell_other _ _ _ _ (by simp)).trans a2
          have gb : Below w.heap.size w (wr.setCell ⟨w.heap.size, q, none⟩ (.int .u64 (((xh + xv) % 18446744073709551616 : Nat) : Int))) :=
            ab.trans ⟨rfl, rfl, rfl, by simp [World.setCell], fun _ hkk => heap_setCell_other _ _ _ _ (by simp; omega)⟩
          rw [← hnv] at g0 g1 g2 gb
          have hq80 : (q : Int) < 8 := by omega
          have G0 := Go.Lib.hid g0; have G1 := Go.Lib.hid g1; have G2 := Go.Lib.hid g2; have GB := Go.Lib.hid gb
          clear g0 g1 g2 gb hnv hxh hxv hmid hcs hcur hlen hst a0 a1 a2 ab
          go_wp2_with fail
          go_still_tail 8, (by kernel_rfl)
          go_wp2_with fail
          have gb := GB.out
          refine ⟨?_, by simp [intOf]; omega⟩
          (repeat apply Exists.intro)
          exact ⟨⟨q + 1, by omega, by simp, G0.out, G1.out, G2.out, ⟨gb.os, gb.tape, gb.output, gb.size, gb.block⟩⟩, rfl⟩
        · obtain rfl : q = 8 := by omega
          have hfin : (addAll h vs).take 8 ++ h.drop 8 = addAll h vs := by
            rw [List.drop_of_length_le (by omega), List.append_nil, List.take_of_length_le (by rw [addAll_length _ _ hh8 hvl]; omega)]
          rw [hfin, ← HC.out] at a0
          have hcl : (compress h blk).length = 8 := by rw [HC.out, addAll_length _ _ hh8 hvl]
          obtain ⟨ac, hac⟩ : ∃ ac, cells64 (compress h blk) = ac := ⟨_, rfl⟩
          have hacs : ac.size = 8 := by rw [← hac, cells64_size, hcl]
          have haco : ac.all (·.oneCell') = true := by rw [← hac]; exact cells64_all _
          rw [hac] at a0
          have A0 := Go.Lib.hid a0; have A2 := Go.Lib.hid a2; have AB := Go.Lib.hid ab; have HACS := Go.Lib.hid hacs; have HACO := Go.Lib.hid haco; have HAC := Go.Lib.hid hac
          clear a0 a1 a2 ab hacs haco hac hfin
          go_wp2_with (first
            | refine wpList_load_row rfl 26 (.tmp 2) rfl w.heap.size rfl 26 ac (0, 0) _ A0.out Tryd.underlying26 rfl (size_eight.trans (by rw [HACS.out])) ?_
            | refine wpList_store_row rfl 26 (.tmp 4) (.tmp 37) rfl (w.heap.size + 1) ac rfl rfl 26 z8 A2.out (size_eight.trans (by rw [HACS.out])) (by rw [HACS.out, HZ8S.out]) HACO.out ?_)
          refine bodyPost_ret (v := .agg ac) (results_cell_row rfl _ _ (w.heap.size + 1) 26 ac (0, 0) _ rfl (setRow_heap _ _ _ _ _ _ A2.out) Tryd.underlying26 rfl (size_eight.trans (by rw [HACS.out]))) rfl ⟨by rw [HAC.out], ?_⟩
          exact below_setRow AB.out (by omega) _
end Go.Proofs.YtlkcmnpcfldbcaaDoor.W
