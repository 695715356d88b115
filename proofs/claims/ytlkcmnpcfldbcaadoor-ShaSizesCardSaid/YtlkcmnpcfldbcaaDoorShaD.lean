/- Contracts of package sha's schedule of a block. -/
import Derived.Test.YtlkcmnpcfldbcaaDoorShaC
namespace Go.Proofs.YtlkcmnpcfldbcaaDoor.W
set_option linter.unusedVariables false
open Go.RowKit Go.Proofs Arb

def padTo (us : List Nat) : List Nat := us ++ List.replicate (80 - us.length) 0
theorem padTo_length (us : List Nat) (h : us.length ≤ 80) : (padTo us).length = 80 := by simp [padTo]; omega
theorem padTo_get (us : List Nat) (p : Nat) (h : p < us.length) : (padTo us).getD p 0 = us.getD p 0 := by
  rw [List.getD_eq_getElem?_getD, List.getD_eq_getElem?_getD, padTo, List.getElem?_append_left h]
theorem padTo_set (us : List Nat) (x : Nat) (h : us.length < 80) : (padTo us).set us.length x = padTo (us ++ [x]) := by
  unfold padTo
  rw [List.set_append_right _ _ (Nat.le_refl _), Nat.sub_self, show 80 - us.length = (80 - (us ++ [x]).length) + 1 by simp; omega, List.replicate_succ, List.set_cons_zero]
  simp
theorem padTo_full (us : List Nat) (h : us.length = 80) : padTo us = us := by simp [padTo, h]
theorem cells64_set (l : List Nat) (i x : Nat) : (cells64 l).setIfInBounds i (.int .u64 (x : Int)) = cells64 (l.set i x) := by
  apply Array.toList_inj.1
  rw [Array.toList_setIfInBounds]
  simp [cells64, List.map_set]
theorem cells64_size (l : List Nat) : (cells64 l).size = l.length := by simp [cells64]
theorem info_rounds : (Tryd.prog.info? 40).map (fun i => (i.zero, i.size)) = some (some (.agg (cells64 (padTo []))), 80) := by kernel_rfl
theorem zero_rounds : ∀ w, (zeroValue 40).run Tryd.prog w = .ok (.agg (cells64 (padTo []))) w := (zero_of_info info_rounds).1
theorem size_rounds : (Tryd.prog.info? 40).map (·.size) = some 80 := (zero_of_info info_rounds).2

set_option maxRecDepth 20000 in
set_option maxHeartbeats 2000000 in
theorem schedule_any (blk : List UInt8) (w : World) (hbl : blk.length = 128) :
    Calls Tryd.prog 21 #[.string (BS blk)] w fun e w' => e = .returned (.agg (cells64 (sched (words blk 16) 64))) ∧ Below w.heap.size w w' := by
  have hz := zero_rounds
  have hsz : (BS blk).size = 128 := by rw [BS_size]; exact hbl
  have hwl := words_length blk 16
  go_enter Tryd.func21, Tryd.ntmps21
  go_wp2_with fail
  clear hz
  go_loopw [10] (fun idx wr => ∃ t : Nat, t ≤ 16 ∧ idx = .int .i64 (t : Int) ∧ wr = (w.alloc (.cells (cells64 (padTo [])) 40)).alloc (.cells (cells64 (padTo ((words blk 16).take t))) 40)) (fun idx _ => 16 - (intOf idx).toNat)
  case atStart => exact ⟨0, by omega, rfl, rfl⟩
  case round =>
    obtain ⟨t, ht, rfl, rfl⟩ := hrel
    obtain ⟨W1, hW1⟩ : ∃ W1, w.alloc (.cells (cells64 (padTo [])) 40) = W1 := ⟨_, rfl⟩
    have hs1 : W1.heap.size = w.heap.size + 1 := by rw [← hW1]; simp
    rw [hW1]
    by_cases h16 : t < 16
    · have hul : ((words blk 16).take t).length = t := by rw [List.length_take, hwl]; omega
      have hpl := padTo_length ((words blk 16).take t) (by omega)
      have hset := padTo_set ((words blk 16).take t) (val8 ((blk.drop (8 * t)).take 8)) (by omega)
      rw [hul, ← words_take blk 16 t h16] at hset
      have hnew : (cells64 (padTo ((words blk 16).take t))).setIfInBounds t (.int .u64 (val8 ((blk.drop (8 * t)).take 8) : Int)) = cells64 (padTo ((words blk 16).take (t + 1))) := by rw [cells64_set, hset]
      obtain ⟨v0, hv0⟩ : ∃ v, (cells64 (padTo ((words blk 16).take t)))[t]? = some v := ⟨_, Array.getElem?_eq_getElem (by rw [cells64_size, hpl]; omega)⟩
      obtain ⟨ar, har⟩ : ∃ ar, cells64 (padTo ((words blk 16).take t)) = ar := ⟨_, rfl⟩
      rw [har] at hnew hv0 ⊢
      have hc : (W1.alloc (.cells ar 40)).cell? ⟨w.heap.size + 1, t, none⟩ = some v0 := by
        rw [← hs1, cell_of_row _ _ _ _ _ _ (heap_alloc_new W1 _)]; exact hv0
      have hfz : (W1.alloc (.cells ar 40)).frozen? ⟨w.heap.size + 1, t, none⟩ = false := frozen_of_row _ _ t _ _ (by rw [← hs1]; exact heap_alloc_new W1 _)
      have hext : (BS blk).extract (8 * t) (8 * (t + 1)) = BS ((blk.drop (8 * t)).take 8) := by rw [BS_extract]; congr 2; omega
      have hl8 : ((blk.drop (8 * t)).take 8).length = 8 := by rw [List.length_take, List.length_drop]; omega
      have HN := Go.Lib.hid hnew; have HE := Go.Lib.hid hext
      clear hnew hext hset har hv0 hpl hul
      go_wp2_with (go_at_call 29; rw [HE.out]; refine (number_any _ _ hl8).mono ?_; rintro e w1 ⟨rfl, hw1⟩; rw [hw1])
      refine ⟨⟨t + 1, by omega, by simp, ?_⟩, by simp [intOf]; omega⟩
      rw [HN.out]
    · obtain rfl : t = 16 := by omega
      have htk : (words blk 16).take 16 = words blk 16 := List.take_of_length_le (by omega)
      rw [htk]
      have hwl64 := words_lt blk 16
      obtain ⟨ws, hws⟩ : ∃ ws, words blk 16 = ws := ⟨_, rfl⟩
      rw [hws] at hwl hwl64 ⊢
      have hl1 : (W1.alloc (.cells (cells64 (padTo ws)) 40)).heap[w.heap.size + 1]? = some (.cells (cells64 (padTo ws)) 40 (0, 0)) := by rw [← hs1]; exact heap_alloc_new _ _
      have hl0 : (W1.alloc (.cells (cells64 (padTo ws)) 40)).heap[w.heap.size]? = some (.cells (cells64 (padTo [])) 40 (0, 0)) := by
        exact (Below.heap_alloc W1 _ _ (by omega)).trans (by rw [← hW1]; exact heap_alloc_new _ _)
      have hbl1 : Below w.heap.size w (W1.alloc (.cells (cells64 (padTo ws)) 40)) := (hW1 ▸ (Below.refl _ w).alloc (Nat.le_refl _) _ : Below w.heap.size w W1).alloc (by omega) _
      obtain ⟨W2, hW2⟩ : ∃ W2, W1.alloc (.cells (cells64 (padTo ws)) 40) = W2 := ⟨_, rfl⟩
      rw [hW2] at hl1 hl0 hbl1 ⊢
      have HL1 := Go.Lib.hid hl1; have HL0 := Go.Lib.hid hl0; have HBL := Go.Lib.hid hbl1; have HWS := Go.Lib.hid hws
      clear hl1 hl0 hbl1 hW2 hW1 htk hws hsz
      go_wp2_with fail
      go_loopw [6] (fun tv wr => ∃ k : Nat, k ≤ 64 ∧ tv = .int .i64 ((16 + k : Nat) : Int) ∧ wr.heap[w.heap.size + 1]? = some (.cells (cells64 (padTo (sched ws k))) 40 (0, 0)) ∧
        wr.heap[w.heap.size]? = some (.cells (cells64 (padTo [])) 40 (0, 0)) ∧ Below w.heap.size w wr) (fun tv _ => 80 - (intOf tv).toNat)
      case atStart => exact ⟨0, by omega, rfl, HL1.out, HL0.out, HBL.out⟩
      case round =>
        obtain ⟨k, hk, rfl, h1, h0, hb⟩ := hrel
        by_cases h64 : k < 64
        · obtain ⟨us, hus⟩ : ∃ us, sched ws k = us := ⟨_, rfl⟩
          have hul : us.length = 16 + k := by rw [← hus, sched_length, hwl]
          have huslt : ∀ x ∈ us, x < 18446744073709551616 := by rw [← hus]; exact sched_lt ws hwl64 k
          have hnext : sched ws (k + 1) = us ++ [wnext us (16 + k)] := by simp only [sched, hus]
          obtain ⟨n6, hn6⟩ : ∃ n6, 16 + k = n6 := ⟨_, rfl⟩
          rw [hn6] at hul hnext ⊢
          rw [hus] at h1
          have hset := padTo_set us (wnext us n6) (by omega)
          rw [hul, ← hnext] at hset
          have hnew : (cells64 (padTo us)).setIfInBounds n6 (.int .u64 (wnext us n6 : Int)) = cells64 (padTo (sched ws (k + 1))) := by rw [cells64_set, hset]
          have hpl := padTo_length us (by omega)
          have cellAt : ∀ i, i < n6 → wr.cell? ⟨w.heap.size + 1, i, none⟩ = some (.int .u64 ((us.getD i 0 : Nat) : Int)) := by
            intro i h
            rw [cell_of_row _ _ _ _ _ _ h1, cells64_get _ _ (by omega), padTo_get _ _ (by omega)]
          obtain ⟨v0, hv0⟩ : ∃ v, (cells64 (padTo us))[n6]? = some v := ⟨_, Array.getElem?_eq_getElem (by rw [cells64_size, hpl]; omega)⟩
          have hc0 : wr.cell? ⟨w.heap.size + 1, n6, none⟩ = some v0 := by rw [cell_of_row _ _ _ _ _ _ h1]; exact hv0
          have hfz : wr.frozen? ⟨w.heap.size + 1, n6, none⟩ = false := frozen_of_row _ _ n6 _ _ h1
          have hwd : wr.heap[w.heap.size + 1]? ≠ none := by rw [h1]; simp
          obtain ⟨p15, h15⟩ : ∃ p, n6 = p + 15 := ⟨n6 - 15, by omega⟩
          obtain ⟨p2, h2⟩ : ∃ p, n6 = p + 2 := ⟨n6 - 2, by omega⟩
          obtain ⟨p16, h16⟩ : ∃ p, n6 = p + 16 := ⟨n6 - 16, by omega⟩
          obtain ⟨p7, h7⟩ : ∃ p, n6 = p + 7 := ⟨n6 - 7, by omega⟩
          have c15 := cellAt p15 (by omega)
          have c2 := cellAt p2 (by omega)
          have c16 := cellAt p16 (by omega)
          have c7 := cellAt p7 (by omega)
          have l15 := getD_lt us huslt p15
          have l2 := getD_lt us huslt p2
          have l16 := getD_lt us huslt p16
          have l7 := getD_lt us huslt p7
          have hwn : wnext us n6 = (us.getD p16 0 + us.getD p7 0 + sg0 (us.getD p15 0) + sg1 (us.getD p2 0)) % 18446744073709551616 := by
            unfold wnext
            rw [show n6 - 16 = p16 by omega, show n6 - 7 = p7 by omega, show n6 - 15 = p15 by omega, show n6 - 2 = p2 by omega]
          obtain ⟨x15, hx15⟩ : ∃ x, us.getD p15 0 = x := ⟨_, rfl⟩
          obtain ⟨x2, hx2⟩ : ∃ x, us.getD p2 0 = x := ⟨_, rfl⟩
          obtain ⟨x16, hx16⟩ : ∃ x, us.getD p16 0 = x := ⟨_, rfl⟩
          obtain ⟨x7, hx7⟩ : ∃ x, us.getD p7 0 = x := ⟨_, rfl⟩
          rw [hx15] at c15 l15
          rw [hx2] at c2 l2
          rw [hx16] at c16 l16
          rw [hx7] at c7 l7
          rw [hx15, hx2, hx16, hx7] at hwn
          have w15 : IntKind.i64.wrap ((n6 : Int) - 15) = (p15 : Int) := by rw [IntWalk.i64_in _ (by omega)]; omega
          have w2 : IntKind.i64.wrap ((n6 : Int) - 2) = (p2 : Int) := by rw [IntWalk.i64_in _ (by omega)]; omega
          have w16 : IntKind.i64.wrap ((n6 : Int) - 16) = (p16 : Int) := by rw [IntWalk.i64_in _ (by omega)]; omega
          have w7 : IntKind.i64.wrap ((n6 : Int) - 7) = (p7 : Int) := by rw [IntWalk.i64_in _ (by omega)]; omega
          have b15 : (p15 : Int) < 80 := by omega
          have b2 : (p2 : Int) < 80 := by omega
          have b16 : (p16 : Int) < 80 := by omega
          have b7 : (p7 : Int) < 80 := by omega
          have b6 : (n6 : Int) < 80 := by omega
          have HNEW := Go.Lib.hid hnew; have HWN := Go.Lib.hid hwn; have HN6 := Go.Lib.hid hn6; have H1 := Go.Lib.hid h1; have H0 := Go.Lib.hid h0; have HB := Go.Lib.hid hb
          clear hnew hwn hn6 h1 h0 hb hx15 hx2 hx16 hx7 h15 h2 h16 h7 cellAt hus hul huslt hset hpl hv0 hnext
          go_wp2_with fail
          go_quiet ((go_at_call 30; first | exact Calls.quiet_of_same (rotr_any _ 1 _ _ rfl l15 (by omega) (by omega)) | exact Calls.quiet_of_same (rotr_any _ 8 _ _ rfl l15 (by omega) (by omega))))
          go_wp2_with fail
          go_quiet ((go_at_call 30; first | exact quiet_more (rotrZ _ 19 _ _ rfl l2 (by omega) (by omega)) | exact quiet_more (rotrZ _ 61 _ _ rfl l2 (by omega) (by omega))))
          go_wp2_with fail
          rw [sg0_bits x15 l15, sg1_bits x2 l2]
          have hdw := fun n m => World.drewN_drewN wr n m
          rw [World.drewN_drewN]
          generalize hW3 : wr.drewN _ = W3
          have d16 : W3.cell? ⟨w.heap.size + 1, p16, none⟩ = some (.int .u64 (x16 : Int)) := by rw [← hW3]; exact c16
          have d7 : W3.cell? ⟨w.heap.size + 1, p7, none⟩ = some (.int .u64 (x7 : Int)) := by rw [← hW3]; exact c7
          have d0 : W3.cell? ⟨w.heap.size + 1, n6, none⟩ = some v0 := by rw [← hW3]; exact hc0
          have dz : W3.frozen? ⟨w.heap.size + 1, n6, none⟩ = false := by rw [← hW3]; exact hfz
          have e1 : W3.heap[w.heap.size + 1]? = some (.cells (cells64 (padTo us)) 40 (0, 0)) := by rw [← hW3]; exact H1.out
          have e0 : W3.heap[w.heap.size]? = some (.cells (cells64 (padTo [])) 40 (0, 0)) := by rw [← hW3]; exact H0.out
          have eb : Below w.heap.size w W3 := by rw [← hW3]; exact below_draws HB.out _
          have E1 := Go.Lib.hid e1; have E0 := Go.Lib.hid e0; have EB := Go.Lib.hid eb
          clear e1 e0 eb hW3 c16 c7 hc0 hfz hdw
          obtain ⟨s0, hs0⟩ : ∃ s, sg0 x15 = s := ⟨_, rfl⟩
          obtain ⟨s1, hs1⟩ : ∃ s, sg1 x2 = s := ⟨_, rfl⟩
          rw [hs0, hs1]
          have HS0 := Go.Lib.hid hs0; clear hs0
          have HS1' := Go.Lib.hid hs1; clear hs1
          go_still_tail 15, (by kernel_rfl)
          go_wp2_with fail
          have hnv : IntKind.u64.wrap (IntKind.u64.wrap (IntKind.u64.wrap ((x16 : Int) + (s0 : Int)) + (x7 : Int)) + (s1 : Int)) = ((wnext us n6 : Nat) : Int) := by
            rw [HWN.out, HS0.out, HS1'.out, IntKind.wrap_u64, IntKind.wrap_u64, IntKind.wrap_u64]; omega
          have g1 := heap_setCell_same W3 (w.heap.size + 1) n6 _ _ (.int .u64 ((wnext us n6 : Nat) : Int)) E1.out
          rw [HNEW.out] at g1
          have g0 : (W3.setCell ⟨w.heap.size + 1, n6, none⟩ (.int .u64 ((wnext us n6 : Nat) : Int))).heap[w.heap.size]? = some (.cells (cells64 (padTo [])) 40 (0, 0)) :=
            (heap_setCell_other _ _ _ _ (by simp)).trans E0.out
          have gb : Below w.heap.size w (W3.setCell ⟨w.heap.size + 1, n6, none⟩ (.int .u64 ((wnext us n6 : Nat) : Int))) :=
            EB.out.trans ⟨rfl, rfl, rfl, by simp [World.setCell], fun _ hkk => heap_setCell_other _ _ _ _ (by simp; omega)⟩
          rw [← hnv] at g1 g0 gb
          have hn := HN6.out
          refine ⟨?_, by simp [intOf]; omega⟩
          (repeat apply Exists.intro)
          exact ⟨⟨k + 1, by omega, by simp; omega, g1, g0, ⟨gb.os, gb.tape, gb.output, gb.size, gb.block⟩⟩, rfl⟩
        · obtain rfl : k = 64 := by omega
          have hfl : (sched ws 64).length = 80 := by rw [sched_length, hwl]
          rw [padTo_full _ hfl] at h1
          have hsz1 : (cells64 (sched ws 64)).size = 80 := by rw [cells64_size, hfl]
          have hsz0 : (cells64 (padTo [])).size = 80 := by rw [cells64_size]; rfl
          obtain ⟨ar, har⟩ : ∃ ar, cells64 (sched ws 64) = ar := ⟨_, rfl⟩
          have hone : ar.all (·.oneCell') = true := by rw [← har]; exact cells64_all _
          rw [har] at h1 hsz1
          obtain ⟨az, haz⟩ : ∃ az, cells64 (padTo []) = az := ⟨_, rfl⟩
          rw [haz] at h0 hsz0
          have H1 := Go.Lib.hid h1; have H0 := Go.Lib.hid h0; have HB := Go.Lib.hid hb; have HS1 := Go.Lib.hid hsz1; have HS0 := Go.Lib.hid hsz0; have HO := Go.Lib.hid hone; have HAR := Go.Lib.hid har
          clear h1 h0 hb hsz1 hsz0 hone har haz
          go_wp2_with (first
            | refine wpList_load_row rfl 40 (.tmp 3) rfl (w.heap.size + 1) rfl 40 ar (0, 0) _ H1.out Tryd.underlying40 rfl (size_rounds.trans (by rw [HS1.out])) ?_
            | refine wpList_store_row rfl 40 (.tmp 2) (.tmp 78) rfl w.heap.size ar rfl rfl 40 az H0.out (size_rounds.trans (by rw [HS1.out])) (by rw [HS1.out, HS0.out]) HO.out ?_)
          refine bodyPost_ret (v := .agg ar) (results_cell_row rfl _ _ w.heap.size 40 ar (0, 0) _ rfl (setRow_heap _ _ _ _ _ _ H0.out) Tryd.underlying40 rfl (size_rounds.trans (by rw [HS1.out]))) rfl ⟨by rw [HWS.out, HAR.out], ?_⟩
          exact below_setRow HB.out (Nat.le_refl _) _
end Go.Proofs.YtlkcmnpcfldbcaaDoor.W
