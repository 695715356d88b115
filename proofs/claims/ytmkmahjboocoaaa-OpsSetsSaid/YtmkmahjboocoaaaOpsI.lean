/- The walk of the law on sets that are made by Add. -/
import Derived.Test.YtmkmahjboocoaaaOpsJ
import Derived.Test.YtmkmahjboocoaaaOpsE
import Derived.Test.YtmkmahjboocoaaaPairs
import Derived.StillTailTactics
namespace Go.Proofs.Ytmkmahjboocoaaa.W
set_option linter.unusedVariables false
open Go.RowKit Go.Proofs Arb

theorem less_rise {S : List Opn} (h : Rising S) (q : Nat) (x y : Opn) (hx : S[q]? = some x) (hy : S[q + 1]? = some y) : x.stamp.less y.stamp = true := by
  obtain ⟨h1, rfl⟩ := List.getElem?_eq_some_iff.1 hx
  obtain ⟨h2, rfl⟩ := List.getElem?_eq_some_iff.1 hy
  exact List.pairwise_iff_getElem.1 h q (q + 1) h1 h2 (by omega)
def pairOf (x : Opn) : Int × Int := (x.stamp.who, x.seq)
theorem pair_ok {x : Opn} (h : opWf x) : pairOk (pairOf x) := ⟨h.1.2, h.2.1⟩

theorem vec_sum {S : List Opn} (hI : Inv S) : (vectorOf S).sum = (S.length : Int) := by
  have h := count_sum (topWho S).toNat S hI.who
  have hc : ∀ l : List Nat, (l.map fun w => numOf S w).sum = ((l.map fun (w : Nat) => S.countP fun y => decide (y.stamp.who = (w : Int))).sum : Nat) := by
    intro l
    induction l with
    | nil => rfl
    | cons a l ih =>
      rw [List.map_cons, List.map_cons, List.sum_cons, List.sum_cons, ih, Int.natCast_add]
      rfl
  unfold vectorOf
  rw [hc, h]
theorem sum_take (zs : List Int) (k : Nat) (z : Int) (h : zs[k]? = some z) : (zs.take (k + 1)).sum = (zs.take k).sum + z := by
  rw [List.take_add_one, h, List.sum_append]
  simp
theorem sum_bound : ∀ (zs : List Int), (∀ z ∈ zs, 0 ≤ z ∧ z ≤ 100) → 0 ≤ zs.sum ∧ zs.sum ≤ zs.length * 100
  | [], _ => by simp
  | z :: zs, h => by
    obtain ⟨h1, h2⟩ := sum_bound zs fun y hy => h y (by simp [hy])
    obtain ⟨h3, h4⟩ := h z (by simp)
    rw [List.sum_cons, List.length_cons]
    omega
theorem vec_get {S : List Opn} (w : Nat) (z : Int) (h : (vectorOf S)[w]? = some z) : z = (S.countP fun y => decide (y.stamp.who = (w : Int)) : Nat) := by
  unfold vectorOf at h
  rw [List.getElem?_map, Option.map_eq_some_iff] at h
  obtain ⟨j, hj, rfl⟩ := h
  have : j = w := by
    rcases Nat.lt_or_ge w (topWho S).toNat with h1 | h1
    · rw [List.getElem?_range h1] at hj; injection hj with hj; exact hj.symm
    · rw [List.getElem?_eq_none (by simpa using h1)] at hj; cases hj
  rw [this]
  rfl

set_option maxRecDepth 20000 in
set_option maxHeartbeats 16000000 in
theorem opsSets_go (A : Option Addr) (n c : Nat) (l : List Opn) (w : World) (hv : Opns w (.slice A n c) l) (hl : ∀ y ∈ l, opWf y) :
    Calls Try.prog 9 #[.slice A n c] w fun e w' => e = .returned (.bool true) ∧ Below w.heap.size w w' := by
  have hF := fun w v h => fewops_any v l w h (ops_wf hl)
  have hlen : l.length = n := by obtain ⟨A', n', c', he, h, _⟩ := hv; cases he; exact h
  obtain ⟨b, hb⟩ : ∃ b, fewOps l = b := ⟨_, rfl⟩
  rw [hb] at hF
  have HF := Go.Lib.hid hF; have HL := Go.Lib.hid hl; have HV := Go.Lib.hid hv
  clear hF hl hv
  cases b
  · go_enter Try.func9, Try.ntmps9
    go_wp2_with fail
    refine (HF.out _ _ HV.out).mono ?_; rintro e w2 ⟨rfl, rfl⟩
    go_wp2_with fail
    refine (awake_any _).mono ?_; rintro e w3 ⟨rfl, hb⟩
    go_wp2_with fail
    go_ret
    exact ⟨rfl, hb⟩
  · by_cases h100 : 100 < n
    · have h1' : (100 : Int) < (n : Int) := by omega
      clear hb
      go_enter Try.func9, Try.ntmps9
      go_wp2_with fail
      refine (HF.out _ _ HV.out).mono ?_; rintro e w2 ⟨rfl, rfl⟩
      go_wp2_with fail
      refine (awake_any _).mono ?_; rintro e w3 ⟨rfl, hb⟩
      go_wp2_with fail
      go_ret
      exact ⟨rfl, hb⟩
    · have h1' : ¬ (100 : Int) < (n : Int) := by omega
      obtain ⟨-, htx⟩ := fewOps_true hb
      have HTX := Go.Lib.hid htx; have HLEN := Go.Lib.hid hlen
      clear hb htx hlen
      have hmm := @run_makeMap Try.prog
      go_enter Try.func9, Try.ntmps9
      go_wp2_with fail
      refine (HF.out _ _ HV.out).mono ?_; rintro e w2 ⟨rfl, rfl⟩
      go_wp2_with fail
      go_loopw [3, 4, 5, 6, 22, 23, 24, 25, 26, 27, 28, 29, 30, 31, 32, 33, 34, 35, 36, 37, 38, 39, 40, 41, 42, 43, 44, 45, 46, 47, 48, 49, 50, 51, 52] (fun vo i _ _ _ _ _ _ _ _ _ _ _ _ _ _ _ _ _ _ _ _ _ _ _ _ _ _ _ _ _ _ _ _ _ wr => ∃ k : Nat, k ≤ n ∧ i = .int .i64 (k : Int) ∧ (∃ A2 c2, vo = .slice A2 (build (l.take k)).length c2) ∧ Opns wr vo (build (l.take k)) ∧ Below w.heap.size w wr) (fun _ i _ _ _ _ _ _ _ _ _ _ _ _ _ _ _ _ _ _ _ _ _ _ _ _ _ _ _ _ _ _ _ _ _ _ => n - (intOf i).toNat)
      case atStart => exact ⟨0, by omega, rfl, ⟨none, 0, rfl⟩, Opns.nil _, Below.refl _ _⟩
      case round =>
        obtain ⟨k, hk, rfl, ⟨A2, cc2, rfl⟩, hO, hbw⟩ := hrel
        have hbl := build_length (l.take k)
        have htl : (l.take k).length ≤ n := by rw [List.length_take]; omega
        by_cases hkn : k < n
        · have hkn' : (k : Int) < (n : Int) := by omega
          obtain ⟨b1, o1, x, rfl, hg1, hx⟩ := (HV.out.below hbw).at k hkn
          have hxm := List.mem_of_getElem? hg1
          have hxw := HL.out x hxm
          obtain ⟨hxn, hxmf⟩ := HTX.out x hxm
          obtain ⟨c0, c1, c2, c3, c4, c5, c6, c7, c8, c9, c10⟩ := op_cells hx
          have hst := build_take l k x hg1
          have hwf : ∀ y ∈ build (l.take k), opWf y := fun y hy => HL.out y (List.mem_of_mem_take (build_mem _ y hy))
          have hp := fun W v h => padd_any v (build (l.take k)) x W h (by omega) hwf hxw (by omega) (by omega)
          obtain ⟨sk, hsk⟩ : ∃ s, build (l.take k) = s := ⟨_, rfl⟩
          rw [hsk] at hO hbl hp hst hwf
          rw [hsk]
          have hal := @add_length sk x
          unfold addStep at hst
          obtain ⟨a, ha⟩ : ∃ a, (addOf sk x).1 = a := ⟨_, rfl⟩
          obtain ⟨ev, hev⟩ : ∃ r, (addOf sk x).2 = r := ⟨_, rfl⟩
          rw [ha, hev] at hp hst hal
          unfold opVal at hp
          unfold opArr opCells at hp
          obtain ⟨m, hm⟩ : ∃ m, sk.length = m := ⟨_, rfl⟩
          rw [hm] at hbl hal hO
          rw [hm]
          have HP := Go.Lib.hid hp; clear hp
          have HST := Go.Lib.hid hst; clear hst
          have HO := Go.Lib.hid hO; clear hO
          have HBW := Go.Lib.hid hbw; clear hbw
          have HM := Go.Lib.hid hm; clear hm
          clear hx hsk hwf hev ha hg1
          by_cases he : ev = 0
          · have hal2 := hal he
            have hst := HST.out
            rw [if_pos he] at hst
            subst he
            have HST2 := Go.Lib.hid hst; clear hst HST hal
            go_wp2_with fail
            refine (HP.out _ _ HO.out).mono ?_; rintro e w3 ⟨v3, rfl, hO3, hb3⟩
            obtain ⟨A3, cc3, rfl, _⟩ := hO3.len
            obtain ⟨m3, hm3⟩ : ∃ m, a.length = m := ⟨_, rfl⟩
            rw [hm3] at hal2 hO3
            rw [hm3]
            have HO3 := Go.Lib.hid hO3; clear hO3
            have HB3 := Go.Lib.hid (bstep HBW.out hb3); clear hb3
            have HM3 := Go.Lib.hid hm3; clear hm3
            have hn1 : ¬ (m3 : Int) < (m : Int) := by omega
            have hn2 : ¬ (m : Int) + 1 < (m3 : Int) := by omega
            go_wp2_with fail
            exact ⟨⟨k + 1, by omega, by simp, ⟨A3, cc3, by rw [HST2.out, HM3.out]⟩, by rw [HST2.out]; exact HO3.out, HB3.out⟩, by simp [intOf]; omega⟩
          · have hst := HST.out
            rw [if_neg he] at hst
            have HST2 := Go.Lib.hid hst; clear hst HST hal
            have hne : (ev == 0) = false := by simp [he]
            clear he
            go_wp2_with fail
            refine (HP.out _ _ HO.out).mono ?_; rintro e w3 ⟨v3, rfl, hO3, hb3⟩
            have HO4 := Go.Lib.hid (HO.out.below hb3)
            have HB3 := Go.Lib.hid (bstep HBW.out hb3); clear hb3 hO3
            go_wp2_with fail
            exact ⟨⟨k + 1, by omega, by simp, ⟨A2, cc2, by rw [HST2.out, HM.out]⟩, by rw [HST2.out]; exact HO4.out, HB3.out⟩, by simp [intOf]; omega⟩
        · obtain rfl : n = k := by omega
          rw [List.take_of_length_le (by rw [HLEN.out]; exact Nat.le_refl _)] at hO hbl
          have hI := build_inv l
          have hwf : ∀ y ∈ build l, opWf y := fun y hy => HL.out y (build_mem _ y hy)
          have htx2 : ∀ y ∈ build l, y.name.length ≤ 200 ∧ y.manifest.length ≤ 2000 := fun y hy => HTX.out y (build_mem _ y hy)
          rw [List.take_of_length_le (by rw [HLEN.out]; exact Nat.le_refl _)]
          rw [HLEN.out] at hbl
          obtain ⟨S, hS⟩ : ∃ S, build l = S := ⟨_, rfl⟩
          rw [hS] at hO hbl hI hwf htx2
          rw [hS]
          clear hS
          obtain ⟨m, hm⟩ : ∃ m, S.length = m := ⟨_, rfl⟩
          rw [hm] at hbl hO
          rw [hm]
          have hvl := vectorOf_length S
          have hp := fun W v h => pvector_any v S W h (by omega) hwf
          obtain ⟨zs, hzs⟩ : ∃ z, vectorOf S = z := ⟨_, rfl⟩
          rw [hzs] at hp hvl
          have HP := Go.Lib.hid hp; clear hp
          have HO := Go.Lib.hid hO; clear hO
          have HBW := Go.Lib.hid hbw; clear hbw
          have HM := Go.Lib.hid hm; clear hm
          have HI := Go.Lib.hid hI; clear hI
          have HWF := Go.Lib.hid hwf; clear hwf
          have HTX2 := Go.Lib.hid htx2; clear htx2
          have HZS := Go.Lib.hid hzs; clear hzs
          go_wp2_with fail
          refine (HP.out _ _ HO.out).mono ?_; rintro e w3 ⟨v3, rfl, hi3, hb3⟩
          obtain ⟨A7, nz, cz, rfl, hlz, _⟩ := id hi3
          have HI3 := Go.Lib.hid hi3; clear hi3
          have HO3 := Go.Lib.hid (HO.out.below hb3)
          have HB3 := Go.Lib.hid (bstep HBW.out hb3); clear hb3
          have HLZ := Go.Lib.hid hlz; clear hlz
          go_wp2_with fail
          obtain ⟨W3, hW3⟩ : ∃ W, W = w3 := ⟨_, rfl⟩
          subst hW3
          have hmap := PairIs.made W3 Try.prog 50 4
          have hb0 : Below W3.heap.size W3 (W3.alloc (.map #[] 0)) := (Below.refl _ _).alloc (Nat.le_refl _) _
          have HMAP := Go.Lib.hid hmap; clear hmap
          have HBZ := Go.Lib.hid hb0; clear hb0
          have hak : WideMaps.ArrKey Try.prog 50 3 2 := ⟨Try.underlying50, by kernel_rfl, by kernel_rfl, by kernel_rfl⟩
          have hks : ∃ m, Try.prog.types.size = m + 1 := ⟨Try.prog.types.size - 1, by kernel_rfl⟩
          have hfm : ∀ x y : Int, (Value.agg #[.int .i64 x, .int .i64 y]).formed Try.prog 50 = true := fun x y => by
            show (match Try.prog.underlying 50 with | some (.struct _) | some (.array _ _) => (#[Value.int .i64 x, Value.int .i64 y] : Array Value).size == Try.prog.cellsOf 50 | _ => false) = true
            rw [Try.underlying50, hak.size]
            rfl
          have HAK := Go.Lib.hid hak; have HKS := Go.Lib.hid hks; have HFM := Go.Lib.hid hfm
          clear hak hks hfm
          go_loopw [9, 56, 57, 58, 59, 60, 61, 62, 63, 64, 65, 66, 67, 68, 69, 70, 71, 72, 73, 74, 75, 76, 77, 78, 79, 80, 81, 82, 83, 84, 85, 86, 87, 88, 89, 90, 91, 92, 93, 94, 95, 96, 97, 98, 99] (fun i _ _ _ _ _ _ _ _ _ _ _ _ _ _ _ _ _ _ _ _ _ _ _ _ _ _ _ _ _ _ _ _ _ _ _ _ _ _ _ _ _ _ _ _ wr => ∃ q : Nat, q ≤ m ∧ i = .int .i64 (q : Int) ∧ PairIs wr Try.prog 50 4 W3.heap.size q ((S.take q).map pairOf) ∧ Below W3.heap.size W3 wr) (fun i _ _ _ _ _ _ _ _ _ _ _ _ _ _ _ _ _ _ _ _ _ _ _ _ _ _ _ _ _ _ _ _ _ _ _ _ _ _ _ _ _ _ _ _ _ => m - (intOf i).toNat)
          case atStart => exact ⟨0, by omega, rfl, HMAP.out, HBZ.out⟩
          case round =>
            obtain ⟨q, hq, rfl, hset, hb⟩ := hrel
            obtain ⟨V, hV⟩ : ∃ V, V = wr := ⟨_, rfl⟩
            subst hV
            by_cases hqm : q < m
            · have hqm' : (q : Int) < (m : Int) := by omega
              obtain ⟨b2, o2, y, rfl, hgy, hy⟩ := (HO3.out.below hb).at q hqm
              have hym := List.mem_of_getElem? hgy
              have hwfy := HWF.out y hym
              obtain ⟨hyn, hymf⟩ := HTX2.out y hym
              have hry := HI.out.good y hym
              have hr := fun W => popright_any y W hwfy (by omega) (by omega)
              rw [hry] at hr
              unfold opVal at hr
              unfold opArr opCells at hr
              obtain ⟨c0, c1, c2, c3, c4, c5, c6, c7, c8, c9, c10⟩ := op_cells hy
              have hlc := hy.lt
              have hty : (S.take (q + 1)).map pairOf = (S.take q).map pairOf ++ [pairOf y] := by rw [List.take_add_one, hgy, List.map_append]; rfl
              have hpok := pair_ok hwfy
              have HR := Go.Lib.hid hr; clear hr
              have HY := Go.Lib.hid hy; clear hy
              have HSET := Go.Lib.hid hset; clear hset
              have HB4 := Go.Lib.hid hb
              have HTY := Go.Lib.hid hty; clear hty
              have HPOK := Go.Lib.hid hpok; clear hpok
              have hne := BW.ne V.heap.size V
              have q0 := fun z : BW V.heap.size V => z.cell c0 hlc
              have q1 := fun z : BW V.heap.size V => z.cell c1 hlc
              have q2 := fun z : BW V.heap.size V => z.cell c2 hlc
              have q3 := fun z : BW V.heap.size V => z.cell c3 hlc
              have q4 := fun z : BW V.heap.size V => z.cell c4 hlc
              have q5 := fun z : BW V.heap.size V => z.cell c5 hlc
              have q6 := fun z : BW V.heap.size V => z.cell c6 hlc
              have q7 := fun z : BW V.heap.size V => z.cell c7 hlc
              have q8 := fun z : BW V.heap.size V => z.cell c8 hlc
              have q9 := fun z : BW V.heap.size V => z.cell c9 hlc
              have q10 := fun z : BW V.heap.size V => z.cell c10 hlc
              rcases Nat.eq_zero_or_pos q with h0 | h0
              · have hz0 : decide (0 < q) = false := decide_eq_false (by omega)
                clear h0
                clear hgy hym hwfy hry hb
                go_wp2_with fail
                refine wp_region_calm V.heap.size V (Below.refl _ _) (by kernel_rfl) (by kernel_rfl) ?_
                repeat (go_big_quiet_step ((go_at_call 13; with_reducible exact bw_of (Nat.le_refl _) (HR.out _))))
                refine wpQuiet_nil ?_
                intro _ hw'
                obtain ⟨z, rfl⟩ := hw'
                obtain ⟨V5, hV5⟩ : ∃ W, z.w = W := ⟨_, rfl⟩
                have hbz : Below V.heap.size V V5 := by rw [← hV5]; exact z.2
                rw [hV5]
                clear hV5
                have hy5 := HY.out.below hbz
                have hs5 := HSET.out.below hbz
                have hb5 := bstep HB4.out hbz
                obtain ⟨e0, e1, e2, -⟩ := op_cells hy5
                have HS5 := Go.Lib.hid hs5; have HB5 := Go.Lib.hid hb5
                clear hy5 hs5 hb5 hbz hne q0 q1 q2 q3 q4 q5 q6 q7 q8 q9 q10 c0 c1 c2 c3 c4 c5 c6 c7 c8 c9 c10
                go_wp2_with fail
                go_still_tail 13, (by kernel_rfl)
                go_wp2_with (refine wpList_pair_add (HS5.out.below (Below.refl _ _).drew) HAK.out Try.underlying3 HKS.out HFM.out Try.underlying48 Try.underlying4 rfl (.tmp 87) (.tmp 99) (.const (.bool true)) rfl rfl (by unfold maxLen; omega) (pairOf y) HPOK.out rfl rfl ?_; intro w6 hs6 hg6; have HS6 := Go.Lib.hid hs6; have HG6 := Go.Lib.hid hg6; clear hs6 hg6)
                have hb6 : Below W3.heap.size W3 w6 := HB5.out.trans ((Below.refl _ _).drew.trans (below_grown HG6.out (Nat.le_refl _) HB5.out.size))
                refine ⟨⟨q + 1, by omega, by simp, by rw [HTY.out]; exact HS6.out, hb6⟩, by simp [intOf]; omega⟩
              · obtain ⟨p, hp1⟩ : ∃ p, q = p + 1 := ⟨q - 1, by omega⟩
                obtain ⟨b3, o3, x, he, hgx, hx⟩ := (HO3.out.below hb).at p (by omega)
                cases he
                have hls := less_rise HI.out.rise p x y hgx (by rw [← hp1]; exact hgy)
                have hl := fun W => pless_any x.stamp y.stamp W
                rw [hls] at hl
                simp only [stCells] at hl
                obtain ⟨d0, d1, -⟩ := op_cells hx
                have q11 := fun z : BW V.heap.size V => z.cell d0 hx.lt
                have q12 := fun z : BW V.heap.size V => z.cell d1 hx.lt
                have hq2 : IntKind.i64.wrap ((q : Int) - 1) = (p : Int) := by rw [IntKind.wrap_i64]; omega
                have hq3 : (p : Int) < (m : Int) := by omega
                have hq4 : decide (0 < q) = true := decide_eq_true (by omega)
                have HP1 := Go.Lib.hid hp1; clear hp1 h0
                have HLS := Go.Lib.hid hl; clear hl hls
                clear hgy hym hwfy hry hb hgx hx
                go_wp2_with fail
                refine wp_region_calm V.heap.size V (Below.refl _ _) (by kernel_rfl) (by kernel_rfl) ?_
                repeat (go_big_quiet_step (first | (go_at_call 13; with_reducible exact bw_of (Nat.le_refl _) (HR.out _)) | (go_at_call 28; with_reducible exact bw_of (Nat.le_refl _) (HLS.out _))))
                refine wpQuiet_nil ?_
                intro _ hw'
                obtain ⟨z, rfl⟩ := hw'
                obtain ⟨V5, hV5⟩ : ∃ W, z.w = W := ⟨_, rfl⟩
                have hbz : Below V.heap.size V V5 := by rw [← hV5]; exact z.2
                rw [hV5]
                clear hV5
                have hy5 := HY.out.below hbz
                have hs5 := HSET.out.below hbz
                have hb5 := bstep HB4.out hbz
                obtain ⟨e0, e1, e2, -⟩ := op_cells hy5
                have HS5 := Go.Lib.hid hs5; have HB5 := Go.Lib.hid hb5
                clear hy5 hs5 hb5 hbz hne q0 q1 q2 q3 q4 q5 q6 q7 q8 q9 q10 c0 c1 c2 c3 c4 c5 c6 c7 c8 c9 c10 q11 q12 d0 d1
                go_wp2_with fail
                go_still_tail 13, (by kernel_rfl)
                go_wp2_with (refine wpList_pair_add (HS5.out.below (Below.refl _ _).drew) HAK.out Try.underlying3 HKS.out HFM.out Try.underlying48 Try.underlying4 rfl (.tmp 87) (.tmp 99) (.const (.bool true)) rfl rfl (by unfold maxLen; omega) (pairOf y) HPOK.out rfl rfl ?_; intro w6 hs6 hg6; have HS6 := Go.Lib.hid hs6; have HG6 := Go.Lib.hid hg6; clear hs6 hg6)
                have hb6 : Below W3.heap.size W3 w6 := HB5.out.trans ((Below.refl _ _).drew.trans (below_grown HG6.out (Nat.le_refl _) HB5.out.size))
                refine ⟨⟨q + 1, by omega, by simp, by rw [HTY.out]; exact HS6.out, hb6⟩, by simp [intOf]; omega⟩
            · obtain rfl : m = q := by omega
              rw [List.take_of_length_le (by rw [HM.out]; exact Nat.le_refl _)] at hset
              have hbv := bstep HB3.out hb
              have hO4 := HO3.out.below hb
              have hi4 := HI3.out.below hb
              have hsum := vec_sum HI.out
              have hz : ∀ z ∈ zs, 0 ≤ z ∧ z ≤ 100 := fun z hz => by
                rw [← HZS.out] at hz
                obtain ⟨j, hj, hjz⟩ := List.getElem_of_mem hz
                have := vec_get (S := S) j z (by rw [List.getElem?_eq_getElem hj, hjz])
                have hle := List.countP_le_length (p := fun y : Opn => decide (y.stamp.who = (j : Int))) (l := S)
                have hml := HM.out
                omega
              have hget : ∀ (wk : Nat) (z : Int) (k : Nat), zs[wk]? = some z → 1 ≤ k → (k : Int) ≤ z → ((wk : Int), (k : Int)) ∈ S.map pairOf := fun wk z k h1 h2 h3 => by
                rw [← HZS.out] at h1
                have hz := vec_get (S := S) wk z h1
                obtain ⟨x, hx, hxw, hxk⟩ := (HI.out.seqs (wk : Int) (k : Int)).2 ⟨by omega, by omega⟩
                exact List.mem_map.2 ⟨x, hx, by unfold pairOf; rw [hxw, hxk]⟩
              have hlook : ∀ (wk k : Nat), wk ≤ 15 → k ≤ 100 → ((wk : Int), (k : Int)) ∈ S.map pairOf → (Instr.lookup 48 (.map (some W3.heap.size)) (.agg #[.int .i64 (wk : Int), .int .i64 (k : Int)]) false).run Try.prog V = .ok (.bool true) V := fun wk k h1 h2 h3 => by
                have hok : pairOk ((wk : Int), (k : Int)) := by
                  refine ⟨?_, ?_⟩ <;> (simp only [Lit.wf, Bool.and_eq_true, decide_eq_true_eq]; have e1 : IntKind.i64.min = -9223372036854775808 := rfl; have e2 : IntKind.i64.max = 9223372036854775807 := rfl; omega)
                have h := hset.look HAK.out Try.underlying3 HKS.out HFM.out Try.underlying48 Try.underlying4 (by kernel_rfl) ((wk : Int), (k : Int)) hok
                rw [decide_eq_true h3] at h
                exact h
              rw [HZS.out, HM.out] at hsum
              have HZ := Go.Lib.hid hz; have HGET := Go.Lib.hid hget; have HLOOK := Go.Lib.hid hlook; have HSUM := Go.Lib.hid hsum
              have HBV := Go.Lib.hid hbv; have HO4 := Go.Lib.hid hO4; have HI4 := Go.Lib.hid hi4
              clear hz hget hlook hsum hbv hO4 hi4 hset hb HMAP HBZ
              have hnz : nz ≤ 15 := by have := HLZ.out; omega
              go_wp2_with fail
              go_loop [10, 11, 12, 100, 101, 102, 103, 104, 105, 106, 107, 108, 109, 110, 111, 112, 113, 114, 115, 116, 117, 118, 119, 120, 121] (fun nn wi _ _ _ _ _ _ _ _ _ _ _ _ _ _ _ _ _ _ _ _ _ _ _ => ∃ wk : Nat, wk ≤ nz ∧ wi = .int .i64 (wk : Int) ∧ nn = .int .i64 ((zs.take wk).sum)) (fun _ wi _ _ _ _ _ _ _ _ _ _ _ _ _ _ _ _ _ _ _ _ _ _ _ => nz - (intOf wi).toNat)
              case atStart => exact ⟨0, by omega, rfl, rfl⟩
              case round =>
                obtain ⟨wk, hwk, rfl, rfl⟩ := hrel
                by_cases hwn : wk < nz
                · have hwn' : (wk : Int) < (nz : Int) := by omega
                  have hgz := List.getElem?_eq_getElem (l := zs) (i := wk) (by rw [HLZ.out]; exact hwn)
                  obtain ⟨z, hzz⟩ : ∃ z, zs[wk]'(by rw [HLZ.out]; exact hwn) = z := ⟨_, rfl⟩
                  rw [hzz] at hgz
                  obtain ⟨z0, z100⟩ := HZ.out z (List.mem_of_getElem? hgz)
                  obtain ⟨zN, rfl⟩ : ∃ zN : Nat, z = (zN : Int) := ⟨z.toNat, by omega⟩
                  obtain ⟨A8, n8, c8, he8, _, _, hcl8⟩ := id HI4.out
                  cases he8
                  obtain ⟨b8, o8, rfl, hz8⟩ := hcl8 (by omega)
                  have hcz := hz8 wk _ hgz
                  have hst := sum_take zs wk _ hgz
                  obtain ⟨sb0, sb1⟩ := sum_bound (zs.take wk) (fun y hy => HZ.out y (List.mem_of_mem_take hy))
                  have htl : (zs.take wk).length ≤ 15 := by rw [List.length_take]; omega
                  obtain ⟨sm, hsm⟩ : ∃ s, (zs.take wk).sum = s := ⟨_, rfl⟩
                  rw [hsm] at hst sb0 sb1
                  rw [hsm]
                  have hsb : sm ≤ 1500 := by omega
                  have HST := Go.Lib.hid hst; clear hst
                  have HGZ := Go.Lib.hid hgz; clear hgz
                  clear hz8 hcl8 hzz hsm sb1 htl
                  go_wp2_with fail
                  go_loop [10, 12, 106, 107, 108, 109, 110, 111, 112, 113, 114, 115, 116, 117, 118, 119, 120, 121] (fun nn ki _ _ _ _ _ _ _ _ _ _ _ _ _ _ _ _ => ∃ k : Nat, 1 ≤ k ∧ k ≤ zN + 1 ∧ ki = .int .i64 (k : Int) ∧ nn = .int .i64 (sm + (k : Int) - 1)) (fun _ ki _ _ _ _ _ _ _ _ _ _ _ _ _ _ _ _ => zN + 1 - (intOf ki).toNat)
                  case atStart => exact ⟨1, by omega, by omega, rfl, by congr 1; omega⟩
                  case round =>
                    obtain ⟨k, hk1, hk2, rfl, rfl⟩ := hrel
                    by_cases hkz : k ≤ zN
                    · have hkz' : (k : Int) ≤ (zN : Int) := by omega
                      have hlk := HLOOK.out wk k (by omega) (by omega) (HGET.out wk _ k HGZ.out hk1 (by omega))
                      have hw1 : IntKind.i64.wrap (sm + (k : Int) - 1 + 1) = sm + (k : Int) - 1 + 1 := by rw [IntKind.wrap_i64]; omega
                      go_wp2_with fail
                      exact ⟨⟨k + 1, by omega, by omega, by simp, by congr 1; simp; omega⟩, by simp [intOf]; omega⟩
                    · obtain rfl : k = zN + 1 := by omega
                      go_wp2_with fail
                      exact ⟨⟨wk + 1, by omega, by simp, by congr 1; rw [HST.out]; simp; omega⟩, by simp [intOf]; omega⟩
                · obtain rfl : wk = nz := by omega
                  rw [List.take_of_length_le (by rw [HLZ.out]; exact Nat.le_refl _), HSUM.out]
                  have hp2 := fun W v u h hu => psince_any v u S zs W h hu (by have := HM.out; omega) (by have := HLZ.out; omega) HWF.out
                  have hp3 := fun W v u h hu => psince_any v u S [] W h hu (by have := HM.out; omega) (by simp) HWF.out
                  rw [show sinceOf S zs = [] by rw [← HZS.out]; exact since_own HI.out] at hp2
                  rw [since_none HI.out] at hp3
                  have hs2 := fun W u v hu hv => same_self u v S W hu hv (by have := HM.out; omega)
                  have HP2 := Go.Lib.hid hp2; have HP3 := Go.Lib.hid hp3; have HS2 := Go.Lib.hid hs2
                  have heq : ((m : Int) == (m : Int)) = true := by simp
                  clear hp2 hp3 hs2
                  go_wp2_with fail
                  refine (HP2.out _ _ _ HO4.out HI4.out).mono ?_; rintro e w5 ⟨v5, rfl, ho5, hb5⟩
                  obtain ⟨A9, c9, rfl, _⟩ := ho5.len
                  have HB5 := Go.Lib.hid (bstep HBV.out hb5); have HO5 := Go.Lib.hid (HO4.out.below hb5); clear hb5 ho5
                  go_wp2_with fail
                  refine (HP3.out _ _ _ HO5.out ⟨none, 0, 0, rfl, rfl, Nat.le_refl _, fun h => by omega⟩).mono ?_; rintro e w6 ⟨v6, rfl, ho6, hb6⟩
                  have HB6 := Go.Lib.hid (bstep HB5.out hb6); have HO7 := Go.Lib.hid (HO5.out.below hb6); have HO6 := Go.Lib.hid ho6; clear hb6 ho6
                  go_wp2_with fail
                  refine (HS2.out _ _ _ HO6.out HO7.out).mono ?_; rintro e w7 ⟨rfl, hb7⟩
                  have HB7 := Go.Lib.hid (bstep HB6.out hb7); clear hb7
                  go_wp2_with fail
                  refine (awake_any _).mono ?_; rintro e w8 ⟨rfl, hb8⟩
                  go_wp2_with fail
                  go_ret
                  exact ⟨rfl, bstep HB7.out hb8⟩

theorem opsSets_walk (A : Option Addr) (n c : Nat) (l : List Opn) (w : World) (hs : Sl w 11 A n c (l.map opCells)) (_ : c * 104 ≤ 140737488351232) (hl : ∀ y ∈ l, opWf y) (_ : l.length = n) :
    Calls Try.prog 9 #[.slice A n c] w fun e w' => e = .returned (.bool true) ∧ Below w.heap.size w w' :=
  opsSets_go A n c l w (Opns.of_sl hs) hl
end Go.Proofs.Ytmkmahjboocoaaa.W
