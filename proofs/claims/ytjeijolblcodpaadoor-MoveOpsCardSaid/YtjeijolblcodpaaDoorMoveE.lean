/- The walk of MoveOps. -/
import Derived.Test.YtjeijolblcodpaaDoorMg13
import Derived.Test.YtjeijolblcodpaaDoorMoveS
import Derived.Test.YtjeijolblcodpaaDoorOpKeys
import Derived.Test.YtjeijolblcodpaaDoorMg5
namespace Go.Proofs.YtjeijolblcodpaaDoor.W
set_option maxRecDepth 20000
set_option linter.unusedVariables false
open Go.RowKit Go.Proofs Arb

/-- The program's state, and a map of the law's own. -/
structure WithMap (W V : World) (b : Nat) (F : Nat → Prop) (l : List Opn) (n : Int) (mb c : Nat) (S : List Opn) : Prop where
  mine : Mine W V b F l n
  map : OpIs V mb c S
  own : ¬ F mb
  new : W.heap.size ≤ mb
section
variable {W V V' : World} {b mb c : Nat} {F F' : Nat → Prop} {l l' S : List Opn} {n n' : Int}
theorem WithMap.more (h : WithMap W V b F l n mb c S) (hb : Below V.heap.size V V') : WithMap W V' b F l n mb c S := ⟨h.mine.more hb, h.map.below hb, h.own, h.new⟩
theorem WithMap.prog (h : WithMap W V b F l n mb c S) (hs : PSt V' b F' l' n') (ht : Turned V V' F F') : WithMap W V' b F' l' n' mb c S :=
  ⟨h.mine.next hs ht, h.map.at (ht.kept.block mb h.map.lt h.own), fun hf => by
    rcases ht.grow mb hf with h1 | h1
    · exact h.own h1
    · have := h.map.lt; omega, h.new⟩
theorem WithMap.put {c' : Nat} {S' : List Opn} (h : WithMap W V b F l n mb c S) (hm : OpIs V' mb c' S') (hg : V.grownBy V' (some mb)) : WithMap W V' b F l n mb c' S' :=
  ⟨⟨h.mine.st.kept (Kept.of_grown hg) fun k hf e => h.own (by rw [← e]; exact hf), h.mine.new, h.mine.bel.grown hg h.mine.bel.size fun k hk => by injection hk with hk; rw [← hk]; exact h.new⟩, hm, h.own, h.new⟩
end
theorem taken_len (l : List Opn) : (mvBuild l).length = (mvTaken l).length := by
  have := (mvTaken_some l).len
  simpa using this.symm
theorem build_in (l : List Opn) (x : Opn) (hx : x ∈ mvBuild l) : x ∈ mvTaken l := by
  have := (mvTaken_some l).mem x
  simpa using this.1 hx

set_option maxRecDepth 20000 in
set_option maxHeartbeats 32000000 in
theorem moveOps_go (v : Value) (l : List Opn) (w : World) (h : Opns w v l) (hwf : ∀ x ∈ l, opWf x) (hTM : Met w) :
    Calls Tryd.prog 8 #[v] w fun e w' => e = .returned (.bool true) ∧ Below w.heap.size w w' := by
  have HTM := Go.Lib.hid hTM; clear hTM
  have hF := fun w h => few8_any v l w h (fun x hx => (hwf x hx).2.2.2.2.2)
  obtain ⟨q, hq⟩ : ∃ b, few8 l = b := ⟨_, rfl⟩
  rw [hq] at hF
  have HF := Go.Lib.hid hF; have HV := Go.Lib.hid h
  clear hF
  cases q
  · clear hq h hwf
    go_enter Tryd.func8, Tryd.ntmps8
    go_wp2_with fail
    refine (mine_new HTM.out).mono ?_; rintro e V1 ⟨b, F1, rfl, hm1⟩
    have HM1 := Go.Lib.hid hm1; clear hm1
    go_wp2_with fail
    refine (HF.out _ (HV.out.below HM1.out.bel)).mono ?_; rintro e V2 ⟨rfl, rfl⟩
    go_wp2_with fail
    refine (awake8_any _ (HTM.out.on HM1.out.bel)).mono ?_; rintro e V3 ⟨rfl, hb⟩
    have HB3 := Go.Lib.hid (bstep HM1.out.bel hb); clear hb
    go_wp2_with fail
    go_ret
    exact ⟨rfl, HB3.out⟩
  · have hln := (few8_true hq).1
    obtain ⟨A, c, rfl, hc⟩ := h.len
    obtain ⟨N, hN⟩ : ∃ N, l.length = N := ⟨_, rfl⟩
    have htl : l.take N = l := List.take_of_length_le (by omega)
    rw [hN] at HF HV hln hc
    rw [hN]
    have HN := Go.Lib.hid hN; have HWF := Go.Lib.hid hwf; have HTL := Go.Lib.hid htl
    clear hq h hwf hN htl
    have hmm := @run_makeMap Tryd.prog
    go_enter Tryd.func8, Tryd.ntmps8
    go_wp2_with fail
    refine (mine_new HTM.out).mono ?_; rintro e V1 ⟨b, F1, rfl, hm1⟩
    have HM1 := Go.Lib.hid hm1; clear hm1
    go_wp2_with fail
    refine (HF.out _ (HV.out.below HM1.out.bel)).mono ?_; rintro e V2 ⟨rfl, rfl⟩
    have htw : WithMap w (V1.alloc (.map #[] 0)) b F1 [] 0 V1.heap.size 0 [] :=
      ⟨HM1.out.more ((Below.refl _ _).alloc (Nat.le_refl _) _), OpIs.made V1, fun hf => by have := HM1.out.st.lt _ hf; omega, HM1.out.bel.size⟩
    obtain ⟨W3, hW3⟩ : ∃ W, V1.alloc (.map #[] 0) = W := ⟨_, rfl⟩
    rw [hW3] at htw
    obtain ⟨mb, hmb⟩ : ∃ r, V1.heap.size = r := ⟨_, rfl⟩
    rw [hmb] at htw
    have HTW := Go.Lib.hid htw; have HW3 := Go.Lib.hid hW3
    clear htw hW3
    go_wp2_with fail
    rw [HW3.out]
    try rw [hmb]
    clear hmm
    go_loopw [5, 6, 23, 24, 25, 26, 27, 28, 29, 30, 31, 32, 33, 34, 35, 36, 37, 38, 39, 40, 41, 42] (fun cn i _ _ _ _ _ _ _ _ _ _ _ _ _ _ _ _ _ _ _ _ wr => ∃ (k : Nat) (F : Nat → Prop) (n : Int), k ≤ N ∧ i = .int .i64 (k : Int) ∧ cn = .int .i64 ((mvTaken (l.take k)).length : Int) ∧ (mvTaken (l.take k)).length ≤ k ∧ WithMap w wr b F (mvBuild (l.take k)) n mb (mvTaken (l.take k)).length (mvTaken (l.take k))) (fun _ i _ _ _ _ _ _ _ _ _ _ _ _ _ _ _ _ _ _ _ _ _ => N - (intOf i).toNat)
    case atStart => exact ⟨0, F1, 0, by omega, rfl, rfl, Nat.le_refl _, HTW.out⟩
    case round =>
      obtain ⟨k, F, n, hk, rfl, rfl, htk, hwm⟩ := hrel
      by_cases hkn : k < N
      · have hkn' : (k : Int) < (N : Int) := by omega
        obtain ⟨bx, ox, x, rfl, hg1, hx0⟩ := HV.out.at k hkn
        have hxk : ∀ V, Below w.heap.size w V → OpAt V bx (ox + k * 11) x := fun V hb => hx0.below hb
        have hxw := HWF.out x (List.mem_of_getElem? hg1)
        have hst := mvBuild_take l k x hg1
        have htt := mvTaken_take l k x hg1
        obtain ⟨s, hs⟩ : ∃ s, mvBuild (l.take k) = s := ⟨_, rfl⟩
        obtain ⟨T, hT⟩ : ∃ s, mvTaken (l.take k) = s := ⟨_, rfl⟩
        rw [hs] at hwm hst htt
        rw [hT] at hwm htt htk
        rw [hT]
        obtain ⟨er, her⟩ : ∃ r, mvErr s x = r := ⟨_, rfl⟩
        rw [her] at htt
        obtain ⟨t, ht⟩ : ∃ t, T.length = t := ⟨_, rfl⟩
        rw [ht] at hwm htk
        rw [ht]
        have hpi : Calls Tryd.prog 12 #[.pointer (some ⟨b, 0, none⟩), .agg (opCells x).toArray] wr fun e w' => e = .returned (.int .i64 er) ∧ ∃ F', WithMap w w' b F' (mvAdd s x) (mvRedo s x n) mb t T :=
          (pinsert_st wr b F s n x hwm.mine.st hxw (HTM.out.on hwm.mine.bel)).mono fun e w' ⟨he, F', h1, h2⟩ => by
            rw [her] at he
            exact ⟨he, F', hwm.prog h1 h2⟩
        unfold opCells at hpi
        obtain ⟨c0, c1, c2, c3, c4, c5, c6, c7, c8, c9, c10⟩ := op_cells (hxk wr hwm.mine.bel)
        have HPI := Go.Lib.hid hpi; have HXK := Go.Lib.hid hxk; have HST := Go.Lib.hid hst; have HT := Go.Lib.hid ht
        clear hpi hxk hst hx0 hg1 hwm hs hT her ht
        by_cases h0 : er = 0
        · rw [if_pos h0] at htt
          have HTT := Go.Lib.hid htt; clear htt
          subst h0
          go_wp2_with fail
          refine HPI.out.mono ?_; rintro e V4 ⟨rfl, F4, hm4⟩
          clear c0 c1 c2 c3 c4 c5 c6 c7 c8 c9 c10
          obtain ⟨c0, c1, c2, c3, c4, c5, c6, c7, c8, c9, c10⟩ := op_cells (HXK.out _ hm4.mine.bel)
          have HM4 := Go.Lib.hid hm4; clear hm4
          go_wp2_with (at_mapUpdate; refine wpList_op_put HM4.out.map rfl _ _ _ rfl rfl (by unfold maxLen; omega) x hxw rfl rfl ?_; intro V5 hm5 hg5; have HM5 := Go.Lib.hid (HM4.out.put hm5 hg5); clear hm5 hg5)
          have hl1 : (T ++ [x]).length = t + 1 := by rw [List.length_append, HT.out]; rfl
          exact ⟨⟨k + 1, F4, _, by omega, by simp, by rw [HTT.out, hl1]; simp, by rw [HTT.out, hl1]; omega, by rw [HST.out, HTT.out, hl1]; exact HM5.out⟩, by simp [intOf]; omega⟩
        · rw [if_neg h0] at htt
          have hb0 : (er == 0) = false := by simp [h0]
          have HTT := Go.Lib.hid htt; clear htt h0
          go_wp2_with fail
          refine HPI.out.mono ?_; rintro e V4 ⟨rfl, F4, hm4⟩
          clear c0 c1 c2 c3 c4 c5 c6 c7 c8 c9 c10
          have HM4 := Go.Lib.hid hm4; clear hm4
          go_wp2_with fail
          exact ⟨⟨k + 1, F4, _, by omega, by simp, by rw [HTT.out, HT.out], by rw [HTT.out, HT.out]; omega, by rw [HST.out, HTT.out, HT.out]; exact HM4.out⟩, by simp [intOf]; omega⟩
      · obtain rfl : k = N := by omega
        rw [HTL.out] at hwm htk ⊢
        have hri := mvBuild_rise l
        have hin := build_in l
        have hle := taken_len l
        have hbm := mvBuild_mem l
        obtain ⟨s, hs⟩ : ∃ s, mvBuild l = s := ⟨_, rfl⟩
        obtain ⟨T, hT⟩ : ∃ s, mvTaken l = s := ⟨_, rfl⟩
        rw [hs] at hwm hri hin hle hbm
        rw [hT] at hwm hin hle htk
        rw [hT]
        obtain ⟨t, ht⟩ : ∃ t, T.length = t := ⟨_, rfl⟩
        rw [ht] at hwm hle htk
        rw [ht]
        have hpo : Calls Tryd.prog 15 #[.pointer (some ⟨b, 0, none⟩)] wr fun e w' => ∃ A c F', e = .returned (.slice A t c) ∧ t ≤ c ∧ Opns w' (.slice A t c) s ∧ WithMap w w' b F' s n mb t T :=
          (pops_st wr b F s n hwm.mine.st (HTM.out.on hwm.mine.bel)).mono fun e w' ⟨v', F', he, h1, h2, h3, h4⟩ => by
            obtain ⟨A, c, rfl, hc⟩ := h1.len
            rw [hle] at he h1 hc
            exact ⟨A, c, F', he, hc, h1, hwm.prog h3 h4⟩
        have HPO := Go.Lib.hid hpo; have HRI := Go.Lib.hid hri; have HIN := Go.Lib.hid hin; have HBM := Go.Lib.hid hbm; have HLE := Go.Lib.hid hle
        clear hpo hri hin hbm hle hwm hs hT ht
        go_wp2_with fail
        refine HPO.out.mono ?_; rintro e V5 ⟨A5, c5, F5, rfl, hc5, ho5, hm5⟩
        have HO5 := Go.Lib.hid ho5; have HM5 := Go.Lib.hid hm5; clear ho5 hm5
        go_wp2_with fail
        go_loopw [8, 45, 46, 47, 48, 49, 50, 51, 52, 53, 54, 55, 56, 57, 58, 59, 60, 61, 62, 63, 64, 65, 66, 67, 68, 69, 70, 71, 72, 73, 74, 75, 76] (fun i _ _ _ _ _ _ _ _ _ _ _ _ _ _ _ _ _ _ _ _ _ _ _ _ _ _ _ _ _ _ _ _ wr => ∃ j : Nat, j ≤ t ∧ i = .int .i64 (j : Int) ∧ Below V5.heap.size V5 wr) (fun i _ _ _ _ _ _ _ _ _ _ _ _ _ _ _ _ _ _ _ _ _ _ _ _ _ _ _ _ _ _ _ _ _ => t - (intOf i).toNat)
        case atStart => exact ⟨0, by omega, rfl, Below.refl _ _⟩
        case round =>
          obtain ⟨j, hj, rfl, hbw⟩ := hrel
          by_cases hjt : j < t
          · have hjt' : (j : Int) < (t : Int) := by omega
            obtain ⟨by1, oy, y, rfl, hgy, hy⟩ := (HO5.out.below hbw).at j hjt
            have hyw := HWF.out y (HBM.out y (List.mem_of_getElem? hgy))
            have hyl := hy.lt
            obtain ⟨c0, c1, c2, c3, c4, c5', c6, c7, c8, c9, c10⟩ := op_cells hy
            obtain ⟨Vr, hVr⟩ : ∃ V, V = wr := ⟨_, rfl⟩
            subst hVr
            have hmr := (HM5.out.more hbw).map
            have hlk : ∀ z : BW Vr.heap.size Vr, (Instr.lookup 50 (.map (some mb)) (.agg #[.int .i64 y.stamp.count, .int .i64 y.stamp.who, .int .i64 y.seq, .int .i64 y.kind, .int .i64 y.node.count, .int .i64 y.node.who, .bool y.dir, .int .i64 y.parent.count, .int .i64 y.parent.who, .string (BS y.name), .string (BS y.manifest)]) false).run Tryd.prog z.w = .ok (.bool true) z.w := fun z => by
              have := (hmr.below z.2).look y hyw
              rw [decide_eq_true (HIN.out y (List.mem_of_getElem? hgy))] at this
              exact this
            have hne := BW.ne Vr.heap.size Vr
            have p0 := fun z : BW Vr.heap.size Vr => z.cell c0 hyl
            have p1 := fun z : BW Vr.heap.size Vr => z.cell c1 hyl
            have p2 := fun z : BW Vr.heap.size Vr => z.cell c2 hyl
            have p3 := fun z : BW Vr.heap.size Vr => z.cell c3 hyl
            have p4 := fun z : BW Vr.heap.size Vr => z.cell c4 hyl
            have p5 := fun z : BW Vr.heap.size Vr => z.cell c5' hyl
            have p6 := fun z : BW Vr.heap.size Vr => z.cell c6 hyl
            have p7 := fun z : BW Vr.heap.size Vr => z.cell c7 hyl
            have p8 := fun z : BW Vr.heap.size Vr => z.cell c8 hyl
            have p9 := fun z : BW Vr.heap.size Vr => z.cell c9 hyl
            have p10 := fun z : BW Vr.heap.size Vr => z.cell c10 hyl
            have HBW := Go.Lib.hid hbw; have HGY := Go.Lib.hid hgy
            clear hmr hbw hy
            rcases Nat.eq_zero_or_pos j with h0 | h0
            · have hn0 : decide (0 < j) = false := decide_eq_false (by omega)
              have H0 := Go.Lib.hid h0
              have hlq : ∀ q, (Instr.lookup 50 (.map (some mb)) (.agg #[.int .i64 y.stamp.count, .int .i64 y.stamp.who, .int .i64 y.seq, .int .i64 y.kind, .int .i64 y.node.count, .int .i64 y.node.who, .bool y.dir, .int .i64 y.parent.count, .int .i64 y.parent.who, .string (BS y.name), .string (BS y.manifest)]) false).run Tryd.prog (Vr.drewN q) = .ok (.bool true) (Vr.drewN q) := fun q => hlk ⟨Vr.drewN q, below_drewN (Below.refl _ _) q⟩
              clear hgy h0 p0 p1 p2 p3 p4 p5 p6 p7 p8 p9 p10 hlk hne
              go_wp2_with fail
              go_quiet (fail)
              go_wp2_with fail
              exact ⟨⟨j + 1, by omega, by simp, below_drewN HBW.out _⟩, by simp [intOf]; omega⟩
            · have hj1 : j - 1 < t := by omega
              have h0' : (0 : Int) < (j : Int) := by omega
              obtain ⟨by2, oy2, x, he2, hgx, hx⟩ := (HO5.out.below HBW.out).at (j - 1) hj1
              cases he2
              obtain ⟨d0, d1, -⟩ := op_cells hx
              have r0 := fun z : BW Vr.heap.size Vr => z.cell d0 hyl
              have r1 := fun z : BW Vr.heap.size Vr => z.cell d1 hyl
              have hls : x.stamp.less y.stamp = true := by
                obtain ⟨h1, rfl⟩ := List.getElem?_eq_some_iff.1 hgx
                obtain ⟨h2, rfl⟩ := List.getElem?_eq_some_iff.1 hgy
                exact List.pairwise_iff_getElem.1 HRI.out (j - 1) j h1 h2 (by omega)
              have hl2 := fun w => pless_any x.stamp y.stamp w
              simp only [stCells] at hl2
              rw [hls] at hl2
              have HL2 := Go.Lib.hid hl2
              have hws : IntKind.i64.wrap ((j : Int) - 1) = ((j - 1 : Nat) : Int) := by rw [IntKind.wrap_i64]; omega
              have hj2 : ((j - 1 : Nat) : Int) < (t : Int) := by omega
              clear hl2 hls hx hgx hgy
              obtain ⟨j1, hj1e⟩ : ∃ p, j - 1 = p := ⟨_, rfl⟩
              rw [hj1e] at hws hj2 d0 d1 r0 r1 hj1
              go_wp2_with fail
              refine wp_region_calm Vr.heap.size Vr (Below.refl _ _) (by kernel_rfl) (by kernel_rfl) ?_
              repeat (go_big_quiet_step ((go_at_call 20; with_reducible exact bw_of (Nat.le_refl _) (HL2.out _))))
              refine wpQuiet_nil ?_
              intro _ hw'
              obtain ⟨z, rfl⟩ := hw'
              go_wp2_with fail
              exact ⟨⟨j + 1, by omega, by simp, bstep HBW.out z.2⟩, by simp [intOf]; omega⟩
          · obtain rfl : j = t := by omega
            have HB6 := Go.Lib.hid (bstep HM5.out.mine.bel hbw); clear hbw
            go_wp2_with fail
            refine (awake8_any _ (HTM.out.on HB6.out)).mono ?_; rintro e w7 ⟨rfl, hb⟩
            have HB7 := Go.Lib.hid (bstep HB6.out hb); clear hb
            go_wp2_with fail
            go_ret
            exact ⟨rfl, HB7.out⟩
theorem moveOps_walk (A : Option Addr) (n c : Nat) (l : List Opn) (w : World) (hs : Sl w 11 A n c (l.map opCells)) (_ : c * 104 ≤ 140737488351232) (hl : ∀ y ∈ l, opWf y) (_ : l.length = n) (hTM : Met w) :
    Calls Tryd.prog 8 #[.slice A n c] w fun e w' => e = .returned (.bool true) ∧ Below w.heap.size w w' :=
  moveOps_go _ l w (Opns.of_sl hs) hl hTM
end Go.Proofs.YtjeijolblcodpaaDoor.W
