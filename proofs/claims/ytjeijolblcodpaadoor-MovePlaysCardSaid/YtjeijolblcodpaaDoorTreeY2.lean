/- The reference of trees: Do, a Move. -/
import Derived.Test.YtjeijolblcodpaaDoorMg8
namespace Go.Proofs.YtjeijolblcodpaaDoor.W
set_option maxRecDepth 20000
set_option linter.unusedVariables false
open Go.RowKit Go.Proofs Arb

set_option maxRecDepth 20000 in
set_option maxHeartbeats 16000000 in
theorem rturn7_move (v : Value) (l : List Nod) (x : Opn) (n : Nod) (w : World) (h : Nods w v l) (hl : l.length ≤ 10000) (hfd : findOf l x.node = some n) (hk1 : x.kind ≠ 1) (hk2 : x.kind = 2) :
    Calls Tryd.prog 47 #[v, opVal x] w fun e w' => ∃ v', e = .returned v' ∧ Nods w' v' (doOf l x) ∧ Below w.heap.size w w' := by
  have hB : Below w.heap.size w (w.alloc (.cells (opArr x) 35)) := (Below.refl _ _).alloc (Nat.le_refl _) _
  have hop := OpAt.new w x 35
  have hv := h.below hB
  obtain ⟨hgi, hil⟩ := at_get hfd
  have hat := fun w h => rat7_any v l x.node w h (by omega)
  have hati : atI l x.node = (atOf l x.node : Int) := by unfold atI; rw [hfd]
  have hdo := do_turn hfd hk1
  have hself := set_found hfd
  rw [hati] at hat
  obtain ⟨i, hi⟩ : ∃ i, atOf l x.node = i := ⟨_, rfl⟩
  rw [hi] at hgi hil hat hdo hself
  rw [hdo]
  have hbk1 : (x.kind == 1) = false := by simp [hk1]
  have hmay := fun w h => rmay7_any v l x.parent w h (by omega)
  have hchain := fun w h => rchain7_any v l x.parent w h (by omega)
  have hchl := chainOf_length l x.parent
  have hhas := fun w u h => rhas7_any u (chainOf l x.parent) x.node w h (by omega)
  obtain ⟨ch, hch⟩ : ∃ c, chainOf l x.parent = c := ⟨_, rfl⟩
  obtain ⟨mb, hmb⟩ : ∃ b, mayOf l x.parent = b := ⟨_, rfl⟩
  obtain ⟨ib, hib⟩ : ∃ b, decide (x.node ∈ ch) = b := ⟨_, rfl⟩
  obtain ⟨m, hm⟩ : ∃ m, turnOf l x n = m := ⟨_, rfl⟩
  rw [hm]
  unfold turnOf at hm
  rw [hch] at hm hhas hchain
  rw [hib] at hhas
  rw [hmb] at hm hmay
  obtain ⟨A, c, rfl, hc⟩ := h.len
  obtain ⟨N, hN⟩ : ∃ N, l.length = N := ⟨_, rfl⟩
  have hsp := set_split (l := l) (i := i) (by omega) m
  rw [hN] at h hc hv hl hil hat hmay hchain
  rw [hN]
  obtain ⟨b, off, y, rfl, -, -⟩ := h.at i hil
  unfold opVal
  have HVS := Go.Lib.hid (fun (w' : World) (hb : Below w.heap.size w w') => h.below hb)
  obtain ⟨W, hW⟩ : ∃ W, w.alloc (.cells (opArr x) 35) = W := ⟨_, rfl⟩
  rw [hW] at hB hop hv
  unfold opArr opCells at hW ⊢
  have hii : ¬ ((i : Int) < 0) := by omega
  have hiN : (i : Int) < (N : Int) := by omega
  have HAT := Go.Lib.hid hat; have HMAY := Go.Lib.hid hmay; have HCHAIN := Go.Lib.hid hchain; have HHAS := Go.Lib.hid hhas; have HB := Go.Lib.hid hB; have HOP := Go.Lib.hid hop; have HV := Go.Lib.hid hv; have HW := Go.Lib.hid hW; have HM := Go.Lib.hid hm; have HSP := Go.Lib.hid hsp; have HSELF := Go.Lib.hid hself; have HGI := Go.Lib.hid hgi; have HN := Go.Lib.hid hN
  clear hat hmay hchain hhas hB hop hv hW hm hsp hself hgi h hN hfd hati hdo hi hmb hch hchl
  have key : ∀ (w1 : World), Below W.heap.size W w1 → ∃ W2 g, w1.alloc (.cells #[.int .i64 n.id.count, .int .i64 n.id.who, .bool n.dir, .int .i64 n.parent.count, .int .i64 n.parent.who, .string (BS n.name), .string (BS n.manifest)] 49) = W2 ∧ w1.heap.size = g ∧ NdB W2 g n ∧ OpAt W2 w.heap.size 0 x ∧ Nods W2 (.slice (some ⟨b, off, none⟩) N c) l ∧ Below w.heap.size w W2 ∧ w.heap.size < g := fun w1 hb1 => by
    have hx1 := HOP.out.below hb1
    refine ⟨_, _, rfl, rfl, NdB.new w1 n, hx1.below ((Below.refl _ _).alloc (Nat.le_refl _) _), (HV.out.below hb1).below ((Below.refl _ _).alloc (Nat.le_refl _) _), (bstep HB.out hb1).alloc (bstep HB.out hb1).size _, hx1.lt⟩
  have KEY := Go.Lib.hid key; clear key
  have hb2 : (x.kind == 2) = true := by simp [hk2]
  have hm2 := HM.out
  rw [if_pos hk2] at hm2
  have HM2 := Go.Lib.hid hm2; have HIB := Go.Lib.hid hib
  clear hk2 HM hm2 hib
  go_enter Tryd.func47, Tryd.ntmps47
  go_wp2_with fail
  rw [HW.out]
  obtain ⟨c0, c1, c2, c3, c4, c5, c6, c7, c8, c9, c10⟩ := op_cells0 HOP.out
  go_wp2_with fail
  refine (HAT.out _ HV.out).mono ?_; rintro e w1 ⟨rfl, hb1⟩
  clear c0 c1 c2 c3 c4 c5 c6 c7 c8 c9 c10
  obtain ⟨c0, c1, c2, c3, c4, c5, c6, c7, c8, c9, c10⟩ := op_cells0 (HOP.out.below hb1)
  obtain ⟨bb, oo, nn, he, hg1, hx1⟩ := (HV.out.below hb1).at i hil
  cases he
  rw [HGI.out] at hg1
  cases hg1
  obtain ⟨n0, n1, n2, n3, n4, n5, n6⟩ := nd_cells hx1
  obtain ⟨W2, g, hW2, hgg, hnd2, hop2, hv2, hbl2, hxg⟩ := KEY.out w1 hb1
  obtain ⟨d0, d1, d2, d3, d4, d5, d6, d7, d8, d9, d10⟩ := op_cells0 hop2
  obtain ⟨e1, e3, e4, e5, e6, f3, f4, f5, f6⟩ := hnd2.cells
  have HND2 := Go.Lib.hid hnd2; have HOP2 := Go.Lib.hid hop2; have HV2 := Go.Lib.hid hv2; have HBL2 := Go.Lib.hid hbl2
  clear hnd2 hop2 hv2 hbl2 hb1 hx1
  go_wp2_with fail
  clear c0 c1 c2 c3 c4 c5 c6 c7 c8 c9 c10 n0 n1 n2 n3 n4 n5 n6 hgg hW2 e1 e3 e4 e5 e6 f3 f4 f5 f6 d0 d1 d2 d3 d4 d5 d6 d7 d8 d9 d10
  have hv2d := HV2.out.below (Below.refl W2.heap.size W2).drew
  have hop2d : OpAt W2.drew w.heap.size 0 x := HOP2.out.below (Below.refl W2.heap.size W2).drew
  have hnd2d : NdB W2.drew g n := HND2.out.below (Below.refl W2.heap.size W2).drew
  have hbl2d : Below w.heap.size w W2.drew := HBL2.out.drew
  obtain ⟨c0, c1, c2, c3, c4, c5, c6, c7, c8, c9, c10⟩ := op_cells0 HOP2.out
  have HV2D := Go.Lib.hid hv2d; have HOP2D := Go.Lib.hid hop2d; have HND2D := Go.Lib.hid hnd2d; have HBL2D := Go.Lib.hid hbl2d
  clear hv2d hop2d hnd2d hbl2d
  cases mb
  · have hm3 := HM2.out
    rw [if_pos (.inl (by trivial))] at hm3
    subst hm3
    have hne := BW.ne W2.heap.size W2
    have hlx := HOP2.out.lt
    have q7 := fun z : BW W2.heap.size W2 => z.cell c7 hlx
    have q8 := fun z : BW W2.heap.size W2 => z.cell c8 hlx
    have hmz : ∀ z : BW W2.heap.size W2, Calls Tryd.prog 68 #[.slice (some ⟨b, off, none⟩) N c, .agg #[.int .i64 x.parent.count, .int .i64 x.parent.who]] z.w fun e w' => e = .returned (.bool false) ∧ Below z.w.heap.size z.w w' := fun z => HMAY.out _ (HV2.out.below z.2)
    have HMZ := Go.Lib.hid hmz; clear hmz
    refine wp_region_calm W2.heap.size W2 (Below.refl _ _) (by kernel_rfl) (by kernel_rfl) ?_
    repeat (go_big_quiet_step ((go_at_call 68; with_reducible exact bw_of (Nat.le_refl _) (HMZ.out _))))
    refine wpQuiet_nil ?_
    intro _ hw'
    obtain ⟨z, rfl⟩ := hw'
    have HV4 := Go.Lib.hid (HV2.out.below z.2); have HB4 := Go.Lib.hid (bstep HBL2.out z.2)
    go_wp2_with fail
    go_ret
    exact ⟨_, rfl, by rw [HSELF.out]; exact HV4.out, HB4.out⟩
  · first | (go_region_with (first
      | (go_at_call 68; with_reducible refine (HMAY.out _ HV2D.out).mono ?_; rintro e w4 ⟨rfl, hb4⟩; have HV4 := Go.Lib.hid (HV2D.out.below hb4); have HOP4 := Go.Lib.hid (HOP2D.out.below hb4); have HND4 := Go.Lib.hid (HND2D.out.below hb4); have HB4 := Go.Lib.hid (bstep HBL2D.out hb4); clear c0 c1 c2 c3 c4 c5 c6 c7 c8 c9 c10; obtain ⟨-, -, -, -, d4, d5, -, d7, d8, -, -⟩ := op_cells0 HOP4.out; clear hb4)
      | (go_at_call 71; with_reducible refine (HCHAIN.out _ HV4.out).mono ?_; rintro e w5 ⟨u5, rfl, hs5, hb5⟩; have HS5 := Go.Lib.hid hs5; have HV5 := Go.Lib.hid (HV4.out.below hb5); have HOP5 := Go.Lib.hid (HOP4.out.below hb5); have HND5 := Go.Lib.hid (HND4.out.below hb5); have HB5 := Go.Lib.hid (bstep HB4.out hb5); clear d4 d5 d7 d8; obtain ⟨-, -, -, -, e4, e5, -, -, -, -, -⟩ := op_cells0 HOP5.out; clear hb5 hs5)
      | (go_at_call 70; with_reducible refine (HHAS.out _ _ HS5.out).mono ?_; rintro e w6 ⟨rfl, hb6⟩; have HV6 := Go.Lib.hid (HV5.out.below hb6); have HOP6 := Go.Lib.hid (HOP5.out.below hb6); have HND6 := Go.Lib.hid (HND5.out.below hb6); have HB6 := Go.Lib.hid (bstep HB5.out hb6); clear e4 e5; clear hb6))) | fail
    all_goals (
      cases ib
      · have hm3 := HM2.out
        rw [if_neg (by have := of_decide_eq_false HIB.out; simp [this])] at hm3
        have hndt : NdB (((w6.setCell ⟨g, 3, none⟩ (.int .i64 x.parent.count)).setCell ⟨g, 4, none⟩ (.int .i64 x.parent.who)).setCell ⟨g, 5, none⟩ (.string (BS x.name))) g m := by rw [← hm3]; exact (HND6.out.putParent x.parent).putName x.name
        have hbt := ((HB6.out.setCell (p := ⟨g, 3, none⟩) (Nat.le_of_lt hxg) (.int .i64 x.parent.count)).setCell (p := ⟨g, 4, none⟩) (Nat.le_of_lt hxg) (.int .i64 x.parent.who)).setCell (p := ⟨g, 5, none⟩) (Nat.le_of_lt hxg) (.string (BS x.name))
        have hgx : ¬ g = w.heap.size := by omega
        have hgx2 : ¬ w.heap.size = g := by omega
        obtain ⟨c0, c1, c2, c3, c4, c5, c6, c7, c8, c9, c10⟩ := op_cells0 HOP6.out
        obtain ⟨e1, e3, e4, e5, e6, f3, f4, f5, f6⟩ := HND6.out.cells
        have HNDt := Go.Lib.hid hndt; have HBt := Go.Lib.hid hbt; have HVt := Go.Lib.hid (HVS.out _ hbt); have HGt := Go.Lib.hid (Nat.succ_le_of_lt hndt.lt)
        clear hndt hbt hm3
        by_cases hci : c = i + 1
        · subst hci
          go_wp2_with (first
            | (at_builtin; refine wpList_append_nds rfl (.tmp 114) (.tmp 117) rfl (g + 1) (.slice none 0 0) 0 [] rfl (Row.nil _ _ _ _) _ i (l.take i) rfl (HVt.out.rdTake i (by omega)) (by omega) (by omega) HGt.out ?_; intro v6 V6 hr6 hb6; have HND6 := Go.Lib.hid (HNDt.out.under (Nat.lt_succ_self g) hb6); obtain ⟨m0, m1, m2, m3, m4, m5, m6⟩ := nd_cells0 HND6.out.at; have HR6 := Go.Lib.hid hr6; have HB6 := Go.Lib.hid hb6; have HZ6 := Go.Lib.hid (Nat.le_trans HGt.out hb6.size); clear hr6 hb6)
            | (at_builtin; refine wpList_append_nd rfl (.tmp 119) (.tmp 121) rfl (g + 1) v6 (0 + i) ([] ++ l.take i) rfl HR6.out m _ rfl rfl (by omega) HZ6.out ?_; intro v7 V7 hr7 hb7; have HR7 := Go.Lib.hid hr7; have HB7 := Go.Lib.hid (HB6.out.trans hb7); have HZ7 := Go.Lib.hid (Nat.le_trans HZ6.out hb7.size); have HV7 := Go.Lib.hid (HVS.out _ (HBt.out.trans ((HB6.out.trans hb7).mono (by omega)))); clear hr7 hb7)
            | (at_builtin; refine wpList_append_nds rfl (.tmp 123) (.tmp 127) rfl (g + 1) v7 (0 + i + 1) ([] ++ l.take i ++ [m]) rfl HR7.out _ _ (l.drop (i + 1)) rfl (HV7.out.rdDrop (i + 1) (by omega) _ (by intro h9; omega) _ (by omega) _) (by omega) (by omega) HZ7.out ?_; intro v8 V8 hr8 hb8; have HR8 := Go.Lib.hid hr8; have HB8 := Go.Lib.hid (HB7.out.trans hb8); clear hr8 hb8))
          all_goals (
            go_ret
            have hres := Nods.of_row HR8.out
            rw [List.nil_append, ← HSP.out] at hres
            exact ⟨_, rfl, hres, HBt.out.trans (HB8.out.mono (by omega))⟩)
        · go_wp2_with (first
            | (at_builtin; refine wpList_append_nds rfl (.tmp 114) (.tmp 117) rfl (g + 1) (.slice none 0 0) 0 [] rfl (Row.nil _ _ _ _) _ i (l.take i) rfl (HVt.out.rdTake i (by omega)) (by omega) (by omega) HGt.out ?_; intro v6 V6 hr6 hb6; have HND6 := Go.Lib.hid (HNDt.out.under (Nat.lt_succ_self g) hb6); obtain ⟨m0, m1, m2, m3, m4, m5, m6⟩ := nd_cells0 HND6.out.at; have HR6 := Go.Lib.hid hr6; have HB6 := Go.Lib.hid hb6; have HZ6 := Go.Lib.hid (Nat.le_trans HGt.out hb6.size); clear hr6 hb6)
            | (at_builtin; refine wpList_append_nd rfl (.tmp 119) (.tmp 121) rfl (g + 1) v6 (0 + i) ([] ++ l.take i) rfl HR6.out m _ rfl rfl (by omega) HZ6.out ?_; intro v7 V7 hr7 hb7; have HR7 := Go.Lib.hid hr7; have HB7 := Go.Lib.hid (HB6.out.trans hb7); have HZ7 := Go.Lib.hid (Nat.le_trans HZ6.out hb7.size); have HV7 := Go.Lib.hid (HVS.out _ (HBt.out.trans ((HB6.out.trans hb7).mono (by omega)))); clear hr7 hb7)
            | (at_builtin; refine wpList_append_nds rfl (.tmp 123) (.tmp 127) rfl (g + 1) v7 (0 + i + 1) ([] ++ l.take i ++ [m]) rfl HR7.out _ _ (l.drop (i + 1)) rfl (HV7.out.rdDrop (i + 1) (by omega) _ (by intro h9; omega) _ (by omega) _) (by omega) (by omega) HZ7.out ?_; intro v8 V8 hr8 hb8; have HR8 := Go.Lib.hid hr8; have HB8 := Go.Lib.hid (HB7.out.trans hb8); clear hr8 hb8))
          all_goals (
            go_ret
            have hres := Nods.of_row HR8.out
            rw [List.nil_append, ← HSP.out] at hres
            exact ⟨_, rfl, hres, HBt.out.trans (HB8.out.mono (by omega))⟩)
      · have hm3 := HM2.out
        rw [if_pos (.inr (of_decide_eq_true HIB.out))] at hm3
        subst hm3
        go_wp2_with fail
        go_ret
        exact ⟨_, rfl, by rw [HSELF.out]; exact HV6.out, HB6.out⟩)
end Go.Proofs.YtjeijolblcodpaaDoor.W
