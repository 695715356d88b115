/- The reference of trees: Do, a Make; Do whole; Fold. -/
import Derived.Test.YtjeijolblcodpaaDoorTreeY2
namespace Go.Proofs.YtjeijolblcodpaaDoor.W
set_option maxRecDepth 20000
set_option linter.unusedVariables false
open Go.RowKit Go.Proofs Arb

theorem rdz (w : World) (A : Option Addr) (c : Nat) (h : A = none → c = 0) : Rd w 7 (.slice A 0 c) 0 (ndsCells []) := by
  cases A with
  | none => rw [h rfl]; exact Rd.nil w 7
  | some a => exact ⟨rfl, .inr ⟨a, c, rfl, fun j u hu => by cases hu⟩⟩

set_option maxRecDepth 20000 in
set_option maxHeartbeats 2000000 in
theorem rsame7_any (v : Value) (l : List Nod) (x : Opn) (w : World) (h : Nods w v l) (hl : l.length ≤ 10000) (hdo : doOf l x = l) (hcase : (atI l x.node = -1 ∧ x.kind ≠ 1) ∨ ∃ i : Nat, atI l x.node = (i : Int) ∧ x.kind = 1) :
    Calls Tryd.prog 47 #[v, opVal x] w fun e w' => ∃ v', e = .returned v' ∧ Nods w' v' (doOf l x) ∧ Below w.heap.size w w' := by
  rw [hdo]
  have hB : Below w.heap.size w (w.alloc (.cells (opArr x) 35)) := (Below.refl _ _).alloc (Nat.le_refl _) _
  have hop := OpAt.new w x 35
  have hv := h.below hB
  have hat := fun w h => rat7_any v l x.node w h (by omega)
  unfold opVal
  obtain ⟨W, hW⟩ : ∃ W, w.alloc (.cells (opArr x) 35) = W := ⟨_, rfl⟩
  rw [hW] at hB hop hv
  unfold opArr opCells at hW ⊢
  have HB := Go.Lib.hid hB; have HOP := Go.Lib.hid hop; have HV := Go.Lib.hid hv; have HW := Go.Lib.hid hW
  clear hB hop hv hW hdo
  rcases hcase with ⟨hi, hk⟩ | ⟨i, hi, hk⟩
  · have hbk : (x.kind == 1) = false := by simp [hk]
    rw [hi] at hat
    have HAT := Go.Lib.hid hat; clear hat hi hk
    go_enter Tryd.func47, Tryd.ntmps47
    go_wp2_with fail
    rw [HW.out]
    obtain ⟨c0, c1, c2, c3, c4, c5, c6, c7, c8, c9, c10⟩ := op_cells0 HOP.out
    go_wp2_with (go_at_call 67; with_reducible refine (HAT.out _ HV.out).mono ?_; rintro e w1 ⟨rfl, hb1⟩; have HV1 := Go.Lib.hid (HV.out.below hb1); have HB1 := Go.Lib.hid (bstep HB.out hb1); have hop1 := HOP.out.below hb1; clear c0 c1 c2 c3 c4 c5 c6 c7 c8 c9 c10; obtain ⟨c0, c1, c2, c3, c4, c5, c6, c7, c8, c9, c10⟩ := op_cells0 hop1; clear hb1 hop1)
    go_ret
    exact ⟨_, rfl, HV1.out, HB1.out⟩
  · have hbk : (x.kind == 1) = true := by simp [hk]
    rw [hi] at hat
    have HAT := Go.Lib.hid hat; clear hat hi hk
    go_enter Tryd.func47, Tryd.ntmps47
    go_wp2_with fail
    rw [HW.out]
    obtain ⟨c0, c1, c2, c3, c4, c5, c6, c7, c8, c9, c10⟩ := op_cells0 HOP.out
    go_wp2_with (go_at_call 67; with_reducible refine (HAT.out _ HV.out).mono ?_; rintro e w1 ⟨rfl, hb1⟩; have HV1 := Go.Lib.hid (HV.out.below hb1); have HB1 := Go.Lib.hid (bstep HB.out hb1); have hop1 := HOP.out.below hb1; clear c0 c1 c2 c3 c4 c5 c6 c7 c8 c9 c10; obtain ⟨c0, c1, c2, c3, c4, c5, c6, c7, c8, c9, c10⟩ := op_cells0 hop1; clear hb1 hop1)
    go_ret
    exact ⟨_, rfl, HV1.out, HB1.out⟩

set_option maxRecDepth 20000 in
set_option maxHeartbeats 16000000 in
theorem rmake7_any (v : Value) (l : List Nod) (x : Opn) (w : World) (h : Nods w v l) (hl : l.length ≤ 10000) (hfd : findOf l x.node = none) (hk1 : x.kind = 1) :
    Calls Tryd.prog 47 #[v, opVal x] w fun e w' => ∃ v', e = .returned v' ∧ Nods w' v' (doOf l x) ∧ Below w.heap.size w w' := by
  have hB : Below w.heap.size w (w.alloc (.cells (opArr x) 35)) := (Below.refl _ _).alloc (Nat.le_refl _) _
  have hop := OpAt.new w x 35
  have hv := h.below hB
  have hat := fun w h => rat7_any v l x.node w h (by omega)
  have hati : atI l x.node = -1 := by unfold atI; rw [hfd]
  have hdo := do_made hfd hk1
  rw [hati] at hat
  rw [hdo]
  have hbk1 : (x.kind == 1) = true := by simp [hk1]
  have hmay := fun w h => rmay7_any v l x.parent w h (by omega)
  obtain ⟨mb, hmb⟩ : ∃ b, mayOf l x.parent = b := ⟨_, rfl⟩
  obtain ⟨n, hnd⟩ : ∃ n : Nod, (⟨x.node, x.dir, x.parent, x.name, x.manifest⟩ : Nod) = n := ⟨_, rfl⟩
  have hm : madeOf l x = { n with parent := if mb = true then x.parent else St.trash } := by rw [← hnd]; unfold madeOf; rw [hmb]
  obtain ⟨m, hmm⟩ : ∃ m, madeOf l x = m := ⟨_, rfl⟩
  have hmid : m.id = x.node := by rw [← hmm]; rfl
  rw [hmm] at hm
  rw [hmm]
  rw [hmb] at hmay
  have hins := fun k hk h1 h2 => insNod_at l m k hk h1 h2
  rw [hmid] at hins
  obtain ⟨A, c, rfl, hc⟩ := h.len
  obtain ⟨N, hN⟩ : ∃ N, l.length = N := ⟨_, rfl⟩
  have h9 := h
  obtain ⟨A', N', c', he, -, -, hA0, -⟩ := h9
  cases he
  rw [hN] at h hc hv hl hat hmay hins
  rw [hN]
  unfold opVal
  have HVS := Go.Lib.hid (fun (w' : World) (hb : Below w.heap.size w w') => h.below hb)
  obtain ⟨W, hW⟩ : ∃ W, w.alloc (.cells (opArr x) 35) = W := ⟨_, rfl⟩
  rw [hW] at hB hop hv
  unfold opArr opCells at hW ⊢
  have HAT := Go.Lib.hid hat; have HMAY := Go.Lib.hid hmay; have HB := Go.Lib.hid hB; have HOP := Go.Lib.hid hop; have HV := Go.Lib.hid hv; have HW := Go.Lib.hid hW; have HM := Go.Lib.hid hm; have HINS := Go.Lib.hid hins; have HN := Go.Lib.hid hN
  clear hat hmay hB hop hv hW hm hins h hN hfd hati hdo hmb hk1 hmid hmm
  have key : ∀ (w1 : World), Below W.heap.size W w1 → ∃ W2 g, w1.alloc (.cells #[.int .i64 x.node.count, .int .i64 x.node.who, .bool x.dir, .int .i64 x.parent.count, .int .i64 x.parent.who, .string (BS x.name), .string (BS x.manifest)] 49) = W2 ∧ w1.heap.size = g ∧ NdB W2 g n ∧ OpAt W2 w.heap.size 0 x ∧ Nods W2 (.slice A N c) l ∧ Below w.heap.size w W2 ∧ w.heap.size < g := fun w1 hb1 => by
    have hx1 := HOP.out.below hb1
    refine ⟨_, _, rfl, rfl, by rw [← hnd]; exact NdB.new w1 ⟨x.node, x.dir, x.parent, x.name, x.manifest⟩, hx1.below ((Below.refl _ _).alloc (Nat.le_refl _) _), (HV.out.below hb1).below ((Below.refl _ _).alloc (Nat.le_refl _) _), (bstep HB.out hb1).alloc (bstep HB.out hb1).size _, hx1.lt⟩
  have KEY := Go.Lib.hid key; clear key
  have HNP := Go.Lib.hid (show n.parent = x.parent by rw [← hnd])
  clear hnd
  go_enter Tryd.func47, Tryd.ntmps47
  go_wp2_with fail
  rw [HW.out]
  obtain ⟨c0, c1, c2, c3, c4, c5, c6, c7, c8, c9, c10⟩ := op_cells0 HOP.out
  go_wp2_with fail
  refine (HAT.out _ HV.out).mono ?_; rintro e w1 ⟨rfl, hb1⟩
  clear c0 c1 c2 c3 c4 c5 c6 c7 c8 c9 c10
  obtain ⟨c0, c1, c2, c3, c4, c5, c6, c7, c8, c9, c10⟩ := op_cells0 (HOP.out.below hb1)
  obtain ⟨W2, g, hW2, hgg, hnd2, hop2, hv2, hbl2, hxg⟩ := KEY.out w1 hb1
  obtain ⟨d0, d1, d2, d3, d4, d5, d6, d7, d8, d9, d10⟩ := op_cells0 hop2
  have HND2 := Go.Lib.hid hnd2; have HOP2 := Go.Lib.hid hop2; have HV2 := Go.Lib.hid hv2; have HBL2 := Go.Lib.hid hbl2
  clear hnd2 hop2 hv2 hbl2 hb1
  go_wp2_with fail
  refine (HMAY.out _ HV2.out).mono ?_; rintro e w4 ⟨rfl, hb4⟩
  have HND4 := Go.Lib.hid (HND2.out.below hb4); have HOP4 := Go.Lib.hid (HOP2.out.below hb4); have HB4 := Go.Lib.hid (bstep HBL2.out hb4)
  clear hb4 c0 c1 c2 c3 c4 c5 c6 c7 c8 c9 c10 d0 d1 d2 d3 d4 d5 d6 d7 d8 d9 d10 hW2 hgg
  cases mb
  · have hm2 : { n with parent := St.trash } = m := HM.out.symm
    go_wp2_with fail
    refine (rtrash_any _).mono ?_; rintro e w5 ⟨rfl, hb5⟩
    have HND5 := Go.Lib.hid (HND4.out.below hb5); have HB5 := Go.Lib.hid (bstep HB4.out hb5); have HOP5 := Go.Lib.hid (HOP4.out.below hb5)
    clear hb5
    obtain ⟨e1, e3, e4, e5, e6, f3, f4, f5, f6⟩ := HND5.out.cells
    obtain ⟨V4, hV4⟩ : ∃ V, (w5.setCell ⟨g, 3, none⟩ (.int .i64 0)).setCell ⟨g, 4, none⟩ (.int .i64 1) = V := ⟨_, rfl⟩
    have hndf : NdB V4 g m := by rw [← hV4, ← hm2]; exact HND5.out.putTrash
    have hbf : Below w.heap.size w V4 := by rw [← hV4]; exact (HB5.out.setCell (p := ⟨g, 3, none⟩) (Nat.le_of_lt hxg) (.int .i64 0)).setCell (p := ⟨g, 4, none⟩) (Nat.le_of_lt hxg) (.int .i64 1)
    have hopf : OpAt V4 w.heap.size 0 x := by
      have hub : Below g w5 V4 := by rw [← hV4]; exact ((Below.refl g w5).setCell (p := ⟨g, 3, none⟩) (Nat.le_refl _) (.int .i64 0)).setCell (p := ⟨g, 4, none⟩) (Nat.le_refl _) (.int .i64 1)
      exact HOP5.out.under hub hxg
    have HNDF := Go.Lib.hid hndf; have HBF := Go.Lib.hid hbf; have HOPF := Go.Lib.hid hopf; have HVF := Go.Lib.hid (HVS.out _ hbf)
    clear hndf hbf hopf hm2
    go_wp2_with fail
    clear hV4 e1 e3 e4 e5 e6 f3 f4 f5 f6
    go_loopw [7, 39, 40, 41, 42, 43, 44, 45, 46, 47, 48, 49, 50, 51, 52, 53, 54, 55] (fun i _ _ _ _ _ _ _ _ _ _ _ _ _ _ _ _ _ wr => ∃ k : Nat, k ≤ N ∧ i = .int .i64 (k : Int) ∧ (∀ (j : Nat) (y : Nod), j < k → l[j]? = some y → x.node.less y.id = false) ∧ Below V4.heap.size V4 wr) (fun i _ _ _ _ _ _ _ _ _ _ _ _ _ _ _ _ _ _ => N - (intOf i).toNat)
    case atStart => exact ⟨0, by omega, rfl, fun _ _ h => by omega, Below.refl _ _⟩
    case round =>
      obtain ⟨k, hk, rfl, hall, hbw⟩ := hrel
      have HALL := Go.Lib.hid hall; have HBW := Go.Lib.hid hbw; clear hall hbw
      by_cases hkn : k < N
      · have hkn' : (k : Int) < (N : Int) := by omega
        obtain ⟨b, off, y, rfl, hg1, hy⟩ := (HVF.out.below HBW.out).at k hkn
        obtain ⟨c0, c1, -⟩ := nd_cells hy
        have hxw := HOPF.out.below HBW.out
        obtain ⟨-, -, -, -, d4, d5, -⟩ := op_cells0 hxw
        have hlc := hy.lt
        have hld := hxw.lt
        have hl2 := fun w => rless_any x.node y.id w
        simp only [stCells] at hl2
        obtain ⟨z2, hz2⟩ : ∃ m, x.node.less y.id = m := ⟨_, rfl⟩
        rw [hz2] at hl2
        have HL2 := Go.Lib.hid hl2; have HG1 := Go.Lib.hid hg1; have HZ2 := Go.Lib.hid hz2
        clear hl2 hg1 hz2 hy hxw
        obtain ⟨Vr, hVr⟩ : ∃ V, V = wr := ⟨_, rfl⟩
        subst hVr
        have hne := BW.ne Vr.heap.size Vr
        have q0 := fun z : BW Vr.heap.size Vr => z.cell c0 hlc
        have q1 := fun z : BW Vr.heap.size Vr => z.cell c1 hlc
        have q2 := fun z : BW Vr.heap.size Vr => z.cell d4 hld
        have q3 := fun z : BW Vr.heap.size Vr => z.cell d5 hld
        cases z2
        · go_wp2_with fail
          refine wp_region_calm Vr.heap.size Vr (Below.refl _ _) (by kernel_rfl) (by kernel_rfl) ?_
          repeat (go_big_quiet_step ((go_at_call 30; with_reducible exact bw_of (Nat.le_refl _) (HL2.out _))))
          refine wpQuiet_nil ?_
          intro _ hw'
          obtain ⟨z, rfl⟩ := hw'
          go_wp2_with fail
          refine ⟨⟨k + 1, by omega, by simp, fun j u hj hu => ?_, bstep HBW.out z.2⟩, by simp [intOf]; omega⟩
          rcases Nat.lt_or_ge j k with h | h
          · exact HALL.out j u h hu
          · obtain rfl : j = k := by omega
            rw [HG1.out] at hu
            injection hu with hu
            rw [← hu]; exact HZ2.out
        · have hi := HINS.out k hk HALL.out (fun u hu => by rw [HG1.out] at hu; injection hu with hu; rw [← hu]; exact HZ2.out)
          have HI := Go.Lib.hid hi; clear hi
          have hck : ¬ c = k := by omega
          go_wp2_with fail
          refine wp_region_calm Vr.heap.size Vr (Below.refl _ _) (by kernel_rfl) (by kernel_rfl) ?_
          repeat (go_big_quiet_step ((go_at_call 30; with_reducible exact bw_of (Nat.le_refl _) (HL2.out _))))
          refine wpQuiet_nil ?_
          intro _ hw'
          obtain ⟨z, rfl⟩ := hw'
          obtain ⟨V5, hV5⟩ : ∃ V, z.w = V := ⟨_, rfl⟩
          have hb5 : Below V4.heap.size V4 V5 := by rw [← hV5]; exact bstep HBW.out z.2
          rw [hV5]
          clear hV5 hne q0 q1 q2 q3 c0 c1 d4 d5 hlc hld
          have HNDt := Go.Lib.hid (HNDF.out.below hb5); have HBt := Go.Lib.hid (bstep HBF.out hb5); have HVt := Go.Lib.hid (HVF.out.below hb5); have HGt := Go.Lib.hid (Nat.succ_le_of_lt (HNDF.out.below hb5).lt)
          clear hb5
          have hkc : k ≤ c := by omega
          go_wp2_with (first
            | (at_builtin; refine wpList_append_nds rfl (.tmp 56) (.tmp 59) rfl (g + 1) (.slice none 0 0) 0 [] rfl (Row.nil _ _ _ _) _ k (l.take k) rfl (HVt.out.rdTake k hk) (by omega) (by omega) HGt.out ?_; intro v6 V6 hr6 hb6; have HND6 := Go.Lib.hid (HNDt.out.under (Nat.lt_succ_self g) hb6); obtain ⟨m0, m1, m2, m3, m4, m5, m6⟩ := nd_cells0 HND6.out.at; have HR6 := Go.Lib.hid hr6; have HB6 := Go.Lib.hid hb6; have HZ6 := Go.Lib.hid (Nat.le_trans HGt.out hb6.size); clear hr6 hb6)
            | (at_builtin; refine wpList_append_nd rfl (.tmp 61) (.tmp 63) rfl (g + 1) v6 (0 + k) ([] ++ l.take k) rfl HR6.out m _ rfl rfl (by omega) HZ6.out ?_; intro v7 V7 hr7 hb7; have HR7 := Go.Lib.hid hr7; have HB7 := Go.Lib.hid (HB6.out.trans hb7); have HZ7 := Go.Lib.hid (Nat.le_trans HZ6.out hb7.size); have HV7 := Go.Lib.hid (HVS.out _ (HBt.out.trans ((HB6.out.trans hb7).mono (by omega)))); clear hr7 hb7)
            | (at_builtin; refine wpList_append_nds rfl (.tmp 65) (.tmp 68) rfl (g + 1) v7 (0 + k + 1) ([] ++ l.take k ++ [m]) rfl HR7.out _ _ (l.drop k) rfl (HV7.out.rdDrop k hk _ (by intro h9; omega) _ (by omega) _) (by omega) (by omega) HZ7.out ?_; intro v8 V8 hr8 hb8; have HR8 := Go.Lib.hid hr8; have HB8 := Go.Lib.hid (HB7.out.trans hb8); clear hr8 hb8))
          all_goals (
            go_ret
            have hres := Nods.of_row HR8.out
            rw [List.nil_append, List.append_assoc, List.singleton_append, ← HI.out] at hres
            exact ⟨_, rfl, hres, HBt.out.trans (HB8.out.mono (by omega))⟩)
      · obtain rfl : k = N := by omega
        have hd0 : l.drop k = [] := List.drop_eq_nil_of_le (by rw [HN.out]; exact Nat.le_refl _)
        have hi := HINS.out k hk HALL.out (fun u hu => by rw [List.getElem?_eq_none (by rw [HN.out]; exact Nat.le_refl _)] at hu; cases hu)
        have HI := Go.Lib.hid hi; have HD0 := Go.Lib.hid hd0; clear hi hd0
        go_wp2_with fail
        go_quiet (fail)
        obtain ⟨V5, hV5⟩ : ∃ V, wr.drewN nq = V := ⟨_, rfl⟩
        have hb5 : Below V4.heap.size V4 V5 := by rw [← hV5]; exact bstep HBW.out (below_drewN (Below.refl _ _) _)
        rw [hV5]
        clear hV5
        have HNDt := Go.Lib.hid (HNDF.out.below hb5); have HBt := Go.Lib.hid (bstep HBF.out hb5); have HVt := Go.Lib.hid (HVF.out.below hb5); have HGt := Go.Lib.hid (Nat.succ_le_of_lt (HNDF.out.below hb5).lt)
        clear hb5
        cases A with
        | none =>
          obtain rfl : c = 0 := hA0 rfl
          obtain rfl : k = 0 := by omega
          clear hA0
          go_wp2_with (first
            | (at_builtin; refine wpList_append_nds rfl (.tmp 56) (.tmp 59) rfl (g + 1) (.slice none 0 0) 0 [] rfl (Row.nil _ _ _ _) _ 0 (l.take 0) rfl (HVt.out.rdTake 0 hk) (by omega) (by omega) HGt.out ?_; intro v6 V6 hr6 hb6; have HND6 := Go.Lib.hid (HNDt.out.under (Nat.lt_succ_self g) hb6); obtain ⟨m0, m1, m2, m3, m4, m5, m6⟩ := nd_cells0 HND6.out.at; have HR6 := Go.Lib.hid hr6; have HB6 := Go.Lib.hid hb6; have HZ6 := Go.Lib.hid (Nat.le_trans HGt.out hb6.size); clear hr6 hb6)
            | (at_builtin; refine wpList_append_nd rfl (.tmp 61) (.tmp 63) rfl (g + 1) v6 (0 + 0) ([] ++ l.take 0) rfl HR6.out m _ rfl rfl (by omega) HZ6.out ?_; intro v7 V7 hr7 hb7; have HR7 := Go.Lib.hid hr7; have HB7 := Go.Lib.hid (HB6.out.trans hb7); have HZ7 := Go.Lib.hid (Nat.le_trans HZ6.out hb7.size); have HV7 := Go.Lib.hid (HVS.out _ (HBt.out.trans ((HB6.out.trans hb7).mono (by omega)))); clear hr7 hb7)
            | (at_builtin; refine wpList_append_nds rfl (.tmp 65) (.tmp 68) rfl (g + 1) v7 (0 + 0 + 1) ([] ++ l.take 0 ++ [m]) rfl HR7.out _ _ (l.drop 0) rfl (by rw [HD0.out]; exact rdz _ _ _ (fun _ => rfl)) (by omega) (by omega) HZ7.out ?_; intro v8 V8 hr8 hb8; have HR8 := Go.Lib.hid hr8; have HB8 := Go.Lib.hid (HB7.out.trans hb8); clear hr8 hb8))
          all_goals (
            go_ret
            have hres := Nods.of_row HR8.out
            rw [List.nil_append, List.append_assoc, List.singleton_append, ← HI.out] at hres
            exact ⟨_, rfl, hres, HBt.out.trans (HB8.out.mono (by omega))⟩)
        | some a =>
          clear hA0
          by_cases hck : c = k
          · subst hck
            go_wp2_with (first
              | (at_builtin; refine wpList_append_nds rfl (.tmp 56) (.tmp 59) rfl (g + 1) (.slice none 0 0) 0 [] rfl (Row.nil _ _ _ _) _ c (l.take c) rfl (HVt.out.rdTake c hk) (by omega) (by omega) HGt.out ?_; intro v6 V6 hr6 hb6; have HND6 := Go.Lib.hid (HNDt.out.under (Nat.lt_succ_self g) hb6); obtain ⟨m0, m1, m2, m3, m4, m5, m6⟩ := nd_cells0 HND6.out.at; have HR6 := Go.Lib.hid hr6; have HB6 := Go.Lib.hid hb6; have HZ6 := Go.Lib.hid (Nat.le_trans HGt.out hb6.size); clear hr6 hb6)
              | (at_builtin; refine wpList_append_nd rfl (.tmp 61) (.tmp 63) rfl (g + 1) v6 (0 + c) ([] ++ l.take c) rfl HR6.out m _ rfl rfl (by omega) HZ6.out ?_; intro v7 V7 hr7 hb7; have HR7 := Go.Lib.hid hr7; have HB7 := Go.Lib.hid (HB6.out.trans hb7); have HZ7 := Go.Lib.hid (Nat.le_trans HZ6.out hb7.size); have HV7 := Go.Lib.hid (HVS.out _ (HBt.out.trans ((HB6.out.trans hb7).mono (by omega)))); clear hr7 hb7)
              | (at_builtin; refine wpList_append_nds rfl (.tmp 65) (.tmp 68) rfl (g + 1) v7 (0 + c + 1) ([] ++ l.take c ++ [m]) rfl HR7.out _ _ (l.drop c) rfl (by rw [HD0.out]; exact rdz _ _ _ (fun h => by cases h)) (by omega) (by omega) HZ7.out ?_; intro v8 V8 hr8 hb8; have HR8 := Go.Lib.hid hr8; have HB8 := Go.Lib.hid (HB7.out.trans hb8); clear hr8 hb8))
            all_goals (
              go_ret
              have hres := Nods.of_row HR8.out
              rw [List.nil_append, List.append_assoc, List.singleton_append, ← HI.out] at hres
              exact ⟨_, rfl, hres, HBt.out.trans (HB8.out.mono (by omega))⟩)
          · have hkc : k ≤ c := by omega
            go_wp2_with (first
              | (at_builtin; refine wpList_append_nds rfl (.tmp 56) (.tmp 59) rfl (g + 1) (.slice none 0 0) 0 [] rfl (Row.nil _ _ _ _) _ k (l.take k) rfl (HVt.out.rdTake k hk) (by omega) (by omega) HGt.out ?_; intro v6 V6 hr6 hb6; have HND6 := Go.Lib.hid (HNDt.out.under (Nat.lt_succ_self g) hb6); obtain ⟨m0, m1, m2, m3, m4, m5, m6⟩ := nd_cells0 HND6.out.at; have HR6 := Go.Lib.hid hr6; have HB6 := Go.Lib.hid hb6; have HZ6 := Go.Lib.hid (Nat.le_trans HGt.out hb6.size); clear hr6 hb6)
              | (at_builtin; refine wpList_append_nd rfl (.tmp 61) (.tmp 63) rfl (g + 1) v6 (0 + k) ([] ++ l.take k) rfl HR6.out m _ rfl rfl (by omega) HZ6.out ?_; intro v7 V7 hr7 hb7; have HR7 := Go.Lib.hid hr7; have HB7 := Go.Lib.hid (HB6.out.trans hb7); have HZ7 := Go.Lib.hid (Nat.le_trans HZ6.out hb7.size); have HV7 := Go.Lib.hid (HVS.out _ (HBt.out.trans ((HB6.out.trans hb7).mono (by omega)))); clear hr7 hb7)
              | (at_builtin; refine wpList_append_nds rfl (.tmp 65) (.tmp 68) rfl (g + 1) v7 (0 + k + 1) ([] ++ l.take k ++ [m]) rfl HR7.out _ _ (l.drop k) rfl (by rw [HD0.out]; exact rdz _ _ _ (fun h => by cases h)) (by omega) (by omega) HZ7.out ?_; intro v8 V8 hr8 hb8; have HR8 := Go.Lib.hid hr8; have HB8 := Go.Lib.hid (HB7.out.trans hb8); clear hr8 hb8))
            all_goals (
              go_ret
              have hres := Nods.of_row HR8.out
              rw [List.nil_append, List.append_assoc, List.singleton_append, ← HI.out] at hres
              exact ⟨_, rfl, hres, HBt.out.trans (HB8.out.mono (by omega))⟩)
  · have hm2 : n = m := by rw [HM.out]; have h1 := HNP.out; obtain ⟨a1, a2, a3, a4, a5⟩ := n; simp only at h1; rw [h1]; rfl
    subst hm2
    obtain ⟨V4, hV4⟩ : ∃ V, V = w4 := ⟨_, rfl⟩
    subst hV4
    have HNDF := Go.Lib.hid HND4.out; have HBF := Go.Lib.hid HB4.out; have HOPF := Go.Lib.hid HOP4.out; have HVF := Go.Lib.hid (HVS.out _ HB4.out)
    go_wp2_with fail
    go_loopw [7, 39, 40, 41, 42, 43, 44, 45, 46, 47, 48, 49, 50, 51, 52, 53, 54, 55] (fun i _ _ _ _ _ _ _ _ _ _ _ _ _ _ _ _ _ wr => ∃ k : Nat, k ≤ N ∧ i = .int .i64 (k : Int) ∧ (∀ (j : Nat) (y : Nod), j < k → l[j]? = some y → x.node.less y.id = false) ∧ Below V4.heap.size V4 wr) (fun i _ _ _ _ _ _ _ _ _ _ _ _ _ _ _ _ _ _ => N - (intOf i).toNat)
    case atStart => exact ⟨0, by omega, rfl, fun _ _ h => by omega, Below.refl _ _⟩
    case round =>
      obtain ⟨k, hk, rfl, hall, hbw⟩ := hrel
      have HALL := Go.Lib.hid hall; have HBW := Go.Lib.hid hbw; clear hall hbw
      by_cases hkn : k < N
      · have hkn' : (k : Int) < (N : Int) := by omega
        obtain ⟨b, off, y, rfl, hg1, hy⟩ := (HVF.out.below HBW.out).at k hkn
        obtain ⟨c0, c1, -⟩ := nd_cells hy
        have hxw := HOPF.out.below HBW.out
        obtain ⟨-, -, -, -, d4, d5, -⟩ := op_cells0 hxw
        have hlc := hy.lt
        have hld := hxw.lt
        have hl2 := fun w => rless_any x.node y.id w
        simp only [stCells] at hl2
        obtain ⟨z2, hz2⟩ : ∃ m, x.node.less y.id = m := ⟨_, rfl⟩
        rw [hz2] at hl2
        have HL2 := Go.Lib.hid hl2; have HG1 := Go.Lib.hid hg1; have HZ2 := Go.Lib.hid hz2
        clear hl2 hg1 hz2 hy hxw
        obtain ⟨Vr, hVr⟩ : ∃ V, V = wr := ⟨_, rfl⟩
        subst hVr
        have hne := BW.ne Vr.heap.size Vr
        have q0 := fun z : BW Vr.heap.size Vr => z.cell c0 hlc
        have q1 := fun z : BW Vr.heap.size Vr => z.cell c1 hlc
        have q2 := fun z : BW Vr.heap.size Vr => z.cell d4 hld
        have q3 := fun z : BW Vr.heap.size Vr => z.cell d5 hld
        cases z2
        · go_wp2_with fail
          refine wp_region_calm Vr.heap.size Vr (Below.refl _ _) (by kernel_rfl) (by kernel_rfl) ?_
          repeat (go_big_quiet_step ((go_at_call 30; with_reducible exact bw_of (Nat.le_refl _) (HL2.out _))))
          refine wpQuiet_nil ?_
          intro _ hw'
          obtain ⟨z, rfl⟩ := hw'
          go_wp2_with fail
          refine ⟨⟨k + 1, by omega, by simp, fun j u hj hu => ?_, bstep HBW.out z.2⟩, by simp [intOf]; omega⟩
          rcases Nat.lt_or_ge j k with h | h
          · exact HALL.out j u h hu
          · obtain rfl : j = k := by omega
            rw [HG1.out] at hu
            injection hu with hu
            rw [← hu]; exact HZ2.out
        · have hi := HINS.out k hk HALL.out (fun u hu => by rw [HG1.out] at hu; injection hu with hu; rw [← hu]; exact HZ2.out)
          have HI := Go.Lib.hid hi; clear hi
          have hck : ¬ c = k := by omega
          go_wp2_with fail
          refine wp_region_calm Vr.heap.size Vr (Below.refl _ _) (by kernel_rfl) (by kernel_rfl) ?_
          repeat (go_big_quiet_step ((go_at_call 30; with_reducible exact bw_of (Nat.le_refl _) (HL2.out _))))
          refine wpQuiet_nil ?_
          intro _ hw'
          obtain ⟨z, rfl⟩ := hw'
          obtain ⟨V5, hV5⟩ : ∃ V, z.w = V := ⟨_, rfl⟩
          have hb5 : Below V4.heap.size V4 V5 := by rw [← hV5]; exact bstep HBW.out z.2
          rw [hV5]
          clear hV5 hne q0 q1 q2 q3 c0 c1 d4 d5 hlc hld
          have HNDt := Go.Lib.hid (HNDF.out.below hb5); have HBt := Go.Lib.hid (bstep HBF.out hb5); have HVt := Go.Lib.hid (HVF.out.below hb5); have HGt := Go.Lib.hid (Nat.succ_le_of_lt (HNDF.out.below hb5).lt)
          clear hb5
          have hkc : k ≤ c := by omega
          go_wp2_with (first
            | (at_builtin; refine wpList_append_nds rfl (.tmp 56) (.tmp 59) rfl (g + 1) (.slice none 0 0) 0 [] rfl (Row.nil _ _ _ _) _ k (l.take k) rfl (HVt.out.rdTake k hk) (by omega) (by omega) HGt.out ?_; intro v6 V6 hr6 hb6; have HND6 := Go.Lib.hid (HNDt.out.under (Nat.lt_succ_self g) hb6); obtain ⟨m0, m1, m2, m3, m4, m5, m6⟩ := nd_cells0 HND6.out.at; have HR6 := Go.Lib.hid hr6; have HB6 := Go.Lib.hid hb6; have HZ6 := Go.Lib.hid (Nat.le_trans HGt.out hb6.size); clear hr6 hb6)
            | (at_builtin; refine wpList_append_nd rfl (.tmp 61) (.tmp 63) rfl (g + 1) v6 (0 + k) ([] ++ l.take k) rfl HR6.out n _ rfl rfl (by omega) HZ6.out ?_; intro v7 V7 hr7 hb7; have HR7 := Go.Lib.hid hr7; have HB7 := Go.Lib.hid (HB6.out.trans hb7); have HZ7 := Go.Lib.hid (Nat.le_trans HZ6.out hb7.size); have HV7 := Go.Lib.hid (HVS.out _ (HBt.out.trans ((HB6.out.trans hb7).mono (by omega)))); clear hr7 hb7)
            | (at_builtin; refine wpList_append_nds rfl (.tmp 65) (.tmp 68) rfl (g + 1) v7 (0 + k + 1) ([] ++ l.take k ++ [n]) rfl HR7.out _ _ (l.drop k) rfl (HV7.out.rdDrop k hk _ (by intro h9; omega) _ (by omega) _) (by omega) (by omega) HZ7.out ?_; intro v8 V8 hr8 hb8; have HR8 := Go.Lib.hid hr8; have HB8 := Go.Lib.hid (HB7.out.trans hb8); clear hr8 hb8))
          all_goals (
            go_ret
            have hres := Nods.of_row HR8.out
            rw [List.nil_append, List.append_assoc, List.singleton_append, ← HI.out] at hres
            exact ⟨_, rfl, hres, HBt.out.trans (HB8.out.mono (by omega))⟩)
      · obtain rfl : k = N := by omega
        have hd0 : l.drop k = [] := List.drop_eq_nil_of_le (by rw [HN.out]; exact Nat.le_refl _)
        have hi := HINS.out k hk HALL.out (fun u hu => by rw [List.getElem?_eq_none (by rw [HN.out]; exact Nat.le_refl _)] at hu; cases hu)
        have HI := Go.Lib.hid hi; have HD0 := Go.Lib.hid hd0; clear hi hd0
        go_wp2_with fail
        go_quiet (fail)
        obtain ⟨V5, hV5⟩ : ∃ V, wr.drewN nq = V := ⟨_, rfl⟩
        have hb5 : Below V4.heap.size V4 V5 := by rw [← hV5]; exact bstep HBW.out (below_drewN (Below.refl _ _) _)
        rw [hV5]
        clear hV5
        have HNDt := Go.Lib.hid (HNDF.out.below hb5); have HBt := Go.Lib.hid (bstep HBF.out hb5); have HVt := Go.Lib.hid (HVF.out.below hb5); have HGt := Go.Lib.hid (Nat.succ_le_of_lt (HNDF.out.below hb5).lt)
        clear hb5
        cases A with
        | none =>
          obtain rfl : c = 0 := hA0 rfl
          obtain rfl : k = 0 := by omega
          clear hA0
          go_wp2_with (first
            | (at_builtin; refine wpList_append_nds rfl (.tmp 56) (.tmp 59) rfl (g + 1) (.slice none 0 0) 0 [] rfl (Row.nil _ _ _ _) _ 0 (l.take 0) rfl (HVt.out.rdTake 0 hk) (by omega) (by omega) HGt.out ?_; intro v6 V6 hr6 hb6; have HND6 := Go.Lib.hid (HNDt.out.under (Nat.lt_succ_self g) hb6); obtain ⟨m0, m1, m2, m3, m4, m5, m6⟩ := nd_cells0 HND6.out.at; have HR6 := Go.Lib.hid hr6; have HB6 := Go.Lib.hid hb6; have HZ6 := Go.Lib.hid (Nat.le_trans HGt.out hb6.size); clear hr6 hb6)
            | (at_builtin; refine wpList_append_nd rfl (.tmp 61) (.tmp 63) rfl (g + 1) v6 (0 + 0) ([] ++ l.take 0) rfl HR6.out n _ rfl rfl (by omega) HZ6.out ?_; intro v7 V7 hr7 hb7; have HR7 := Go.Lib.hid hr7; have HB7 := Go.Lib.hid (HB6.out.trans hb7); have HZ7 := Go.Lib.hid (Nat.le_trans HZ6.out hb7.size); have HV7 := Go.Lib.hid (HVS.out _ (HBt.out.trans ((HB6.out.trans hb7).mono (by omega)))); clear hr7 hb7)
            | (at_builtin; refine wpList_append_nds rfl (.tmp 65) (.tmp 68) rfl (g + 1) v7 (0 + 0 + 1) ([] ++ l.take 0 ++ [n]) rfl HR7.out _ _ (l.drop 0) rfl (by rw [HD0.out]; exact rdz _ _ _ (fun _ => rfl)) (by omega) (by omega) HZ7.out ?_; intro v8 V8 hr8 hb8; have HR8 := Go.Lib.hid hr8; have HB8 := Go.Lib.hid (HB7.out.trans hb8); clear hr8 hb8))
          all_goals (
            go_ret
            have hres := Nods.of_row HR8.out
            rw [List.nil_append, List.append_assoc, List.singleton_append, ← HI.out] at hres
            exact ⟨_, rfl, hres, HBt.out.trans (HB8.out.mono (by omega))⟩)
        | some a =>
          clear hA0
          by_cases hck : c = k
          · subst hck
            go_wp2_with (first
              | (at_builtin; refine wpList_append_nds rfl (.tmp 56) (.tmp 59) rfl (g + 1) (.slice none 0 0) 0 [] rfl (Row.nil _ _ _ _) _ c (l.take c) rfl (HVt.out.rdTake c hk) (by omega) (by omega) HGt.out ?_; intro v6 V6 hr6 hb6; have HND6 := Go.Lib.hid (HNDt.out.under (Nat.lt_succ_self g) hb6); obtain ⟨m0, m1, m2, m3, m4, m5, m6⟩ := nd_cells0 HND6.out.at; have HR6 := Go.Lib.hid hr6; have HB6 := Go.Lib.hid hb6; have HZ6 := Go.Lib.hid (Nat.le_trans HGt.out hb6.size); clear hr6 hb6)
              | (at_builtin; refine wpList_append_nd rfl (.tmp 61) (.tmp 63) rfl (g + 1) v6 (0 + c) ([] ++ l.take c) rfl HR6.out n _ rfl rfl (by omega) HZ6.out ?_; intro v7 V7 hr7 hb7; have HR7 := Go.Lib.hid hr7; have HB7 := Go.Lib.hid (HB6.out.trans hb7); have HZ7 := Go.Lib.hid (Nat.le_trans HZ6.out hb7.size); have HV7 := Go.Lib.hid (HVS.out _ (HBt.out.trans ((HB6.out.trans hb7).mono (by omega)))); clear hr7 hb7)
              | (at_builtin; refine wpList_append_nds rfl (.tmp 65) (.tmp 68) rfl (g + 1) v7 (0 + c + 1) ([] ++ l.take c ++ [n]) rfl HR7.out _ _ (l.drop c) rfl (by rw [HD0.out]; exact rdz _ _ _ (fun h => by cases h)) (by omega) (by omega) HZ7.out ?_; intro v8 V8 hr8 hb8; have HR8 := Go.Lib.hid hr8; have HB8 := Go.Lib.hid (HB7.out.trans hb8); clear hr8 hb8))
            all_goals (
              go_ret
              have hres := Nods.of_row HR8.out
              rw [List.nil_append, List.append_assoc, List.singleton_append, ← HI.out] at hres
              exact ⟨_, rfl, hres, HBt.out.trans (HB8.out.mono (by omega))⟩)
          · have hkc : k ≤ c := by omega
            go_wp2_with (first
              | (at_builtin; refine wpList_append_nds rfl (.tmp 56) (.tmp 59) rfl (g + 1) (.slice none 0 0) 0 [] rfl (Row.nil _ _ _ _) _ k (l.take k) rfl (HVt.out.rdTake k hk) (by omega) (by omega) HGt.out ?_; intro v6 V6 hr6 hb6; have HND6 := Go.Lib.hid (HNDt.out.under (Nat.lt_succ_self g) hb6); obtain ⟨m0, m1, m2, m3, m4, m5, m6⟩ := nd_cells0 HND6.out.at; have HR6 := Go.Lib.hid hr6; have HB6 := Go.Lib.hid hb6; have HZ6 := Go.Lib.hid (Nat.le_trans HGt.out hb6.size); clear hr6 hb6)
              | (at_builtin; refine wpList_append_nd rfl (.tmp 61) (.tmp 63) rfl (g + 1) v6 (0 + k) ([] ++ l.take k) rfl HR6.out n _ rfl rfl (by omega) HZ6.out ?_; intro v7 V7 hr7 hb7; have HR7 := Go.Lib.hid hr7; have HB7 := Go.Lib.hid (HB6.out.trans hb7); have HZ7 := Go.Lib.hid (Nat.le_trans HZ6.out hb7.size); have HV7 := Go.Lib.hid (HVS.out _ (HBt.out.trans ((HB6.out.trans hb7).mono (by omega)))); clear hr7 hb7)
              | (at_builtin; refine wpList_append_nds rfl (.tmp 65) (.tmp 68) rfl (g + 1) v7 (0 + k + 1) ([] ++ l.take k ++ [n]) rfl HR7.out _ _ (l.drop k) rfl (by rw [HD0.out]; exact rdz _ _ _ (fun h => by cases h)) (by omega) (by omega) HZ7.out ?_; intro v8 V8 hr8 hb8; have HR8 := Go.Lib.hid hr8; have HB8 := Go.Lib.hid (HB7.out.trans hb8); clear hr8 hb8))
            all_goals (
              go_ret
              have hres := Nods.of_row HR8.out
              rw [List.nil_append, List.append_assoc, List.singleton_append, ← HI.out] at hres
              exact ⟨_, rfl, hres, HBt.out.trans (HB8.out.mono (by omega))⟩)

theorem rdo7_any (v : Value) (l : List Nod) (x : Opn) (w : World) (h : Nods w v l) (hl : l.length ≤ 10000) :
    Calls Tryd.prog 47 #[v, opVal x] w fun e w' => ∃ v', e = .returned v' ∧ Nods w' v' (doOf l x) ∧ Below w.heap.size w w' := by
  cases hfd : findOf l x.node with
  | none =>
    by_cases hk1 : x.kind = 1
    · exact rmake7_any v l x w h hl hfd hk1
    · exact rsame7_any v l x w h hl (do_none hfd hk1) (.inl ⟨by unfold atI; rw [hfd], hk1⟩)
  | some n =>
    by_cases hk1 : x.kind = 1
    · exact rsame7_any v l x w h hl (do_there hfd hk1) (.inr ⟨_, by unfold atI; rw [hfd], hk1⟩)
    · by_cases hk2 : x.kind = 2
      · exact rturn7_move v l x n w h hl hfd hk1 hk2
      · exact rturn7_more v l x n w h hl hfd hk1 hk2

set_option maxRecDepth 20000 in
set_option maxHeartbeats 2000000 in
theorem rfold7_any (v : Value) (l : List Opn) (w : World) (h : Opns w v l) (hl : l.length ≤ 9000) :
    Calls Tryd.prog 35 #[v] w fun e w' => ∃ v', e = .returned v' ∧ Nods w' v' (foldOf l) ∧ Below w.heap.size w w' := by
  obtain ⟨A, c, rfl, hc⟩ := h.len
  obtain ⟨r, hr⟩ : ∃ r, foldOf l = r := ⟨_, rfl⟩
  rw [hr]
  obtain ⟨n, hnn⟩ : ∃ n, l.length = n := ⟨_, rfl⟩
  rw [hnn] at h hc hl
  rw [hnn]
  have htl : l.take n = l := List.take_of_length_le (by omega)
  have HV := Go.Lib.hid h; have HR := Go.Lib.hid hr; have HTL := Go.Lib.hid htl; have HN := Go.Lib.hid hnn
  clear h hr hnn htl
  go_enter Tryd.func35, Tryd.ntmps35
  go_wp2_with fail
  go_loopw [3, 4, 5, 6, 7, 8, 9, 10, 11, 12, 13, 14, 15, 16] (fun vo i _ _ _ _ _ _ _ _ _ _ _ _ wr => ∃ k : Nat, k ≤ n ∧ i = .int .i64 (k : Int) ∧ Nods wr vo (foldOf (l.take k)) ∧ Below w.heap.size w wr) (fun _ i _ _ _ _ _ _ _ _ _ _ _ _ _ => n - (intOf i).toNat)
  case atStart => exact ⟨0, by omega, rfl, Nods.nil _, Below.refl _ _⟩
  case round =>
    obtain ⟨k, hk, rfl, hnds, hb⟩ := hrel
    by_cases hkn : k < n
    · have hkn' : (k : Int) < (n : Int) := by omega
      obtain ⟨b1, o1, x, rfl, hg1, hx⟩ := (HV.out.below hb).at k hkn
      obtain ⟨c0, c1, c2, c3, c4, c5, c6, c7, c8, c9, c10⟩ := op_cells hx
      have hfl := foldOf_length (l.take k)
      have hdo := rdo7_any u3 (foldOf (l.take k)) x wr hnds (by rw [List.length_take] at hfl; omega)
      rw [← foldOf_take l k x hg1] at hdo
      unfold opVal at hdo
      unfold opArr opCells at hdo
      have HDO := Go.Lib.hid hdo; have HB := Go.Lib.hid hb
      clear hdo hb hx hnds hg1 hfl
      go_wp2_with (go_at_call 47; with_reducible refine HDO.out.mono ?_; rintro e w1 ⟨v1, rfl, hn1, hb1⟩; have HN1 := Go.Lib.hid hn1; have HB1 := Go.Lib.hid (bstep HB.out hb1); clear hn1 hb1)
      exact ⟨⟨k + 1, by omega, by simp, HN1.out, HB1.out⟩, by simp [intOf]; omega⟩
    · obtain rfl : k = n := by omega
      rw [HTL.out, HR.out] at hnds
      have HO := Go.Lib.hid hnds; have HB := Go.Lib.hid hb
      clear hnds hb
      go_wp2_with fail
      go_ret
      exact ⟨_, rfl, HO.out, HB.out⟩
end Go.Proofs.YtjeijolblcodpaaDoor.W
