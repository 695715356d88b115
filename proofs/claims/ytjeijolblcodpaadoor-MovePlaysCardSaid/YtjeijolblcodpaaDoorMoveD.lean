/- The reference's Nodes; the program's state beside the reference's; the walk of MovePlays. -/
import Derived.Test.YtjeijolblcodpaaDoorMg13
import Derived.Test.YtjeijolblcodpaaDoorMoveS
import Derived.Test.YtjeijolblcodpaaDoorMoveR
import Derived.Test.YtjeijolblcodpaaDoorTreeY3
import Derived.Test.YtjeijolblcodpaaDoorOpsS0
import Derived.Test.YtjeijolblcodpaaDoorMg3
namespace Go.Proofs.YtjeijolblcodpaaDoor.W
set_option maxRecDepth 20000
set_option linter.unusedVariables false
open Go.RowKit Go.Proofs Arb

set_option maxRecDepth 20000 in
set_option maxHeartbeats 2000000 in
theorem rnodes8_any (b : Nat) (v : Value) (l : List Opn) (n : Int) (w : World) (hst : R8 w b v n) (h : Opns w v l) (hl : l.length ≤ 9000) :
    Calls Tryd.prog 19 #[.pointer (some ⟨b, 0, none⟩)] w fun e w' => ∃ v', e = .returned v' ∧ Nods w' v' (foldOf l) ∧ Below w.heap.size w w' := by
  obtain ⟨A, c, rfl, hc⟩ := h.len
  have hF := rfold7_any _ l w h hl
  obtain ⟨c0, -, -, -⟩ := hst.cells
  have HF := Go.Lib.hid hF; clear hF
  go_enter Tryd.func19, Tryd.ntmps19
  go_wp2_with fail
  refine HF.out.mono ?_; rintro e w1 ⟨v1, rfl, hn, hb⟩
  have HN := Go.Lib.hid hn; have HB := Go.Lib.hid hb; clear hn hb
  go_wp2_with fail
  go_ret
  exact ⟨_, rfl, HN.out, HB.out⟩

/-- The program's state and the reference's, both made behind W. -/
structure Two8 (W V : World) (b : Nat) (F : Nat → Prop) (l : List Opn) (n : Int) (rb : Nat) (v : Value) (l2 : List Opn) (n2 : Int) : Prop where
  mine : Mine W V b F l n
  ref : R8 V rb v n2
  ops : Opns V v l2
  put : InSet (fun k => k < V.heap.size ∧ ¬ F k ∧ k ≠ rb) v
  own : ¬ F rb
  new : W.heap.size ≤ rb
section
variable {W V V' : World} {b rb : Nat} {F F' : Nat → Prop} {l l' l2 l2' : List Opn} {n n' n2 n2' : Int} {v v' : Value}
theorem Two8.more (h : Two8 W V b F l n rb v l2 n2) (hb : Below V.heap.size V V') : Two8 W V' b F l n rb v l2 n2 :=
  ⟨h.mine.more hb, h.ref.below hb, h.ops.below hb, h.put.mono fun k hk => ⟨Nat.lt_of_lt_of_le hk.1 hb.size, hk.2⟩, h.own, h.new⟩
theorem Two8.prog (h : Two8 W V b F l n rb v l2 n2) (hs : PSt V' b F' l' n') (ht : Turned V V' F F') : Two8 W V' b F' l' n' rb v l2 n2 := by
  have hlt := h.ref.lt
  have hnew : ∀ k, k < V.heap.size → ¬ F k → ¬ F' k := fun k hk hf hf' => by
    rcases ht.grow k hf' with h1 | h1
    · exact hf h1
    · omega
  exact ⟨h.mine.next hs ht, (ht.kept.block rb hlt h.own).trans h.ref, h.ops.kept ht.kept (h.put.mono fun k hk => hk.2.1),
    h.put.mono fun k hk => ⟨Nat.lt_of_lt_of_le hk.1 ht.size, hnew k hk.1 hk.2.1, hk.2.2⟩, hnew rb hlt h.own, h.new⟩
theorem Two8.refi (h : Two8 W V b F l n rb v l2 n2) (hr : R8 V' rb v' n2') (ho : Opns V' v' l2') (hv : v' = v ∨ InSet (fun k => V.heap.size ≤ k ∧ k < V'.heap.size) v') (hk : Kept (fun k => k = rb) V V') : Two8 W V' b F l n rb v' l2' n2' := by
  refine ⟨⟨h.mine.st.kept hk fun k hf e => h.own (by rw [← e]; exact hf), h.mine.new, h.mine.bel.trans (hk.below (fun k e => by rw [e]; exact h.new) h.mine.bel.size)⟩, hr, ho, ?_, h.own, h.new⟩
  rcases hv with rfl | hv
  · exact h.put.mono fun k hq => ⟨Nat.lt_of_lt_of_le hq.1 hk.size, hq.2⟩
  · refine hv.mono fun k hq => ⟨hq.2, fun hf => ?_, fun e => ?_⟩
    · have := h.mine.st.lt k hf; omega
    · have := h.ref.lt; omega
end

/-- S may grow on the way. -/
theorem wpAnyH_mono8 {P : Program} {md : Region.Mode} {ops : Array Oper} {Q : Exit → Act → World → Prop} {S S2 : World → Prop} (hSS : ∀ w, S2 w → S w) : ∀ (fuel : Nat) (listed : Array Bool) (a : Act) (w : World), wpAnyH P md ops Q S2 fuel listed a w → wpAnyH P md ops Q S fuel listed a w
  | 0, _, _, _, h => h
  | fuel + 1, _, _, _, h => ⟨h.1, fun i hi => wpOp_mono (fun a' w' h' => ⟨hSS _ h'.1, wpAnyH_mono8 hSS fuel _ a' w' h'.2⟩) (h.2 i hi)⟩

set_option maxRecDepth 20000 in
set_option maxHeartbeats 32000000 in
theorem movePlays_go (v : Value) (l : List Opn) (w : World) (h : Opns w v l) (hwf : ∀ x ∈ l, opWf x) (hTM : Met w) :
    Calls Tryd.prog 3 #[v] w fun e w' => e = .returned (.bool true) ∧ Below w.heap.size w w' := by
  have HTM := Go.Lib.hid hTM; clear hTM
  have hF := fun w h => few8_any v l w h (fun x hx => (hwf x hx).2.2.2.2.2)
  obtain ⟨q, hq⟩ : ∃ b, few8 l = b := ⟨_, rfl⟩
  rw [hq] at hF
  have HF := Go.Lib.hid hF; have HV := Go.Lib.hid h
  clear hF
  cases q
  · clear hq h hwf
    go_enter Tryd.func3, Tryd.ntmps3
    go_wp2_with fail
    refine (mine_new HTM.out).mono ?_; rintro e V1 ⟨b, F1, rfl, hm1⟩
    have HM1 := Go.Lib.hid hm1; clear hm1
    go_wp2_with fail
    refine (HF.out _ (HV.out.below HM1.out.bel)).mono ?_; rintro e V2 ⟨rfl, rfl⟩
    go_wp2_with fail
    refine (awake8_any _ (HTM.out.on HM1.out.bel)).mono ?_; rintro e V3 ⟨rfl, hb⟩
    have HB3 := Go.Lib.hid (bstep HM1.out.bel hb); clear hb
    go_wp2_with fail
    go_ret
    exact ⟨rfl, HB3.out⟩
  · have hln := (few8_true hq).1
    obtain ⟨A, c, rfl, hc⟩ := h.len
    obtain ⟨N, hN⟩ : ∃ N, l.length = N := ⟨_, rfl⟩
    have hbl := fun k => mvBuild_length (l.take k)
    rw [hN] at HF HV hln hc
    rw [hN]
    have HN := Go.Lib.hid hN; have HWF := Go.Lib.hid hwf; have HBL := Go.Lib.hid hbl
    clear hq h hwf hN hbl
    go_enter Tryd.func3, Tryd.ntmps3
    go_wp2_with fail
    refine (mine_new HTM.out).mono ?_; rintro e V1 ⟨b, F1, rfl, hm1⟩
    have HM1 := Go.Lib.hid hm1; clear hm1
    go_wp2_with fail
    refine (HF.out _ (HV.out.below HM1.out.bel)).mono ?_; rintro e V2 ⟨rfl, rfl⟩
    have htw : Two8 w (V1.alloc (.cells #[.slice none 0 0, .int .i64 0] 29)) b F1 [] 0 V1.heap.size (.slice none 0 0) [] 0 :=
      ⟨HM1.out.more ((Below.refl _ _).alloc (Nat.le_refl _) _), heap_alloc_new V1 _, Opns.nil _, InSet.nil _ _ _, fun hf => by have := HM1.out.st.lt _ hf; omega, HM1.out.bel.size⟩
    obtain ⟨W3, hW3⟩ : ∃ W, V1.alloc (.cells #[.slice none 0 0, .int .i64 0] 29) = W := ⟨_, rfl⟩
    rw [hW3] at htw
    obtain ⟨rb, hrb⟩ : ∃ r, V1.heap.size = r := ⟨_, rfl⟩
    rw [hrb] at htw
    have HTW := Go.Lib.hid htw; have HW3 := Go.Lib.hid hW3
    clear htw hW3
    go_wp2_with fail
    rw [HW3.out]
    try rw [hrb]
    go_loopw [5, 21, 22, 23, 24, 25, 26, 27, 28, 29, 30, 31, 32, 33, 34, 35, 36, 37, 38, 39, 40, 41, 42, 43, 44, 45, 46, 47, 48, 49, 50, 51, 52, 53, 54, 55, 56, 57, 58, 59, 60, 61, 62, 63, 64, 65, 66] (fun i _ _ _ _ _ _ _ _ _ _ _ _ _ _ _ _ _ _ _ _ _ _ _ _ _ _ _ _ _ _ _ _ _ _ _ _ _ _ _ _ _ _ _ _ _ _ wr => ∃ (k : Nat) (F : Nat → Prop) (n : Int) (u : Value), k ≤ N ∧ i = .int .i64 (k : Int) ∧ Two8 w wr b F (mvBuild (l.take k)) n rb u (mvBuild (l.take k)) n) (fun i _ _ _ _ _ _ _ _ _ _ _ _ _ _ _ _ _ _ _ _ _ _ _ _ _ _ _ _ _ _ _ _ _ _ _ _ _ _ _ _ _ _ _ _ _ _ _ => N - (intOf i).toNat)
    case atStart => exact ⟨0, F1, 0, .slice none 0 0, by omega, rfl, HTW.out⟩
    case round =>
      obtain ⟨k, F, n, u, hk, rfl, htwo⟩ := hrel
      by_cases hkn : k < N
      · have hkn' : (k : Int) < (N : Int) := by omega
        obtain ⟨bx, ox, x, rfl, hg1, hx0⟩ := HV.out.at k hkn
        have hxk : ∀ V, Below w.heap.size w V → OpAt V bx (ox + k * 11) x := fun V hb => hx0.below hb
        have hxm := List.mem_of_getElem? hg1
        have hst := mvBuild_take l k x hg1
        have hri := mvBuild_rise (l.take k)
        have hl0 := (HBL.out k).2
        obtain ⟨s, hs⟩ : ∃ s, mvBuild (l.take k) = s := ⟨_, rfl⟩
        rw [hs] at htwo hst hri hl0
        obtain ⟨s1, hs1⟩ : ∃ r, mvAdd s x = r := ⟨_, rfl⟩
        obtain ⟨n1, hn1⟩ : ∃ r, mvRedo s x n = r := ⟨_, rfl⟩
        obtain ⟨er, her⟩ : ∃ r, mvErr s x = r := ⟨_, rfl⟩
        have hl1 : s1.length ≤ 9000 := by have h1 := mvAdd_length s x; rw [hs1] at h1; split at h1 <;> omega
        have hpi : ∀ V F u, Two8 w V b F s n rb u s n → Calls Tryd.prog 12 #[.pointer (some ⟨b, 0, none⟩), .agg (opCells x).toArray] V fun e w' => e = .returned (.int .i64 er) ∧ ∃ F', Two8 w w' b F' s1 n1 rb u s n := fun V F u ht =>
          (pinsert_st V b F s n x ht.mine.st (HWF.out x hxm) (HTM.out.on ht.mine.bel)).mono fun e w' ⟨he, F', h1, h2⟩ => by
            rw [hs1, hn1] at h1
            rw [her] at he
            exact ⟨he, F', ht.prog h1 h2⟩
        have hrf : ∀ V F u, Two8 w V b F s1 n1 rb u s n → Calls Tryd.prog 13 #[.pointer (some ⟨rb, 0, none⟩), .agg (opCells x).toArray] V fun e w' => e = .returned (.int .i64 er) ∧ ∃ A c, Two8 w w' b F s1 n1 rb (.slice A s1.length c) s1 n1 := fun V F u ht =>
          (rinsert8_any rb u s n x V ht.ref ht.ops (ht.put.mono fun k hk => hk.2.2) hri (by omega)).mono fun e w' ⟨he, u', h1, h2, h3, h4⟩ => by
            rw [hs1] at h2
            rw [hn1] at h1
            rw [her] at he
            have h5 := ht.refi h1 h2 h3 h4
            obtain ⟨A, c, rfl, _⟩ := h2.len
            exact ⟨he, A, c, h5⟩
        have hpo : ∀ V F A c, Two8 w V b F s1 n1 rb (.slice A s1.length c) s1 n1 → Calls Tryd.prog 15 #[.pointer (some ⟨b, 0, none⟩)] V fun e w' => ∃ v' F', e = .returned v' ∧ Opns w' v' s1 ∧ Two8 w w' b F' s1 n1 rb (.slice A s1.length c) s1 n1 := fun V F A c ht =>
          (pops_st V b F s1 n1 ht.mine.st (HTM.out.on ht.mine.bel)).mono fun e w' ⟨v', F', he, h1, h2, h3, h4⟩ => ⟨v', F', he, h1, ht.prog h3 h4⟩
        have hpn : ∀ V F A c, Two8 w V b F s1 n1 rb (.slice A s1.length c) s1 n1 → Calls Tryd.prog 18 #[.pointer (some ⟨b, 0, none⟩)] V fun e w' => ∃ v' F', e = .returned v' ∧ Nods w' v' (foldOf s1) ∧ Two8 w w' b F' s1 n1 rb (.slice A s1.length c) s1 n1 := fun V F A c ht =>
          (pnodes_st V b F s1 n1 ht.mine.st (HTM.out.on ht.mine.bel)).mono fun e w' ⟨v', F', he, h1, h2, h3, h4⟩ => ⟨v', F', he, h1, ht.prog h3 h4⟩
        have hfl := foldOf_length s1
        have hso : ∀ V u1 u2, Opns V u1 s1 → Opns V u2 s1 → Calls Tryd.prog 14 #[u1, u2] V fun e w' => e = .returned (.bool true) ∧ Below V.heap.size V w' := fun V u1 u2 h1 h2 => by
          have := rsameops_any u1 u2 s1 s1 V h1 h2 (by omega) (by omega)
          rw [decide_eq_true rfl] at this
          exact this
        have hsn : ∀ V u1 u2, Nods V u1 (foldOf s1) → Nods V u2 (foldOf s1) → Calls Tryd.prog 17 #[u1, u2] V fun e w' => e = .returned (.bool true) ∧ Below V.heap.size V w' := fun V u1 u2 h1 h2 => by
          have := rsamends_any u1 u2 (foldOf s1) (foldOf s1) V h1 h2 (by omega) (by omega)
          rw [decide_eq_true rfl] at this
          exact this
        have hrn := fun V u (h1 : R8 V rb u n1) (h2 : Opns V u s1) => rnodes8_any rb u s1 n1 V h1 h2 hl1
        unfold opCells at hpi hrf
        rw [hs1] at hst
        obtain ⟨Au, cu, rfl, _⟩ := htwo.ops.len
        have hT0 := htwo.more (Below.refl wr.heap.size wr).drew
        obtain ⟨c0, c1, c2, c3, c4, c5, c6, c7, c8, c9, c10⟩ := op_cells (hxk wr htwo.mine.bel)
        have HPI := Go.Lib.hid hpi; have HRF := Go.Lib.hid hrf; have HPO := Go.Lib.hid hpo; have HPN := Go.Lib.hid hpn; have HSO := Go.Lib.hid hso; have HSN := Go.Lib.hid hsn; have HRN := Go.Lib.hid hrn; have HXK := Go.Lib.hid hxk; have HST := Go.Lib.hid hst; have HT0 := Go.Lib.hid hT0
        clear hpi hrf hpo hpn hso hsn hrn hxk hst hT0 htwo hx0 hg1 hxm hri hl0 hs hs1 hn1 her hl1 hfl
        go_wp2_with fail
        refine wp_region_held_drew (S := (fun w' => w'.cell? ⟨bx, ox + k * 11, none⟩ = some (.int .i64 x.stamp.count) ∧ w'.cell? ⟨bx, ox + k * 11 + 1, none⟩ = some (.int .i64 x.stamp.who) ∧ w'.cell? ⟨bx, ox + k * 11 + 2, none⟩ = some (.int .i64 x.seq) ∧ w'.cell? ⟨bx, ox + k * 11 + 3, none⟩ = some (.int .i64 x.kind) ∧ w'.cell? ⟨bx, ox + k * 11 + 4, none⟩ = some (.int .i64 x.node.count) ∧ w'.cell? ⟨bx, ox + k * 11 + 5, none⟩ = some (.int .i64 x.node.who) ∧ w'.cell? ⟨bx, ox + k * 11 + 6, none⟩ = some (.bool x.dir) ∧ w'.cell? ⟨bx, ox + k * 11 + 7, none⟩ = some (.int .i64 x.parent.count) ∧ w'.cell? ⟨bx, ox + k * 11 + 8, none⟩ = some (.int .i64 x.parent.who) ∧ w'.cell? ⟨bx, ox + k * 11 + 9, none⟩ = some (.string (BS x.name)) ∧ w'.cell? ⟨bx, ox + k * 11 + 10, none⟩ = some (.string (BS x.manifest)))) (by kernel_rfl) ?_ (fun hHeld => ?_)
        · exact ⟨c0, c1, c2, c3, c4, c5, c6, c7, c8, c9, c10⟩
        refine wpAnyH_take (i := 0) (oi := ({ dst := some 27, op := Op.move (Operand.tmp 3), type := 23, pos := "law.go:50", after := #[], guard := none } : Oper)) (v := ?_) rfl (by kernel_rfl) (by kernel_rfl) (by kernel_rfl) (fun _ _ _ h => h) (Or.inl ⟨by rfl, ?_⟩) (by assumption) ?_
        rotate_left; (· intro w hSw; (try dsimp only at hSw); go_simp; all_goals (with_reducible rfl))
        try simp only [Act.put, List.setIfInBounds_toArray, List.set_cons_zero, List.set_cons_succ]
        refine wpAnyH_take (i := 1) (oi := ({ dst := some 28, op := Op.move (Operand.tmp 0), type := 22, pos := "law.go:50", after := #[], guard := none } : Oper)) (v := ?_) rfl (by kernel_rfl) (by kernel_rfl) (by kernel_rfl) (fun _ _ _ h => h) (Or.inl ⟨by rfl, ?_⟩) (by assumption) ?_
        rotate_left; (· intro w hSw; (try dsimp only at hSw); go_simp; all_goals (with_reducible rfl))
        try simp only [Act.put, List.setIfInBounds_toArray, List.set_cons_zero, List.set_cons_succ]
        refine wpAnyH_take (i := 2) (oi := ({ dst := some 29, op := Op.move (Operand.tmp 5), type := 3, pos := "law.go:50", after := #[], guard := none } : Oper)) (v := ?_) rfl (by kernel_rfl) (by kernel_rfl) (by kernel_rfl) (fun _ _ _ h => h) (Or.inl ⟨by rfl, ?_⟩) (by assumption) ?_
        rotate_left; (· intro w hSw; (try dsimp only at hSw); go_simp; all_goals (with_reducible rfl))
        try simp only [Act.put, List.setIfInBounds_toArray, List.set_cons_zero, List.set_cons_succ]
        refine wpAnyH_take (i := 3) (oi := ({ dst := some 30, op := Op.indexAddr 22 (Operand.tmp 28) (Operand.tmp 29), type := 0, pos := "law.go:50", after := #[{ on := 1, ground := Ground.data }, { on := 2, ground := Ground.data }], guard := none } : Oper)) (v := ?_) rfl (by kernel_rfl) (by kernel_rfl) (by kernel_rfl) (fun _ _ _ h => h) (Or.inl ⟨by rfl, ?_⟩) (by assumption) ?_
        rotate_left; (· intro w hSw; (try dsimp only at hSw); go_simp; all_goals (with_reducible rfl))
        try simp only [Act.put, List.setIfInBounds_toArray, List.set_cons_zero, List.set_cons_succ]
        refine wpAnyH_take (i := 6) (oi := ({ dst := some 33, op := Op.move (Operand.tmp 4), type := 27, pos := "law.go:50", after := #[], guard := none } : Oper)) (v := ?_) rfl (by kernel_rfl) (by kernel_rfl) (by kernel_rfl) (fun _ _ _ h => h) (Or.inl ⟨by rfl, ?_⟩) (by assumption) ?_
        rotate_left; (· intro w hSw; (try dsimp only at hSw); go_simp; all_goals (with_reducible rfl))
        try simp only [Act.put, List.setIfInBounds_toArray, List.set_cons_zero, List.set_cons_succ]
        refine wpAnyH_take (i := 7) (oi := ({ dst := some 34, op := Op.move (Operand.tmp 0), type := 22, pos := "law.go:50", after := #[], guard := none } : Oper)) (v := ?_) rfl (by kernel_rfl) (by kernel_rfl) (by kernel_rfl) (fun _ _ _ h => h) (Or.inl ⟨by rfl, ?_⟩) (by assumption) ?_
        rotate_left; (· intro w hSw; (try dsimp only at hSw); go_simp; all_goals (with_reducible rfl))
        try simp only [Act.put, List.setIfInBounds_toArray, List.set_cons_zero, List.set_cons_succ]
        refine wpAnyH_take (i := 8) (oi := ({ dst := some 35, op := Op.move (Operand.tmp 5), type := 3, pos := "law.go:50", after := #[], guard := none } : Oper)) (v := ?_) rfl (by kernel_rfl) (by kernel_rfl) (by kernel_rfl) (fun _ _ _ h => h) (Or.inl ⟨by rfl, ?_⟩) (by assumption) ?_
        rotate_left; (· intro w hSw; (try dsimp only at hSw); go_simp; all_goals (with_reducible rfl))
        try simp only [Act.put, List.setIfInBounds_toArray, List.set_cons_zero, List.set_cons_succ]
        refine wpAnyH_take (i := 9) (oi := ({ dst := some 36, op := Op.indexAddr 22 (Operand.tmp 34) (Operand.tmp 35), type := 0, pos := "law.go:50", after := #[{ on := 7, ground := Ground.data }, { on := 8, ground := Ground.data }], guard := none } : Oper)) (v := ?_) rfl (by kernel_rfl) (by kernel_rfl) (by kernel_rfl) (fun _ _ _ h => h) (Or.inl ⟨by rfl, ?_⟩) (by assumption) ?_
        rotate_left; (· intro w hSw; (try dsimp only at hSw); go_simp; all_goals (with_reducible rfl))
        try simp only [Act.put, List.setIfInBounds_toArray, List.set_cons_zero, List.set_cons_succ]
        refine wpAnyH_take (i := 4) (oi := ({ dst := some 31, op := Op.load 35 (Operand.tmp 30), type := 35, pos := "law.go:50", after := #[{ on := 3, ground := Ground.data }], guard := none } : Oper)) (v := ?_) rfl (by kernel_rfl) (by kernel_rfl) (by kernel_rfl) (fun _ _ _ h => h) (Or.inl ⟨by rfl, ?_⟩) (by assumption) ?_
        rotate_left; (· intro w hSw; (try dsimp only at hSw); go_simp; all_goals (with_reducible rfl))
        try simp only [Act.put, List.setIfInBounds_toArray, List.set_cons_zero, List.set_cons_succ]
        refine wpAnyH_take (i := 10) (oi := ({ dst := some 37, op := Op.load 35 (Operand.tmp 36), type := 35, pos := "law.go:50", after := #[{ on := 9, ground := Ground.data }], guard := none } : Oper)) (v := ?_) rfl (by kernel_rfl) (by kernel_rfl) (by kernel_rfl) (fun _ _ _ h => h) (Or.inl ⟨by rfl, ?_⟩) (by assumption) ?_
        rotate_left; (· intro w hSw; (try dsimp only at hSw); go_simp; all_goals (with_reducible rfl))
        try simp only [Act.put, List.setIfInBounds_toArray, List.set_cons_zero, List.set_cons_succ]
        refine wpAnyH_ready (rs := [5]) (by kernel_rfl) (by simp) ?_
        refine AllReadyH.cons (o := ({ dst := some 32, op := Op.call { callee := Callee.value (Operand.func 12), args := #[Operand.tmp 27, Operand.tmp 31], argTypes := #[23, 35] }, type := 30, pos := "law.go:50", after := #[{ on := 0, ground := Ground.data }, { on := 4, ground := Ground.data }], guard := none } : Oper)) rfl (fun K hK => ?_) AllReadyH.nil
        go_simp
        with_reducible refine (HPI.out _ _ _ HT0.out).mono ?_
        rintro e w3 ⟨rfl, F3, ht3⟩
        clear c0 c1 c2 c3 c4 c5 c6 c7 c8 c9 c10
        obtain ⟨c0, c1, c2, c3, c4, c5, c6, c7, c8, c9, c10⟩ := op_cells (HXK.out _ ht3.mine.bel)
        have HT3 := Go.Lib.hid ht3; clear ht3
        try go_wp2_with fail
        refine hK.out _ _ ?_ (fun hHeld => ?_)
        · exact ⟨c0, c1, c2, c3, c4, c5, c6, c7, c8, c9, c10⟩
        clear hK K
        try simp only [Act.put, List.setIfInBounds_toArray, List.set_cons_zero, List.set_cons_succ]
        refine wpAnyH_ready (rs := [11]) (by kernel_rfl) (by simp) ?_
        refine AllReadyH.cons (o := ({ dst := some 38, op := Op.call { callee := Callee.value (Operand.func 13), args := #[Operand.tmp 33, Operand.tmp 37], argTypes := #[27, 35] }, type := 30, pos := "law.go:50", after := #[{ on := 6, ground := Ground.data }, { on := 10, ground := Ground.data }, { on := 5, ground := Ground.chain }], guard := none } : Oper)) rfl (fun K hK => ?_) AllReadyH.nil
        go_simp
        with_reducible refine (HRF.out _ _ _ HT3.out).mono ?_
        rintro e w4 ⟨rfl, A4, c4', ht4⟩
        clear c0 c1 c2 c3 c4 c5 c6 c7 c8 c9 c10
        obtain ⟨c0, c1, c2, c3, c4, c5, c6, c7, c8, c9, c10⟩ := op_cells (HXK.out _ ht4.mine.bel)
        obtain ⟨r0, r1, -, -⟩ := ht4.ref.cells
        have HT4 := Go.Lib.hid ht4; clear ht4
        try go_wp2_with fail
        refine hK.out _ _ ?_ (fun hHeld => ?_)
        · exact ⟨c0, c1, c2, c3, c4, c5, c6, c7, c8, c9, c10⟩
        clear hK K
        try simp only [Act.put, List.setIfInBounds_toArray, List.set_cons_zero, List.set_cons_succ]
        refine wpAnyH_mono8 (S2 := (fun w' => (w'.cell? ⟨bx, ox + k * 11, none⟩ = some (.int .i64 x.stamp.count) ∧ w'.cell? ⟨bx, ox + k * 11 + 1, none⟩ = some (.int .i64 x.stamp.who) ∧ w'.cell? ⟨bx, ox + k * 11 + 2, none⟩ = some (.int .i64 x.seq) ∧ w'.cell? ⟨bx, ox + k * 11 + 3, none⟩ = some (.int .i64 x.kind) ∧ w'.cell? ⟨bx, ox + k * 11 + 4, none⟩ = some (.int .i64 x.node.count) ∧ w'.cell? ⟨bx, ox + k * 11 + 5, none⟩ = some (.int .i64 x.node.who) ∧ w'.cell? ⟨bx, ox + k * 11 + 6, none⟩ = some (.bool x.dir) ∧ w'.cell? ⟨bx, ox + k * 11 + 7, none⟩ = some (.int .i64 x.parent.count) ∧ w'.cell? ⟨bx, ox + k * 11 + 8, none⟩ = some (.int .i64 x.parent.who) ∧ w'.cell? ⟨bx, ox + k * 11 + 9, none⟩ = some (.string (BS x.name)) ∧ w'.cell? ⟨bx, ox + k * 11 + 10, none⟩ = some (.string (BS x.manifest))) ∧ w'.cell? ⟨rb, 0, none⟩ = some (.slice A4 s1.length c4') ∧ w'.cell? ⟨rb, 1, none⟩ = some (.int .i64 n1))) (fun w h => h.1) _ _ _ _ ?_
        have hHeld2 : (fun w' => (w'.cell? ⟨bx, ox + k * 11, none⟩ = some (.int .i64 x.stamp.count) ∧ w'.cell? ⟨bx, ox + k * 11 + 1, none⟩ = some (.int .i64 x.stamp.who) ∧ w'.cell? ⟨bx, ox + k * 11 + 2, none⟩ = some (.int .i64 x.seq) ∧ w'.cell? ⟨bx, ox + k * 11 + 3, none⟩ = some (.int .i64 x.kind) ∧ w'.cell? ⟨bx, ox + k * 11 + 4, none⟩ = some (.int .i64 x.node.count) ∧ w'.cell? ⟨bx, ox + k * 11 + 5, none⟩ = some (.int .i64 x.node.who) ∧ w'.cell? ⟨bx, ox + k * 11 + 6, none⟩ = some (.bool x.dir) ∧ w'.cell? ⟨bx, ox + k * 11 + 7, none⟩ = some (.int .i64 x.parent.count) ∧ w'.cell? ⟨bx, ox + k * 11 + 8, none⟩ = some (.int .i64 x.parent.who) ∧ w'.cell? ⟨bx, ox + k * 11 + 9, none⟩ = some (.string (BS x.name)) ∧ w'.cell? ⟨bx, ox + k * 11 + 10, none⟩ = some (.string (BS x.manifest))) ∧ w'.cell? ⟨rb, 0, none⟩ = some (.slice A4 s1.length c4') ∧ w'.cell? ⟨rb, 1, none⟩ = some (.int .i64 n1)) w4 := ⟨⟨c0, c1, c2, c3, c4, c5, c6, c7, c8, c9, c10⟩, r0, r1⟩
        refine wpAnyH_take (i := 12) (oi := ({ dst := some 39, op := Op.binOp BinOp.neq 30 (Operand.tmp 32) (Operand.tmp 38) 30, type := 4, pos := "law.go:50", after := #[{ on := 5, ground := Ground.data }, { on := 11, ground := Ground.data }], guard := none } : Oper)) (v := ?_) rfl (by kernel_rfl) (by kernel_rfl) (by kernel_rfl) (fun _ _ _ h => h) (Or.inl ⟨by rfl, ?_⟩) (by assumption) ?_
        rotate_left; (· intro w hSw; (try dsimp only at hSw); go_simp; all_goals (with_reducible rfl))
        try simp only [Act.put, List.setIfInBounds_toArray, List.set_cons_zero, List.set_cons_succ]
        refine wpAnyH_take (i := 13) (oi := ({ dst := some 40, op := Op.move (Operand.tmp 39), type := 4, pos := "law.go:50", after := #[{ on := 12, ground := Ground.data }, { on := 11, ground := Ground.chain }], guard := none } : Oper)) (v := ?_) rfl (by kernel_rfl) (by kernel_rfl) (by kernel_rfl) (fun _ _ _ h => h) (Or.inl ⟨by rfl, ?_⟩) (by assumption) ?_
        rotate_left; (· intro w hSw; (try dsimp only at hSw); go_simp; all_goals (with_reducible rfl))
        try simp only [Act.put, List.setIfInBounds_toArray, List.set_cons_zero, List.set_cons_succ]
        refine wpAnyH_take (i := 14) (oi := ({ dst := some 41, op := Op.move (Operand.tmp 3), type := 23, pos := "law.go:50", after := #[{ on := 13, ground := Ground.guard }], guard := some (13, false) } : Oper)) (v := ?_) rfl (by kernel_rfl) (by kernel_rfl) (by kernel_rfl) (fun _ _ _ h => h) (Or.inl ⟨by rfl, ?_⟩) (by assumption) ?_
        rotate_left; (· intro w hSw; (try dsimp only at hSw); go_simp; all_goals (with_reducible rfl))
        try simp only [Act.put, List.setIfInBounds_toArray, List.set_cons_zero, List.set_cons_succ]
        refine wpAnyH_take (i := 16) (oi := ({ dst := some 43, op := Op.move (Operand.tmp 4), type := 27, pos := "law.go:50", after := #[{ on := 13, ground := Ground.guard }], guard := some (13, false) } : Oper)) (v := ?_) rfl (by kernel_rfl) (by kernel_rfl) (by kernel_rfl) (fun _ _ _ h => h) (Or.inl ⟨by rfl, ?_⟩) (by assumption) ?_
        rotate_left; (· intro w hSw; (try dsimp only at hSw); go_simp; all_goals (with_reducible rfl))
        try simp only [Act.put, List.setIfInBounds_toArray, List.set_cons_zero, List.set_cons_succ]
        refine wpAnyH_take (i := 17) (oi := ({ dst := some 44, op := Op.nilCheck (Operand.tmp 43), type := 0, pos := "law.go:50", after := #[{ on := 16, ground := Ground.data }, { on := 13, ground := Ground.guard }], guard := some (13, false) } : Oper)) (v := ?_) rfl (by kernel_rfl) (by kernel_rfl) (by kernel_rfl) (fun _ _ _ h => h) (Or.inl ⟨by rfl, ?_⟩) (by assumption) ?_
        rotate_left; (· intro w hSw; (try dsimp only at hSw); go_simp; all_goals (with_reducible rfl))
        try simp only [Act.put, List.setIfInBounds_toArray, List.set_cons_zero, List.set_cons_succ]
        refine wpAnyH_take (i := 18) (oi := ({ dst := some 45, op := Op.fieldAddr 29 (Operand.tmp 44) 0, type := 0, pos := "law.go:50", after := #[{ on := 17, ground := Ground.data }, { on := 13, ground := Ground.guard }], guard := some (13, false) } : Oper)) (v := ?_) rfl (by kernel_rfl) (by kernel_rfl) (by kernel_rfl) (fun _ _ _ h => h) (Or.inl ⟨by rfl, ?_⟩) (by assumption) ?_
        rotate_left; (· intro w hSw; (try dsimp only at hSw); go_simp; all_goals (with_reducible rfl))
        try simp only [Act.put, List.setIfInBounds_toArray, List.set_cons_zero, List.set_cons_succ]
        refine wpAnyH_take (i := 19) (oi := ({ dst := some 46, op := Op.load 22 (Operand.tmp 45), type := 22, pos := "law.go:50", after := #[{ on := 18, ground := Ground.data }, { on := 13, ground := Ground.guard }], guard := some (13, false) } : Oper)) (v := ?_) rfl (by kernel_rfl) (by kernel_rfl) (by kernel_rfl) (fun _ _ _ h => h) (Or.inl ⟨by rfl, ?_⟩) (by assumption) ?_
        rotate_left; (· intro w hSw; (try dsimp only at hSw); go_simp; all_goals (with_reducible rfl))
        try simp only [Act.put, List.setIfInBounds_toArray, List.set_cons_zero, List.set_cons_succ]
        refine wpAnyH_ready (rs := [15]) (by kernel_rfl) (by simp) ?_
        refine AllReadyH.cons (o := ({ dst := some 42, op := Op.call { callee := Callee.value (Operand.func 15), args := #[Operand.tmp 41], argTypes := #[23] }, type := 22, pos := "law.go:50", after := #[{ on := 14, ground := Ground.data }, { on := 13, ground := Ground.chain }, { on := 13, ground := Ground.guard }], guard := some (13, false) } : Oper)) rfl (fun K hK => ?_) AllReadyH.nil
        go_simp
        with_reducible refine (HPO.out _ _ _ _ HT4.out).mono ?_
        rintro e w5 ⟨v5, F5, rfl, ho5, ht5⟩
        clear r0 r1 c0 c1 c2 c3 c4 c5 c6 c7 c8 c9 c10
        obtain ⟨c0, c1, c2, c3, c4, c5, c6, c7, c8, c9, c10⟩ := op_cells (HXK.out _ ht5.mine.bel)
        obtain ⟨r0, r1, -, -⟩ := ht5.ref.cells
        have HT5 := Go.Lib.hid ht5; have HO5 := Go.Lib.hid ho5; clear ht5 ho5
        try go_wp2_with fail
        refine hK.out _ _ ?_ (fun hHeld => ?_)
        · exact ⟨⟨c0, c1, c2, c3, c4, c5, c6, c7, c8, c9, c10⟩, r0, r1⟩
        clear hK K
        try simp only [Act.put, List.setIfInBounds_toArray, List.set_cons_zero, List.set_cons_succ]
        refine wpAnyH_ready (rs := [20]) (by kernel_rfl) (by simp) ?_
        refine AllReadyH.cons (o := ({ dst := some 47, op := Op.call { callee := Callee.value (Operand.func 14), args := #[Operand.tmp 42, Operand.tmp 46], argTypes := #[22, 22] }, type := 4, pos := "law.go:50", after := #[{ on := 15, ground := Ground.data }, { on := 19, ground := Ground.data }, { on := 15, ground := Ground.chain }, { on := 13, ground := Ground.guard }], guard := some (13, false) } : Oper)) rfl (fun K hK => ?_) AllReadyH.nil
        go_simp
        with_reducible refine (HSO.out _ _ _ HO5.out HT5.out.ops).mono ?_
        rintro e w6 ⟨rfl, hb⟩
        have ht6 := HT5.out.more hb
        clear r0 r1 c0 c1 c2 c3 c4 c5 c6 c7 c8 c9 c10
        obtain ⟨c0, c1, c2, c3, c4, c5, c6, c7, c8, c9, c10⟩ := op_cells (HXK.out _ ht6.mine.bel)
        obtain ⟨r0, r1, -, -⟩ := ht6.ref.cells
        have HT6 := Go.Lib.hid ht6; clear ht6 hb
        try go_wp2_with fail
        refine hK.out _ _ ?_ (fun hHeld => ?_)
        · exact ⟨⟨c0, c1, c2, c3, c4, c5, c6, c7, c8, c9, c10⟩, r0, r1⟩
        clear hK K
        try simp only [Act.put, List.setIfInBounds_toArray, List.set_cons_zero, List.set_cons_succ]
        refine wpAnyH_take (i := 21) (oi := ({ dst := some 48, op := Op.unOp UnOp.not 4 (Operand.tmp 47), type := 4, pos := "law.go:50", after := #[{ on := 20, ground := Ground.data }, { on := 13, ground := Ground.guard }], guard := some (13, false) } : Oper)) (v := ?_) rfl (by kernel_rfl) (by kernel_rfl) (by kernel_rfl) (fun _ _ _ h => h) (Or.inl ⟨by rfl, ?_⟩) (by assumption) ?_
        rotate_left; (· intro w hSw; (try dsimp only at hSw); go_simp; all_goals (with_reducible rfl))
        try simp only [Act.put, List.setIfInBounds_toArray, List.set_cons_zero, List.set_cons_succ]
        refine wpAnyH_take (i := 22) (oi := ({ dst := some 49, op := Op.pick (Operand.tmp 40) (Operand.const (Value.bool true)) (Operand.tmp 48), type := 4, pos := "law.go:50", after := #[{ on := 13, ground := Ground.data }, { on := 21, ground := Ground.data }], guard := none } : Oper)) (v := ?_) rfl (by kernel_rfl) (by kernel_rfl) (by kernel_rfl) (fun _ _ _ h => h) (Or.inl ⟨by rfl, ?_⟩) (by assumption) ?_
        rotate_left; (· intro w hSw; (try dsimp only at hSw); go_simp; all_goals (with_reducible rfl))
        try simp only [Act.put, List.setIfInBounds_toArray, List.set_cons_zero, List.set_cons_succ]
        refine wpAnyH_take (i := 23) (oi := ({ dst := some 50, op := Op.move (Operand.tmp 49), type := 4, pos := "law.go:50", after := #[{ on := 22, ground := Ground.data }, { on := 20, ground := Ground.chain }], guard := none } : Oper)) (v := ?_) rfl (by kernel_rfl) (by kernel_rfl) (by kernel_rfl) (fun _ _ _ h => h) (Or.inl ⟨by rfl, ?_⟩) (by assumption) ?_
        rotate_left; (· intro w hSw; (try dsimp only at hSw); go_simp; all_goals (with_reducible rfl))
        try simp only [Act.put, List.setIfInBounds_toArray, List.set_cons_zero, List.set_cons_succ]
        refine wpAnyH_take (i := 24) (oi := ({ dst := some 51, op := Op.move (Operand.tmp 3), type := 23, pos := "law.go:50", after := #[{ on := 23, ground := Ground.guard }], guard := some (23, false) } : Oper)) (v := ?_) rfl (by kernel_rfl) (by kernel_rfl) (by kernel_rfl) (fun _ _ _ h => h) (Or.inl ⟨by rfl, ?_⟩) (by assumption) ?_
        rotate_left; (· intro w hSw; (try dsimp only at hSw); go_simp; all_goals (with_reducible rfl))
        try simp only [Act.put, List.setIfInBounds_toArray, List.set_cons_zero, List.set_cons_succ]
        refine wpAnyH_take (i := 26) (oi := ({ dst := some 53, op := Op.move (Operand.tmp 4), type := 27, pos := "law.go:50", after := #[{ on := 23, ground := Ground.guard }], guard := some (23, false) } : Oper)) (v := ?_) rfl (by kernel_rfl) (by kernel_rfl) (by kernel_rfl) (fun _ _ _ h => h) (Or.inl ⟨by rfl, ?_⟩) (by assumption) ?_
        rotate_left; (· intro w hSw; (try dsimp only at hSw); go_simp; all_goals (with_reducible rfl))
        try simp only [Act.put, List.setIfInBounds_toArray, List.set_cons_zero, List.set_cons_succ]
        refine wpAnyH_take (i := 27) (oi := ({ dst := some 54, op := Op.nilCheck (Operand.tmp 53), type := 0, pos := "law.go:50", after := #[{ on := 26, ground := Ground.data }, { on := 23, ground := Ground.guard }], guard := some (23, false) } : Oper)) (v := ?_) rfl (by kernel_rfl) (by kernel_rfl) (by kernel_rfl) (fun _ _ _ h => h) (Or.inl ⟨by rfl, ?_⟩) (by assumption) ?_
        rotate_left; (· intro w hSw; (try dsimp only at hSw); go_simp; all_goals (with_reducible rfl))
        try simp only [Act.put, List.setIfInBounds_toArray, List.set_cons_zero, List.set_cons_succ]
        refine wpAnyH_take (i := 28) (oi := ({ dst := some 55, op := Op.fieldAddr 29 (Operand.tmp 54) 1, type := 0, pos := "law.go:50", after := #[{ on := 27, ground := Ground.data }, { on := 23, ground := Ground.guard }], guard := some (23, false) } : Oper)) (v := ?_) rfl (by kernel_rfl) (by kernel_rfl) (by kernel_rfl) (fun _ _ _ h => h) (Or.inl ⟨by rfl, ?_⟩) (by assumption) ?_
        rotate_left; (· intro w hSw; (try dsimp only at hSw); go_simp; all_goals (with_reducible rfl))
        try simp only [Act.put, List.setIfInBounds_toArray, List.set_cons_zero, List.set_cons_succ]
        refine wpAnyH_take (i := 29) (oi := ({ dst := some 56, op := Op.load 3 (Operand.tmp 55), type := 3, pos := "law.go:50", after := #[{ on := 28, ground := Ground.data }, { on := 23, ground := Ground.guard }], guard := some (23, false) } : Oper)) (v := ?_) rfl (by kernel_rfl) (by kernel_rfl) (by kernel_rfl) (fun _ _ _ h => h) (Or.inl ⟨by rfl, ?_⟩) (by assumption) ?_
        rotate_left; (· intro w hSw; (try dsimp only at hSw); go_simp; all_goals (with_reducible rfl))
        try simp only [Act.put, List.setIfInBounds_toArray, List.set_cons_zero, List.set_cons_succ]
        refine wpAnyH_ready (rs := [25]) (by kernel_rfl) (by simp) ?_
        refine AllReadyH.cons (o := ({ dst := some 52, op := Op.call { callee := Callee.value (Operand.func 16), args := #[Operand.tmp 51], argTypes := #[23] }, type := 3, pos := "law.go:50", after := #[{ on := 24, ground := Ground.data }, { on := 23, ground := Ground.chain }, { on := 23, ground := Ground.guard }], guard := some (23, false) } : Oper)) rfl (fun K hK => ?_) AllReadyH.nil
        go_simp
        with_reducible refine (predone_st _ _ _ _ _ HT6.out.mine.st).mono ?_
        rintro e w7 ⟨rfl, hb⟩
        have ht7 := HT6.out.more hb
        clear r0 r1 c0 c1 c2 c3 c4 c5 c6 c7 c8 c9 c10
        obtain ⟨c0, c1, c2, c3, c4, c5, c6, c7, c8, c9, c10⟩ := op_cells (HXK.out _ ht7.mine.bel)
        obtain ⟨r0, r1, -, -⟩ := ht7.ref.cells
        have HT7 := Go.Lib.hid ht7; clear ht7 hb
        try go_wp2_with fail
        refine hK.out _ _ ?_ (fun hHeld => ?_)
        · exact ⟨⟨c0, c1, c2, c3, c4, c5, c6, c7, c8, c9, c10⟩, r0, r1⟩
        clear hK K
        try simp only [Act.put, List.setIfInBounds_toArray, List.set_cons_zero, List.set_cons_succ]
        refine wpAnyH_take (i := 30) (oi := ({ dst := some 57, op := Op.binOp BinOp.neq 3 (Operand.tmp 52) (Operand.tmp 56) 3, type := 4, pos := "law.go:50", after := #[{ on := 25, ground := Ground.data }, { on := 29, ground := Ground.data }, { on := 23, ground := Ground.guard }], guard := some (23, false) } : Oper)) (v := ?_) rfl (by kernel_rfl) (by kernel_rfl) (by kernel_rfl) (fun _ _ _ h => h) (Or.inl ⟨by rfl, ?_⟩) (by assumption) ?_
        rotate_left; (· intro w hSw; (try dsimp only at hSw); go_simp; all_goals (with_reducible rfl))
        try simp only [Act.put, List.setIfInBounds_toArray, List.set_cons_zero, List.set_cons_succ]
        refine wpAnyH_take (i := 31) (oi := ({ dst := some 58, op := Op.pick (Operand.tmp 50) (Operand.const (Value.bool true)) (Operand.tmp 57), type := 4, pos := "law.go:50", after := #[{ on := 23, ground := Ground.data }, { on := 30, ground := Ground.data }], guard := none } : Oper)) (v := ?_) rfl (by kernel_rfl) (by kernel_rfl) (by kernel_rfl) (fun _ _ _ h => h) (Or.inl ⟨by rfl, ?_⟩) (by assumption) ?_
        rotate_left; (· intro w hSw; (try dsimp only at hSw); go_simp; all_goals (with_reducible rfl))
        try simp only [Act.put, List.setIfInBounds_toArray, List.set_cons_zero, List.set_cons_succ]
        refine wpAnyH_take (i := 32) (oi := ({ dst := some 59, op := Op.move (Operand.tmp 58), type := 4, pos := "law.go:50", after := #[{ on := 31, ground := Ground.data }, { on := 25, ground := Ground.chain }], guard := none } : Oper)) (v := ?_) rfl (by kernel_rfl) (by kernel_rfl) (by kernel_rfl) (fun _ _ _ h => h) (Or.inl ⟨by rfl, ?_⟩) (by assumption) ?_
        rotate_left; (· intro w hSw; (try dsimp only at hSw); go_simp; all_goals (with_reducible rfl))
        try simp only [Act.put, List.setIfInBounds_toArray, List.set_cons_zero, List.set_cons_succ]
        refine wpAnyH_take (i := 33) (oi := ({ dst := some 60, op := Op.move (Operand.tmp 3), type := 23, pos := "law.go:50", after := #[{ on := 32, ground := Ground.guard }], guard := some (32, false) } : Oper)) (v := ?_) rfl (by kernel_rfl) (by kernel_rfl) (by kernel_rfl) (fun _ _ _ h => h) (Or.inl ⟨by rfl, ?_⟩) (by assumption) ?_
        rotate_left; (· intro w hSw; (try dsimp only at hSw); go_simp; all_goals (with_reducible rfl))
        try simp only [Act.put, List.setIfInBounds_toArray, List.set_cons_zero, List.set_cons_succ]
        refine wpAnyH_take (i := 35) (oi := ({ dst := some 62, op := Op.move (Operand.tmp 4), type := 27, pos := "law.go:50", after := #[{ on := 32, ground := Ground.guard }], guard := some (32, false) } : Oper)) (v := ?_) rfl (by kernel_rfl) (by kernel_rfl) (by kernel_rfl) (fun _ _ _ h => h) (Or.inl ⟨by rfl, ?_⟩) (by assumption) ?_
        rotate_left; (· intro w hSw; (try dsimp only at hSw); go_simp; all_goals (with_reducible rfl))
        try simp only [Act.put, List.setIfInBounds_toArray, List.set_cons_zero, List.set_cons_succ]
        refine wpAnyH_ready (rs := [34]) (by kernel_rfl) (by simp) ?_
        refine AllReadyH.cons (o := ({ dst := some 61, op := Op.call { callee := Callee.value (Operand.func 18), args := #[Operand.tmp 60], argTypes := #[23] }, type := 40, pos := "law.go:50", after := #[{ on := 33, ground := Ground.data }, { on := 32, ground := Ground.chain }, { on := 32, ground := Ground.guard }], guard := some (32, false) } : Oper)) rfl (fun K hK => ?_) AllReadyH.nil
        go_simp
        with_reducible refine (HPN.out _ _ _ _ HT7.out).mono ?_
        rintro e w8 ⟨v8, F8, rfl, hn8, ht8⟩
        clear r0 r1 c0 c1 c2 c3 c4 c5 c6 c7 c8 c9 c10
        obtain ⟨c0, c1, c2, c3, c4, c5, c6, c7, c8, c9, c10⟩ := op_cells (HXK.out _ ht8.mine.bel)
        obtain ⟨r0, r1, -, -⟩ := ht8.ref.cells
        have HT8 := Go.Lib.hid ht8; have HN8 := Go.Lib.hid hn8; clear ht8 hn8
        try go_wp2_with fail
        refine hK.out _ _ ?_ (fun hHeld => ?_)
        · exact ⟨⟨c0, c1, c2, c3, c4, c5, c6, c7, c8, c9, c10⟩, r0, r1⟩
        clear hK K
        try simp only [Act.put, List.setIfInBounds_toArray, List.set_cons_zero, List.set_cons_succ]
        refine wpAnyH_ready (rs := [36]) (by kernel_rfl) (by simp) ?_
        refine AllReadyH.cons (o := ({ dst := some 63, op := Op.call { callee := Callee.value (Operand.func 19), args := #[Operand.tmp 62], argTypes := #[27] }, type := 40, pos := "law.go:50", after := #[{ on := 35, ground := Ground.data }, { on := 34, ground := Ground.chain }, { on := 32, ground := Ground.guard }], guard := some (32, false) } : Oper)) rfl (fun K hK => ?_) AllReadyH.nil
        go_simp
        with_reducible refine (HRN.out _ _ HT8.out.ref HT8.out.ops).mono ?_
        rintro e w9 ⟨v9, rfl, hn9, hb⟩
        have ht9 := HT8.out.more hb; have HN89 := Go.Lib.hid (HN8.out.below hb); have HN9 := Go.Lib.hid hn9; clear hb hn9
        clear r0 r1 c0 c1 c2 c3 c4 c5 c6 c7 c8 c9 c10
        obtain ⟨c0, c1, c2, c3, c4, c5, c6, c7, c8, c9, c10⟩ := op_cells (HXK.out _ ht9.mine.bel)
        obtain ⟨r0, r1, -, -⟩ := ht9.ref.cells
        have HT9 := Go.Lib.hid ht9; clear ht9
        try go_wp2_with fail
        refine hK.out _ _ ?_ (fun hHeld => ?_)
        · exact ⟨⟨c0, c1, c2, c3, c4, c5, c6, c7, c8, c9, c10⟩, r0, r1⟩
        clear hK K
        try simp only [Act.put, List.setIfInBounds_toArray, List.set_cons_zero, List.set_cons_succ]
        refine wpAnyH_ready (rs := [37]) (by kernel_rfl) (by simp) ?_
        refine AllReadyH.cons (o := ({ dst := some 64, op := Op.call { callee := Callee.value (Operand.func 17), args := #[Operand.tmp 61, Operand.tmp 63], argTypes := #[40, 40] }, type := 4, pos := "law.go:50", after := #[{ on := 34, ground := Ground.data }, { on := 36, ground := Ground.data }, { on := 36, ground := Ground.chain }, { on := 32, ground := Ground.guard }], guard := some (32, false) } : Oper)) rfl (fun K hK => ?_) AllReadyH.nil
        go_simp
        with_reducible refine (HSN.out _ _ _ HN89.out HN9.out).mono ?_
        rintro e w10 ⟨rfl, hb⟩
        have ht10 := HT9.out.more hb; clear hb
        clear r0 r1 c0 c1 c2 c3 c4 c5 c6 c7 c8 c9 c10
        obtain ⟨c0, c1, c2, c3, c4, c5, c6, c7, c8, c9, c10⟩ := op_cells (HXK.out _ ht10.mine.bel)
        obtain ⟨r0, r1, -, -⟩ := ht10.ref.cells
        have HT10 := Go.Lib.hid ht10; clear ht10
        try go_wp2_with fail
        refine hK.out _ _ ?_ (fun hHeld => ?_)
        · exact ⟨⟨c0, c1, c2, c3, c4, c5, c6, c7, c8, c9, c10⟩, r0, r1⟩
        clear hK K
        try simp only [Act.put, List.setIfInBounds_toArray, List.set_cons_zero, List.set_cons_succ]
        refine wpAnyH_take (i := 38) (oi := ({ dst := some 65, op := Op.unOp UnOp.not 4 (Operand.tmp 64), type := 4, pos := "law.go:50", after := #[{ on := 37, ground := Ground.data }, { on := 32, ground := Ground.guard }], guard := some (32, false) } : Oper)) (v := ?_) rfl (by kernel_rfl) (by kernel_rfl) (by kernel_rfl) (fun _ _ _ h => h) (Or.inl ⟨by rfl, ?_⟩) (by assumption) ?_
        rotate_left; (· intro w hSw; (try dsimp only at hSw); go_simp; all_goals (with_reducible rfl))
        try simp only [Act.put, List.setIfInBounds_toArray, List.set_cons_zero, List.set_cons_succ]
        refine wpAnyH_take (i := 39) (oi := ({ dst := some 66, op := Op.pick (Operand.tmp 59) (Operand.const (Value.bool true)) (Operand.tmp 65), type := 4, pos := "law.go:50", after := #[{ on := 32, ground := Ground.data }, { on := 38, ground := Ground.data }], guard := none } : Oper)) (v := ?_) rfl (by kernel_rfl) (by kernel_rfl) (by kernel_rfl) (fun _ _ _ h => h) (Or.inl ⟨by rfl, ?_⟩) (by assumption) ?_
        rotate_left; (· intro w hSw; (try dsimp only at hSw); go_simp; all_goals (with_reducible rfl))
        try simp only [Act.put, List.setIfInBounds_toArray, List.set_cons_zero, List.set_cons_succ]
        refine wpAnyH_done (by kernel_rfl) ?_ _
        all_goals (
          go_wp2_with fail
          exact ⟨⟨k + 1, _, _, _, by omega, by simp, by rw [HST.out]; exact HT10.out⟩, by simp [intOf]; omega⟩)
      · obtain rfl : k = N := by omega
        have HB := Go.Lib.hid htwo.mine.bel
        clear htwo
        go_wp2_with fail
        refine (awake8_any _ (HTM.out.on HB.out)).mono ?_; rintro e V3 ⟨rfl, hb⟩
        have HB3 := Go.Lib.hid (bstep HB.out hb); clear hb
        go_wp2_with fail
        go_ret
        exact ⟨rfl, HB3.out⟩
theorem movePlays_walk (A : Option Addr) (n c : Nat) (l : List Opn) (w : World) (hs : Sl w 11 A n c (l.map opCells)) (_ : c * 104 ≤ 140737488351232) (hl : ∀ y ∈ l, opWf y) (_ : l.length = n) (hTM : Met w) :
    Calls Tryd.prog 3 #[.slice A n c] w fun e w' => e = .returned (.bool true) ∧ Below w.heap.size w w' :=
  movePlays_go _ l w (Opns.of_sl hs) hl hTM
end Go.Proofs.YtjeijolblcodpaaDoor.W
