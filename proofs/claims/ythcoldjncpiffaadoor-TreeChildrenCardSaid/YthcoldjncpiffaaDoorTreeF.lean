/- The walks of layer 7's laws: TreeChildren. -/
import Derived.Test.YthcoldjncpiffaaDoorTreeD
namespace Go.Proofs.YthcoldjncpiffaaDoor.W
set_option linter.unusedVariables false
open Go.RowKit Go.Proofs Arb

set_option maxRecDepth 20000 in
set_option maxHeartbeats 8000000 in
theorem treeChildren_go (v : Value) (l : List Nod) (s : St) (w : World) (h : Nods w v l) (hwf : ∀ x ∈ l, ndWf x) (hTM : TMet w) :
    Calls Tryd.prog 10 #[v, .agg #[.int .i64 s.count, .int .i64 s.who]] w fun e w' => e = .returned (.bool true) ∧ Below w.heap.size w w' := by
  have HTM := Go.Lib.hid hTM
  clear hTM
  have hb0 : Below w.heap.size w (w.alloc (.cells #[.int .i64 s.count, .int .i64 s.who] 30)) := (Below.refl _ _).alloc (Nat.le_refl _) _
  obtain ⟨W0, hW0⟩ : ∃ W, w.alloc (.cells #[.int .i64 s.count, .int .i64 s.who] 30) = W := ⟨_, rfl⟩
  have hst0' : StAt W0 w.heap.size 0 s := by rw [← hW0]; exact StAt.new w s _
  rw [hW0] at hb0
  have hv0 := h.below hb0
  have hF := fun w h => some7_any v l w h (ndWf_len hwf)
  obtain ⟨b, hb⟩ : ∃ b, some7 l = b := ⟨_, rfl⟩
  rw [hb] at hF
  have HF := Go.Lib.hid hF; have HV := Go.Lib.hid hv0; have HW0 := Go.Lib.hid hW0; have HB0 := Go.Lib.hid hb0; have HST := Go.Lib.hid hst0'
  clear hF hv0 hW0 hb0 hst0'
  cases b
  · clear hb h
    go_enter Tryd.func10, Tryd.ntmps10
    go_wp2_with fail
    rw [HW0.out]
    have hne := BW.ne W0.heap.size W0
    have hsz : ∀ z : BW W0.heap.size W0, Calls Tryd.prog 16 #[v] z.w fun e w' => e = .returned (.bool false) ∧ w' = z.w := fun z => (HF.out _ (HV.out.below z.2)).mono fun _ _ h => ⟨h.1, h.2.symm⟩
    have HSZ := Go.Lib.hid hsz; clear hsz
    have htz : ∀ z : BW W0.heap.size W0, TMet z.w := fun z => HTM.out.on (bstep HB0.out z.2)
    have HTZ := Go.Lib.hid htz; clear htz
    refine wp_region_calm W0.heap.size W0 (Below.refl _ _) (by kernel_rfl) (by kernel_rfl) ?_
    repeat (go_big_quiet_step (first
      | (go_at_call 16; with_reducible exact bw_same (HSZ.out _))
      | (go_at_call 15; with_reducible exact bw_of (Nat.le_refl _) (awake_any _ (HTZ.out _)))))
    refine wpQuiet_nil ?_
    intro _ hw'
    obtain ⟨z, rfl⟩ := hw'
    go_wp2_with fail
    go_ret
    exact ⟨rfl, bstep HB0.out z.2⟩
  · have hln := (some7_true hb).1
    have hcl := children_length l s
    have hP := fun w h => ptchildren_any v l s w h (by omega) hwf
    have hR := fun w h => rchildren7_any v l s w h (by omega)
    have hS := fun u v w hu hv => rsamends_any u v (childrenOf l s) (childrenOf l s) w hu hv (by omega) (by omega)
    rw [decide_eq_true rfl] at hS
    have HP := Go.Lib.hid hP; have HR := Go.Lib.hid hR; have HS := Go.Lib.hid hS
    clear hP hR hS hb h hwf
    obtain ⟨c0, c1⟩ := st_cells0 HST.out
    have hvd := HV.out.below (Below.refl W0.heap.size W0).drew
    have hbd : Below w.heap.size w W0.drew := HB0.out.drew
    have hsd := HST.out.below (Below.refl W0.heap.size W0).drew
    have HVD := Go.Lib.hid hvd; have HBD := Go.Lib.hid hbd; have HSD := Go.Lib.hid hsd
    clear hvd hbd hsd
    go_enter Tryd.func10, Tryd.ntmps10
    go_wp2_with fail
    rw [HW0.out]
    first | (go_region_with (first
      | (go_at_call 16; with_reducible refine (HF.out _ HVD.out).mono ?_; rintro e w1 ⟨rfl, rfl⟩)
      | (go_at_call 24; with_reducible refine (HP.out _ HVD.out).mono ?_; rintro e w2 ⟨v2, rfl, hn2, hb⟩; have HN2 := Go.Lib.hid hn2; have HV2 := Go.Lib.hid (HVD.out.below hb); have HB2 := Go.Lib.hid (bstep HBD.out hb); have hs2 := HSD.out.below hb; obtain ⟨d0, d1⟩ := st_cells0 hs2; have HS2 := Go.Lib.hid hs2; clear hb hn2 hs2)
      | (go_at_call 25; with_reducible refine (HR.out _ HV2.out).mono ?_; rintro e w3 ⟨v3, rfl, hn3, hb⟩; have HN3 := Go.Lib.hid hn3; have HN23 := Go.Lib.hid (HN2.out.below hb); have HB3 := Go.Lib.hid (bstep HB2.out hb); clear hb hn3)
      | (go_at_call 12; with_reducible refine (HS.out _ _ _ HN23.out HN3.out).mono ?_; rintro e w4 ⟨rfl, hb⟩; have HB4 := Go.Lib.hid (bstep HB3.out hb); clear hb)
      | (go_at_call 15; with_reducible refine (awake_any _ (by first | exact HTM.out | exact HTM.out.far (by assumption))).mono ?_; rintro e w5 ⟨rfl, hb⟩; have HB5 := Go.Lib.hid (bstep HB4.out hb); clear hb))) | fail
    all_goals (
      go_wp2_with fail
      go_ret
      exact ⟨rfl, HB5.out⟩)
theorem treeChildren_walk (A : Option Addr) (n c : Nat) (l : List Nod) (w : World) (hs : Sl w 7 A n c (l.map ndCells)) (_ : c * 72 ≤ 140737488351232) (hl : ∀ y ∈ l, ndWf y) (_ : l.length = n) (s : St) (_ : stWf s) (hTM : TMet w) :
    Calls Tryd.prog 10 #[.slice A n c, .agg (stCells s).toArray] w fun e w' => e = .returned (.bool true) ∧ Below w.heap.size w w' :=
  treeChildren_go _ l s w (Nods.of_sl hs) hl hTM
end Go.Proofs.YthcoldjncpiffaaDoor.W
