/- The program's trees: mayMove. -/
import Derived.Test.YtjeijolblcodpaaDoorTreePD
import Derived.Test.YtjeijolblcodpaaDoorMg8
import Derived.Deep.RegionWith
namespace Go.Proofs.YtjeijolblcodpaaDoor.W
set_option maxRecDepth 20000
set_option linter.unusedVariables false
open Go.RowKit Go.Proofs Arb

set_option maxRecDepth 20000 in
set_option maxHeartbeats 16000000 in
theorem pmayMove_any (v : Value) (l : List Nod) (x : Opn) (w : World) (h : Nods w v l) (hl : l.length ≤ 1000) (hwf : ∀ n ∈ l, ndWf n) (hT : TMet w) :
    Calls Tryd.prog 50 #[v, opVal x] w fun e w' => e = .returned (.bool (mayOf l x.parent && !decide (x.node ∈ chainOf l x.parent))) ∧ Below w.heap.size w w' := by
  have hB : Below w.heap.size w (w.alloc (.cells (opArr x) 35)) := (Below.refl _ _).alloc (Nat.le_refl _) _
  have hop := OpAt.new w x 35
  have hv := h.below hB
  have hT1 := hT.on hB
  have hmay := fun w h hT => pmayHold_any v l x.parent w h (by omega) hT
  have hchain := fun w h => ptchain_any v l x.parent w h hl hwf
  have hchl := chainOf_length l x.parent
  have hhas := fun w u h => pcontains_any u (chainOf l x.parent) x.node w h (by omega)
  obtain ⟨ch, hch⟩ : ∃ c, chainOf l x.parent = c := ⟨_, rfl⟩
  obtain ⟨mb, hmb⟩ : ∃ b, mayOf l x.parent = b := ⟨_, rfl⟩
  obtain ⟨ib, hib⟩ : ∃ b, decide (x.node ∈ ch) = b := ⟨_, rfl⟩
  rw [hch] at hhas hchain ⊢
  rw [hib] at hhas ⊢
  rw [hmb] at hmay ⊢
  unfold opVal
  obtain ⟨W, hW⟩ : ∃ W, w.alloc (.cells (opArr x) 35) = W := ⟨_, rfl⟩
  rw [hW] at hB hop hv hT1
  unfold opArr opCells at hW ⊢
  have HMAY := Go.Lib.hid hmay; have HCHAIN := Go.Lib.hid hchain; have HHAS := Go.Lib.hid hhas; have HB := Go.Lib.hid hB; have HOP := Go.Lib.hid hop; have HV := Go.Lib.hid hv; have HW := Go.Lib.hid hW; have HT := Go.Lib.hid hT1
  clear hmay hchain hhas hB hop hv hW hT1 hT h hmb hch hchl hib hwf
  go_enter Tryd.func50, Tryd.ntmps50
  go_wp2_with fail
  rw [HW.out]
  go_wp2_with fail
  cases mb
  · obtain ⟨c0, c1, c2, c3, c4, c5, c6, c7, c8, c9, c10⟩ := op_cells0 HOP.out
    have hne := BW.ne W.heap.size W
    have hlx := HOP.out.lt
    have q7 := fun z : BW W.heap.size W => z.cell c7 hlx
    have q8 := fun z : BW W.heap.size W => z.cell c8 hlx
    have hmz : ∀ z : BW W.heap.size W, Calls Tryd.prog 72 #[v, .agg #[.int .i64 x.parent.count, .int .i64 x.parent.who]] z.w fun e w' => e = .returned (.bool false) ∧ Below z.w.heap.size z.w w' := fun z => HMAY.out _ (HV.out.below z.2) (HT.out.on z.2)
    have HMZ := Go.Lib.hid hmz; clear hmz
    refine wp_region_calm W.heap.size W (Below.refl _ _) (by kernel_rfl) (by kernel_rfl) ?_
    repeat (go_big_quiet_step ((go_at_call 72; with_reducible exact bw_of (Nat.le_refl _) (HMZ.out _))))
    refine wpQuiet_nil ?_
    intro _ hw'
    obtain ⟨z, rfl⟩ := hw'
    have HB4 := Go.Lib.hid (bstep HB.out z.2)
    go_wp2_with fail
    go_ret
    exact ⟨rfl, HB4.out⟩
  · have hv2d := HV.out.below (Below.refl W.heap.size W).drew
    have hop2d : OpAt W.drew w.heap.size 0 x := HOP.out.below (Below.refl W.heap.size W).drew
    have hbl2d : Below w.heap.size w W.drew := HB.out.drew
    have ht2d := HT.out.on (Below.refl W.heap.size W).drew
    obtain ⟨c0, c1, c2, c3, c4, c5, c6, c7, c8, c9, c10⟩ := op_cells0 HOP.out
    have HV2D := Go.Lib.hid hv2d; have HOP2D := Go.Lib.hid hop2d; have HBL2D := Go.Lib.hid hbl2d; have HT2D := Go.Lib.hid ht2d
    clear hv2d hop2d hbl2d ht2d
    first | (go_region_with (first
      | (go_at_call 72; with_reducible refine (HMAY.out _ HV2D.out HT2D.out).mono ?_; rintro e w4 ⟨rfl, hb4⟩; have HV4 := Go.Lib.hid (HV2D.out.below hb4); have HOP4 := Go.Lib.hid (HOP2D.out.below hb4); have HB4 := Go.Lib.hid (bstep HBL2D.out hb4); clear c0 c1 c2 c3 c4 c5 c6 c7 c8 c9 c10; obtain ⟨-, -, -, -, d4, d5, -, d7, d8, -, -⟩ := op_cells0 HOP4.out; clear hb4)
      | (go_at_call 76; with_reducible refine (HCHAIN.out _ HV4.out).mono ?_; rintro e w5 ⟨u5, rfl, hs5, hb5⟩; have HS5 := Go.Lib.hid hs5; have HV5 := Go.Lib.hid (HV4.out.below hb5); have HOP5 := Go.Lib.hid (HOP4.out.below hb5); have HB5 := Go.Lib.hid (bstep HB4.out hb5); clear d4 d5 d7 d8; obtain ⟨-, -, -, -, e4, e5, -, -, -, -, -⟩ := op_cells0 HOP5.out; clear hb5 hs5)
      | (go_at_call 75; with_reducible refine (HHAS.out _ _ HS5.out).mono ?_; rintro e w6 ⟨rfl, hb6⟩; have HB6 := Go.Lib.hid (bstep HB5.out hb6); clear e4 e5; clear hb6))) | fail
    all_goals (
      go_wp2_with fail
      go_ret
      exact ⟨rfl, HB6.out⟩)
end Go.Proofs.YtjeijolblcodpaaDoor.W
