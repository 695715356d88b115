/- The chapter's examples of layer 6. -/
import Derived.Test.YtmkmahjboocoaaaOpsP
namespace Go.Proofs.Ytmkmahjboocoaaa.W
set_option linter.unusedVariables false
open Go.RowKit Go.Proofs Arb

def fst1 : Opn := ⟨⟨1, 0⟩, 1, 1, ⟨1, 0⟩, true, ⟨0, 0⟩, [97], []⟩
def fst2 : Opn := ⟨⟨1, 0⟩, 2, 1, ⟨1, 0⟩, true, ⟨0, 0⟩, [97], []⟩
theorem fst1_wf : opWf fst1 := ⟨⟨rfl, rfl⟩, rfl, rfl, ⟨rfl, rfl⟩, ⟨rfl, rfl⟩, by decide, by decide⟩
theorem fst2_wf : opWf fst2 := ⟨⟨rfl, rfl⟩, rfl, rfl, ⟨rfl, rfl⟩, ⟨rfl, rfl⟩, by decide, by decide⟩
theorem add_gap : addOf [] fst2 = ([], 26) := by decide +kernel
theorem add_first : addOf [] fst1 = ([fst1], 0) := by decide +kernel
theorem add_again : addOf [fst1] fst1 = ([fst1], 0) := by decide +kernel
theorem decode_none : decodeOf [] = (Opn.zero, 10) := by decide +kernel

set_option maxRecDepth 20000 in
set_option maxHeartbeats 4000000 in
theorem first_any (w : World) :
    Calls Try.prog 35 #[] w fun e w' => e = .returned (.agg #[.int .i64 1, .int .i64 0, .int .i64 1, .int .i64 1, .int .i64 1, .int .i64 0, .bool true, .int .i64 0, .int .i64 0, .string ⟨#[97]⟩, .string ⟨#[]⟩]) ∧ Below w.heap.size w w' := by
  have hg := (Below.heap_alloc (w.alloc (.cells #[.int .i64 1, .int .i64 0, .int .i64 1, .int .i64 1, .int .i64 1, .int .i64 0, .bool true, .int .i64 0, .int .i64 0, .string ⟨#[97]⟩, .string ⟨#[]⟩] 25)) (.cells #[.int .i64 1, .int .i64 0] 23) w.heap.size (by simp)).trans (heap_alloc_new w _)
  have hb : Below w.heap.size w ((w.alloc (.cells #[.int .i64 1, .int .i64 0, .int .i64 1, .int .i64 1, .int .i64 1, .int .i64 0, .bool true, .int .i64 0, .int .i64 0, .string ⟨#[97]⟩, .string ⟨#[]⟩] 25)).alloc (.cells #[.int .i64 1, .int .i64 0] 23)) := ((Below.refl _ _).alloc (Nat.le_refl _) _).alloc (by simp) _
  have HG := Go.Lib.hid hg; clear hg
  have HB := Go.Lib.hid hb; clear hb
  go_enter Try.func35, Try.ntmps35
  go_wp2_with fail
  exact bodyPost_ret (v := .agg #[.int .i64 1, .int .i64 0, .int .i64 1, .int .i64 1, .int .i64 1, .int .i64 0, .bool true, .int .i64 0, .int .i64 0, .string ⟨#[97]⟩, .string ⟨#[]⟩]) (results_cell_row rfl _ _ w.heap.size 25 #[.int .i64 1, .int .i64 0, .int .i64 1, .int .i64 1, .int .i64 1, .int .i64 0, .bool true, .int .i64 0, .int .i64 0, .string ⟨#[97]⟩, .string ⟨#[]⟩] (0, 0) _ rfl HG.out Try.underlying25 rfl (size_op.trans (by rfl))) rfl ⟨rfl, HB.out⟩

theorem fst1_cells {w : World} {b : Nat} (h : OpAt w b 0 fst1) :
    w.cell? ⟨b, 0, none⟩ = some (.int .i64 1) ∧ w.cell? ⟨b, 1, none⟩ = some (.int .i64 0) ∧ w.cell? ⟨b, 2, none⟩ = some (.int .i64 1) ∧ w.cell? ⟨b, 3, none⟩ = some (.int .i64 1) ∧ w.cell? ⟨b, 4, none⟩ = some (.int .i64 1) ∧ w.cell? ⟨b, 5, none⟩ = some (.int .i64 0) ∧ w.cell? ⟨b, 6, none⟩ = some (.bool true) ∧ w.cell? ⟨b, 7, none⟩ = some (.int .i64 0) ∧
    w.cell? ⟨b, 8, none⟩ = some (.int .i64 0) ∧ w.cell? ⟨b, 9, none⟩ = some (.string ⟨#[97]⟩) ∧ w.cell? ⟨b, 10, none⟩ = some (.string ⟨#[]⟩) := op_cells0 h

set_option maxRecDepth 20000 in
set_option maxHeartbeats 4000000 in
theorem awake_any (w : World) :
    Calls Try.prog 15 #[] w fun e w' => e = .returned (.bool true) ∧ Below w.heap.size w w' := by
  have hA2 : ∀ w, Calls Try.prog 20 #[.slice none 0 0, .agg #[.int .i64 1, .int .i64 0, .int .i64 2, .int .i64 1, .int .i64 1, .int .i64 0, .bool true, .int .i64 0, .int .i64 0, .string ⟨#[97]⟩, .string ⟨#[]⟩]] w fun e w' => ∃ v', e = .returned (.tuple #[v', .int .i64 26]) ∧ Opns w' v' [] ∧ Below w.heap.size w w' := fun w => by
    have h := padd_any (.slice none 0 0) [] fst2 w (Opns.nil _) (by decide) (by simp) fst2_wf (by decide) (by decide)
    rw [add_gap] at h
    exact h
  have hA1 : ∀ w, Calls Try.prog 20 #[.slice none 0 0, .agg #[.int .i64 1, .int .i64 0, .int .i64 1, .int .i64 1, .int .i64 1, .int .i64 0, .bool true, .int .i64 0, .int .i64 0, .string ⟨#[97]⟩, .string ⟨#[]⟩]] w fun e w' => ∃ v', e = .returned (.tuple #[v', .int .i64 0]) ∧ Opns w' v' [fst1] ∧ Below w.heap.size w w' := fun w => by
    have h := padd_any (.slice none 0 0) [] fst1 w (Opns.nil _) (by decide) (by simp) fst1_wf (by decide) (by decide)
    rw [add_first] at h
    exact h
  have hA3 : ∀ w v, Opns w v [fst1] → Calls Try.prog 20 #[v, .agg #[.int .i64 1, .int .i64 0, .int .i64 1, .int .i64 1, .int .i64 1, .int .i64 0, .bool true, .int .i64 0, .int .i64 0, .string ⟨#[97]⟩, .string ⟨#[]⟩]] w fun e w' => ∃ v', e = .returned (.tuple #[v', .int .i64 0]) ∧ Opns w' v' [fst1] ∧ Below w.heap.size w w' := fun w v hv => by
    have h := padd_any v [fst1] fst1 w hv (by decide) (by simp [fst1_wf]) fst1_wf (by decide) (by decide)
    rw [add_again] at h
    exact h
  have hD : ∀ w, Calls Try.prog 18 #[.string ⟨#[]⟩] w fun e w' => e = .returned (.tuple #[.agg #[.int .i64 0, .int .i64 0, .int .i64 0, .int .i64 0, .int .i64 0, .int .i64 0, .bool false, .int .i64 0, .int .i64 0, .string ⟨#[]⟩, .string ⟨#[]⟩], .int .i64 10]) ∧ Below w.heap.size w w' := fun w => by
    have h := pdecode_any [] w (by decide)
    rw [decode_none] at h
    exact h
  have hS : ∀ w u v, Opns w u [fst1] → Opns w v [fst1] → Calls Try.prog 22 #[u, v] w fun e w' => e = .returned (.bool true) ∧ Below w.heap.size w w' := fun w u v hu hv => by
    have h := rsameops_any u v [fst1] [fst1] w hu hv (by decide) (by decide)
    rw [show decide ([fst1] = [fst1]) = true by simp] at h
    exact h
  have HA1 := Go.Lib.hid hA1; have HA2 := Go.Lib.hid hA2; have HA3 := Go.Lib.hid hA3; have HD := Go.Lib.hid hD; have HS := Go.Lib.hid hS
  clear hA1 hA2 hA3 hD hS
  go_enter Try.func15, Try.ntmps15
  go_wp2_with fail
  refine (first_any _).mono ?_; rintro e w1 ⟨rfl, hb1⟩
  have hX : OpAt ((w1.alloc (.cells #[.int .i64 1, .int .i64 0, .int .i64 1, .int .i64 1, .int .i64 1, .int .i64 0, .bool true, .int .i64 0, .int .i64 0, .string ⟨#[97]⟩, .string ⟨#[]⟩] 25)).alloc (.cells #[.int .i64 1, .int .i64 0, .int .i64 2, .int .i64 1, .int .i64 1, .int .i64 0, .bool true, .int .i64 0, .int .i64 0, .string ⟨#[97]⟩, .string ⟨#[]⟩] 25)) w1.heap.size 0 fst1 := (OpAt.new w1 fst1 25).below ((Below.refl _ _).alloc (Nat.le_refl _) _)
  have hb2 := bstep hb1 ((((Below.refl w1.heap.size w1).alloc (Nat.le_refl _) (.cells #[.int .i64 1, .int .i64 0, .int .i64 1, .int .i64 1, .int .i64 1, .int .i64 0, .bool true, .int .i64 0, .int .i64 0, .string ⟨#[97]⟩, .string ⟨#[]⟩] 25)).alloc (by simp) (.cells #[.int .i64 1, .int .i64 0, .int .i64 2, .int .i64 1, .int .i64 1, .int .i64 0, .bool true, .int .i64 0, .int .i64 0, .string ⟨#[97]⟩, .string ⟨#[]⟩] 25)))
  have HX := Go.Lib.hid hX; clear hX
  have HB := Go.Lib.hid hb2; clear hb2 hb1
  go_wp2_with fail
  refine (HA2.out _).mono ?_; rintro e w2 ⟨v2, rfl, hO2, hb⟩
  have HX := Go.Lib.hid (HX.out.below hb); have HB := Go.Lib.hid (bstep HB.out hb); clear hb hO2
  obtain ⟨c0, c1, c2, c3, c4, c5, c6, c7, c8, c9, c10⟩ := fst1_cells HX.out
  go_wp2_with fail
  refine (HA1.out _).mono ?_; rintro e w3 ⟨v3, rfl, hO3, hb⟩
  have HX := Go.Lib.hid (HX.out.below hb); have HB := Go.Lib.hid (bstep HB.out hb); clear hb c0 c1 c2 c3 c4 c5 c6 c7 c8 c9 c10
  obtain ⟨A3, cp3, rfl, _⟩ := hO3.len
  obtain ⟨c0, c1, c2, c3, c4, c5, c6, c7, c8, c9, c10⟩ := fst1_cells HX.out
  have HO3 := Go.Lib.hid hO3; clear hO3
  go_wp2_with fail
  refine (HA3.out _ _ HO3.out).mono ?_; rintro e w4 ⟨v4, rfl, hO4, hb⟩
  have HB := Go.Lib.hid (bstep HB.out hb)
  have HO3 := Go.Lib.hid (HO3.out.below hb); clear hb c0 c1 c2 c3 c4 c5 c6 c7 c8 c9 c10
  have HO4 := Go.Lib.hid hO4; clear hO4
  go_wp2_with fail
  refine (HD.out _).mono ?_; rintro e w5 ⟨rfl, hb⟩
  have HB := Go.Lib.hid (bstep HB.out hb)
  have HO3 := Go.Lib.hid (HO3.out.below hb); have HO4 := Go.Lib.hid (HO4.out.below hb); clear hb
  have hbl : Below w5.heap.size w5 (w5.alloc (.cells #[.int .i64 0, .int .i64 0, .int .i64 0, .int .i64 0, .int .i64 0, .int .i64 0, .bool false, .int .i64 0, .int .i64 0, .string ⟨#[]⟩, .string ⟨#[]⟩] 25)) := (Below.refl _ _).alloc (Nat.le_refl _) _
  have HBL := Go.Lib.hid hbl; clear hbl
  go_wp2_with fail
  refine (HS.out _ _ _ (HO3.out.below HBL.out) (HO4.out.below HBL.out)).mono ?_; rintro e w6 ⟨rfl, hb⟩
  have HB := Go.Lib.hid (bstep (bstep HB.out HBL.out) hb); clear hb
  go_wp2_with fail
  go_ret
  exact ⟨rfl, HB.out⟩
end Go.Proofs.Ytmkmahjboocoaaa.W
