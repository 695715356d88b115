/- The program's trees: which stamps may hold, a stamp's node, a parent's nodes. -/
import Derived.Test.YtjeijolblcodpaaDoorTreePA
import Derived.Test.YtjeijolblcodpaaDoorTreePB
namespace Go.Proofs.YtjeijolblcodpaaDoor.W
set_option maxRecDepth 20000
set_option linter.unusedVariables false
open Go.RowKit Go.Proofs Arb

/-- The two variables of the package: the trash, the root. -/
structure TMet (w : World) : Prop where
  t0 : w.cell? ⟨0, 0, none⟩ = some (.int .i64 0)
  t1 : w.cell? ⟨0, 1, none⟩ = some (.int .i64 1)
  r0 : w.cell? ⟨3, 0, none⟩ = some (.int .i64 0)
  r1 : w.cell? ⟨3, 1, none⟩ = some (.int .i64 0)
theorem TMet.size {w : World} (h : TMet w) : 3 < w.heap.size := World.block_lt_of_cell? w _ h.r0
theorem TMet.below {w w' : World} {B : Nat} (h : TMet w) (hb : Below B w w') (hB : 3 < B) : TMet w' :=
  ⟨(hb.cell (p := ⟨0, 0, none⟩) (by show 0 < B; omega)).trans h.t0, (hb.cell (p := ⟨0, 1, none⟩) (by show 0 < B; omega)).trans h.t1, (hb.cell (p := ⟨3, 0, none⟩) hB).trans h.r0, (hb.cell (p := ⟨3, 1, none⟩) hB).trans h.r1⟩
theorem TMet.on {w w' : World} (h : TMet w) (hb : Below w.heap.size w w') : TMet w' := h.below hb h.size

set_option maxRecDepth 20000 in
set_option maxHeartbeats 4000000 in
theorem pmayHold_any (v : Value) (l : List Nod) (s : St) (w : World) (h : Nods w v l) (hl : l.length ≤ 1000000) (hT : TMet w) :
    Calls Tryd.prog 72 #[v, .agg #[.int .i64 s.count, .int .i64 s.who]] w fun e w' => e = .returned (.bool (mayOf l s)) ∧ Below w.heap.size w w' := by
  obtain ⟨r, hr⟩ : ∃ r, mayOf l s = r := ⟨_, rfl⟩
  rw [hr]
  have hp := fun w h => pplace_any v l s w h hl
  have hb0 : Below w.heap.size w (w.alloc (.cells #[.int .i64 s.count, .int .i64 s.who] 33)) := (Below.refl _ _).alloc (Nat.le_refl _) _
  have ha0 : (w.alloc (.cells #[.int .i64 s.count, .int .i64 s.who] 33)).cell? ⟨w.heap.size, 0, none⟩ = some (.int .i64 s.count) := by rw [cell_of_row _ _ _ _ _ _ (heap_alloc_new w _)]; rfl
  have ha1 : (w.alloc (.cells #[.int .i64 s.count, .int .i64 s.who] 33)).cell? ⟨w.heap.size, 1, none⟩ = some (.int .i64 s.who) := by rw [cell_of_row _ _ _ _ _ _ (heap_alloc_new w _)]; rfl
  have hlt0 : w.heap.size < (w.alloc (.cells #[.int .i64 s.count, .int .i64 s.who] 33)).heap.size := by simp
  have hv1 := h.below hb0
  have hT1 := hT.on hb0
  obtain ⟨-, -, t2, t3⟩ := hT1
  have hq := fun w => eq_st s St.zero w
  obtain ⟨z, hz⟩ : ∃ z, decide (s = St.zero) = z := ⟨_, rfl⟩
  rw [hz] at hq
  simp only [St.zero] at hq
  obtain ⟨W1, hW1⟩ : ∃ W, w.alloc (.cells #[.int .i64 s.count, .int .i64 s.who] 33) = W := ⟨_, rfl⟩
  rw [hW1] at hb0 ha0 ha1 hlt0 hv1
  have HB0 := Go.Lib.hid hb0; have HV1 := Go.Lib.hid hv1; have HW1 := Go.Lib.hid hW1; have HR := Go.Lib.hid hr; have HZ := Go.Lib.hid hz
  clear hb0 hv1 hW1 hr hz hT
  cases z
  · cases hf : findOf l s with
    | none =>
      have ha : atI l s = -1 := by unfold atI; rw [hf]
      simp only [ha] at hp
      have hres : r = false := by rw [← HR.out]; unfold mayOf; rw [hf, HZ.out]; rfl
      subst hres
      have HP := Go.Lib.hid hp
      clear hp h hf ha
      go_enter Tryd.func72, Tryd.ntmps72
      go_wp2_with fail
      rw [HW1.out]
      go_wp2_with fail
      refine (HP.out _ HV1.out).mono ?_; rintro _ w2 ⟨rfl, hb2⟩
      have HB2 := Go.Lib.hid (bstep HB0.out hb2); clear hb2
      go_wp2_with fail
      go_ret
      exact ⟨rfl, HB2.out⟩
    | some n =>
      obtain ⟨k, hk⟩ : ∃ k, atOf l s = k := ⟨_, rfl⟩
      have ha : atI l s = (k : Int) := by unfold atI; rw [hf, ← hk]
      obtain ⟨hg, hlt⟩ := at_get hf
      rw [hk] at hg hlt
      simp only [ha] at hp
      have hres : n.dir = r := by rw [← HR.out]; unfold mayOf; rw [hf, HZ.out]; rfl
      obtain ⟨A, c, rfl, hc⟩ := h.len
      obtain ⟨N, hN⟩ : ∃ N, l.length = N := ⟨_, rfl⟩
      rw [hN] at HV1 hp hlt hc hl
      rw [hN]
      have HP := Go.Lib.hid hp; have HG := Go.Lib.hid hg; have HRES := Go.Lib.hid hres
      clear hp h hf ha hk hg hres hN
      have hki : (k : Int) < (N : Int) := by omega
      go_enter Tryd.func72, Tryd.ntmps72
      go_wp2_with fail
      rw [HW1.out]
      go_wp2_with fail
      refine (HP.out _ HV1.out).mono ?_; rintro _ w2 ⟨rfl, hb2⟩
      obtain ⟨b1, o1, x, rfl, hg1, hx⟩ := (HV1.out.below hb2).at k hlt
      obtain ⟨c0, c1, c2, c3, c4, c5, c6⟩ := nd_cells hx
      obtain rfl : x = n := by have := HG.out; rw [hg1] at this; injection this
      have HB2 := Go.Lib.hid (bstep HB0.out hb2); clear hb2 hx hg1
      go_wp2_with fail
      go_ret
      exact ⟨by rw [HRES.out]; rfl, HB2.out⟩
  · have hres : r = true := by rw [← HR.out]; unfold mayOf; rw [HZ.out]; rfl
    subst hres
    clear hp h
    go_enter Tryd.func72, Tryd.ntmps72
    go_wp2_with fail
    try rw [HW1.out]
    go_wp2_with fail
    go_ret
    exact ⟨rfl, HB0.out⟩
end Go.Proofs.YtjeijolblcodpaaDoor.W
