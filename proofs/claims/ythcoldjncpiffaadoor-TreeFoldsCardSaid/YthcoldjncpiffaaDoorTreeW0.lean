/- The reference of trees: has, Trash, may. -/
import Derived.Test.YthcoldjncpiffaaDoorTreeQ
import Derived.Test.YthcoldjncpiffaaDoorTreeU
import Derived.Test.YthcoldjncpiffaaDoorTreeV
import Derived.Test.YthcoldjncpiffaaDoorTreeP
import Derived.Test.YthcoldjncpiffaaDoorMore
namespace Go.Proofs.YthcoldjncpiffaaDoor.W
set_option linter.unusedVariables false
open Go.RowKit Go.Proofs Arb

theorem take_mem' {α : Type} {l : List α} {k : Nat} {y z : α} (h : l[k]? = some y) (hz : z ∈ l.take (k + 1)) : z ∈ l.take k ∨ z = y := by
  rw [List.take_add_one, h] at hz
  simpa using hz

set_option maxRecDepth 20000 in
set_option maxHeartbeats 2000000 in
theorem rhas7_any (v : Value) (l : List St) (s : St) (w : World) (h : Sts w v l) (hl : l.length ≤ 1000000) :
    Calls Tryd.prog 36 #[v, .agg #[.int .i64 s.count, .int .i64 s.who]] w fun e w' => e = .returned (.bool (decide (s ∈ l))) ∧ Below w.heap.size w w' := by
  obtain ⟨A, c, rfl, hc⟩ := h.len
  obtain ⟨r, hr⟩ : ∃ r, decide (s ∈ l) = r := ⟨_, rfl⟩
  rw [hr]
  obtain ⟨n, hnn⟩ : ∃ n, l.length = n := ⟨_, rfl⟩
  rw [hnn] at h hc hl
  rw [hnn]
  have htl : l.take n = l := List.take_of_length_le (by omega)
  have HV := Go.Lib.hid h; have HR := Go.Lib.hid hr; have HTL := Go.Lib.hid htl
  clear h hr hnn htl
  go_enter Tryd.func36, Tryd.ntmps36
  have hb0 : Below w.heap.size w (w.alloc (.cells #[.int .i64 s.count, .int .i64 s.who] 30)) := (Below.refl _ _).alloc (Nat.le_refl _) _
  have ha0 : (w.alloc (.cells #[.int .i64 s.count, .int .i64 s.who] 30)).cell? ⟨w.heap.size, 0, none⟩ = some (.int .i64 s.count) := by rw [cell_of_row _ _ _ _ _ _ (heap_alloc_new w _)]; rfl
  have ha1 : (w.alloc (.cells #[.int .i64 s.count, .int .i64 s.who] 30)).cell? ⟨w.heap.size, 1, none⟩ = some (.int .i64 s.who) := by rw [cell_of_row _ _ _ _ _ _ (heap_alloc_new w _)]; rfl
  have hlt0 : w.heap.size < (w.alloc (.cells #[.int .i64 s.count, .int .i64 s.who] 30)).heap.size := by simp
  have hv1 := HV.out.below hb0
  go_wp2_with fail
  obtain ⟨W1, hW1⟩ : ∃ W, w.alloc (.cells #[.int .i64 s.count, .int .i64 s.who] 30) = W := ⟨_, rfl⟩
  rw [hW1] at hb0 ha0 ha1 hlt0 hv1 ⊢
  have HB0 := Go.Lib.hid hb0; have HA0 := Go.Lib.hid ha0; have HA1 := Go.Lib.hid ha1; have HV1 := Go.Lib.hid hv1; have HLT := Go.Lib.hid hlt0
  clear hb0 ha0 ha1 hlt0 hv1 hW1
  go_loopw [5, 6, 7, 8, 9, 10, 11, 12, 13, 14, 15, 16, 17] (fun i _ _ _ _ _ _ _ _ _ _ _ _ wr => ∃ k : Nat, k ≤ n ∧ i = .int .i64 (k : Int) ∧ (∀ y ∈ l.take k, y ≠ s) ∧ Below W1.heap.size W1 wr) (fun i _ _ _ _ _ _ _ _ _ _ _ _ _ => n - (intOf i).toNat)
  case atStart => exact ⟨0, by omega, rfl, by simp, Below.refl _ _⟩
  case round =>
    obtain ⟨k, hk, rfl, hall, hbw⟩ := hrel
    have HALL := Go.Lib.hid hall; clear hall
    have HBW := Go.Lib.hid hbw
    by_cases hkn : k < n
    · have hkn' : (k : Int) < (n : Int) := by omega
      obtain ⟨b1, o1, x, rfl, hg1, hx⟩ := (HV1.out.below hbw).at k hkn
      obtain ⟨c0, c1⟩ := st_cells hx
      have d0 := (hbw.cell (p := ⟨w.heap.size, 0, none⟩) HLT.out).trans HA0.out
      have d1 := (hbw.cell (p := ⟨w.heap.size, 1, none⟩) HLT.out).trans HA1.out
      have hq := fun w => eq_st x s w
      obtain ⟨q, hqe⟩ : ∃ q, decide (x = s) = q := ⟨_, rfl⟩
      rw [hqe] at hq
      have HG1 := Go.Lib.hid hg1; have HQ := Go.Lib.hid hqe
      clear hg1 hqe hx hbw
      cases q
      · go_wp2_with fail
        first | (go_quiet (fail)) | skip
        go_wp2_with fail
        refine ⟨⟨k + 1, by omega, by simp, fun y hy => ?_, below_drewN HBW.out _⟩, by simp [intOf]; omega⟩
        rcases take_mem' HG1.out hy with h | rfl
        · exact HALL.out y h
        · exact of_decide_eq_false HQ.out
      · go_wp2_with fail
        first | (go_quiet (fail)) | skip
        go_wp2_with fail
        go_ret
        refine ⟨?_, bstep HB0.out (below_drewN HBW.out _)⟩
        rw [← HR.out, decide_eq_true (by rw [← of_decide_eq_true HQ.out]; exact List.mem_of_getElem? HG1.out)]
        rfl
    · obtain rfl : k = n := by omega
      clear hbw
      go_wp2_with fail
      go_ret
      refine ⟨?_, bstep HB0.out HBW.out⟩
      have := HALL.out
      rw [HTL.out] at this
      rw [← HR.out, decide_eq_false (fun h => this s h rfl)]
      rfl

set_option maxRecDepth 20000 in
set_option maxHeartbeats 1000000 in
theorem rtrash_any (w : World) : Calls Tryd.prog 34 #[] w fun e w' => e = .returned (.agg #[.int .i64 0, .int .i64 1]) ∧ Below w.heap.size w w' := by
  have hh := heap_alloc_new w (.cells #[.int .i64 0, .int .i64 1] 30)
  have hb : Below w.heap.size w (w.alloc (.cells #[.int .i64 0, .int .i64 1] 30)) := (Below.refl _ _).alloc (Nat.le_refl _) _
  have HH := Go.Lib.hid hh; have HB := Go.Lib.hid hb
  clear hh hb
  go_enter Tryd.func34, Tryd.ntmps34
  go_wp2_with fail
  exact bodyPost_ret (v := .agg #[.int .i64 0, .int .i64 1]) (results_cell_row rfl _ _ w.heap.size 30 #[.int .i64 0, .int .i64 1] (0, 0) _ rfl HH.out Tryd.underlying30 rfl (by kernel_rfl)) rfl ⟨rfl, HB.out⟩

theorem mayOf_found (l : List Nod) (s : St) : mayOf l s = (decide (s = St.zero) || ((foundOf l s).2 && (foundOf l s).1.dir)) := by
  unfold mayOf foundOf
  cases findOf l s <;> simp
/-- Find's contract, the node written out. -/
theorem rfind7_out (v : Value) (l : List Nod) (s : St) (w : World) (y : Nod) (b : Bool) (hy : foundOf l s = (y, b)) (h : Nods w v l) (hl : l.length ≤ 1000000) :
    Calls Tryd.prog 20 #[v, .agg #[.int .i64 s.count, .int .i64 s.who]] w fun e w' => e = .returned (.tuple #[.agg #[.int .i64 y.id.count, .int .i64 y.id.who, .bool y.dir, .int .i64 y.parent.count, .int .i64 y.parent.who, .string (BS y.name), .string (BS y.manifest)], .bool b]) ∧ Below w.heap.size w w' := by
  have := rfind7_any v l s w h hl
  rw [hy] at this
  exact this

set_option maxRecDepth 20000 in
set_option maxHeartbeats 2000000 in
theorem rmay7_any (v : Value) (l : List Nod) (s : St) (w : World) (h : Nods w v l) (hl : l.length ≤ 1000000) :
    Calls Tryd.prog 33 #[v, .agg #[.int .i64 s.count, .int .i64 s.who]] w fun e w' => e = .returned (.bool (mayOf l s)) ∧ Below w.heap.size w w' := by
  rw [mayOf_found]
  obtain ⟨y, b, hy⟩ : ∃ y b, foundOf l s = (y, b) := ⟨_, _, rfl⟩
  have hf := fun w h => rfind7_out v l s w y b hy h hl
  have hq := fun w => eq_st s St.zero w
  rw [hy]
  show Calls _ _ _ _ fun e w' => e = .returned (.bool (decide (s = St.zero) || (b && y.dir))) ∧ Below w.heap.size w w'
  obtain ⟨z, hz⟩ : ∃ z, decide (s = St.zero) = z := ⟨_, rfl⟩
  rw [hz] at hq ⊢
  simp only [St.zero] at hq
  obtain ⟨d, hd⟩ : ∃ d, y.dir = d := ⟨_, rfl⟩
  rw [hd] at hf ⊢
  have hb0 : Below w.heap.size w (w.alloc (.cells #[.int .i64 s.count, .int .i64 s.who] 30)) := (Below.refl _ _).alloc (Nat.le_refl _) _
  have ha0 : (w.alloc (.cells #[.int .i64 s.count, .int .i64 s.who] 30)).cell? ⟨w.heap.size, 0, none⟩ = some (.int .i64 s.count) := by rw [cell_of_row _ _ _ _ _ _ (heap_alloc_new w _)]; rfl
  have ha1 : (w.alloc (.cells #[.int .i64 s.count, .int .i64 s.who] 30)).cell? ⟨w.heap.size, 1, none⟩ = some (.int .i64 s.who) := by rw [cell_of_row _ _ _ _ _ _ (heap_alloc_new w _)]; rfl
  have hlt0 : w.heap.size < (w.alloc (.cells #[.int .i64 s.count, .int .i64 s.who] 30)).heap.size := by simp
  have hv1 := h.below hb0
  obtain ⟨W1, hW1⟩ : ∃ W, w.alloc (.cells #[.int .i64 s.count, .int .i64 s.who] 30) = W := ⟨_, rfl⟩
  rw [hW1] at hb0 ha0 ha1 hlt0 hv1
  have hdd : ∀ W2 o, Below W1.heap.size W1 W2 → (W2.alloc o).cell? ⟨w.heap.size, 0, none⟩ = some (.int .i64 s.count) ∧ (W2.alloc o).cell? ⟨w.heap.size, 1, none⟩ = some (.int .i64 s.who) := fun W2 o hb => by
    have hb2 := hb.alloc hb.size o
    exact ⟨(hb2.cell hlt0).trans ha0, (hb2.cell hlt0).trans ha1⟩
  have HF := Go.Lib.hid hf; have HB0 := Go.Lib.hid hb0; have HV1 := Go.Lib.hid hv1; have HW1 := Go.Lib.hid hW1; have HDD := Go.Lib.hid hdd
  clear hf hb0 hv1 hW1 h hy hz hd hdd hlt0
  go_enter Tryd.func33, Tryd.ntmps33
  go_wp2_with fail
  rw [HW1.out]
  go_wp2_with fail
  refine (HF.out _ HV1.out).mono ?_; rintro _ w2 ⟨rfl, hb2⟩
  obtain ⟨d0, d1⟩ := HDD.out w2 (.cells #[.int .i64 y.id.count, .int .i64 y.id.who, .bool d, .int .i64 y.parent.count, .int .i64 y.parent.who, .string (BS y.name), .string (BS y.manifest)] 37) hb2
  have HB2 := Go.Lib.hid ((bstep HB0.out hb2).alloc (bstep HB0.out hb2).size (.cells #[.int .i64 y.id.count, .int .i64 y.id.who, .bool d, .int .i64 y.parent.count, .int .i64 y.parent.who, .string (BS y.name), .string (BS y.manifest)] 37))
  clear hb2
  cases z <;> cases b
  all_goals (
    go_wp2_with fail
    go_ret
    exact ⟨by simp, HB2.out⟩)
end Go.Proofs.YthcoldjncpiffaaDoor.W
