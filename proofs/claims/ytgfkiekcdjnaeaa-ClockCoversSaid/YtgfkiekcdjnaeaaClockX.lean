/- The walk of the law of a device's next stamp. -/
import Derived.Test.YtgfkiekcdjnaeaaClockK
namespace Go.Proofs.Ytgfkiekcdjnaeaa.W
set_option linter.unusedVariables false
open Go.RowKit Go.Proofs Arb

set_option maxRecDepth 20000 in
set_option maxHeartbeats 2000000 in
theorem clockNext_walk (p : Int) (_ : (Lit.int .i64 p).wf = true) (A : Option Addr) (n c : Nat) (ls : List St) (w : World) (hs : Sl w 2 A n c (ls.map stCells)) (_ : c * 16 ≤ 140737488351232) (_ : ∀ s ∈ ls, stWf s) (hn : ls.length = n) :
    Calls Try.prog 4 #[.int .i64 p, .slice A n c] w fun e w' => e = .returned (.bool true) ∧ Below w.heap.size w w' := by
  have hv := Stamps.of_sl hs
  have HV := Go.Lib.hid hv; clear hv hs
  by_cases h1000 : 1000 < n
  · clear hn
    go_enter Try.func4, Try.ntmps4
    go_wp2_with fail
    refine (awake_any _).mono ?_; rintro e w1 ⟨rfl, hb1⟩
    have HB1 := Go.Lib.hid hb1; clear hb1
    go_wp2_with fail
    go_ret
    exact ⟨rfl, HB1.out⟩
  · obtain ⟨⟨⟨x, y⟩, z⟩, hr⟩ : ∃ r, nextSt p ls = r := ⟨_, rfl⟩
    have h1 := fun w h => pnext_any p (.slice A n c) ls w h (by omega)
    have h2 := fun w h => rnext_any p (.slice A n c) ls w h (by omega)
    rw [hr] at h1 h2
    have h1' : ∀ w, Stamps w (.slice A n c) ls → Calls Try.prog 17 #[.int .i64 p, .slice A n c] w fun e w' => e = .returned (.tuple #[.agg #[.int .i64 x, .int .i64 y], .int .i64 z]) ∧ Below w.heap.size w w' := h1
    have h2' : ∀ w, Stamps w (.slice A n c) ls → Calls Try.prog 18 #[.int .i64 p, .slice A n c] w fun e w' => e = .returned (.tuple #[.agg #[.int .i64 x, .int .i64 y], .int .i64 z]) ∧ Below w.heap.size w w' := h2
    have H1 := Go.Lib.hid h1'; clear h1 h1'
    have H2 := Go.Lib.hid h2'; clear h2 h2' hr
    clear hn
    go_enter Try.func4, Try.ntmps4
    go_wp2_with fail
    refine (H1.out _ HV.out).mono ?_; rintro e w1 ⟨rfl, hb1⟩
    have HB1 := Go.Lib.hid hb1; clear hb1
    go_wp2_with fail
    obtain ⟨W2, hW2⟩ : ∃ W2, w1.alloc (.cells #[.int .i64 x, .int .i64 y] 23) = W2 := ⟨_, rfl⟩
    have hB2 : Below w1.heap.size w1 W2 := by rw [← hW2]; exact (Below.refl _ _).alloc (Nat.le_refl _) _
    have e1 := heap_alloc_new w1 (.cells #[.int .i64 x, .int .i64 y] 23)
    have c0 : W2.cell? ⟨w1.heap.size, 0, none⟩ = some (.int .i64 x) := by rw [← hW2, cell_of_row _ _ _ _ _ _ e1]; rfl
    have c1 : W2.cell? ⟨w1.heap.size, 1, none⟩ = some (.int .i64 y) := by rw [← hW2, cell_of_row _ _ _ _ _ _ e1]; rfl
    rw [hW2]
    have HB2 := Go.Lib.hid hB2; clear hB2 e1 hW2
    refine (H2.out _ ((HV.out.below HB1.out).below HB2.out)).mono ?_; rintro e w3 ⟨rfl, hb3⟩
    have c0 := cell_below hb3 c0
    have c1 := cell_below hb3 c1
    have HB3 := Go.Lib.hid hb3; clear hb3
    have hlt : w1.heap.size < w3.heap.size := World.block_lt_of_cell? w3 _ c0
    have c0 : (w3.alloc (.cells #[.int .i64 x, .int .i64 y] 23)).cell? ⟨w1.heap.size, 0, none⟩ = some (.int .i64 x) := cell_more c0
    have c1 : (w3.alloc (.cells #[.int .i64 x, .int .i64 y] 23)).cell? ⟨w1.heap.size, 1, none⟩ = some (.int .i64 y) := cell_more c1
    go_wp2_with fail
    refine (awake_any _).mono ?_; rintro e w4 ⟨rfl, hb4⟩
    have HB4 := Go.Lib.hid hb4; clear hb4
    go_wp2_with fail
    go_ret
    have hB5 : Below w3.heap.size w3 (w3.alloc (.cells #[.int .i64 x, .int .i64 y] 23)) := (Below.refl _ _).alloc (Nat.le_refl _) _
    exact ⟨rfl, bstep (bstep (bstep (bstep HB1.out HB2.out) HB3.out) hB5) HB4.out⟩
end Go.Proofs.Ytgfkiekcdjnaeaa.W
