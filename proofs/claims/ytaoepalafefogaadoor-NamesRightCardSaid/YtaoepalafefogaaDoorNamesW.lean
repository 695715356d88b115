/- The chapter's examples of layer 5. -/
import Derived.Test.YtaoepalafefogaaDoorNamesP
namespace Go.Proofs.YtaoepalafefogaaDoor.W
set_option linter.unusedVariables false
open Go.RowKit Go.Proofs Arb

theorem bstep {w b c : World} (h : Below w.heap.size w b) (k : Below b.heap.size b c) : Below w.heap.size w c := h.trans (k.mono h.size)
theorem balloc {w b : World} (h : Below w.heap.size w b) (o : Obj) : Below w.heap.size w (b.alloc o) := h.alloc h.size o
theorem Strs.newAt (w : World) (e : TypeId) (ss : List (List UInt8)) (cs : Array Value) (hc : cs = (ss.map fun l => Value.string (BS l)).toArray) (g n : Nat) (hn : n = ss.length) (hg : g = w.heap.size) : Strs (w.alloc (.cells cs e)) (.slice (some ⟨g, 0, none⟩) n n) ss := by
  subst hc; subst hg; subst hn
  refine ⟨_, _, _, rfl, rfl, Nat.le_refl _, fun _ => ⟨_, 0, rfl, fun j z hj => ?_⟩⟩
  rw [Nat.zero_add, cell_of_row _ _ _ _ _ _ (heap_alloc_new w _)]
  simp [hj]
theorem ex_copy : copyRes [97, 46, 116, 120, 116] 2 = ([97, 126, 50, 46, 116, 120, 116], 0) := by decide +kernel
theorem ex_uniq : uniqRes [[97], [97], [97, 126, 49]] = ([[97], [97, 126, 50], [97, 126, 49]], 0) := by decide +kernel
theorem ex_right : nmRight [97, 47, 98] = 23 := by decide +kernel

set_option maxRecDepth 20000 in
set_option maxHeartbeats 2000000 in
theorem awake_any (w : World) (hP : PMet w) :
    Calls Tryd.prog 11 #[] w fun e w' => e = .returned (.bool true) ∧ Below w.heap.size w w' := by
  have HP := Go.Lib.hid hP; clear hP
  have h1 := fun w (hP : PMet w) => pncopy_any [97, 46, 116, 120, 116] 2 w (by decide) (by decide) hP
  rw [ex_copy] at h1
  have h1' : ∀ w, PMet w → Calls Tryd.prog 14 #[.string ⟨#[97, 46, 116, 120, 116]⟩, .int .i64 2] w fun e w' => e = .returned (.tuple #[.string (BS [97, 126, 50, 46, 116, 120, 116]), .int .i64 0]) ∧ Below w.heap.size w w' := h1
  have h2 := fun v w h (hP : PMet w) => pnuniq_any v [[97], [97], [97, 126, 49]] w h (by decide) (by decide) hP
  rw [ex_uniq] at h2
  have h3 := fun w => pnright_any [97, 47, 98] w (by decide)
  rw [ex_right] at h3
  have h3' : ∀ w, Calls Tryd.prog 9 #[.string ⟨#[97, 47, 98]⟩] w fun e w' => e = .returned (.int .i64 23) ∧ Below w.heap.size w w' := h3
  have q := BS_beq [97, 126, 50, 46, 116, 120, 116] [97, 126, 50, 46, 116, 120, 116]
  rw [decide_eq_true rfl] at q
  have H1 := Go.Lib.hid h1'; have H2 := Go.Lib.hid h2; have H3 := Go.Lib.hid h3'
  clear h1 h1' h2 h3 h3'
  go_enter Tryd.func11, Tryd.ntmps11
  go_wp2_with fail
  refine (H1.out _ HP.out).mono ?_; rintro e w1 ⟨rfl, hb1⟩
  have HB := Go.Lib.hid hb1; clear hb1
  go_wp2_with fail
  refine (H2.out _ _ (Strs.newAt _ _ [[97], [97], [97, 126, 49]] _ rfl _ _ rfl rfl) (HP.out.below (balloc HB.out _))).mono ?_; rintro e w2 ⟨v2, rfl, hs2, hb2⟩
  have HB := Go.Lib.hid (bstep (balloc HB.out _) hb2); clear hb2
  have HS2 := Go.Lib.hid (hs2.below ((Below.refl _ _).alloc (Nat.le_refl _) (.cells #[.string ⟨#[97]⟩, .string ⟨#[97, 126, 50]⟩, .string ⟨#[97, 126, 49]⟩] 9))); clear hs2
  go_wp2_with fail
  refine (texts_any v2 _ [[97], [97, 126, 50], [97, 126, 49]] [[97], [97, 126, 50], [97, 126, 49]] _ HS2.out (Strs.newAt _ _ [[97], [97, 126, 50], [97, 126, 49]] _ rfl _ _ rfl rfl) (by decide) (by decide)).mono ?_; rintro e w3 ⟨rfl, m3, rfl⟩
  have HB := Go.Lib.hid (below_draws (balloc HB.out (.cells #[.string ⟨#[97]⟩, .string ⟨#[97, 126, 50]⟩, .string ⟨#[97, 126, 49]⟩] 9)) m3)
  rw [show decide (([[97], [97, 126, 50], [97, 126, 49]] : List (List UInt8)) = [[97], [97, 126, 50], [97, 126, 49]]) = true from decide_eq_true rfl]
  go_wp2_with fail
  refine (H3.out _).mono ?_; rintro e w4 ⟨rfl, hb4⟩
  have HB := Go.Lib.hid (bstep HB.out hb4); clear hb4
  go_wp2_with fail
  go_ret
  exact ⟨rfl, HB.out⟩
end Go.Proofs.YtaoepalafefogaaDoor.W
