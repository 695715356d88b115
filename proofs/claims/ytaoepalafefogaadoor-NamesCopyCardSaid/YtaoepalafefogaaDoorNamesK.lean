/- The program's names: take. -/
import Derived.Test.YtaoepalafefogaaDoorNamesJ
import Derived.Test.YtaoepalafefogaaDoorNums
namespace Go.Proofs.YtaoepalafefogaaDoor.W
set_option linter.unusedVariables false
open Go.RowKit Go.Proofs Arb

theorem wf_small (z : Int) (h0 : 0 ≤ z) (h1 : z ≤ 1000000) : (Lit.int .i64 z).wf = true := by
  simp only [Lit.wf, Bool.and_eq_true, decide_eq_true_eq]
  exact ⟨by show (-9223372036854775808 : Int) ≤ z; omega, by show z ≤ (9223372036854775807 : Int); omega⟩
theorem zeroI (w : World) : (zeroValue 3).run Tryd.prog w = .ok (.int .i64 0) w := by kernel_rfl
theorem copy_len (s : List UInt8) (n : Nat) (hn : n ≤ 9999) : (copyOf s n).length ≤ 24 := by
  have := tail_len s n hn
  unfold copyOf
  rw [List.length_append, List.length_take]
  omega
theorem grown_more {w w1 w' : World} {r : Option Nat} (hg : w.grownBy w1 r) (hb : Below w1.heap.size w1 w') : w.grownBy w' r :=
  ⟨hb.os.trans hg.os, hb.tape.trans hg.tape, hb.output.trans hg.output, Nat.le_trans hg.size hb.size, fun j hj hne => (hb.block j (Nat.lt_of_lt_of_le hj hg.size)).trans (hg.block j hj hne)⟩
theorem grown_behind {w w1 w' : World} {r : Option Nat} (hb : Below w.heap.size w w1) (hg : w1.grownBy w' r) : w.grownBy w' r :=
  ⟨hg.os.trans hb.os, hg.tape.trans hb.tape, hg.output.trans hb.output, Nat.le_trans hb.size hg.size, fun j hj hne => (hg.block j (Nat.lt_of_lt_of_le hj hb.size) hne).trans (hb.block j hj)⟩
theorem grown_both {w w1 w' : World} {r : Option Nat} (h1 : w.grownBy w1 r) (h2 : w1.grownBy w' r) : w.grownBy w' r :=
  ⟨h2.os.trans h1.os, h2.tape.trans h1.tape, h2.output.trans h1.output, Nat.le_trans h1.size h2.size, fun j hj hne => (h2.block j (Nat.lt_of_lt_of_le hj h1.size) hne).trans (h1.block j hj hne)⟩

abbrev Exist (w : World) (b n : Nat) (S : List (List UInt8)) (val : List UInt8 → Int) : Prop := NumsIs w Tryd.prog 9 3 b n S val

set_option maxHeartbeats 1000000 in
theorem ptake_first (b n : Nat) (S : List (List UInt8)) (val : List UInt8 → Int) (s : List UInt8) (w : World) (hm : Exist w b n S val) (hn : n < 1000000) (h24 : s.length ≤ 24) (hv : val s = 0) :
    Calls Tryd.prog 24 #[.map (some b), .string (BS s)] w fun e w' => e = .returned (.string (BS s)) ∧ Exist w' b (n + 1) (S ++ [s]) (setVal val s 1) ∧ w.grownBy w' (some b) := by
  have hl := hm.look Tryd.underlying9 Tryd.underlying40 Tryd.underlying3 (zeroI w) s (by unfold maxLen; omega)
  rw [hv] at hl
  have HC := Go.Lib.hid (fun w => pclone_any s w (by omega))
  have HM := Go.Lib.hid hm; clear hm hv
  go_enter Tryd.func24, Tryd.ntmps24
  go_wp2_with (refine wpList_nums_put HM.out Tryd.underlying9 Tryd.underlying40 Tryd.underlying3 rfl _ _ _ rfl rfl (by unfold maxLen; omega) s (by unfold maxLen; omega) 1 (by decide) rfl rfl ?_
               intro w3 hN3 hg3
               have HN3 := Go.Lib.hid hN3; have HG3 := Go.Lib.hid hg3; clear hN3 hg3 hl)
  refine (HC.out _).mono ?_; rintro e w2 ⟨rfl, hb2⟩
  have HB := Go.Lib.hid hb2; clear hb2
  go_wp2_with fail
  go_ret
  exact ⟨rfl, HN3.out.below HB.out, grown_more HG3.out HB.out⟩

set_option maxHeartbeats 2000000 in
theorem ptake_more (b n : Nat) (S : List (List UInt8)) (val : List UInt8 → Int) (s : List UInt8) (v F : Nat) (w : World) (hm : Exist w b n S val) (hn : n < 1000000) (h24 : s.length ≤ 24)
    (hv : val s = (v : Int)) (h1 : 1 ≤ v) (hvF : v ≤ F) (hF : F ≤ 9999) (hfree : copyOf s F ∉ S) (hall : ∀ j, v ≤ j → j < F → copyOf s j ∈ S) (hP : PMet w) :
    Calls Tryd.prog 24 #[.map (some b), .string (BS s)] w fun e w' => e = .returned (.string (BS (copyOf s F))) ∧ Exist w' b (n + 2) (S ++ [copyOf s F] ++ [s]) (setVal (setVal val (copyOf s F) 1) s ((F : Int) + 1)) ∧ w.grownBy w' (some b) := by
  have hl := hm.look Tryd.underlying9 Tryd.underlying40 Tryd.underlying3 (zeroI w) s (by unfold maxLen; omega)
  rw [hv] at hl
  have hv0 : ((v : Int) == 0) = false := by rw [beq_eq_false_iff_ne]; omega
  have HM := Go.Lib.hid hm; have HFREE := Go.Lib.hid hfree; have HALL := Go.Lib.hid hall; have HP := Go.Lib.hid hP
  clear hm hv hfree hall hP
  go_enter Tryd.func24, Tryd.ntmps24
  go_wp2_with fail
  clear hl
  go_loopw [6, 7, 8, 9, 20, 21, 22, 23, 24, 25, 26, 27, 28, 29, 30, 31, 32, 33, 34, 35, 36, 37, 38] (fun nv _ _ _ _ _ _ _ _ _ _ _ _ _ _ _ _ _ _ _ _ _ _ wr => ∃ j : Nat, v ≤ j ∧ j ≤ F ∧ nv = .int .i64 (j : Int) ∧ Below w.heap.size w wr) (fun nv _ _ _ _ _ _ _ _ _ _ _ _ _ _ _ _ _ _ _ _ _ _ _ => F - (intOf nv).toNat)
  case atStart => exact ⟨v, Nat.le_refl _, hvF, rfl, Below.refl _ _⟩
  case round =>
    obtain ⟨j, hvj, hjF, rfl, hbel⟩ := hrel
    have HB := Go.Lib.hid hbel; clear hbel
    have hcp := pcopyOf_any s j wr h24 (by omega) (by omega) (HP.out.below HB.out)
    have hlen := copy_len s j (by omega)
    have hlk : ∀ W, Below w.heap.size w W → (Instr.lookup 40 (.map (some b)) (.string (BS (copyOf s j))) true).run Tryd.prog W = .ok (.tuple #[.int .i64 (val (copyOf s j)), .bool (decide (copyOf s j ∈ S))]) W :=
      fun W hb => (HM.out.below hb).look_ok Tryd.underlying9 Tryd.underlying40 Tryd.underlying3 (zeroI W) _ (by unfold maxLen; omega)
    obtain ⟨x, hx⟩ : ∃ x, val (copyOf s j) = x := ⟨_, rfl⟩
    rw [hx] at hlk; clear hx
    by_cases hj : j < F
    · rw [decide_eq_true (HALL.out j hvj hj)] at hlk
      obtain ⟨c, hc⟩ : ∃ c, copyOf s j = c := ⟨_, rfl⟩
      rw [hc] at hcp hlk
      have HCP := Go.Lib.hid hcp; have HLK := Go.Lib.hid hlk; clear hcp hlk hlen hc
      go_wp2_with fail
      refine HCP.out.mono ?_; rintro e w2 ⟨rfl, hb2⟩
      have HB2 := Go.Lib.hid (HB.out.trans (hb2.mono HB.out.size)); clear hb2
      have hl := HLK.out _ HB2.out
      go_wp2_with fail
      exact ⟨⟨j + 1, by omega, by omega, by simp, HB2.out⟩, by simp [intOf]; omega⟩
    · obtain rfl : j = F := by omega
      rw [decide_eq_false HFREE.out] at hlk
      obtain ⟨c, hc⟩ : ∃ c, copyOf s j = c := ⟨_, rfl⟩
      rw [hc] at hcp hlk hlen
      have HCP := Go.Lib.hid hcp; have HLK := Go.Lib.hid hlk; have HCC := Go.Lib.hid hc; clear hcp hlk hc
      go_wp2_with fail
      refine HCP.out.mono ?_; rintro e w2 ⟨rfl, hb2⟩
      have HB2 := Go.Lib.hid (HB.out.trans (hb2.mono HB.out.size)); clear hb2
      have hl := HLK.out _ HB2.out
      have hm2 := HM.out.below HB2.out
      go_wp2_with (first
        | (refine wpList_nums_put hm2 Tryd.underlying9 Tryd.underlying40 Tryd.underlying3 rfl _ _ _ rfl rfl (by unfold maxLen; omega) c (by unfold maxLen; omega) 1 (by decide) rfl rfl ?_
           intro w3 hm3 hg3
           clear hl)
        | (refine wpList_nums_put hm3 Tryd.underlying9 Tryd.underlying40 Tryd.underlying3 rfl _ _ _ rfl rfl (by unfold maxLen; omega) s (by unfold maxLen; omega) ((j : Int) + 1) (wf_small _ (by omega) (by omega)) rfl rfl ?_
           intro w4 hm4 hg4))
      go_ret
      rw [HCC.out]
      exact ⟨rfl, hm4, grown_behind HB2.out (grown_both hg3 hg4)⟩
end Go.Proofs.YtaoepalafefogaaDoor.W
