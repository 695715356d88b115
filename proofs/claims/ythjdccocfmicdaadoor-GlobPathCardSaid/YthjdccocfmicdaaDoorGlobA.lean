/- The laws of filters: awake, GlobPath, GlobWithin. -/
import Derived.Test.YthjdccocfmicdaaDoorGlobZ
namespace Go.Proofs.YthjdccocfmicdaaDoor.W
set_option maxRecDepth 20000
set_option linter.unusedVariables false
open Go.RowKit Go.Proofs Arb

def awT : List UInt8 := [119, 105, 116, 104, 32, 97, 10, 119, 105, 116, 104, 111, 117, 116, 32, 97, 47, 98, 10, 116, 121, 112, 101, 32, 103, 111, 10]
def awL : List Rul := [⟨1, [97]⟩, ⟨2, [97, 47, 98]⟩, ⟨3, [103, 111]⟩]
theorem aw_parse : parseOf awT = (awL, 0) := by decide +kernel
theorem aw_match : matchOf awL [97, 47, 120, 46, 103, 111] false = true ∧ matchOf awL [97, 47, 98, 47, 120, 46, 103, 111] false = false ∧ matchOf awL [97, 47, 120, 46, 116, 120, 116] false = false ∧ matchOf awL [97] true = true ∧ matchOf awL [99, 47, 120, 46, 103, 111] false = false := by decide +kernel

set_option maxHeartbeats 4000000 in
theorem awake9_any (w : World) : Calls Tryd.prog 11 #[] w fun e w' => e = .returned (.bool true) ∧ Below w.heap.size w w' := by
  have hp := gparse_any awT w (by decide)
  rw [aw_parse] at hp
  have ht : ∀ x ∈ awL, x.text.length ≤ 100000 := by
    intro x hx
    simp [awL] at hx
    rcases hx with rfl | rfl | rfl <;> decide
  have hm := fun (v : Value) (p : List UInt8) (d : Bool) (W : World) (h : Ruls W v awL) (hpl : p.length ≤ 100000) => gmatch_any v awL p d W h ht (by decide) hpl
  have m1 := fun (v : Value) (W : World) (h : Ruls W v awL) => hm v [97, 47, 120, 46, 103, 111] false W h (by decide)
  have m2 := fun (v : Value) (W : World) (h : Ruls W v awL) => hm v [97, 47, 98, 47, 120, 46, 103, 111] false W h (by decide)
  have m3 := fun (v : Value) (W : World) (h : Ruls W v awL) => hm v [97, 47, 120, 46, 116, 120, 116] false W h (by decide)
  have m4 := fun (v : Value) (W : World) (h : Ruls W v awL) => hm v [97] true W h (by decide)
  have m5 := fun (v : Value) (W : World) (h : Ruls W v awL) => hm v [99, 47, 120, 46, 103, 111] false W h (by decide)
  obtain ⟨a1, a2, a3, a4, a5⟩ := aw_match
  rw [a1] at m1
  rw [a2] at m2
  rw [a3] at m3
  rw [a4] at m4
  rw [a5] at m5
  have H := Go.Lib.hid hp; have M1 := Go.Lib.hid m1; have M2 := Go.Lib.hid m2; have M3 := Go.Lib.hid m3; have M4 := Go.Lib.hid m4; have M5 := Go.Lib.hid m5
  clear hp hm m1 m2 m3 m4 m5 a1 a2 a3 a4 a5 ht
  go_enter Tryd.func11, Tryd.ntmps11
  go_wp2_with fail
  refine Calls.mono H.out ?_; rintro e w1 ⟨v, rfl, hR, hB⟩
  obtain ⟨A, c, rfl, hc⟩ := hR.len
  have h3 : awL.length = 3 := rfl
  rw [h3] at hR hc ⊢
  have HR1 := Go.Lib.hid hR; have HB1 := Go.Lib.hid hB; clear hR hB h3
  go_wp2_with fail
  refine (M1.out _ _ HR1.out).mono ?_; rintro e w2 ⟨rfl, hb⟩
  have HR2 := Go.Lib.hid (HR1.out.below hb); have HB2 := Go.Lib.hid (bstep HB1.out hb); clear hb
  go_wp2_with fail
  refine (M2.out _ _ HR2.out).mono ?_; rintro e w3 ⟨rfl, hb⟩
  have HR3 := Go.Lib.hid (HR2.out.below hb); have HB3 := Go.Lib.hid (bstep HB2.out hb); clear hb
  go_wp2_with fail
  refine (M3.out _ _ HR3.out).mono ?_; rintro e w4 ⟨rfl, hb⟩
  have HR4 := Go.Lib.hid (HR3.out.below hb); have HB4 := Go.Lib.hid (bstep HB3.out hb); clear hb
  go_wp2_with fail
  refine (M4.out _ _ HR4.out).mono ?_; rintro e w5 ⟨rfl, hb⟩
  have HR5 := Go.Lib.hid (HR4.out.below hb); have HB5 := Go.Lib.hid (bstep HB4.out hb); clear hb
  go_wp2_with fail
  refine (M5.out _ _ HR5.out).mono ?_; rintro e w6 ⟨rfl, hb⟩
  have HB6 := Go.Lib.hid (bstep HB5.out hb); clear hb
  go_wp2_with fail
  go_ret
  exact ⟨rfl, HB6.out⟩

theorem globPath_walk (s : List UInt8) (hs : s.length ≤ 140737488351232) (w : World) :
    Calls Tryd.prog 5 #[.string (BS s)] w fun e w' => e = .returned (.bool true) ∧ Below w.heap.size w w' := by
  have hsz : (BS s).size = s.length := BS_size s
  have HA := Go.Lib.hid (fun W => awake9_any W)
  by_cases h : 10000 < s.length
  · have h' : decide ((10000 : Int) < (s.length : Int)) = true := decide_eq_true (by omega)
    go_enter Tryd.func5, Tryd.ntmps5
    go_wp2_with fail
    refine (HA.out _).mono ?_; rintro e w2 ⟨rfl, hb⟩
    have HB := Go.Lib.hid hb; clear hb
    go_wp2_with fail
    go_ret
    exact ⟨rfl, HB.out⟩
  · have h' : decide ((10000 : Int) < (s.length : Int)) = false := decide_eq_false (by omega)
    have hg := fun W => gpath_any s W (by omega)
    have hr := fun W => rpath_any s W (by omega)
    obtain ⟨d, hd⟩ : ∃ d, pathOk s = d := ⟨_, rfl⟩
    rw [hd] at hg hr
    have HG := Go.Lib.hid hg; have HR := Go.Lib.hid hr
    clear hg hr hd
    cases d
    all_goals (
      go_enter Tryd.func5, Tryd.ntmps5
      go_wp2_with fail
      refine (HG.out _).mono ?_; rintro e w2 ⟨rfl, hb⟩
      have HB2 := Go.Lib.hid hb; clear hb
      go_wp2_with fail
      refine (HR.out _).mono ?_; rintro e w3 ⟨rfl, hb⟩
      have HB3 := Go.Lib.hid (bstep HB2.out hb); clear hb
      go_wp2_with fail
      refine (HA.out _).mono ?_; rintro e w4 ⟨rfl, hb⟩
      have HB4 := Go.Lib.hid (bstep HB3.out hb); clear hb
      go_wp2_with fail
      go_ret
      exact ⟨rfl, HB4.out⟩)
theorem globWithin_walk (p : List UInt8) (hp : p.length ≤ 140737488351232) (o : List UInt8) (ho : o.length ≤ 140737488351232) (w : World) :
    Calls Tryd.prog 6 #[.string (BS p), .string (BS o)] w fun e w' => e = .returned (.bool true) ∧ Below w.heap.size w w' := by
  have hs1 : (BS p).size = p.length := BS_size p
  have hs2 : (BS o).size = o.length := BS_size o
  have HA := Go.Lib.hid (fun W => awake9_any W)
  by_cases h : 10000 < p.length
  · have h' : decide ((10000 : Int) < (p.length : Int)) = true := decide_eq_true (by omega)
    go_enter Tryd.func6, Tryd.ntmps6
    go_wp2_with fail
    refine (HA.out _).mono ?_; rintro e w2 ⟨rfl, hb⟩
    have HB := Go.Lib.hid hb; clear hb
    go_wp2_with fail
    go_ret
    exact ⟨rfl, HB.out⟩
  · have h' : decide ((10000 : Int) < (p.length : Int)) = false := decide_eq_false (by omega)
    by_cases k : 10000 < o.length
    · have k' : decide ((10000 : Int) < (o.length : Int)) = true := decide_eq_true (by omega)
      go_enter Tryd.func6, Tryd.ntmps6
      go_wp2_with fail
      refine (HA.out _).mono ?_; rintro e w2 ⟨rfl, hb⟩
      have HB := Go.Lib.hid hb; clear hb
      go_wp2_with fail
      go_ret
      exact ⟨rfl, HB.out⟩
    · have k' : decide ((10000 : Int) < (o.length : Int)) = false := decide_eq_false (by omega)
      have hg := fun W => gwithin_any p o W (by omega) (by omega)
      have hr := fun W => rwithin_any p o W (by omega) (by omega)
      obtain ⟨d, hd⟩ : ∃ d, withinB p o = d := ⟨_, rfl⟩
      rw [hd] at hg hr
      have HG := Go.Lib.hid hg; have HR := Go.Lib.hid hr
      clear hg hr hd
      cases d
      all_goals (
        go_enter Tryd.func6, Tryd.ntmps6
        go_wp2_with fail
        refine (HG.out _).mono ?_; rintro e w2 ⟨rfl, hb⟩
        have HB2 := Go.Lib.hid hb; clear hb
        go_wp2_with fail
        refine (HR.out _).mono ?_; rintro e w3 ⟨rfl, hb⟩
        have HB3 := Go.Lib.hid (bstep HB2.out hb); clear hb
        go_wp2_with fail
        refine (HA.out _).mono ?_; rintro e w4 ⟨rfl, hb⟩
        have HB4 := Go.Lib.hid (bstep HB3.out hb); clear hb
        go_wp2_with fail
        go_ret
        exact ⟨rfl, HB4.out⟩)
end Go.Proofs.YthjdccocfmicdaaDoor.W
