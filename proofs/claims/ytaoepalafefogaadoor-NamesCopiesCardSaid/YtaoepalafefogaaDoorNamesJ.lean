/- The program's names: copyOf, Copy. -/
import Derived.Test.YtaoepalafefogaaDoorNamesI
import Derived.Test.YtaoepalafefogaaDoorNamesC
namespace Go.Proofs.YtaoepalafefogaaDoor.W
set_option linter.unusedVariables false
open Go.RowKit Go.Proofs Arb

/-- The table of powers stands in its variable. -/
def PMet (w : World) : Prop := Go.Lib.TabIs Tryd.prog w "internal/strconv.uint64pow10" .u64 Go.Lib.pow10Tab
theorem PMet.below {w w' : World} (h : PMet w) (hb : Below w.heap.size w w') : PMet w' := Go.Lib.tabBelow_of_tabIs h w' hb
theorem dec_dg : ∀ n : Nat, Go.Lib.decDigits n = dg n := by
  intro n
  induction n using Nat.strongRecOn with
  | ind n ih =>
    rw [Go.Lib.decDigits, dg]
    by_cases h : n < 10
    · rw [dif_pos h, if_pos h]
    · rw [dif_neg h, if_neg h, ih (n / 10) (by omega)]
theorem pitoa_any (n : Nat) (w : World) (hn : n ≤ 9999) (hP : PMet w) :
    Calls Tryd.prog 28 #[.int .i64 (n : Int)] w fun e w' => e = .returned (.string (BS (dg n))) ∧ Below w.heap.size w w' := by
  refine (Tryd.strconv_Itoa (n : Int) (by omega) (by omega) w hP).mono ?_
  rintro e w' ⟨rfl, k, os, rfl⟩
  refine ⟨?_, Go.Lib.below_grow _ _ (Nat.le_refl _) k os⟩
  unfold Go.Lib.itoa
  rw [if_neg (by omega), Int.toNat_natCast, dec_dg]
  rfl

set_option maxHeartbeats 2000000 in
theorem pcopyOf_any (s : List UInt8) (n : Nat) (w : World) (h24 : s.length ≤ 24) (h1 : 1 ≤ n) (hn : n ≤ 9999) (hP : PMet w) :
    Calls Tryd.prog 22 #[.string (BS s), .int .i64 (n : Int)] w fun e w' => e = .returned (.string (BS (copyOf s n))) ∧ Below w.heap.size w w' := by
  have hX := fun w => pext_any s w (by omega)
  have hD := pitoa_any n w hn hP
  have hd1 := dg_pos n; have hd4 := dg_len n (by omega)
  have HX := Go.Lib.hid hX; have HD := Go.Lib.hid hD
  have hel := ext_len s
  clear hX hD
  have he1 : (BS (ext s)).size = (ext s).length := BS_size _
  have hs1 : (BS s).size = s.length := BS_size _
  have hcat2 : (⟨#[126]⟩ : ByteArray) ++ BS (dg n) = BS (126 :: dg n) := BS_append [126] _
  have z1 : (BS (dg n)).size = (dg n).length := BS_size _
  have z4 : (BS (126 :: dg n)).size = (dg n).length + 1 := by rw [BS_size]; rfl
  have HCAT2 := Go.Lib.hid hcat2; clear hcat2
  by_cases hb : 1 ≤ (ext s).length ∧ (ext s).length ≤ 7
  · have hbo : behindOf s = 46 :: ext s := by unfold behindOf; rw [if_pos hb]
    have hsl : 1 + (ext s).length ≤ s.length := by
      rcases ext_cases s with h | ⟨p, _, h, _⟩
      · rw [h] at hb; simp at hb
      · have := congrArg List.length h; rw [List.length_append] at this; simp at this; omega
    have hbl : (behindOf s).length = 1 + (ext s).length := by rw [hbo, List.length_cons]; omega
    have hb1' : (1 : Int) ≤ ((ext s).length : Int) := by omega
    have hb7' : ((ext s).length : Int) ≤ 7 := by omega
    have v1 : IntKind.i64.wrap ((s.length : Int) - ((ext s).length : Int)) = (s.length : Int) - ((ext s).length : Int) := by rw [IntWalk.i64_in _ (by omega)]
    have v2 : IntKind.i64.wrap ((s.length : Int) - ((ext s).length : Int) - 1) = ((s.length - (1 + (ext s).length) : Nat) : Int) := by rw [IntWalk.i64_in _ (by omega)]; omega
    have hcat1 : (⟨#[46]⟩ : ByteArray) ++ BS (ext s) = BS (behindOf s) := by rw [hbo]; exact BS_append [46] _
    have hstem : (BS s).extract 0 (s.length - (1 + (ext s).length)) = BS (s.take (s.length - (behindOf s).length)) := by rw [BS_extract, hbl]; rfl
    have hsl' : ((s.length - (1 + (ext s).length) : Nat) : Int) ≤ (s.length : Int) := by omega
    have HC1 := Go.Lib.hid hcat1; have HST := Go.Lib.hid hstem
    clear hcat1 hstem
    go_enter Tryd.func22, Tryd.ntmps22
    go_wp2_with fail
    refine HD.out.mono ?_
    rintro e w1 ⟨rfl, hb1⟩
    have HB1 := Go.Lib.hid hb1; clear hb1
    go_wp2_with fail
    refine (HX.out _).mono ?_
    rintro e w2 ⟨rfl, hw2⟩; rw [hw2, HCAT2.out]
    go_wp2_with fail
    go_ret
    refine ⟨?_, HB1.out⟩
    rw [HC1.out, HST.out]
    simp only [BS_extract, BS_append, List.drop_zero, Nat.sub_zero]
    refine congrArg (fun q => Ending.returned (.string (BS q))) ?_
    have hL : (tailOf s n).length = (dg n).length + 1 + (1 + (ext s).length) := by unfold tailOf; rw [List.length_append, hbl, List.length_cons]
    show _ = ((s.take (s.length - (behindOf s).length)).take (24 - (tailOf s n).length)) ++ tailOf s n
    refine congrArg (· ++ tailOf s n) ?_
    rw [hL]
    rcases Nat.lt_or_ge (s.length - (1 + (ext s).length)) (24 - ((dg n).length + 1 + (1 + (ext s).length))) with h | h
    · rw [List.take_of_length_le (i := (min _ _ : Int).toNat) (by rw [List.length_take, hbl]; omega), List.take_of_length_le (i := 24 - _) (by rw [List.length_take, hbl]; omega)]
    · congr 1; omega
  · have hbo : behindOf s = [] := by unfold behindOf; rw [if_neg hb]
    have hcopy : copyOf s n = s.take (24 - ((dg n).length + 1)) ++ 126 :: dg n := by
      unfold copyOf tailOf
      rw [hbo, List.append_nil, List.length_nil, Nat.sub_zero, List.take_of_length_le (Nat.le_refl s.length)]
      rfl
    have HCO := Go.Lib.hid hcopy; clear hcopy
    rcases (by omega : ¬ (1 ≤ (ext s).length) ∨ (1 ≤ (ext s).length ∧ ¬ ((ext s).length ≤ 7))) with hq | hq
    all_goals
      go_enter Tryd.func22, Tryd.ntmps22
      go_wp2_with fail
      refine HD.out.mono ?_
      rintro e w1 ⟨rfl, hb1⟩
      have HB1 := Go.Lib.hid hb1; clear hb1
      go_wp2_with fail
      refine (HX.out _).mono ?_
      rintro e w2 ⟨rfl, hw2⟩; rw [hw2, HCAT2.out]
      go_wp2_with fail
      go_ret
      refine ⟨?_, HB1.out⟩
      rw [HCO.out]
      simp only [BS_extract, BS_append, List.drop_zero, Nat.sub_zero]
      refine congrArg (fun q => Ending.returned (.string (BS q))) ?_
      refine congrArg (· ++ 126 :: dg n) ?_
      rcases Nat.lt_or_ge s.length (24 - ((dg n).length + 1)) with h | h
      · rw [List.take_of_length_le (i := (min _ _ : Int).toNat) (by omega), List.take_of_length_le (i := 24 - _) (by omega)]
      · congr 1; omega

theorem pcopy_right {s : List UInt8} (h : nmOk s = true) : s.length ≤ 24 := ((ok_spec s).1 h).1.2.1

set_option maxHeartbeats 1000000 in
theorem pncopy_any (s : List UInt8) (z : Int) (w : World) (hl : s.length ≤ 140737488351232) (hz : -9223372036854775808 ≤ z ∧ z ≤ 9223372036854775807) (hP : PMet w) :
    Calls Tryd.prog 14 #[.string (BS s), .int .i64 z] w fun e w' => e = .returned (.tuple #[.string (BS (copyRes s z).1), .int .i64 (copyRes s z).2]) ∧ Below w.heap.size w w' := by
  have hR := fun w => pright_same s w hl
  unfold nmRight at hR
  cases hok : nmOk s with
  | false =>
    rw [hok] at hR
    have hc : copyRes s z = ([], 23) := by unfold copyRes; rw [hok]; rfl
    have hR' : ∀ w, Calls Tryd.prog 9 #[.string (BS s)] w fun e w' => e = .returned (.int .i64 23) ∧ w' = w := hR
    have HR := Go.Lib.hid hR'; have HC := Go.Lib.hid hc; clear hR hR' hc hok
    go_enter Tryd.func14, Tryd.ntmps14
    go_wp2_with (go_at_call 9; refine (HR.out _).mono ?_; rintro e w1 ⟨rfl, hw1⟩; rw [hw1])
    go_ret2
    exact ⟨by rw [HC.out]; rfl, Below.refl _ _⟩
  | true =>
    rw [hok] at hR
    have hR' : ∀ w, Calls Tryd.prog 9 #[.string (BS s)] w fun e w' => e = .returned (.int .i64 0) ∧ w' = w := hR
    have HR := Go.Lib.hid hR'
    have h24 := pcopy_right hok
    clear hR hR'
    by_cases hz1 : z < 1
    · have hc : copyRes s z = ([], 1) := by unfold copyRes; rw [hok, if_pos rfl, if_pos (.inl hz1)]
      have HC := Go.Lib.hid hc; clear hc hok
      go_enter Tryd.func14, Tryd.ntmps14
      go_wp2_with (go_at_call 9; refine (HR.out _).mono ?_; rintro e w1 ⟨rfl, hw1⟩; rw [hw1])
      go_ret2
      exact ⟨by rw [HC.out]; rfl, Below.refl _ _⟩
    · by_cases hz2 : 9999 < z
      · have hc : copyRes s z = ([], 1) := by unfold copyRes; rw [hok, if_pos rfl, if_pos (.inr hz2)]
        have HC := Go.Lib.hid hc; clear hc hok
        go_enter Tryd.func14, Tryd.ntmps14
        go_wp2_with (go_at_call 9; refine (HR.out _).mono ?_; rintro e w1 ⟨rfl, hw1⟩; rw [hw1])
        go_ret2
        exact ⟨by rw [HC.out]; rfl, Below.refl _ _⟩
      · obtain ⟨n, rfl⟩ : ∃ n : Nat, z = (n : Int) := ⟨z.toNat, by omega⟩
        have hc : copyRes s n = (copyOf s n, 0) := by unfold copyRes; rw [hok, if_pos rfl, if_neg (by omega), Int.toNat_natCast]
        have hcp := pcopyOf_any s n w h24 (by omega) (by omega) hP
        have HC := Go.Lib.hid hc; have HCP := Go.Lib.hid hcp; clear hc hok hcp
        go_enter Tryd.func14, Tryd.ntmps14
        go_wp2_with fail
        refine (HR.out _).mono ?_; rintro e w1 ⟨rfl, hw1⟩; rw [hw1]
        go_wp2_with fail
        refine HCP.out.mono ?_; rintro e w2 ⟨rfl, hb2⟩
        have HB := Go.Lib.hid hb2; clear hb2
        go_wp2_with fail
        go_ret2
        exact ⟨by rw [HC.out]; rfl, HB.out⟩
end Go.Proofs.YtaoepalafefogaaDoor.W
