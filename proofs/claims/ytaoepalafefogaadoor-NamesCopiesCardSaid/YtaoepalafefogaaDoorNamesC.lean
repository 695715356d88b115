/- The reference of names: Copy. -/
import Derived.Test.YtaoepalafefogaaDoorNamesD
namespace Go.Proofs.YtaoepalafefogaaDoor.W
set_option linter.unusedVariables false
open Go.RowKit Go.Proofs Arb

theorem BS_append (a b : List UInt8) : BS a ++ BS b = BS (a ++ b) := ByteArray.mk_append_mk _ _

set_option maxHeartbeats 2000000 in
theorem rncopy_any (s : List UInt8) (z : Int) (w : World) (hl : s.length ≤ 140737488351232) (hz : -9223372036854775808 ≤ z ∧ z ≤ 9223372036854775807) :
    Calls Tryd.prog 15 #[.string (BS s), .int .i64 z] w fun e w' => e = .returned (.tuple #[.string (BS (copyRes s z).1), .int .i64 (copyRes s z).2]) ∧ Below w.heap.size w w' := by
  have hR := fun w => rnright_any s w hl
  unfold nmRight at hR
  cases hok : nmOk s with
  | false =>
    rw [hok] at hR
    have hc : copyRes s z = ([], 23) := by unfold copyRes; rw [hok]; rfl
    have hR' : ∀ w, Calls Tryd.prog 10 #[.string (BS s)] w fun e w' => e = .returned (.int .i64 23) ∧ w' = w := hR
    have HR := Go.Lib.hid hR'; have HC := Go.Lib.hid hc; clear hR hR' hc hok
    go_enter Tryd.func15, Tryd.ntmps15
    go_wp2_with (go_at_call 10; refine (HR.out _).mono ?_; rintro e w1 ⟨rfl, hw1⟩; rw [hw1])
    go_ret2
    exact ⟨by rw [HC.out]; rfl, Below.refl _ _⟩
  | true =>
    rw [hok] at hR
    have hR' : ∀ w, Calls Tryd.prog 10 #[.string (BS s)] w fun e w' => e = .returned (.int .i64 0) ∧ w' = w := hR
    have HR := Go.Lib.hid hR'
    have h24 := ((ok_spec s).1 hok).1.2.1
    clear hR hR'
    by_cases hz1 : z < 1
    · have hc : copyRes s z = ([], 1) := by unfold copyRes; rw [hok, if_pos rfl, if_pos (.inl hz1)]
      have HC := Go.Lib.hid hc; clear hc hok
      go_enter Tryd.func15, Tryd.ntmps15
      go_wp2_with (go_at_call 10; refine (HR.out _).mono ?_; rintro e w1 ⟨rfl, hw1⟩; rw [hw1])
      go_ret2
      exact ⟨by rw [HC.out]; rfl, Below.refl _ _⟩
    · by_cases hz2 : 9999 < z
      · have hc : copyRes s z = ([], 1) := by unfold copyRes; rw [hok, if_pos rfl, if_pos (.inr hz2)]
        have HC := Go.Lib.hid hc; clear hc hok
        go_enter Tryd.func15, Tryd.ntmps15
        go_wp2_with (go_at_call 10; refine (HR.out _).mono ?_; rintro e w1 ⟨rfl, hw1⟩; rw [hw1])
        go_ret2
        exact ⟨by rw [HC.out]; rfl, Below.refl _ _⟩
      · obtain ⟨n, rfl⟩ : ∃ n : Nat, z = (n : Int) := ⟨z.toNat, by omega⟩
        have hc : copyRes s n = (copyOf s n, 0) := by unfold copyRes; rw [hok, if_pos rfl, if_neg (by omega), Int.toNat_natCast]
        have hX := fun w => rnext_name s w hl
        have hD := fun w => rndigits_any n w (by omega)
        have hd1 := dg_pos n; have hd4 := dg_len n (by omega)
        have HC := Go.Lib.hid hc; have HX := Go.Lib.hid hX; have HD := Go.Lib.hid hD
        have hel : (ext s).length ≤ s.length := by
          rcases ext_cases s with h | ⟨p, _, h, _⟩
          · rw [h]; simp
          · have := congrArg List.length h; rw [List.length_append] at this; simp at this; omega
        clear hc hX hD hok
        have he1 : (BS (ext s)).size = (ext s).length := BS_size _
        have hs1 : (BS s).size = s.length := BS_size _
        by_cases hb : 1 ≤ (ext s).length ∧ (ext s).length ≤ 7
        · have hbo : behindOf s = 46 :: ext s := by unfold behindOf; rw [if_pos hb]
          have hsl : 1 + (ext s).length ≤ s.length := by
            rcases ext_cases s with h | ⟨p, _, h, _⟩
            · rw [h] at hb; simp at hb
            · have := congrArg List.length h; rw [List.length_append] at this; simp at this; omega
          have hbl : (behindOf s).length = 1 + (ext s).length := by rw [hbo, List.length_cons]; omega
          have hsl' : (1 : Int) + ((ext s).length : Int) ≤ (s.length : Int) := by omega
          have hb1' : (1 : Int) ≤ ((ext s).length : Int) := by omega
          have hb7' : ((ext s).length : Int) ≤ 7 := by omega
          have hcat1 : (⟨#[46]⟩ : ByteArray) ++ BS (ext s) = BS (behindOf s) := by rw [hbo]; exact BS_append [46] _
          have hstem : (BS s).extract 0 (s.length - (1 + (ext s).length)) = BS (s.take (s.length - (behindOf s).length)) := by rw [BS_extract, hbl]; rfl
          have HC1 := Go.Lib.hid hcat1; have HST := Go.Lib.hid hstem
          clear hcat1 hstem
          go_enter Tryd.func15, Tryd.ntmps15
          go_wp2_with (first | (go_at_call 10; refine (HR.out _).mono ?_; rintro e w1 ⟨rfl, hw1⟩; rw [hw1]) | (go_at_call 13; refine (HX.out _).mono ?_; rintro e w1 ⟨rfl, hw1⟩; rw [hw1]))
          refine (HD.out _).mono ?_
          rintro e w1 ⟨rfl, hb1⟩
          have HB1 := Go.Lib.hid hb1; clear hb1
          rw [HC1.out, HST.out]
          obtain ⟨B, hB⟩ : ∃ B, behindOf s = B := ⟨_, rfl⟩
          obtain ⟨T, hT⟩ : ∃ T, s.take (s.length - B.length) = T := ⟨_, rfl⟩
          rw [hB] at hbl
          rw [hB, hT]
          have hcopy : copyOf s n = T.take (24 - (126 :: dg n ++ B).length) ++ (126 :: dg n ++ B) := by unfold copyOf tailOf; rw [hB, hT]
          have hTl : T.length ≤ 24 := by rw [← hT, List.length_take]; omega
          have hBl : B.length ≤ 8 := by omega
          have z1 : (BS (dg n)).size = (dg n).length := BS_size _
          have z2 : (BS B).size = B.length := BS_size _
          have z3 : (BS T).size = T.length := BS_size _
          have hcat2 : (⟨#[126]⟩ : ByteArray) ++ BS (dg n) = BS (126 :: dg n) := BS_append [126] _
          have hcat3 : BS (126 :: dg n) ++ BS B = BS (126 :: dg n ++ B) := BS_append _ _
          have z4 : (BS (126 :: dg n)).size = (dg n).length + 1 := by rw [BS_size]; rfl
          obtain ⟨L, hL⟩ : ∃ L, 126 :: dg n ++ B = L := ⟨_, rfl⟩
          have hLl : L.length = (dg n).length + 1 + B.length := by rw [← hL]; simp; omega
          rw [hL] at hcat3 hcopy
          have z5 : (BS L).size = L.length := BS_size _
          have HCAT2 := Go.Lib.hid hcat2; have HCAT3 := Go.Lib.hid hcat3; have HCO := Go.Lib.hid hcopy
          clear hcat2 hcat3 hcopy hL hT hB
          go_wp2_with fail
          all_goals
            go_ret2
            refine ⟨?_, HB1.out⟩
            rw [HC.out, HCO.out]
            simp only [HCAT2.out, HCAT3.out, BS_extract, BS_append, List.drop_zero, Nat.sub_zero]
            refine congrArg (fun q => Ending.returned (.tuple #[.string (BS q), .int .i64 0])) (congrArg (· ++ L) ?_)
            first
              | (congr 1; omega)
              | (rw [List.take_of_length_le (Nat.le_refl _), List.take_of_length_le (by omega)])
        · have hbo : behindOf s = [] := by unfold behindOf; rw [if_neg hb]
          have hbl : (behindOf s).length = 0 := by rw [hbo]; rfl
          have hstem : (BS s).extract 0 s.length = BS (s.take (s.length - (behindOf s).length)) := by rw [BS_extract, hbl]; rfl
          have hemp : (⟨#[]⟩ : ByteArray) = BS (behindOf s) := by rw [hbo]; rfl
          have HST := Go.Lib.hid hstem; have HEM := Go.Lib.hid hemp
          clear hstem hemp
          rcases (by omega : (ext s).length < 1 ∨ (1 ≤ (ext s).length ∧ 7 < (ext s).length)) with hq | hq
          all_goals
            go_enter Tryd.func15, Tryd.ntmps15
            go_wp2_with (first | (go_at_call 10; refine (HR.out _).mono ?_; rintro e w1 ⟨rfl, hw1⟩; rw [hw1]) | (go_at_call 13; refine (HX.out _).mono ?_; rintro e w1 ⟨rfl, hw1⟩; rw [hw1]))
            refine (HD.out _).mono ?_
            rintro e w1 ⟨rfl, hb1⟩
            have HB1 := Go.Lib.hid hb1; clear hb1
            rw [HST.out, HEM.out]
            obtain ⟨B, hB⟩ : ∃ B, behindOf s = B := ⟨_, rfl⟩
            obtain ⟨T, hT⟩ : ∃ T, s.take (s.length - B.length) = T := ⟨_, rfl⟩
            rw [hB] at hbl
            rw [hB, hT]
            have hcopy : copyOf s n = T.take (24 - (126 :: dg n ++ B).length) ++ (126 :: dg n ++ B) := by unfold copyOf tailOf; rw [hB, hT]
            have hTl : T.length ≤ 24 := by rw [← hT, List.length_take]; omega
            have hBl : B.length ≤ 8 := by omega
            have z1 : (BS (dg n)).size = (dg n).length := BS_size _
            have z2 : (BS B).size = B.length := BS_size _
            have z3 : (BS T).size = T.length := BS_size _
            have hcat2 : (⟨#[126]⟩ : ByteArray) ++ BS (dg n) = BS (126 :: dg n) := BS_append [126] _
            have hcat3 : BS (126 :: dg n) ++ BS B = BS (126 :: dg n ++ B) := BS_append _ _
            have z4 : (BS (126 :: dg n)).size = (dg n).length + 1 := by rw [BS_size]; rfl
            obtain ⟨L, hL⟩ : ∃ L, 126 :: dg n ++ B = L := ⟨_, rfl⟩
            have hLl : L.length = (dg n).length + 1 + B.length := by rw [← hL]; simp; omega
            rw [hL] at hcat3 hcopy
            have z5 : (BS L).size = L.length := BS_size _
            have HCAT2 := Go.Lib.hid hcat2; have HCAT3 := Go.Lib.hid hcat3; have HCO := Go.Lib.hid hcopy
            clear hcat2 hcat3 hcopy hL hT hB
            go_wp2_with fail
            all_goals
              go_ret2
              refine ⟨?_, HB1.out⟩
              rw [HC.out, HCO.out]
              simp only [HCAT2.out, HCAT3.out, BS_extract, BS_append, List.drop_zero, Nat.sub_zero]
              refine congrArg (fun q => Ending.returned (.tuple #[.string (BS q), .int .i64 0])) (congrArg (· ++ L) ?_)
              first
                | (congr 1; omega)
                | (rw [List.take_of_length_le (Nat.le_refl _), List.take_of_length_le (by omega)])
end Go.Proofs.YtaoepalafefogaaDoor.W
