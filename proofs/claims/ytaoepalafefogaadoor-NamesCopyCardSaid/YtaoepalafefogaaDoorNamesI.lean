/- The program's names: Right, ext, Ext. -/
import Derived.Test.YtaoepalafefogaaDoorNamesE
import Derived.Test.YtaoepalafefogaaDoorShelf
import Derived.Lib.LastIndexByte
import Derived.Lib.AppendIntMem
namespace Go.Proofs.YtaoepalafefogaaDoor.W
set_option linter.unusedVariables false
open Go.RowKit Go.Proofs Arb

set_option maxHeartbeats 2000000 in
theorem pright_same (l : List UInt8) (w : World) (hl : l.length ≤ 140737488351232) :
    Calls Tryd.prog 9 #[.string (BS l)] w fun e w' => e = .returned (.int .i64 (nmRight l)) ∧ w' = w := by
  have hsz : (BS l).size = l.length := BS_size l
  by_cases h1 : l.length < 1
  · have hr := right_head (l := l) (by unfold nmHead; exact decide_eq_false (by omega))
    have HR := Go.Lib.hid hr; clear hr
    have h1' : (l.length : Int) < 1 := by omega
    go_enter Tryd.func9, Tryd.ntmps9
    go_wp2_with fail
    go_ret
    exact ⟨by rw [HR.out]; rfl, rfl⟩
  have h1' : ¬ ((l.length : Int) < 1) := by omega
  by_cases h24 : 24 < l.length
  · have hr := right_head (l := l) (by unfold nmHead; exact decide_eq_false (by omega))
    have HR := Go.Lib.hid hr; clear hr
    have h24' : (24 : Int) < (l.length : Int) := by omega
    go_enter Tryd.func9, Tryd.ntmps9
    go_wp2_with fail
    go_ret
    exact ⟨by rw [HR.out]; rfl, rfl⟩
  have h24' : ¬ ((24 : Int) < (l.length : Int)) := by omega
  have q1 := BS_beq l [46]
  have q2 := BS_beq l [46, 46]
  by_cases e1 : l = [46]
  · have hr := right_head (l := l) (by unfold nmHead; exact decide_eq_false (fun h => h.2.2.1 e1))
    have HR := Go.Lib.hid hr; clear hr
    rw [decide_eq_true e1] at q1
    clear e1 q2
    go_enter Tryd.func9, Tryd.ntmps9
    go_wp2_with fail
    go_ret
    exact ⟨by rw [HR.out]; rfl, rfl⟩
  rw [decide_eq_false e1] at q1
  by_cases e2 : l = [46, 46]
  · have hr := right_head (l := l) (by unfold nmHead; exact decide_eq_false (fun h => h.2.2.2.1 e2))
    have HR := Go.Lib.hid hr; clear hr
    rw [decide_eq_true e2] at q2
    clear e1 e2
    go_enter Tryd.func9, Tryd.ntmps9
    go_wp2_with fail
    go_ret
    exact ⟨by rw [HR.out]; rfl, rfl⟩
  rw [decide_eq_false e2] at q2
  have hlt0 : 0 < (BS l).size := by omega
  have hhd : l.head? = some (l[0]'(by omega)) := by rw [List.head?_eq_getElem?, List.getElem?_eq_getElem (by omega)]
  have hld : l.getLast? = some (l[l.length - 1]'(by omega)) := by rw [List.getLast?_eq_getElem?, List.getElem?_eq_getElem (by omega)]
  by_cases e3 : l[0]'(by omega) = 32
  · have hr := right_head (l := l) (by unfold nmHead; exact decide_eq_false (fun h => h.2.2.2.2.1 (by rw [hhd, e3])))
    have HR := Go.Lib.hid hr; clear hr
    have q3 : ((((BS l)[0]'hlt0).toNat : Int) == 32) = true := by rw [BS_get, e3]; rfl
    clear e1 e2 e3 hhd hld
    go_enter Tryd.func9, Tryd.ntmps9
    go_wp2_with fail
    go_ret
    exact ⟨by rw [HR.out]; rfl, rfl⟩
  have q3 : ((((BS l)[0]'hlt0).toNat : Int) == 32) = false := by
    rw [beq_eq_false_iff_ne, BS_get]
    intro h
    exact e3 (UInt8.toNat_inj.1 (by show (l[0]'(by omega)).toNat = 32; omega))
  have hltl : l.length - 1 < (BS l).size := by omega
  have w1 : IntKind.i64.wrap ((l.length : Int) - 1) = ((l.length - 1 : Nat) : Int) := by rw [IntWalk.i64_in _ (by omega)]; omega
  obtain ⟨m, hm⟩ : ∃ m, l.length - 1 = m := ⟨_, rfl⟩
  rw [hm] at w1
  have hltm : m < (BS l).size := by omega
  have hmi : (m : Int) < (l.length : Int) := by omega
  have hlm : l.getLast? = some (l[m]'(by omega)) := by rw [hld]; congr 1; simp only [hm]
  by_cases e4 : l[m]'(by omega) = 32
  · have hr := right_head (l := l) (by unfold nmHead; exact decide_eq_false (fun h => h.2.2.2.2.2 (by rw [hlm, e4])))
    have HR := Go.Lib.hid hr; clear hr
    have q4 : ((((BS l)[m]'hltm).toNat : Int) == 32) = true := by rw [BS_get, e4]; rfl
    clear e1 e2 e3 e4 hhd hld hlm hltl hm
    go_enter Tryd.func9, Tryd.ntmps9
    go_wp2_with fail
    go_ret
    exact ⟨by rw [HR.out]; rfl, rfl⟩
  have q4 : ((((BS l)[m]'hltm).toNat : Int) == 32) = false := by
    rw [beq_eq_false_iff_ne, BS_get]
    intro h
    exact e4 (UInt8.toNat_inj.1 (by show (l[m]'(by omega)).toNat = 32; omega))
  have hh : nmHead l = true := by
    unfold nmHead
    refine decide_eq_true ⟨by omega, by omega, e1, e2, fun h => e3 ?_, fun h => e4 ?_⟩
    · rw [hhd] at h; exact Option.some.inj h
    · rw [hlm] at h; exact Option.some.inj h
  have HH := Go.Lib.hid hh
  clear e1 e2 e3 e4 hhd hld hlm hltl hm hh
  go_enter Tryd.func9, Tryd.ntmps9
  go_wp2_with fail
  go_loop [3, 33, 34, 35, 36, 37, 38, 39, 40, 41, 42, 43, 44, 45, 46, 47, 48, 49, 50, 51, 52] (fun _ i _ _ _ _ _ _ _ _ _ _ _ _ _ _ _ _ _ _ _ => ∃ k : Nat, k ≤ l.length ∧ i = .int .i64 (k : Int) ∧ ∀ j (hj : j < l.length), j < k → okByte l[j] = true) (fun _ i _ _ _ _ _ _ _ _ _ _ _ _ _ _ _ _ _ _ _ => l.length - (intOf i).toNat)
  case atStart => exact ⟨0, by omega, rfl, fun j _ h => by omega⟩
  case round =>
    obtain ⟨k, hk, rfl, hall⟩ := hrel
    have HA := Go.Lib.hid hall; clear hall
    by_cases hkl : k < l.length
    · have hltk : k < (BS l).size := by omega
      have hki : (k : Int) < (l.length : Int) := by omega
      have hg := BS_get l k hltk
      have hb := UInt8.toNat_lt (l[k]'hkl)
      by_cases hok : okByte (l[k]'hkl) = true
      · have ho := of_decide_eq_true hok
        have r1 : ¬ ((((BS l)[k]'hltk).toNat : Int) < 32) := by rw [hg]; omega
        have r2 : ¬ ((126 : Int) < (((BS l)[k]'hltk).toNat : Int)) := by rw [hg]; omega
        have r3 : ((((BS l)[k]'hltk).toNat : Int) == 47) = false := by rw [beq_eq_false_iff_ne, hg]; omega
        have HO := Go.Lib.hid hok; clear hok ho hg hb
        go_wp2_with fail
        refine ⟨⟨k + 1, by omega, by simp, fun j hj hjk => ?_⟩, by simp [intOf]; omega⟩
        by_cases e : j = k
        · subst e; exact HO.out
        · exact HA.out j hj (by omega)
      · have hok' : okByte (l[k]'hkl) = false := by simpa using hok
        have hr := right_byte k hkl hok'
        have HR := Go.Lib.hid hr; clear hr
        have ho := of_decide_eq_false hok'
        clear hok hok'
        by_cases r1 : (((BS l)[k]'hltk).toNat : Int) < 32
        · clear ho hg hb
          go_wp2_with fail
          go_ret
          exact ⟨by rw [HR.out]; rfl, rfl⟩
        · by_cases r2 : (126 : Int) < (((BS l)[k]'hltk).toNat : Int)
          · clear ho hg hb
            go_wp2_with fail
            go_ret
            exact ⟨by rw [HR.out]; rfl, rfl⟩
          · have r3 : ((((BS l)[k]'hltk).toNat : Int) == 47) = true := by rw [beq_iff_eq]; rw [hg] at r1 r2 ⊢; omega
            clear ho hg hb
            go_wp2_with fail
            go_ret
            exact ⟨by rw [HR.out]; rfl, rfl⟩
    · obtain rfl : k = l.length := by omega
      have hr := right_good HH.out fun j hj => HA.out j hj hj
      have HR := Go.Lib.hid hr; clear hr
      go_wp2_with fail
      go_ret
      exact ⟨by rw [HR.out]; rfl, rfl⟩

theorem pnright_any (l : List UInt8) (w : World) (hl : l.length ≤ 140737488351232) :
    Calls Tryd.prog 9 #[.string (BS l)] w fun e w' => e = .returned (.int .i64 (nmRight l)) ∧ Below w.heap.size w w' :=
  (pright_same l w hl).mono fun _ _ ⟨he, hw⟩ => ⟨he, hw ▸ Below.refl _ _⟩

theorem BS_at (l : List UInt8) (j : Nat) (hj : j < l.length) : (BS l).data[j]! = l[j] := by
  show l.toArray[j]! = l[j]
  rw [getElem!_pos l.toArray j (by simpa using hj)]
  simp
theorem nat46 (b : UInt8) : ((b.toNat : Int) = 46) ↔ b = 46 := by
  constructor
  · intro h
    exact UInt8.toNat_inj.1 (by show b.toNat = 46; omega)
  · rintro rfl; rfl
/-- The last '.' that is not the first byte, or none. -/
theorem ext_last (l : List UInt8) : (∃ d : Int, Go.Lib.lastIndexByte (BS l) 46 = d ∧ d < 1 ∧ ext l = []) ∨
    ∃ i : Nat, Go.Lib.lastIndexByte (BS l) 46 = (i : Int) ∧ 1 ≤ i ∧ i < l.length ∧ ext l = l.drop (i + 1) := by
  have hsz : (BS l).size = l.length := BS_size l
  rcases Go.Lib.lastIndexByte_spec (BS l) 46 with ⟨he, hn⟩ | ⟨i, hi, he, hc, hn⟩
  · refine .inl ⟨-1, he, by omega, ext_end l fun j hj _ h46 => hn j (by omega) ?_⟩
    rw [BS_at l j hj]; exact (nat46 _).2 h46
  · have hil : i < l.length := by omega
    have hn' : ∀ j (hj : j < l.length), i < j → l[j] ≠ 46 := fun j hj hij h46 => hn j hij (by omega) (by rw [BS_at l j hj]; exact (nat46 _).2 h46)
    by_cases h0 : i = 0
    · subst h0
      exact .inl ⟨0, he, by omega, ext_end l hn'⟩
    · refine .inr ⟨i, he, by omega, hil, ext_at l i hil (by omega) ?_ hn'⟩
      rw [BS_at l i hil] at hc
      exact (nat46 _).1 hc

set_option maxHeartbeats 1000000 in
theorem pext_any (l : List UInt8) (w : World) (hl : l.length ≤ 140737488351232) :
    Calls Tryd.prog 21 #[.string (BS l)] w fun e w' => e = .returned (.string (BS (ext l))) ∧ w' = w := by
  have hsz : (BS l).size = l.length := BS_size l
  have hL := fun w => Tryd.strings_LastIndexByte (BS l) 46 (by omega) w
  rcases ext_last l with ⟨d, he, hd, hx⟩ | ⟨i, he, h1, hi, hx⟩
  · rw [he] at hL
    have HL := Go.Lib.hid hL; have HX := Go.Lib.hid hx; clear hL hx he
    go_enter Tryd.func21, Tryd.ntmps21
    go_wp2_with (go_at_call 27; refine (HL.out _).mono ?_; rintro e w1 ⟨rfl, hw1⟩; rw [hw1])
    go_ret
    exact ⟨by rw [HX.out]; rfl, rfl⟩
  · rw [he] at hL
    have hcut : (BS l).extract (i + 1) l.length = BS (ext l) := by rw [← hsz, BS_tail, hx]
    have w1 : IntKind.i64.wrap ((i : Int) + 1) = (i : Int) + 1 := by rw [IntWalk.i64_in _ (by omega)]
    have hi1 : (i : Int) + 1 ≤ (l.length : Int) := by omega
    have hge : ¬ ((i : Int) < 1) := by omega
    have HL := Go.Lib.hid hL; have HX := Go.Lib.hid hcut; clear hL hx he hcut
    go_enter Tryd.func21, Tryd.ntmps21
    go_wp2_with (go_at_call 27; refine (HL.out _).mono ?_; rintro e w2 ⟨rfl, hw2⟩; rw [hw2])
    go_ret
    refine ⟨?_, rfl⟩
    rw [← HX.out]
    rfl

theorem pclone_any (l : List UInt8) (w : World) (hl : l.length ≤ 140737488351232) :
    Calls Tryd.prog 20 #[.string (BS l)] w fun e w' => e = .returned (.string (BS l)) ∧ Below w.heap.size w w' := by
  have hC := fun w => Tryd.stringslite_Clone (BS l) w (by rw [BS_size]; omega)
  have HC := Go.Lib.hid hC; clear hC
  go_enter Tryd.func20, Tryd.ntmps20
  go_wp2_with (go_at_call 26; refine (HC.out _).mono ?_; rintro e w1 ⟨rfl, hb1⟩)
  go_ret
  exact ⟨rfl, hb1⟩

theorem ext_len (l : List UInt8) : (ext l).length ≤ l.length := by
  rcases ext_cases l with h | ⟨p, _, h, _⟩
  · rw [h]; simp
  · have := congrArg List.length h; rw [List.length_append] at this; simp at this; omega
theorem pnext_name (l : List UInt8) (w : World) (hl : l.length ≤ 140737488351232) :
    Calls Tryd.prog 12 #[.string (BS l)] w fun e w' => e = .returned (.string (BS (ext l))) ∧ Below w.heap.size w w' := by
  have hX := fun w => pext_any l w hl
  have hC := fun w => pclone_any (ext l) w (by have := ext_len l; omega)
  have HX := Go.Lib.hid hX; have HC := Go.Lib.hid hC; clear hX hC
  go_enter Tryd.func12, Tryd.ntmps12
  go_wp2_with fail
  refine (HX.out _).mono ?_; rintro e w1 ⟨rfl, hw1⟩; rw [hw1]
  go_wp2_with fail
  refine (HC.out _).mono ?_; rintro e w2 ⟨rfl, hb2⟩
  have HB := Go.Lib.hid hb2; clear hb2
  go_wp2_with fail
  go_ret
  exact ⟨rfl, HB.out⟩
end Go.Proofs.YtaoepalafefogaaDoor.W
