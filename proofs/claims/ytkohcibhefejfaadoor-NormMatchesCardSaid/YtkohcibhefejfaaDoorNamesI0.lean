/- The program's names: Right. -/
import Derived.Test.YtkohcibhefejfaaDoorNamesR0
namespace Go.Proofs.YtkohcibhefejfaaDoor.W
set_option maxRecDepth 20000
set_option linter.unusedVariables false
open Go.RowKit Go.Proofs Arb

set_option maxHeartbeats 2000000 in
theorem pright_same (l : List UInt8) (w : World) (hl : l.length ≤ 140737488351232) :
    Calls Tryd.prog 14 #[.string (BS l)] w fun e w' => e = .returned (.int .i64 (nmRight l)) ∧ w' = w := by
  have hsz : (BS l).size = l.length := BS_size l
  by_cases h1 : l.length < 1
  · have hr := right_head (l := l) (by unfold nmHead; exact decide_eq_false (by omega))
    have HR := Go.Lib.hid hr; clear hr
    have h1' : (l.length : Int) < 1 := by omega
    go_enter Tryd.func14, Tryd.ntmps14
    go_wp2_with fail
    go_ret
    exact ⟨by rw [HR.out]; rfl, rfl⟩
  have h1' : ¬ ((l.length : Int) < 1) := by omega
  by_cases h24 : 24 < l.length
  · have hr := right_head (l := l) (by unfold nmHead; exact decide_eq_false (by omega))
    have HR := Go.Lib.hid hr; clear hr
    have h24' : (24 : Int) < (l.length : Int) := by omega
    go_enter Tryd.func14, Tryd.ntmps14
    go_wp2_with fail
    go_ret
    exact ⟨by rw [HR.out]; rfl, rfl⟩
  have h24' : ¬ ((24 : Int) < (l.length : Int)) := by omega
  have q1 := BS_beq l [46]
  have q2 := BS_beq l [46, 46]
  by_cases e1 : l = [46]
  · have hr := right_head (l := l) (by unfold nmHead; exact decide_eq_false (fun h => h.2.2.1 e1))
    have HR := Go.Lib.hid hr; clear hr
    rw [decide_eq_true e1] at q1
    clear e1 q2
    go_enter Tryd.func14, Tryd.ntmps14
    go_wp2_with fail
    go_ret
    exact ⟨by rw [HR.out]; rfl, rfl⟩
  rw [decide_eq_false e1] at q1
  by_cases e2 : l = [46, 46]
  · have hr := right_head (l := l) (by unfold nmHead; exact decide_eq_false (fun h => h.2.2.2.1 e2))
    have HR := Go.Lib.hid hr; clear hr
    rw [decide_eq_true e2] at q2
    clear e1 e2
    go_enter Tryd.func14, Tryd.ntmps14
    go_wp2_with fail
    go_ret
    exact ⟨by rw [HR.out]; rfl, rfl⟩
  rw [decide_eq_false e2] at q2
  have hlt0 : 0 < (BS l).size := by omega
  have hhd : l.head? = some (l[0]'(by omega)) := by rw [List.head?_eq_getElem?, List.getElem?_eq_getElem (by omega)]
  have hld : l.getLast? = some (l[l.length - 1]'(by omega)) := by rw [List.getLast?_eq_getElem?, List.getElem?_eq_getElem (by omega)]
  by_cases e3 : l[0]'(by omega) = 32
  · have hr := right_head (l := l) (by unfold nmHead; exact decide_eq_false (fun h => h.2.2.2.2.1 (by rw [hhd, e3])))
    have HR := Go.Lib.hid hr; clear hr
    have q3 : ((((BS l)[0]'hlt0).toNat : Int) == 32) = true := by rw [BS_get, e3]; rfl
    clear e1 e2 e3 hhd hld
    go_enter Tryd.func14, Tryd.ntmps14
    go_wp2_with fail
    go_ret
    exact ⟨by rw [HR.out]; rfl, rfl⟩
  have q3 : ((((BS l)[0]'hlt0).toNat : Int) == 32) = false := by
    rw [beq_eq_false_iff_ne, BS_get]
    intro h
    exact e3 (UInt8.toNat_inj.1 (by show (l[0]'(by omega)).toNat = 32; omega))
  have hltl : l.length - 1 < (BS l).size := by omega
  have w1 : IntKind.i64.wrap ((l.length : Int) - 1) = ((l.length - 1 : Nat) : Int) := by rw [IntWalk.i64_in _ (by omega)]; omega
  obtain ⟨m, hm⟩ : ∃ m, l.length - 1 = m := ⟨_, rfl⟩
  rw [hm] at w1
  have hltm : m < (BS l).size := by omega
  have hmi : (m : Int) < (l.length : Int) := by omega
  have hlm : l.getLast? = some (l[m]'(by omega)) := by rw [hld]; congr 1; simp only [hm]
  by_cases e4 : l[m]'(by omega) = 32
  · have hr := right_head (l := l) (by unfold nmHead; exact decide_eq_false (fun h => h.2.2.2.2.2 (by rw [hlm, e4])))
    have HR := Go.Lib.hid hr; clear hr
    have q4 : ((((BS l)[m]'hltm).toNat : Int) == 32) = true := by rw [BS_get, e4]; rfl
    clear e1 e2 e3 e4 hhd hld hlm hltl hm
    go_enter Tryd.func14, Tryd.ntmps14
    go_wp2_with fail
    go_ret
    exact ⟨by rw [HR.out]; rfl, rfl⟩
  have q4 : ((((BS l)[m]'hltm).toNat : Int) == 32) = false := by
    rw [beq_eq_false_iff_ne, BS_get]
    intro h
    exact e4 (UInt8.toNat_inj.1 (by show (l[m]'(by omega)).toNat = 32; omega))
  have hh : nmHead l = true := by
    unfold nmHead
    refine decide_eq_true ⟨by omega, by omega, e1, e2, fun h => e3 ?_, fun h => e4 ?_⟩
    · rw [hhd] at h; exact Option.some.inj h
    · rw [hlm] at h; exact Option.some.inj h
  have HH := Go.Lib.hid hh
  clear e1 e2 e3 e4 hhd hld hlm hltl hm hh
  go_enter Tryd.func14, Tryd.ntmps14
  go_wp2_with fail
  go_loop [3, 33, 34, 35, 36, 37, 38, 39, 40, 41, 42, 43, 44, 45, 46, 47, 48, 49, 50, 51, 52] (fun _ i _ _ _ _ _ _ _ _ _ _ _ _ _ _ _ _ _ _ _ => ∃ k : Nat, k ≤ l.length ∧ i = .int .i64 (k : Int) ∧ ∀ j (hj : j < l.length), j < k → okByte l[j] = true) (fun _ i _ _ _ _ _ _ _ _ _ _ _ _ _ _ _ _ _ _ _ => l.length - (intOf i).toNat)
  case atStart => exact ⟨0, by omega, rfl, fun j _ h => by omega⟩
  case round =>
    obtain ⟨k, hk, rfl, hall⟩ := hrel
    have HA := Go.Lib.hid hall; clear hall
    by_cases hkl : k < l.length
    · have hltk : k < (BS l).size := by omega
      have hki : (k : Int) < (l.length : Int) := by omega
      have hg := BS_get l k hltk
      have hb := UInt8.toNat_lt (l[k]'hkl)
      by_cases hok : okByte (l[k]'hkl) = true
      · have ho := of_decide_eq_true hok
        have r1 : ¬ ((((BS l)[k]'hltk).toNat : Int) < 32) := by rw [hg]; omega
        have r2 : ¬ ((126 : Int) < (((BS l)[k]'hltk).toNat : Int)) := by rw [hg]; omega
        have r3 : ((((BS l)[k]'hltk).toNat : Int) == 47) = false := by rw [beq_eq_false_iff_ne, hg]; omega
        have HO := Go.Lib.hid hok; clear hok ho hg hb
        go_wp2_with fail
        refine ⟨⟨k + 1, by omega, by simp, fun j hj hjk => ?_⟩, by simp [intOf]; omega⟩
        by_cases e : j = k
        · subst e; exact HO.out
        · exact HA.out j hj (by omega)
      · have hok' : okByte (l[k]'hkl) = false := by simpa using hok
        have hr := right_byte k hkl hok'
        have HR := Go.Lib.hid hr; clear hr
        have ho := of_decide_eq_false hok'
        clear hok hok'
        by_cases r1 : (((BS l)[k]'hltk).toNat : Int) < 32
        · clear ho hg hb
          go_wp2_with fail
          go_ret
          exact ⟨by rw [HR.out]; rfl, rfl⟩
        · by_cases r2 : (126 : Int) < (((BS l)[k]'hltk).toNat : Int)
          · clear ho hg hb
            go_wp2_with fail
            go_ret
            exact ⟨by rw [HR.out]; rfl, rfl⟩
          · have r3 : ((((BS l)[k]'hltk).toNat : Int) == 47) = true := by rw [beq_iff_eq]; rw [hg] at r1 r2 ⊢; omega
            clear ho hg hb
            go_wp2_with fail
            go_ret
            exact ⟨by rw [HR.out]; rfl, rfl⟩
    · obtain rfl : k = l.length := by omega
      have hr := right_good HH.out fun j hj => HA.out j hj hj
      have HR := Go.Lib.hid hr; clear hr
      go_wp2_with fail
      go_ret
      exact ⟨by rw [HR.out]; rfl, rfl⟩

theorem pnright_any (l : List UInt8) (w : World) (hl : l.length ≤ 140737488351232) :
    Calls Tryd.prog 14 #[.string (BS l)] w fun e w' => e = .returned (.int .i64 (nmRight l)) ∧ Below w.heap.size w w' :=
  (pright_same l w hl).mono fun _ _ ⟨he, hw⟩ => ⟨he, hw ▸ Below.refl _ _⟩
end Go.Proofs.YtkohcibhefejfaaDoor.W
