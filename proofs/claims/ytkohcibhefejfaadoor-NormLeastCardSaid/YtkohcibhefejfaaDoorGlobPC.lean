/- The program's filters: Path. -/
import Derived.Test.YtkohcibhefejfaaDoorGlobPB
namespace Go.Proofs.YtkohcibhefejfaaDoor.W
set_option maxRecDepth 20000
set_option linter.unusedVariables false
open Go.RowKit Go.Proofs Arb

set_option maxHeartbeats 4000000 in
theorem gpath_any (s : List UInt8) (w : World) (hl : s.length ≤ 100000) :
    Calls Tryd.prog 7 #[.string (BS s)] w fun e w' => e = .returned (.bool (pathOk s)) ∧ Below w.heap.size w w' := by
  have hsp := fun W => psplit_any 47 s W hl
  have hco := fun W => pcount_any 47 s W
  have hct := spl_count 47 s
  have hpl : ∀ x ∈ spl 47 s, x.length ≤ s.length := fun x hx => part_len x hx
  have hr : pathOk s = (decide ((spl 47 s).length ≤ 16) && (spl 47 s).all nmOk) := rfl
  obtain ⟨L, hL⟩ : ∃ L, spl 47 s = L := ⟨_, rfl⟩
  rw [hL] at hsp hpl hr hct
  obtain ⟨r, hr0⟩ : ∃ r, pathOk s = r := ⟨_, rfl⟩
  rw [hr0] at hr
  rw [hr0]
  obtain ⟨n, hn⟩ : ∃ n, s.count 47 = n := ⟨_, rfl⟩
  rw [hn] at hco hct
  rw [hct] at hr
  have HSP := Go.Lib.hid hsp; have HPL := Go.Lib.hid hpl; have HR := Go.Lib.hid hr; have HCO := Go.Lib.hid hco; have HCT := Go.Lib.hid hct
  clear hsp hpl hr hL hr0 hco hct hn
  by_cases h16 : n < 16
  · have h16' : ¬ ((16 : Int) ≤ (n : Int)) := by omega
    have hra : L.all nmOk = r := by rw [HR.out, decide_eq_true (by omega : n + 1 ≤ 16), Bool.true_and]
    have HR := Go.Lib.hid hra; clear hra
    go_enter Tryd.func7, Tryd.ntmps7
    go_wp2_with fail
    refine (HCO.out _).mono ?_; rintro e wc ⟨rfl, hwc⟩
    rw [hwc]
    clear hwc wc
    go_wp2_with fail
    refine (HSP.out _).mono ?_; rintro e w1 ⟨v, rfl, hT, hb1⟩
    have hT' := hT
    obtain ⟨A, n', c, rfl, hn, hc, -⟩ := hT'
    obtain rfl : n' = n + 1 := hn.symm.trans HCT.out
    have HT := Go.Lib.hid hT; have HB1 := Go.Lib.hid hb1
    clear hT hb1 hn
    obtain ⟨m, hm⟩ : ∃ m, n + 1 = m := ⟨_, rfl⟩
    have hm16 : m ≤ 16 := by omega
    rw [hm] at HT HCT hc ⊢
    clear hm
    go_wp2_with fail
    go_loopw [4, 11, 12, 13, 14, 15, 16, 17, 18] (fun _ i _ _ _ _ _ _ _ wr => ∃ k : Nat, k ≤ m ∧ i = .int .i64 (k : Int) ∧ (∀ x ∈ L.take k, nmOk x = true) ∧ wr = w1) (fun _ i _ _ _ _ _ _ _ _ => m - (intOf i).toNat)
    case atStart => exact ⟨0, by omega, rfl, by simp, rfl⟩
    case round =>
      obtain ⟨k, hk, rfl, hall, rfl⟩ := hrel
      by_cases hkn : k < m
      · have hki : (k : Int) < (m : Int) := by omega
        obtain ⟨g, o, x, rfl, hx, hcell⟩ := HT.out.at k hkn
        have hxm := List.mem_of_getElem? hx
        have hrn := pright_same x wr (by have := HPL.out x hxm; omega)
        have hq := right_ne x
        cases hok : nmOk x with
        | true =>
          rw [hok] at hq
          have hnext : ∀ y ∈ L.take (k + 1), nmOk y = true := fun y hy => by
            rw [List.take_add_one, hx] at hy
            rcases List.mem_append.1 hy with hy | hy
            · exact hall y hy
            · simp at hy; rw [hy]; exact hok
          obtain ⟨z, hz⟩ : ∃ z, nmRight x = z := ⟨_, rfl⟩
          rw [hz] at hq hrn
          have HRN := Go.Lib.hid hrn; have HNX := Go.Lib.hid hnext
          clear hrn hnext hall hx hxm hz hok
          go_wp2_with fail
          refine HRN.out.mono ?_; rintro e _ ⟨rfl, rfl⟩
          go_wp2_with fail
          exact ⟨⟨k + 1, by omega, by simp, HNX.out, (by first | trivial | rfl)⟩, by simp [intOf]; omega⟩
        | false =>
          rw [hok] at hq
          have hres : r = false := by
            rw [← HR.out, List.all_eq_false]
            exact ⟨x, hxm, by rw [hok]; simp⟩
          subst hres
          obtain ⟨z, hz⟩ : ∃ z, nmRight x = z := ⟨_, rfl⟩
          rw [hz] at hq hrn
          have HRN := Go.Lib.hid hrn
          clear hrn hall hx hxm hz hok
          go_wp2_with fail
          refine HRN.out.mono ?_; rintro e _ ⟨rfl, rfl⟩
          go_wp2_with fail
          go_ret
          exact ⟨rfl, HB1.out⟩
      · obtain rfl : k = m := by omega
        have hres : r = true := by
          rw [← HR.out, List.all_eq_true]
          intro y hy
          refine hall y ?_
          rwa [List.take_of_length_le (by have := HCT.out; omega)]
        subst hres
        clear hall
        go_wp2_with fail
        go_ret
        exact ⟨rfl, HB1.out⟩
  · have h16' : (16 : Int) ≤ (n : Int) := by omega
    have hra : r = false := by rw [HR.out, decide_eq_false (by omega : ¬ n + 1 ≤ 16), Bool.false_and]
    subst hra
    go_enter Tryd.func7, Tryd.ntmps7
    go_wp2_with fail
    refine (HCO.out _).mono ?_; rintro e wc ⟨rfl, hwc⟩
    rw [hwc]
    clear hwc wc
    go_wp2_with fail
    go_ret
    exact ⟨rfl, Below.refl _ _⟩

end Go.Proofs.YtkohcibhefejfaaDoor.W
