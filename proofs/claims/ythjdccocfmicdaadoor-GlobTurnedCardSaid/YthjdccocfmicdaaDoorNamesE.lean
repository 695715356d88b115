/- The reference of names: Ext, digits, Copy. -/
import Derived.Test.YthjdccocfmicdaaDoorNamesR
import Derived.Deep.RegionHeld3
namespace Go.Proofs.YthjdccocfmicdaaDoor.W
set_option maxRecDepth 20000
set_option linter.unusedVariables false
open Go.RowKit Go.Proofs Arb

theorem ext_at (l : List UInt8) (k : Nat) (hk : k < l.length) (h0 : 0 < k) (h46 : l[k] = 46) (hn : ∀ j (hj : j < l.length), k < j → l[j] ≠ 46) : ext l = l.drop (k + 1) := by
  have e : l = l.take k ++ 46 :: l.drop (k + 1) := by
    rw [← h46, ← List.drop_eq_getElem_cons hk, List.take_append_drop]
  have hne : l.take k ≠ [] := by intro h; have := congrArg List.length h; rw [List.length_take, List.length_nil] at this; omega
  have hnm : (46 : UInt8) ∉ l.drop (k + 1) := by
    intro hm
    obtain ⟨j, hj, e⟩ := List.getElem_of_mem hm
    rw [List.getElem_drop] at e
    rw [List.length_drop] at hj
    exact hn (k + 1 + j) (by omega) (by omega) e
  have := ext_found (l.take k) (l.drop (k + 1)) hne hnm
  rwa [← e] at this
theorem ext_end (l : List UInt8) (hn : ∀ j (hj : j < l.length), 0 < j → l[j] ≠ 46) : ext l = [] := by
  apply ext_none
  intro hm
  obtain ⟨j, hj, e⟩ := List.getElem_of_mem hm
  rw [List.getElem_tail] at e
  rw [List.length_tail] at hj
  exact hn (j + 1) (by omega) (by omega) e

set_option maxHeartbeats 1000000 in
theorem rnext_name (l : List UInt8) (w : World) (hl : l.length ≤ 140737488351232) :
    Calls Tryd.prog 40 #[.string (BS l)] w fun e w' => e = .returned (.string (BS (ext l))) ∧ w' = w := by
  have hsz : (BS l).size = l.length := BS_size l
  by_cases h0 : l.length = 0
  · have hx : ext l = [] := by rw [List.eq_nil_of_length_eq_zero h0]; rfl
    have HX := Go.Lib.hid hx; clear hx
    have h0' : (l.length : Int) = 0 := by omega
    go_enter Tryd.func40, Tryd.ntmps40
    go_wp2_with fail
    go_loop [3] (fun i => i = .int .i64 (-1)) (fun _ => 0)
    case atStart => first | rfl | simp [h0]
    case round =>
      subst hrel
      go_wp2_with fail
      go_ret
      exact ⟨by rw [HX.out]; rfl, rfl⟩
  · have w1 : IntKind.i64.wrap ((l.length : Int) - 1) = ((l.length - 1 : Nat) : Int) := by rw [IntWalk.i64_in _ (by omega)]; omega
    go_enter Tryd.func40, Tryd.ntmps40
    go_wp2_with fail
    go_loop [3] (fun i => ∃ k : Nat, k < l.length ∧ i = .int .i64 (k : Int) ∧ ∀ j (hj : j < l.length), k < j → l[j] ≠ 46) (fun i => (intOf i).toNat)
    case atStart => exact ⟨l.length - 1, by omega, congrArg _ (by omega), fun j hj h => by omega⟩
    case round =>
      obtain ⟨k, hk, rfl, hn⟩ := hrel
      have hltk : k < (BS l).size := by omega
      by_cases hk0 : 0 < k
      · by_cases h46 : l[k] = 46
        · have hx := ext_at l k hk hk0 h46 hn
          have hcut : (BS l).extract (k + 1) l.length = BS (ext l) := by rw [← hsz, BS_tail, hx]
          have HX := Go.Lib.hid hcut; clear hcut hx
          have hq : ((BS l)[k]'hltk).toNat = 46 := congrArg UInt8.toNat h46
          have q : ((((BS l)[k]'hltk).toNat : Int) == 46) = true := by rw [beq_iff_eq, hq]; rfl
          have hki : (k : Int) < (l.length : Int) := by omega
          have hki1 : (k : Int) + 1 ≤ (l.length : Int) := by omega
          clear hn h46 hq
          go_wp2_with fail
          go_ret
          refine ⟨?_, rfl⟩
          rw [← HX.out]
          rfl
        · have q : ((((BS l)[k]'hltk).toNat : Int) == 46) = false := by
            rw [beq_eq_false_iff_ne, BS_get]
            intro h
            exact h46 (UInt8.toNat_inj.1 (by show (l[k]).toNat = 46; omega))
          have hki : (k : Int) < (l.length : Int) := by omega
          have HN := Go.Lib.hid hn
          have H46 := Go.Lib.hid h46
          clear hn h46
          go_wp2_with fail
          refine ⟨⟨k - 1, by omega, congrArg _ (by omega), fun j hj hjk => ?_⟩, by simp [intOf]; omega⟩
          by_cases e : j = k
          · subst e; exact H46.out
          · exact HN.out j hj (by omega)
      · obtain rfl : k = 0 := by omega
        have hx := ext_end l hn
        have HX := Go.Lib.hid hx; clear hx hn
        go_wp2_with fail
        go_ret
        exact ⟨by rw [HX.out]; rfl, rfl⟩
end Go.Proofs.YthjdccocfmicdaaDoor.W
