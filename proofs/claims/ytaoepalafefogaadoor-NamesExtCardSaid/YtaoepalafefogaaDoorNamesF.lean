/- The law's few and texts. -/
import Derived.Test.YtaoepalafefogaaDoorNamesH
namespace Go.Proofs.YtaoepalafefogaaDoor.W
set_option linter.unusedVariables false
open Go.RowKit Go.Proofs Arb

def fewS (ss : List (List UInt8)) : Bool := decide (ss.length ≤ 200 ∧ ∀ l ∈ ss, l.length ≤ 200)

set_option maxHeartbeats 1000000 in
theorem fewS_any (v : Value) (ss : List (List UInt8)) (w : World) (h : Strs w v ss) (hl : ss.length ≤ 140737488351232) (hw : ∀ l ∈ ss, l.length ≤ 140737488351232) :
    Calls Tryd.prog 16 #[v] w fun e w' => e = .returned (.bool (fewS ss)) ∧ w' = w := by
  obtain ⟨A, c, rfl, hc, hr⟩ := h.open
  obtain ⟨r, hr2⟩ : ∃ r, fewS ss = r := ⟨_, rfl⟩
  rw [hr2]
  obtain ⟨n, hn⟩ : ∃ n, ss.length = n := ⟨_, rfl⟩
  rw [hn]
  have HR := Go.Lib.hid hr; have HR2 := Go.Lib.hid hr2; have HN := Go.Lib.hid hn; have HW := Go.Lib.hid hw
  clear hr hr2 h hw
  rw [hn] at hl hc
  clear hn
  by_cases h200 : 200 < n
  · have hres : r = false := by rw [← HR2.out]; exact decide_eq_false (fun h => by have := HN.out; omega)
    subst hres
    go_enter Tryd.func16, Tryd.ntmps16
    go_wp2_with fail
    go_ret
    exact ⟨rfl, rfl⟩
  go_enter Tryd.func16, Tryd.ntmps16
  go_wp2_with fail
  go_loop [3] (fun i => ∃ k : Nat, k ≤ n ∧ i = .int .i64 (k : Int) ∧ ∀ j (hj : j < ss.length), j < k → ss[j].length ≤ 200) (fun i => n - (intOf i).toNat)
  case atStart => exact ⟨0, by omega, rfl, fun j _ h => by omega⟩
  case round =>
    obtain ⟨k, hk, rfl, hall⟩ := hrel
    have HA := Go.Lib.hid hall; clear hall
    by_cases hkn : k < n
    · have hkl : k < ss.length := by have := HN.out; omega
      obtain ⟨b, off, rfl, hz⟩ := HR.out (by omega)
      have hcell := hz k hkl
      have hki : (k : Int) < (n : Int) := by omega
      have hsz : (BS (ss[k]'hkl)).size = (ss[k]'hkl).length := BS_size _
      have hwl := HW.out _ (List.getElem_mem hkl)
      by_cases he : 200 < (ss[k]'hkl).length
      · have hres : r = false := by rw [← HR2.out]; exact decide_eq_false (fun h => by have := h.2 _ (List.getElem_mem hkl); omega)
        subst hres
        clear hz
        go_wp2_with fail
        go_ret
        exact ⟨rfl, rfl⟩
      · clear hz
        go_wp2_with fail
        refine ⟨⟨k + 1, by omega, by simp, fun j hj hjk => ?_⟩, by simp [intOf]; omega⟩
        by_cases e : j = k
        · subst e; omega
        · exact HA.out j hj (by omega)
    · obtain rfl : k = n := by omega
      have hres : r = true := by
        rw [← HR2.out]
        refine decide_eq_true ⟨by have := HN.out; omega, fun l hm => ?_⟩
        obtain ⟨j, hj, rfl⟩ := List.getElem_of_mem hm
        exact HA.out j hj (by have := HN.out; omega)
      subst hres
      go_wp2_with fail
      go_ret
      exact ⟨rfl, rfl⟩

set_option maxHeartbeats 2000000 in
theorem texts_any (u v : Value) (a b : List (List UInt8)) (w : World) (hu : Strs w u a) (hv : Strs w v b) (ha : a.length ≤ 100000) (hb : b.length ≤ 100000) :
    Calls Tryd.prog 19 #[u, v] w fun e w' => e = .returned (.bool (decide (a = b))) ∧ ∃ m, w' = w.drewN m := by
  obtain ⟨A, c, rfl, hc, hr⟩ := hu.open
  obtain ⟨A2, c2, rfl, hc2, hr2⟩ := hv.open
  obtain ⟨r, hres⟩ : ∃ r, decide (a = b) = r := ⟨_, rfl⟩
  rw [hres]
  obtain ⟨n, hn⟩ : ∃ n, a.length = n := ⟨_, rfl⟩
  obtain ⟨n2, hn2⟩ : ∃ n2, b.length = n2 := ⟨_, rfl⟩
  have HR := Go.Lib.hid hr; have HR2 := Go.Lib.hid hr2; have HN := Go.Lib.hid hn; have HN2 := Go.Lib.hid hn2; have HRES := Go.Lib.hid hres
  rw [hn] at ha hc ⊢
  rw [hn2] at hb hc2 ⊢
  clear hr hr2 hn hn2 hres hu hv
  by_cases hne : n = n2
  · subst hne
    go_enter Tryd.func19, Tryd.ntmps19
    go_wp2_with fail
    go_loopw [5] (fun i wr => ∃ k : Nat, k ≤ n ∧ i = .int .i64 (k : Int) ∧ a.take k = b.take k ∧ ∃ m, wr = w.drewN m) (fun i _ => n - (intOf i).toNat)
    case atStart => exact ⟨0, by omega, rfl, rfl, 0, rfl⟩
    case round =>
      obtain ⟨k, hk, rfl, hsame, m, rfl⟩ := hrel
      have HS := Go.Lib.hid hsame; clear hsame
      by_cases hkn : k < n
      · have hka : k < a.length := by have := HN.out; omega
        have hkb : k < b.length := by have := HN2.out; omega
        obtain ⟨b1, off1, rfl, hz1⟩ := HR.out (by omega)
        obtain ⟨b2, off2, rfl, hz2⟩ := HR2.out (by omega)
        have hcell1 := hz1 k hka
        have hcell2 := hz2 k hkb
        have hki : (k : Int) < (n : Int) := by omega
        have hq := BS_toList (a[k]'hka) (b[k]'hkb)
        have hqn : ((BS (a[k]'hka)).toList != (BS (b[k]'hkb)).toList) = !decide (a[k]'hka = b[k]'hkb) := by rw [bne, hq]
        by_cases he : a[k]'hka = b[k]'hkb
        · have hnext : a.take (k + 1) = b.take (k + 1) := by
            rw [List.take_succ_eq_append_getElem hka, List.take_succ_eq_append_getElem hkb, HS.out, he]
          rw [decide_eq_true he] at hq hqn
          have HNX := Go.Lib.hid hnext
          clear hz1 hz2 he hnext
          go_wp2_with fail
          first | (go_quiet (fail)) | skip
          go_wp2_with fail
          exact ⟨⟨k + 1, by omega, by simp, HNX.out, m + nq, rfl⟩, by simp [intOf]; omega⟩
        · have hr3 : r = false := by
            rw [← HRES.out]
            refine decide_eq_false fun e => he ?_
            simp only [e]
          rw [decide_eq_false he] at hq hqn
          subst hr3
          clear hz1 hz2 he
          go_wp2_with fail
          first | (go_quiet (fail)) | skip
          go_wp2_with fail
          go_ret
          exact ⟨rfl, m + nq, by rw [World.drewN_drewN]⟩
      · obtain rfl : k = n := by omega
        have hr3 : r = true := by
          rw [← HRES.out]
          refine decide_eq_true ?_
          have := HS.out
          rwa [List.take_of_length_le (by have := HN.out; omega), List.take_of_length_le (by have := HN2.out; omega)] at this
        subst hr3
        go_wp2_with fail
        go_ret
        exact ⟨rfl, m, rfl⟩
  · have hr3 : r = false := by
      rw [← HRES.out]
      exact decide_eq_false fun e => hne (by rw [← HN.out, ← HN2.out, e])
    subst hr3
    have hne' : ((n : Int) != (n2 : Int)) = true := by simp; omega
    go_enter Tryd.func19, Tryd.ntmps19
    go_wp2_with fail
    go_ret
    exact ⟨rfl, 0, rfl⟩
end Go.Proofs.YtaoepalafefogaaDoor.W
