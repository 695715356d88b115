/- The reference of vectors: whether two are the same. -/
import Derived.Test.YtmkmahjboocoaaaClockV
namespace Go.Proofs.Ytmkmahjboocoaaa.W
set_option linter.unusedVariables false
open Go.RowKit Go.Proofs Arb

theorem Ints.cell {w : World} {b off n c : Nat} {zs : List Int} (h : Ints w (.slice (some ⟨b, off, none⟩) n c) zs) (k : Nat) (hk : k < n) : w.cell? ⟨b, off + k, none⟩ = some (.int .i64 (zs.getD k 0)) := by
  obtain ⟨A, n', c', he, hl, _, hr⟩ := h
  cases he
  obtain ⟨b', off', he, hz⟩ := hr (by omega)
  cases he
  refine hz k _ ?_
  rw [List.getD_eq_getElem?_getD, List.getElem?_eq_getElem (by omega)]
  rfl
theorem Ints.form {w : World} {v : Value} {zs : List Int} (h : Ints w v zs) (h0 : 0 < zs.length) : ∃ b off c, v = .slice (some ⟨b, off, none⟩) zs.length c ∧ zs.length ≤ c := by
  obtain ⟨A, n, c, rfl, rfl, hc, hr⟩ := h
  obtain ⟨b, off, rfl, _⟩ := hr h0
  exact ⟨b, off, c, rfl, hc⟩

theorem same_of (a b : List Int) (hl : a.length = b.length) (h : ∀ j, j < a.length → a.getD j 0 = b.getD j 0) : a = b := by
  apply List.ext_getElem hl
  intro i h1 h2
  have := h i h1
  rw [List.getD_eq_getElem?_getD, List.getD_eq_getElem?_getD, List.getElem?_eq_getElem h1, List.getElem?_eq_getElem h2] at this
  exact this

set_option maxHeartbeats 1000000 in
theorem rsame_any (u v : Value) (a b : List Int) (w : World) (hu : Ints w u a) (hv : Ints w v b) (ha : a.length ≤ 1000000) (hb : b.length ≤ 1000000) :
    Calls Try.prog 23 #[u, v] w fun e w' => e = .returned (.bool (decide (a = b))) ∧ ∃ m, w' = w.drewN m := by
  obtain ⟨r, hr⟩ : ∃ r, decide (a = b) = r := ⟨_, rfl⟩
  rw [hr]
  by_cases hl : a.length = b.length
  · rcases Nat.eq_zero_or_pos a.length with h0 | h0
    · obtain ⟨A, n, c, rfl, hn, _, _⟩ := hu
      obtain ⟨A2, n2, c2, rfl, hn2, _, _⟩ := hv
      obtain rfl : n = 0 := by omega
      obtain rfl : n2 = 0 := by omega
      have hab : a = b := by rw [List.eq_nil_of_length_eq_zero hn, List.eq_nil_of_length_eq_zero hn2]
      have hrt : r = true := by rw [← hr, hab]; simp
      subst hrt
      clear hr hl h0 hn hn2 hab
      go_enter Try.func23, Try.ntmps23
      go_wp2_with fail
      go_loopw [5] (fun i wr => i = .int .i64 0 ∧ wr = w) (fun _ _ => 0)
      case atStart => exact ⟨rfl, rfl⟩
      case round =>
        obtain ⟨rfl, rfl⟩ := hrel
        go_wp2_with fail
        go_ret
        exact ⟨rfl, 0, rfl⟩
    · obtain ⟨b1, o1, c1, rfl, hc1⟩ := hu.form h0
      obtain ⟨b2, o2, c2, rfl, hc2⟩ := hv.form (by omega)
      obtain ⟨n, hn⟩ : ∃ n, a.length = n := ⟨_, rfl⟩
      have hn2 : b.length = n := by omega
      have hnl : n ≤ 1000000 := by omega
      rw [hn2] at hv hc2 ⊢
      rw [hn] at hu hc1 ⊢
      have HU := Go.Lib.hid hu; clear hu
      have HV := Go.Lib.hid hv; clear hv
      have HR := Go.Lib.hid hr; clear hr
      have HN := Go.Lib.hid hn
      have HN2 := Go.Lib.hid hn2
      clear hl hn hn2
      go_enter Try.func23, Try.ntmps23
      go_wp2_with fail
      go_loopw [5] (fun i wr => ∃ k : Nat, k ≤ n ∧ i = .int .i64 (k : Int) ∧ (∀ j, j < k → a.getD j 0 = b.getD j 0) ∧ ∃ m, wr = w.drewN m) (fun i _ => n - (intOf i).toNat)
      case atStart => exact ⟨0, by omega, rfl, fun _ h => by omega, 0, rfl⟩
      case round =>
        obtain ⟨k, hk, rfl, hall, m, rfl⟩ := hrel
        have HALL := Go.Lib.hid hall; clear hall
        by_cases hkn : k < n
        · have hkn' : (k : Int) < (n : Int) := by omega
          have ca := HU.out.cell k hkn
          have cb := HV.out.cell k hkn
          obtain ⟨x, hx⟩ : ∃ x, a.getD k 0 = x := ⟨_, rfl⟩
          obtain ⟨y, hy⟩ : ∃ y, b.getD k 0 = y := ⟨_, rfl⟩
          rw [hx] at ca
          rw [hy] at cb
          have HX := Go.Lib.hid hx; clear hx
          have HY := Go.Lib.hid hy; clear hy
          by_cases hxy : x = y
          · have hne : (x != y) = false := by simp [hxy]
            have HXY := Go.Lib.hid hxy; clear hxy
            go_wp2_with fail
            first | (go_quiet (fail)) | skip
            go_wp2_with fail
            refine ⟨⟨k + 1, by omega, by simp, fun j hj => ?_, _, rfl⟩, by simp [intOf]; omega⟩
            rcases Nat.lt_or_ge j k with h | h
            · exact HALL.out j h
            · obtain rfl : j = k := by omega
              rw [HX.out, HY.out, HXY.out]
          · have hne : (x != y) = true := by simp [hxy]
            go_wp2_with fail
            first | (go_quiet (fail)) | skip
            go_wp2_with fail
            go_ret
            refine ⟨?_, _, World.drewN_drewN _ _ _⟩
            have hab : ¬ a = b := fun h => hxy (by rw [← HX.out, ← HY.out, h])
            rw [← HR.out]; simp [hab]
        · obtain rfl : k = n := by omega
          go_wp2_with fail
          go_ret
          refine ⟨?_, m, rfl⟩
          have hab : a = b := same_of a b (by rw [HN.out, HN2.out]) (by rw [HN.out]; exact HALL.out)
          rw [← HR.out, hab]; simp
  · have hrf : r = false := by rw [← hr]; simp; intro h; exact hl (by rw [h])
    subst hrf
    obtain ⟨A, n, c, rfl, hn, _, _⟩ := hu
    obtain ⟨A2, n2, c2, rfl, hn2, _, _⟩ := hv
    have hne : ((n : Int) != (n2 : Int)) = true := by simp; omega
    clear hr hl hn hn2
    go_enter Try.func23, Try.ntmps23
    go_wp2_with fail
    go_ret
    exact ⟨rfl, 0, rfl⟩

end Go.Proofs.Ytmkmahjboocoaaa.W
