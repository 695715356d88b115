/- The reference of vectors: contracts. -/
import Derived.Test.YtgfkiekcdjnaeaaClockR
namespace Go.Proofs.Ytgfkiekcdjnaeaa.W
set_option linter.unusedVariables false
open Go.RowKit Go.Proofs Arb

/-- The value v is the vector zs. -/
def Ints (w : World) (v : Value) (zs : List Int) : Prop :=
  ∃ A n c, v = .slice A n c ∧ zs.length = n ∧ n ≤ c ∧ (0 < n → ∃ b off, A = some ⟨b, off, none⟩ ∧ ∀ j z, zs[j]? = some z → w.cell? ⟨b, off + j, none⟩ = some (.int .i64 z))
theorem Ints.same {w w' : World} {v : Value} {zs : List Int} (h : Ints w v zs) (hh : ∀ b off, b < w.heap.size → w'.cell? ⟨b, off, none⟩ = w.cell? ⟨b, off, none⟩) : Ints w' v zs := by
  obtain ⟨A, n, c, hv, hl, hc, hr⟩ := h
  refine ⟨A, n, c, hv, hl, hc, fun h0 => ?_⟩
  obtain ⟨b, off, hA, hz⟩ := hr h0
  refine ⟨b, off, hA, fun j z hj => ?_⟩
  have := hz j z hj
  rw [hh b (off + j) (World.block_lt_of_cell? w _ this)]
  exact this
theorem Ints.below {w w' : World} {v : Value} {zs : List Int} (h : Ints w v zs) (hb : Below w.heap.size w w') : Ints w' v zs := h.same fun _ _ hl => hb.cell hl
theorem Ints.of_sl {w : World} {A : Option Addr} {n c : Nat} {zs : List Int} (h : Sl w 1 A n c (zs.map fun z => [.int .i64 z])) : Ints w (.slice A n c) zs := by
  refine ⟨A, n, c, rfl, by simpa using h.1, h.2.1, fun h0 => ?_⟩
  obtain ⟨b, off, hA, hr⟩ := h.2.2.2 h0
  refine ⟨b, off, hA, fun j z hj => ?_⟩
  have := (hr j [.int .i64 z] (by simp [hj])).2 0 _ rfl
  simpa using this
theorem Ints.of_row {w : World} {base : Nat} {e : TypeId} {v : Value} {n : Nat} {zs : List Int} (h : Row w base e 1 v n (zs.map fun z => .int .i64 z)) : Ints w v zs := by
  have hl : zs.length = n := by simpa using h.1
  rcases Nat.eq_zero_or_pos n with h0 | h0
  · subst h0
    rcases h.2 with ⟨rfl, _⟩ | ⟨g, cap, cur, fz, rfl, _⟩
    · exact ⟨none, 0, 0, rfl, hl, Nat.le_refl _, fun h => by omega⟩
    · exact ⟨_, 0, cap, rfl, hl, Nat.zero_le _, fun h => by omega⟩
  · obtain ⟨g, cap, rfl, hc, _, _, hcell, _⟩ := h.open h0
    exact ⟨_, n, cap, rfl, hl, hc, fun _ => ⟨g, 0, rfl, fun j z hj => by rw [Nat.zero_add]; exact hcell j _ (by simp [hj])⟩⟩

set_option maxHeartbeats 1000000 in
theorem rat_any (v : Value) (zs : List Int) (k : Nat) (w : World) (h : Ints w v zs) (hl : zs.length ≤ 100000) (hk : k ≤ 100000) :
    Calls Try.prog 31 #[v, .int .i64 (k : Int)] w fun e w' => e = .returned (.int .i64 (vAt zs k)) ∧ w = w' := by
  obtain ⟨A, n, c, rfl, rfl, hc, hr⟩ := h
  by_cases hkn : k < zs.length
  · obtain ⟨b, off, rfl, hz⟩ := hr (by omega)
    have hcell := hz k _ (List.getElem?_eq_getElem hkn)
    have hv : vAt zs k = max zs[k] 0 := by unfold vAt; rw [List.getD_eq_getElem?_getD, List.getElem?_eq_getElem hkn]; rfl
    obtain ⟨x, hx⟩ : ∃ x, zs[k] = x := ⟨_, rfl⟩
    rw [hx] at hcell hv
    have hkn' : (k : Int) < (zs.length : Int) := by omega
    clear hr hz hx
    by_cases hx0 : 0 ≤ x
    · rw [show max x 0 = x by omega] at hv
      have HV := Go.Lib.hid hv; clear hv
      go_enter Try.func31, Try.ntmps31
      go_wp2_with fail
      go_ret
      rw [HV.out]
      exact ⟨rfl, rfl⟩
    · rw [show max x 0 = 0 by omega] at hv
      have HV := Go.Lib.hid hv; clear hv
      go_enter Try.func31, Try.ntmps31
      go_wp2_with fail
      go_ret
      rw [HV.out]
      exact ⟨rfl, rfl⟩
  · have hv : vAt zs k = 0 := by unfold vAt; rw [List.getD_eq_getElem?_getD, List.getElem?_eq_none (by omega)]; rfl
    have HV := Go.Lib.hid hv; clear hv
    clear hr
    go_enter Try.func31, Try.ntmps31
    go_wp2_with fail
    go_ret
    rw [HV.out]
    exact ⟨rfl, rfl⟩

theorem covers_range (a b : List Int) (n : Nat) (h : ∀ w, w < n → vAt b w ≤ vAt a w) : n = b.length → coversOf a b = true := by
  rintro rfl
  unfold coversOf
  rw [List.all_eq_true]
  intro w hw
  exact decide_eq_true (h w (List.mem_range.1 hw))

set_option maxHeartbeats 1000000 in
theorem rcovers_any (u v : Value) (a b : List Int) (w : World) (hu : Ints w u a) (hv : Ints w v b) (ha : a.length ≤ 100000) (hb : b.length ≤ 100000) :
    Calls Try.prog 26 #[u, v] w fun e w' => e = .returned (.bool (coversOf a b)) ∧ w = w' := by
  have HU := Go.Lib.hid hu; clear hu
  have HV0 := Go.Lib.hid hv
  obtain ⟨A, n, c, rfl, hbl, hc, _⟩ := hv
  obtain ⟨r, hr⟩ : ∃ r, coversOf a b = r := ⟨_, rfl⟩
  rw [hr]
  have HR := Go.Lib.hid hr; clear hr
  have HBL := Go.Lib.hid hbl; clear hbl
  go_enter Try.func26, Try.ntmps26
  go_wp2_with fail
  go_loop [5] (fun i => ∃ k : Nat, k ≤ n ∧ i = .int .i64 (k : Int) ∧ ∀ w, w < k → vAt b w ≤ vAt a w) (fun i => n - (intOf i).toNat)
  case atStart => exact ⟨0, by omega, rfl, fun _ h => by omega⟩
  case round =>
    obtain ⟨k, hk, rfl, hall⟩ := hrel
    have HALL := Go.Lib.hid hall; clear hall
    by_cases hkn : k < n
    · have hkn' : (k : Int) < (n : Int) := by omega
      have hk1 : k ≤ 100000 := by have := HBL.out; omega
      obtain ⟨x, hx⟩ : ∃ x, vAt a k = x := ⟨_, rfl⟩
      obtain ⟨y, hy⟩ : ∃ y, vAt b k = y := ⟨_, rfl⟩
      have h1 := fun w hw => rat_any u a k w hw ha hk1
      have h2 := fun w hw => rat_any (.slice A n c) b k w hw hb hk1
      rw [hx] at h1
      rw [hy] at h2
      have H1 := Go.Lib.hid h1; clear h1
      have H2 := Go.Lib.hid h2; clear h2
      by_cases hxy : x < y
      · have HX := Go.Lib.hid hx; clear hx
        have HY := Go.Lib.hid hy; clear hy
        go_wp2_with fail
        refine (H1.out _ HU.out).mono ?_; rintro e w1 ⟨rfl, rfl⟩
        go_wp2_with fail
        refine (H2.out _ HV0.out).mono ?_; rintro e w1 ⟨rfl, rfl⟩
        go_wp2_with fail
        go_ret
        refine ⟨?_, rfl⟩
        have hf : coversOf a b = false := by
          unfold coversOf
          rw [List.all_eq_false]
          exact ⟨k, List.mem_range.2 (by have := HBL.out; omega), by rw [HX.out, HY.out]; simp; omega⟩
        rw [← HR.out, hf]; rfl
      · have HX := Go.Lib.hid hx; clear hx
        have HY := Go.Lib.hid hy; clear hy
        go_wp2_with fail
        refine (H1.out _ HU.out).mono ?_; rintro e w1 ⟨rfl, rfl⟩
        go_wp2_with fail
        refine (H2.out _ HV0.out).mono ?_; rintro e w1 ⟨rfl, rfl⟩
        go_wp2_with fail
        refine ⟨⟨k + 1, by omega, by simp, fun w hw => ?_⟩, by simp [intOf]; omega⟩
        rcases Nat.lt_or_ge w k with h | h
        · exact HALL.out w h
        · obtain rfl : w = k := by omega
          rw [HX.out, HY.out]; omega
    · obtain rfl : k = n := by omega
      go_wp2_with fail
      go_ret
      refine ⟨?_, rfl⟩
      rw [← HR.out, covers_range a b k HALL.out HBL.out.symm]
      rfl
end Go.Proofs.Ytgfkiekcdjnaeaa.W
