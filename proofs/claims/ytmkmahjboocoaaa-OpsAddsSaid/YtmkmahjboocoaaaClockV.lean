/- The reference of vectors: contracts. -/
import Derived.Test.YtmkmahjboocoaaaClockR
namespace Go.Proofs.Ytmkmahjboocoaaa.W
set_option linter.unusedVariables false
open Go.RowKit Go.Proofs Arb

/-- The value v is the vector zs. -/
def Ints (w : World) (v : Value) (zs : List Int) : Prop :=
  ∃ A n c, v = .slice A n c ∧ zs.length = n ∧ n ≤ c ∧ (0 < n → ∃ b off, A = some ⟨b, off, none⟩ ∧ ∀ j z, zs[j]? = some z → w.cell? ⟨b, off + j, none⟩ = some (.int .i64 z))
theorem Ints.same {w w' : World} {v : Value} {zs : List Int} (h : Ints w v zs) (hh : ∀ b off, b < w.heap.size → w'.cell? ⟨b, off, none⟩ = w.cell? ⟨b, off, none⟩) : Ints w' v zs := by
  obtain ⟨A, n, c, hv, hl, hc, hr⟩ := h
  refine ⟨A, n, c, hv, hl, hc, fun h0 => ?_⟩
  obtain ⟨b, off, hA, hz⟩ := hr h0
  refine ⟨b, off, hA, fun j z hj => ?_⟩
  have := hz j z hj
  rw [hh b (off + j) (World.block_lt_of_cell? w _ this)]
  exact this
theorem Ints.below {w w' : World} {v : Value} {zs : List Int} (h : Ints w v zs) (hb : Below w.heap.size w w') : Ints w' v zs := h.same fun _ _ hl => hb.cell hl
theorem Ints.of_sl {w : World} {A : Option Addr} {n c : Nat} {zs : List Int} (h : Sl w 1 A n c (zs.map fun z => [.int .i64 z])) : Ints w (.slice A n c) zs := by
  refine ⟨A, n, c, rfl, by simpa using h.1, h.2.1, fun h0 => ?_⟩
  obtain ⟨b, off, hA, hr⟩ := h.2.2.2 h0
  refine ⟨b, off, hA, fun j z hj => ?_⟩
  have := (hr j [.int .i64 z] (by simp [hj])).2 0 _ rfl
  simpa using this
theorem Ints.of_row {w : World} {base : Nat} {e : TypeId} {v : Value} {n : Nat} {zs : List Int} (h : Row w base e 1 v n (zs.map fun z => .int .i64 z)) : Ints w v zs := by
  have hl : zs.length = n := by simpa using h.1
  rcases Nat.eq_zero_or_pos n with h0 | h0
  · subst h0
    rcases h.2 with ⟨rfl, _⟩ | ⟨g, cap, cur, fz, rfl, _⟩
    · exact ⟨none, 0, 0, rfl, hl, Nat.le_refl _, fun h => by omega⟩
    · exact ⟨_, 0, cap, rfl, hl, Nat.zero_le _, fun h => by omega⟩
  · obtain ⟨g, cap, rfl, hc, _, _, hcell, _⟩ := h.open h0
    exact ⟨_, n, cap, rfl, hl, hc, fun _ => ⟨g, 0, rfl, fun j z hj => by rw [Nat.zero_add]; exact hcell j _ (by simp [hj])⟩⟩

set_option maxHeartbeats 1000000 in
theorem rat_any (v : Value) (zs : List Int) (k : Nat) (w : World) (h : Ints w v zs) (hl : zs.length ≤ 100000) (hk : k ≤ 100000) :
    Calls Try.prog 56 #[v, .int .i64 (k : Int)] w fun e w' => e = .returned (.int .i64 (vAt zs k)) ∧ w = w' := by
  obtain ⟨A, n, c, rfl, rfl, hc, hr⟩ := h
  by_cases hkn : k < zs.length
  · obtain ⟨b, off, rfl, hz⟩ := hr (by omega)
    have hcell := hz k _ (List.getElem?_eq_getElem hkn)
    have hv : vAt zs k = max zs[k] 0 := by unfold vAt; rw [List.getD_eq_getElem?_getD, List.getElem?_eq_getElem hkn]; rfl
    obtain ⟨x, hx⟩ : ∃ x, zs[k] = x := ⟨_, rfl⟩
    rw [hx] at hcell hv
    have hkn' : (k : Int) < (zs.length : Int) := by omega
    clear hr hz hx
    by_cases hx0 : 0 ≤ x
    · rw [show max x 0 = x by omega] at hv
      have HV := Go.Lib.hid hv; clear hv
      go_enter Try.func56, Try.ntmps56
      go_wp2_with fail
      go_ret
      rw [HV.out]
      exact ⟨rfl, rfl⟩
    · rw [show max x 0 = 0 by omega] at hv
      have HV := Go.Lib.hid hv; clear hv
      go_enter Try.func56, Try.ntmps56
      go_wp2_with fail
      go_ret
      rw [HV.out]
      exact ⟨rfl, rfl⟩
  · have hv : vAt zs k = 0 := by unfold vAt; rw [List.getD_eq_getElem?_getD, List.getElem?_eq_none (by omega)]; rfl
    have HV := Go.Lib.hid hv; clear hv
    clear hr
    go_enter Try.func56, Try.ntmps56
    go_wp2_with fail
    go_ret
    rw [HV.out]
    exact ⟨rfl, rfl⟩

theorem ints_set (k : Nat) (zs ys : List Int) (x : Int) (h : zs.set k x = ys) : (zs.map fun z => Value.int .i64 z).set k (.int .i64 x) = ys.map fun z => Value.int .i64 z := by
  rw [← h, List.map_set]
end Go.Proofs.Ytmkmahjboocoaaa.W
