/- The walk of the law on the greater and the lesser numbers of vectors. -/
import Derived.Test.YtgfkiekcdjnaeaaClockB
import Derived.Test.YtgfkiekcdjnaeaaClockC
namespace Go.Proofs.Ytgfkiekcdjnaeaa.W
set_option linter.unusedVariables false
open Go.RowKit Go.Proofs Arb

theorem vAt_trim (l : List Int) (w : Nat) : vAt (trim l) w = vAt l w := by
  obtain ⟨n, hn, ht, hz, _⟩ := trim_prefix l
  rw [ht]
  unfold vAt
  by_cases h : w < n
  · rw [List.getD_eq_getElem?_getD, List.getElem?_take_of_lt h, ← List.getD_eq_getElem?_getD]
  · have e1 : (l.take n).getD w 0 = 0 := by rw [List.getD_eq_getElem?_getD, List.getElem?_eq_none (by rw [List.length_take]; omega)]; rfl
    have e2 : l.getD w 0 = 0 := by
      by_cases h2 : w < l.length
      · exact hz w (by omega) h2
      · rw [List.getD_eq_getElem?_getD, List.getElem?_eq_none (by omega)]; rfl
    rw [e1, e2]
theorem vAt_beyond (l : List Int) (w : Nat) (h : l.length ≤ w) : vAt l w = 0 := by
  unfold vAt
  rw [List.getD_eq_getElem?_getD, List.getElem?_eq_none h]
  simp
theorem vAt_nonneg (l : List Int) (w : Nat) : 0 ≤ vAt l w := by unfold vAt; omega
theorem vAt_range (n : Nat) (f : Nat → Int) (w : Nat) : vAt ((List.range n).map f) w = if w < n then max (f w) 0 else 0 := by
  unfold vAt
  rw [List.getD_eq_getElem?_getD, List.getElem?_map]
  split
  · rename_i h; rw [List.getElem?_range h]; rfl
  · rename_i h; rw [List.getElem?_eq_none (by simp; omega)]; simp
theorem longest2 (a b : List Int) : longestOf [a, b] = max a.length b.length := by simp [longestOf]
theorem vAt_join (a b : List Int) (w : Nat) : vAt (joinOf [a, b]) w = max (vAt a w) (vAt b w) := by
  unfold joinOf
  rw [vAt_trim, vAt_range, longest2]
  have ha := vAt_nonneg a w
  have hb := vAt_nonneg b w
  have e : vJoin [a, b] w = max (max 0 (vAt a w)) (vAt b w) := rfl
  rw [e]
  split
  · omega
  · have e1 := vAt_beyond a w (by omega)
    have e2 := vAt_beyond b w (by omega)
    omega
theorem vAt_meet (a b : List Int) (w : Nat) : vAt (meetOf [a, b]) w = min (vAt a w) (vAt b w) := by
  unfold meetOf
  rw [vAt_trim, vAt_range, longest2]
  have ha := vAt_nonneg a w
  have hb := vAt_nonneg b w
  have e : vMeet [a, b] w = min (min (vAt a w) (vAt a w)) (vAt b w) := rfl
  rw [e]
  split
  · omega
  · have e1 := vAt_beyond a w (by omega)
    have e2 := vAt_beyond b w (by omega)
    omega
theorem covers_iff (a b : List Int) : coversOf a b = true ↔ ∀ w, vAt b w ≤ vAt a w := by
  refine ⟨fun h w => ?_, fun h => covers_range a b b.length (fun w _ => h w) rfl⟩
  unfold coversOf at h
  rw [List.all_eq_true] at h
  by_cases hw : w < b.length
  · exact of_decide_eq_true (h w (List.mem_range.2 hw))
  · rw [vAt_beyond b w (by omega)]; exact vAt_nonneg a w
theorem covers_join (a b : List Int) : coversOf (joinOf [a, b]) a = true ∧ coversOf (joinOf [a, b]) b = true :=
  ⟨(covers_iff _ _).2 fun w => by rw [vAt_join]; omega, (covers_iff _ _).2 fun w => by rw [vAt_join]; omega⟩
theorem covers_meet (a b : List Int) : coversOf a (meetOf [a, b]) = true ∧ coversOf b (meetOf [a, b]) = true :=
  ⟨(covers_iff _ _).2 fun w => by rw [vAt_meet]; omega, (covers_iff _ _).2 fun w => by rw [vAt_meet]; omega⟩
theorem covers_least (a b c : List Int) : coversOf c (joinOf [a, b]) = (coversOf c a && coversOf c b) := by
  rw [Bool.eq_iff_iff, Bool.and_eq_true, covers_iff, covers_iff, covers_iff]
  refine ⟨fun h => ⟨fun w => ?_, fun w => ?_⟩, fun h w => ?_⟩
  · have := h w; rw [vAt_join] at this; omega
  · have := h w; rw [vAt_join] at this; omega
  · have h1 := h.1 w; have h2 := h.2 w; rw [vAt_join]; omega
theorem covers_greatest (a b c : List Int) : coversOf (meetOf [a, b]) c = (coversOf a c && coversOf b c) := by
  rw [Bool.eq_iff_iff, Bool.and_eq_true, covers_iff, covers_iff, covers_iff]
  refine ⟨fun h => ⟨fun w => ?_, fun w => ?_⟩, fun h w => ?_⟩
  · have := h w; rw [vAt_meet] at this; omega
  · have := h w; rw [vAt_meet] at this; omega
  · have h1 := h.1 w; have h2 := h.2 w; rw [vAt_meet]; omega
theorem join_comm (a b : List Int) : joinOf [b, a] = joinOf [a, b] := by
  unfold joinOf
  rw [longest2, longest2, Nat.max_comm]
  congr 1
  apply List.map_congr_left
  intro w _
  have ha := vAt_nonneg a w
  have hb := vAt_nonneg b w
  show max (max 0 (vAt b w)) (vAt a w) = max (max 0 (vAt a w)) (vAt b w)
  omega
theorem meet_comm (a b : List Int) : meetOf [b, a] = meetOf [a, b] := by
  unfold meetOf
  rw [longest2, longest2, Nat.max_comm]
  congr 1
  apply List.map_congr_left
  intro w _
  show min (min (vAt b w) (vAt b w)) (vAt a w) = min (min (vAt a w) (vAt a w)) (vAt b w)
  omega
theorem join2_length (a b : List Int) (ha : a.length ≤ 1000) (hb : b.length ≤ 1000) : (joinOf [a, b]).length ≤ 1000 := by
  refine Nat.le_trans (trim_length _) ?_
  rw [List.length_map, List.length_range, longest2]
  omega
theorem meet2_length (a b : List Int) (ha : a.length ≤ 1000) (hb : b.length ≤ 1000) : (meetOf [a, b]).length ≤ 1000 := by
  refine Nat.le_trans (trim_length _) ?_
  rw [List.length_map, List.length_range, longest2]
  omega
theorem covAt {W : World} {u v : Value} {a b : List Int} {r : Bool} (hr : coversOf a b = r) (hu : Ints W u a) (hv : Ints W v b) (ha : a.length ≤ 1000) (hb : b.length ≤ 1000) (w : World) (h : Below W.heap.size W w) :
    Calls Try.prog 25 #[u, v] w fun e w' => e = .returned (.bool r) ∧ Below W.heap.size W w' := by
  subst hr
  exact (pcovers_any u v a b w (hu.below h) (hv.below h) (by omega) (by omega)).mono fun e w' ⟨he, hb⟩ => ⟨he, bstep h hb⟩
end Go.Proofs.Ytgfkiekcdjnaeaa.W
