/- A vector's normal form, in the memory of a row of the call's own: its contract. -/
import Derived.Test.YtgfkiekcdjnaeaaClockN
namespace Go.Proofs.Ytgfkiekcdjnaeaa.W
set_option linter.unusedVariables false
open Go.RowKit Go.Proofs Arb

/-- The first k numbers are 0 at least, the others as they were. -/
def midOf (k : Nat) (zs : List Int) : List Int := zs.mapIdx fun i x => if i < k then max x 0 else x
def upOf (zs : List Int) : List Int := zs.map fun z => max z 0
theorem midOf_zero (zs : List Int) : midOf 0 zs = zs := by
  apply List.ext_getElem?
  intro i
  simp [midOf, List.getElem?_mapIdx]
theorem midOf_all (zs : List Int) : midOf zs.length zs = upOf zs := by
  apply List.ext_getElem?
  intro i
  simp only [midOf, upOf, List.getElem?_mapIdx, List.getElem?_map]
  rcases Nat.lt_or_ge i zs.length with h | h
  · simp [h]
  · simp [List.getElem?_eq_none h]
theorem midOf_length (k : Nat) (zs : List Int) : (midOf k zs).length = zs.length := by simp [midOf]
theorem midOf_at (k : Nat) (zs : List Int) (x : Int) (h : zs[k]? = some x) : (midOf k zs)[k]? = some x := by
  simp [midOf, List.getElem?_mapIdx, h]
theorem midOf_set (k : Nat) (zs : List Int) (x : Int) (h : zs[k]? = some x) : (midOf k zs).set k (max x 0) = midOf (k + 1) zs := by
  apply List.ext_getElem?
  intro i
  rw [List.getElem?_set, midOf_length]
  have hl := (List.getElem?_eq_some_iff.1 h).1
  by_cases hi : k = i
  · subst hi
    obtain ⟨_, hx⟩ := List.getElem?_eq_some_iff.1 h
    simp [midOf, hl, hx]
  · simp only [hi, if_false, midOf, List.getElem?_mapIdx]
    congr 1
    funext y
    by_cases h1 : i < k
    · rw [if_pos h1, if_pos (by omega)]
    · rw [if_neg h1, if_neg (by omega)]
theorem ints_set (k : Nat) (zs ys : List Int) (x : Int) (h : zs.set k x = ys) : (zs.map fun z => Value.int .i64 z).set k (.int .i64 x) = ys.map fun z => Value.int .i64 z := by
  rw [← h, List.map_set]

set_option maxHeartbeats 1000000 in
theorem pnorm_any (v : Value) (zs : List Int) (base n : Nat) (w : World) (h : Row w base 3 1 v n (zs.map fun z => .int .i64 z)) (hn : n ≤ 1000000) :
    Calls Try.prog 29 #[v] w fun e w' => ∃ v', e = .returned v' ∧ Ints w' v' (trim (upOf zs)) ∧ Below base w w' := by
  have hl : zs.length = n := by simpa using h.1
  obtain ⟨r, hr⟩ : ∃ r, trim (upOf zs) = r := ⟨_, rfl⟩
  rw [hr]
  rcases Nat.eq_zero_or_pos n with h0 | h0
  · subst h0
    have hz : zs = [] := List.eq_nil_of_length_eq_zero hl
    obtain ⟨A, c, rfl⟩ : ∃ A c, v = .slice A 0 c := by
      rcases h.2 with ⟨rfl, _⟩ | ⟨g, cap, cur, fz, rfl, _⟩
      · exact ⟨_, _, rfl⟩
      · exact ⟨_, _, rfl⟩
    have hint : Ints w (.slice A 0 c) r := by
      subst hz
      subst hr
      exact ⟨A, 0, c, rfl, rfl, Nat.zero_le _, fun h => by omega⟩
    have HI := Go.Lib.hid hint
    clear h hl hn hz hint hr
    go_enter Try.func29, Try.ntmps29
    go_wp2_with fail
    go_loopw [3, 4, 7, 8, 9, 10, 11, 12, 13, 14, 15, 16, 17] (fun _ _ i _ _ _ _ _ _ _ _ _ _ wr => i = .int .i64 0 ∧ wr = w) (fun _ _ _ _ _ _ _ _ _ _ _ _ _ _ => 0)
    case atStart => exact ⟨rfl, rfl⟩
    case round =>
      obtain ⟨rfl, rfl⟩ := hrel
      go_wp2_with fail
      go_loopw [0, 18, 19, 20, 21, 22, 23, 24, 25, 26, 27, 28, 29, 30, 31, 32, 33, 34] (fun s _ _ _ _ _ _ _ _ _ _ _ _ _ _ _ _ _ wr' => s = .slice A 0 c ∧ wr' = wr) (fun _ _ _ _ _ _ _ _ _ _ _ _ _ _ _ _ _ _ _ => 0)
      case atStart => exact ⟨rfl, rfl⟩
      case round =>
        obtain ⟨rfl, rfl⟩ := hrel
        go_wp2_with fail
        go_ret
        exact ⟨_, rfl, HI.out, Below.refl _ _⟩
  · obtain ⟨g, cap, rfl, hcap, hbg, hg, _, _⟩ := h.open h0
    have HROW := Go.Lib.hid h; clear h
    have HL := Go.Lib.hid hl; clear hl
    have HR := Go.Lib.hid hr; clear hr
    go_enter Try.func29, Try.ntmps29
    go_wp2_with fail
    go_loopw [3, 4, 7, 8, 9, 10, 11, 12, 13, 14, 15, 16, 17] (fun _ _ i _ _ _ _ _ _ _ _ _ _ wr => ∃ k : Nat, k ≤ n ∧ i = .int .i64 (k : Int) ∧ Row wr base 3 1 (.slice (some ⟨g, 0, none⟩) n cap) n ((midOf k zs).map fun z => .int .i64 z) ∧ Below base w wr) (fun _ _ i _ _ _ _ _ _ _ _ _ _ _ => n - (intOf i).toNat)
    case atStart => exact ⟨0, by omega, rfl, by rw [midOf_zero]; exact HROW.out, Below.refl _ _⟩
    case round =>
      obtain ⟨k, hk, rfl, hrow, hb⟩ := hrel
      by_cases hkn : k < n
      · have hkn' : (k : Int) < (n : Int) := by omega
        have hgk := List.getElem?_eq_getElem (l := zs) (i := k) (by rw [HL.out]; exact hkn)
        obtain ⟨x, hx⟩ : ∃ x, zs[k]'(by rw [HL.out]; exact hkn) = x := ⟨_, rfl⟩
        rw [hx] at hgk
        obtain ⟨g', cap', he, _, _, _, hcell, hfr⟩ := hrow.open h0
        cases he
        have hck := hcell k (.int .i64 x) (by rw [List.getElem?_map, midOf_at k zs x hgk]; rfl)
        have hfk := hfr k (by omega)
        have hset := midOf_set k zs x hgk
        have hnr := hrow.set g cap k rfl (.int .i64 (max x 0))
        rw [ints_set k _ _ _ hset] at hnr
        have hbn := hb.setCell (p := ⟨g, k, none⟩) hbg (.int .i64 (max x 0))
        clear hcell hfr hset hrow hb hx hgk
        by_cases hx0 : x < 0
        · rw [show max x 0 = 0 by omega] at hnr hbn
          have HN := Go.Lib.hid hnr; clear hnr
          have HB := Go.Lib.hid hbn; clear hbn
          go_wp2_with fail
          exact ⟨⟨k + 1, by omega, by simp, HN.out, HB.out⟩, by simp [intOf]; omega⟩
        · rw [show max x 0 = x by omega] at hnr hbn
          have HN := Go.Lib.hid hnr; clear hnr
          have HB := Go.Lib.hid hbn; clear hbn
          go_wp2_with fail
          exact ⟨⟨k + 1, by omega, by simp, HN.out, HB.out⟩, by simp [intOf]; omega⟩
      · obtain rfl : k = n := by omega
        rw [show midOf k zs = upOf zs by rw [← HL.out]; exact midOf_all zs] at hrow
        obtain ⟨ys, hys⟩ : ∃ ys, upOf zs = ys := ⟨_, rfl⟩
        have hyl : ys.length = k := by rw [← hys, upOf, List.length_map]; exact HL.out
        rw [hys] at hrow
        have hr := HR.out
        rw [hys] at hr
        obtain ⟨g', cap', he, _, _, _, hcell, _⟩ := hrow.open h0
        cases he
        have hcells : ∀ j, j < k → wr.cell? ⟨g, j, none⟩ = some (.int .i64 (ys.getD j 0)) := by
          intro j hj
          have hgj := List.getElem?_eq_getElem (l := ys) (i := j) (by omega)
          refine hcell j _ ?_
          rw [List.getElem?_map, List.getD_eq_getElem?_getD, hgj]
          rfl
        have HC := Go.Lib.hid hcells
        have HB := Go.Lib.hid hb
        have HYL := Go.Lib.hid hyl
        have HRR := Go.Lib.hid hr
        clear hcell hcells hrow hb hyl hys hr
        go_wp2_with fail
        obtain ⟨W, hW⟩ : ∃ W, W = wr := ⟨_, rfl⟩
        go_loopw [0, 18, 19, 20, 21, 22, 23, 24, 25, 26, 27, 28, 29, 30, 31, 32, 33, 34] (fun s _ _ _ _ _ _ _ _ _ _ _ _ _ _ _ _ _ wr' => ∃ m : Nat, m ≤ k ∧ s = .slice (some ⟨g, 0, none⟩) m cap ∧ (∀ j, m ≤ j → j < k → ys.getD j 0 = 0) ∧ wr' = W) (fun s _ _ _ _ _ _ _ _ _ _ _ _ _ _ _ _ _ _ => match s with | .slice _ m _ => m | _ => 0)
        case atStart => exact ⟨k, Nat.le_refl _, rfl, fun j h1 h2 => by omega, hW.symm⟩
        case round =>
          obtain ⟨m, hm, rfl, hz, rfl⟩ := hrel
          subst hW
          have HZ := Go.Lib.hid hz; clear hz
          have hint : m = 0 ∨ ys.getD (m - 1) 0 ≠ 0 → Ints wr (.slice (some ⟨g, 0, none⟩) m cap) r := by
            intro hs
            have ht := trim_take ys m (by rw [HYL.out]; exact hm) (by rw [HYL.out]; exact HZ.out) hs
            rw [← HRR.out, ht]
            refine ⟨_, m, cap, rfl, by rw [List.length_take, HYL.out]; omega, by omega, fun h => ⟨g, 0, rfl, fun j z hj => ?_⟩⟩
            have hjm : j < m := by have := (List.getElem?_eq_some_iff.1 hj).1; rw [List.length_take] at this; omega
            have h1 := HC.out j (by omega)
            rw [List.getElem?_take, if_pos hjm] at hj
            rw [Nat.zero_add, h1, List.getD_eq_getElem?_getD, hj]
            rfl
          have HI := Go.Lib.hid hint; clear hint
          rcases Nat.eq_zero_or_pos m with hm0 | hm0
          · subst hm0
            go_wp2_with fail
            go_ret
            exact ⟨_, rfl, HI.out (.inl (by first | rfl | trivial)), HB.out⟩
          · obtain ⟨q, rfl⟩ : ∃ q, m = q + 1 := ⟨m - 1, by omega⟩
            have cp := HC.out q (by omega)
            obtain ⟨x, hx⟩ : ∃ x, ys.getD q 0 = x := ⟨_, rfl⟩
            rw [hx] at cp
            have hq1 : (((q + 1 : Nat) : Int) - 1) = (q : Int) := by omega
            have hq2 : IntKind.i64.wrap (((q + 1 : Nat) : Int) - 1) = (q : Int) := by rw [IntKind.wrap_i64]; omega
            by_cases hx0 : x = 0
            · have hb0 : (x == 0) = true := by simp [hx0]
              have HX := Go.Lib.hid hx; clear hx
              have HX0 := Go.Lib.hid hx0; clear hx0
              go_wp2_with fail
              refine ⟨⟨q, by omega, by simp, fun j h1 h2 => ?_, by first | rfl | trivial⟩, by simp⟩
              rcases Nat.lt_or_ge q j with h | h
              · exact HZ.out j (by omega) h2
              · obtain rfl : j = q := by omega
                rw [HX.out, HX0.out]
            · have hb0 : (x == 0) = false := by simp [hx0]
              have HX := Go.Lib.hid hx; clear hx
              have HX0 := Go.Lib.hid hx0; clear hx0
              go_wp2_with fail
              go_ret
              exact ⟨_, rfl, HI.out (.inr (by rw [Nat.add_sub_cancel, HX.out]; exact HX0.out)), HB.out⟩
end Go.Proofs.Ytgfkiekcdjnaeaa.W
