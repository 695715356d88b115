/- The greater numbers of vectors: the program's contract. -/
import Derived.Test.YtgfkiekcdjnaeaaClockE
namespace Go.Proofs.Ytgfkiekcdjnaeaa.W
set_option linter.unusedVariables false
open Go.RowKit Go.Proofs Arb

theorem vJoin_nonneg (ls : List (List Int)) (w : Nat) : 0 ≤ vJoin ls w := by
  have : ∀ (l : List (List Int)) (n : Int), 0 ≤ n → 0 ≤ l.foldl (fun n v => max n (vAt v w)) n := by
    intro l
    induction l with
    | nil => intro n h; exact h
    | cons v l ih => intro n h; exact ih _ (by show 0 ≤ max n (vAt v w); omega)
  exact this ls 0 (by omega)
theorem vAt_zero (v : List Int) (w : Nat) (h : v.length ≤ w) : vAt v w = 0 := by
  unfold vAt
  rw [List.getD_eq_getElem?_getD, List.getElem?_eq_none h]
  rfl
theorem vAt_some (v : List Int) (w : Nat) (x : Int) (h : v[w]? = some x) : vAt v w = max x 0 := by
  unfold vAt
  rw [List.getD_eq_getElem?_getD, h]
  rfl
theorem longest_take (ls : List (List Int)) (k : Nat) (l : List Int) (h : ls[k]? = some l) : longestOf (ls.take (k + 1)) = max (longestOf (ls.take k)) l.length := by
  unfold longestOf
  rw [List.take_add_one, h, List.foldl_append]
  rfl
theorem vJoin_zero (ls : List (List Int)) (w : Nat) (h : longestOf ls ≤ w) : vJoin ls w = 0 := by
  have : ∀ (l : List (List Int)) (n : Nat) (x : Int), l.foldl (fun n v => max n v.length) n ≤ w → n ≤ w ∧ (x = 0 → l.foldl (fun n v => max n (vAt v w)) x = 0) := by
    intro l
    induction l with
    | nil => intro n x h; exact ⟨h, fun h => h⟩
    | cons v l ih =>
      intro n x h
      obtain ⟨h1, h2⟩ := ih (max n v.length) (max x (vAt v w)) h
      refine ⟨by omega, fun hx => h2 ?_⟩
      rw [hx, vAt_zero v w (by omega)]
      rfl
  exact (this ls 0 0 h).2 rfl

/-- What is joined when i numbers of the vector v have been taken, f behind the vectors ahead, as many as L. -/
def stepList (L : Nat) (f : Nat → Int) (v : List Int) (i : Nat) : List Int := (List.range (max L i)).map fun w => if w < i then max (f w) (vAt v w) else f w
theorem stepList_zero (L : Nat) (f : Nat → Int) (v : List Int) : stepList L f v 0 = (List.range L).map f := by
  unfold stepList
  rw [show max L 0 = L by omega]
  apply List.map_congr_left
  intro a _
  rw [if_neg (by omega)]
theorem stepList_at (L : Nat) (f : Nat → Int) (v : List Int) (i : Nat) (h : i < L) : (stepList L f v i)[i]? = some (f i) := by
  unfold stepList
  rw [List.getElem?_map, List.getElem?_range (by omega)]
  simp
theorem stepList_set (L : Nat) (f : Nat → Int) (v : List Int) (i : Nat) (x : Int) (hf : 0 ≤ f i) (hx : v[i]? = some x) (h : i < L) : (stepList L f v i).set i (max (f i) x) = stepList L f v (i + 1) := by
  have hv := vAt_some v i x hx
  apply List.ext_getElem?
  intro j
  rw [List.getElem?_set]
  unfold stepList
  rw [show max L i = L by omega, show max L (i + 1) = L by omega]
  simp only [List.length_map, List.length_range, List.getElem?_map]
  by_cases hj : i = j
  · subst hj
    rw [if_pos rfl, if_pos h, List.getElem?_range h]
    simp only [Option.map_some, show i < i + 1 by omega, if_true, hv]
    congr 1
    omega
  · rw [if_neg hj]
    rcases Nat.lt_or_ge j L with h1 | h1
    · rw [List.getElem?_range h1]
      simp only [Option.map_some]
      congr 1
      by_cases h2 : j < i
      · rw [if_pos h2, if_pos (by omega)]
      · rw [if_neg h2, if_neg (by omega)]
    · rw [List.getElem?_eq_none (by simpa using h1)]
      rfl
theorem stepList_more (L : Nat) (f : Nat → Int) (v : List Int) (i : Nat) (x : Int) (hf : f i = 0) (hx : v[i]? = some x) (h : L ≤ i) : (stepList L f v i ++ [0]).set i (max 0 x) = stepList L f v (i + 1) := by
  have hv := vAt_some v i x hx
  unfold stepList
  rw [show max L i = i by omega, show max L (i + 1) = i + 1 by omega, List.range_succ, List.map_append]
  rw [List.set_append_right _ _ (by simp)]
  simp only [List.length_map, List.length_range, Nat.sub_self, List.map_cons, List.map_nil, List.set_cons_zero]
  congr 1
  · apply List.map_congr_left
    intro a ha
    have := List.mem_range.1 ha
    rw [if_pos this, if_pos (by omega)]
  · simp only [show i < i + 1 by omega, if_true, hv, hf]
    congr 1
    omega
theorem stepList_end (ls : List (List Int)) (k : Nat) (l : List Int) (h : ls[k]? = some l) :
    stepList (longestOf (ls.take k)) (vJoin (ls.take k)) l l.length = (List.range (longestOf (ls.take (k + 1)))).map (vJoin (ls.take (k + 1))) := by
  unfold stepList
  rw [longest_take ls k l h]
  apply List.map_congr_left
  intro a _
  rw [vJoin_take ls a k l h]
  by_cases h2 : a < l.length
  · rw [if_pos h2]
  · rw [if_neg h2, vAt_zero l a (by omega)]
    have := vJoin_nonneg (ls.take k) a
    omega
theorem stepList_length (L : Nat) (f : Nat → Int) (v : List Int) (i : Nat) : (stepList L f v i).length = max L i := by simp [stepList]
theorem upOf_join (ls : List (List Int)) : trim (upOf ((List.range (longestOf ls)).map (vJoin ls))) = joinOf ls := by
  unfold upOf joinOf
  rw [List.map_map]
  congr 1
  apply List.map_congr_left
  intro a _
  have := vJoin_nonneg ls a
  show max (vJoin ls a) 0 = vJoin ls a
  omega

theorem ints_set2 (k : Nat) (zs ys : List Int) (x : Int) (h : (zs ++ [0]).set k x = ys) : (zs.map (fun z => Value.int .i64 z) ++ [Value.int .i64 0]).set k (.int .i64 x) = ys.map fun z => Value.int .i64 z := by
  rw [← h, List.map_set, List.map_append]
  rfl

set_option maxHeartbeats 1000000 in
theorem pjoin_any (v : Value) (ls : List (List Int)) (w : World) (h : Vecs w v ls) (hn : ls.length ≤ 100000) (hl : ∀ l ∈ ls, l.length ≤ 100000) :
    Calls Try.prog 21 #[v] w fun e w' => ∃ v', e = .returned v' ∧ Ints w' v' (joinOf ls) ∧ Below w.heap.size w w' := by
  obtain ⟨i0, hi, hz0, hz1, hz2⟩ := info_parts info_int
  have HV := Go.Lib.hid h
  obtain ⟨A, n, c, rfl, hls, _⟩ := h
  have hnl : n ≤ 100000 := by omega
  have hlg : ∀ q, longestOf (ls.take q) ≤ 100000 := fun q => longest_le (ls.take q) fun v hv => hl v (List.mem_of_mem_take hv)
  obtain ⟨r, hr⟩ : ∃ r, joinOf ls = r := ⟨_, rfl⟩
  rw [hr]
  have HR := Go.Lib.hid hr; clear hr
  have HL := Go.Lib.hid hl; clear hl
  have HN := Go.Lib.hid hls; clear hls
  have HLG := Go.Lib.hid hlg; clear hlg
  go_enter Try.func21, Try.ntmps21
  go_wp2_with fail
  go_loopw [3, 5, 6, 7, 10, 11, 12, 13, 14, 15, 16, 17, 18, 19, 20, 21, 22, 23, 24, 25, 26, 27, 28, 29, 30, 31, 32, 33, 34, 35, 36, 37, 38] (fun vo _ _ _ i _ _ _ _ _ _ _ _ _ _ _ _ _ _ _ _ _ _ _ _ _ _ _ _ _ _ _ _ wr => ∃ k : Nat, k ≤ n ∧ i = .int .i64 (k : Int) ∧ Row wr w.heap.size 3 1 vo (longestOf (ls.take k)) (((List.range (longestOf (ls.take k))).map (vJoin (ls.take k))).map fun z => .int .i64 z) ∧ Below w.heap.size w wr) (fun _ _ _ _ i _ _ _ _ _ _ _ _ _ _ _ _ _ _ _ _ _ _ _ _ _ _ _ _ _ _ _ _ _ => n - (intOf i).toNat)
  case atStart => exact ⟨0, by omega, rfl, Row.nil _ _ _ _, Below.refl _ _⟩
  case round =>
    obtain ⟨k, hk, rfl, hrow, hbw⟩ := hrel
    by_cases hkn : k < n
    · have hkn' : (k : Int) < (n : Int) := by omega
      obtain ⟨b, off, A', c', l, rfl, hg, hcell, hint0⟩ := HV.out.at k hkn
      replace hcell := (hbw.cell (p := ⟨b, off + k, none⟩) (World.block_lt_of_cell? w _ hcell)).trans hcell
      have hint := fun x (hx : Below w.heap.size w x) => hint0.below hx
      clear hint0
      obtain ⟨m, hm⟩ : ∃ m, l.length = m := ⟨_, rfl⟩
      have hm1 : m ≤ 100000 := by rw [← hm]; exact HL.out l (List.mem_of_getElem? hg)
      rw [hm] at hcell hint
      obtain ⟨L, hL⟩ : ∃ L, longestOf (ls.take k) = L := ⟨_, rfl⟩
      have hL1 : L ≤ 100000 := by rw [← hL]; exact HLG.out k
      have hf0 := vJoin_nonneg (ls.take k)
      have hfz := fun x hx => vJoin_zero (ls.take k) x hx
      have hend := stepList_end ls k l hg
      have hlt := longest_take ls k l hg
      rw [hm] at hend hlt
      rw [hL] at hrow hfz hend hlt
      obtain ⟨f, hf⟩ : ∃ f, vJoin (ls.take k) = f := ⟨_, rfl⟩
      rw [hf] at hrow hf0 hfz hend
      rw [← stepList_zero L f l] at hrow
      have HG := Go.Lib.hid hg; clear hg
      have HROW := Go.Lib.hid hrow; clear hrow
      have HBW := Go.Lib.hid hbw; clear hbw
      have HINT := Go.Lib.hid hint; clear hint
      have HM := Go.Lib.hid hm; clear hm
      have HF0 := Go.Lib.hid hf0; clear hf0
      have HFZ := Go.Lib.hid hfz; clear hfz
      have HEND := Go.Lib.hid hend; clear hend
      have HLT := Go.Lib.hid hlt; clear hlt
      clear hL hf
      go_wp2_with fail
      go_loopw [3, 6, 7, 16, 17, 18, 19, 20, 21, 22, 23, 24, 25, 26, 27, 28, 29, 30, 31, 32, 33, 34, 35, 36, 37] (fun vi _ _ iv _ _ _ _ _ _ _ _ _ _ _ _ _ _ _ _ _ _ _ _ _ wr2 => ∃ i : Nat, i ≤ m ∧ iv = .int .i64 (i : Int) ∧ Row wr2 w.heap.size 3 1 vi (max L i) ((stepList L f l i).map fun z => .int .i64 z) ∧ Below w.heap.size w wr2) (fun _ _ _ iv _ _ _ _ _ _ _ _ _ _ _ _ _ _ _ _ _ _ _ _ _ _ => m - (intOf iv).toNat)
      case atStart => exact ⟨0, by omega, rfl, by rw [show max L 0 = L by omega]; exact HROW.out, HBW.out⟩
      case round =>
        obtain ⟨i, hi1, rfl, hrow, hb2⟩ := hrel
        have hBs := hb2.size
        by_cases him : i < m
        · have him' : (i : Int) < (m : Int) := by omega
          have hgi := List.getElem?_eq_getElem (l := l) (i := i) (by rw [HM.out]; exact him)
          obtain ⟨y, hy⟩ : ∃ y, l[i]'(by rw [HM.out]; exact him) = y := ⟨_, rfl⟩
          rw [hy] at hgi
          have hci := HINT.out _ hb2
          obtain ⟨A2, m2, c2, he2, _, hmc, hcl2⟩ := hci
          cases he2
          obtain ⟨b2, off2, rfl, hz2'⟩ := hcl2 (by omega)
          have hcy := hz2' i y hgi
          clear hz2' hcl2 hy
          by_cases hLi : i < L
          · rw [show max L i = L by omega] at hrow
            have hLi' : (i : Int) < (L : Int) := by omega
            have hne : ((i : Int) == (L : Int)) = false := by simp; omega
            obtain ⟨g, cap, rfl, hcap, hbg, hg, hcell2, hfr⟩ := hrow.open (by omega)
            obtain ⟨x, hx⟩ : ∃ x, f i = x := ⟨_, rfl⟩
            have hcx := hcell2 i (.int .i64 (f i)) (by rw [List.getElem?_map, stepList_at L f l i hLi]; rfl)
            have hfx := hfr i (by omega)
            have hset := stepList_set L f l i y (HF0.out i) hgi hLi
            have hnr := hrow.set g cap i rfl (.int .i64 (max (f i) y))
            rw [ints_set i _ _ _ hset] at hnr
            have hbn := hb2.setCell (p := ⟨g, i, none⟩) hbg (.int .i64 (max (f i) y))
            rw [show L = max L (i + 1) by omega] at hnr
            rw [hx] at hcx hnr hbn
            clear hcell2 hfr hset hrow hb2 hx hgi
            by_cases hxy : x < y
            · rw [show max x y = y by omega] at hnr hbn
              have HNR := Go.Lib.hid hnr; clear hnr
              have HBN := Go.Lib.hid hbn; clear hbn
              go_wp2_with fail
              exact ⟨⟨i + 1, by omega, by simp, by have := HNR.out; rwa [← show L = max L (i + 1) by omega] at this ⊢, HBN.out⟩, by simp [intOf]; omega⟩
            · rw [show max x y = x by omega] at hnr hbn
              have HNR := Go.Lib.hid hnr; clear hnr
              have HBN := Go.Lib.hid hbn; clear hbn
              go_wp2_with fail
              exact ⟨⟨i + 1, by omega, by simp, by have := HNR.out; rwa [← show L = max L (i + 1) by omega] at this ⊢, HBN.out⟩, by simp [intOf]; omega⟩
          · rw [show max L i = i by omega] at hrow
            have heq : ((i : Int) == (i : Int)) = true := by simp
            obtain ⟨A3, c3, rfl⟩ : ∃ A3 c3, u3 = .slice A3 i c3 := by
              rcases hrow.2 with ⟨rfl, rfl⟩ | ⟨g, cap, cur, fz, rfl, _⟩
              · exact ⟨_, _, rfl⟩
              · exact ⟨_, _, rfl⟩
            have hset := stepList_more L f l i y (HFZ.out i (by omega)) hgi (by omega)
            have hat : ((stepList L f l i).map (fun z => Value.int .i64 z) ++ [Value.int .i64 0])[i]? = some (.int .i64 0) := by
              have hsl : ((stepList L f l i).map (fun z => Value.int .i64 z)).length = i := by rw [List.length_map, stepList_length]; omega
              rw [List.getElem?_append_right (by omega), hsl, Nat.sub_self]
              rfl
            have HAT := Go.Lib.hid hat; clear hat
            have HROW2 := Go.Lib.hid hrow; clear hrow
            have HB2 := Go.Lib.hid hb2; clear hb2
            by_cases hxy : 0 < y
            · rw [show max 0 y = y by omega] at hset
              have hset2 := ints_set2 i _ _ _ hset
              have HSET := Go.Lib.hid hset2
              clear hset hset2
              go_wp2_with (at_builtin; refine wpList_append_row1 rfl (.tmp 25) (.tmp 26) _ rfl w.heap.size 3 i0 (.int .i64 0) 8 Try.underlying36 hi hz0 hz1 hz2 rfl (.slice A3 i c3) i _ rfl HROW2.out (.int .i64 0) 3 rfl rfl (by unfold maxLen; omega) (by omega) hBs ?_; intro v4 W4 hr4 hb4; obtain ⟨g, cap, rfl, hcap, hbg, hg, hcell2, hfr⟩ := hr4.open (by omega); have hcx := hcell2 i (.int .i64 0) HAT.out; have hfx := hfr i (by omega); have hnr := hr4.set g cap i rfl (.int .i64 (y)); have hbn := (HB2.out.trans hb4).setCell (p := ⟨g, i, none⟩) hbg (.int .i64 (y)); have HNR := Go.Lib.hid hnr; have HBN := Go.Lib.hid hbn; clear hcell2 hfr hnr hbn hr4 hb4 hg)
              exact ⟨⟨i + 1, by omega, by simp, by have := HNR.out; rw [HSET.out] at this; rwa [← show i + 1 = max L (i + 1) by omega], HBN.out⟩, by simp [intOf]; omega⟩
            · rw [show max 0 y = 0 by omega] at hset
              have hset2 := ints_set2 i _ _ _ hset
              have HSET := Go.Lib.hid hset2
              clear hset hset2
              go_wp2_with (at_builtin; refine wpList_append_row1 rfl (.tmp 25) (.tmp 26) _ rfl w.heap.size 3 i0 (.int .i64 0) 8 Try.underlying36 hi hz0 hz1 hz2 rfl (.slice A3 i c3) i _ rfl HROW2.out (.int .i64 0) 3 rfl rfl (by unfold maxLen; omega) (by omega) hBs ?_; intro v4 W4 hr4 hb4; obtain ⟨g, cap, rfl, hcap, hbg, hg, hcell2, hfr⟩ := hr4.open (by omega); have hcx := hcell2 i (.int .i64 0) HAT.out; have hfx := hfr i (by omega); have hnr := hr4.set g cap i rfl (.int .i64 (0)); have hbn := (HB2.out.trans hb4).setCell (p := ⟨g, i, none⟩) hbg (.int .i64 (0)); have HNR := Go.Lib.hid hnr; have HBN := Go.Lib.hid hbn; clear hcell2 hfr hnr hbn hr4 hb4 hg)
              exact ⟨⟨i + 1, by omega, by simp, by have := HNR.out; rw [HSET.out] at this; rwa [← show i + 1 = max L (i + 1) by omega], HBN.out⟩, by simp [intOf]; omega⟩
        · obtain rfl : i = m := by omega
          have hrow' := hrow
          rw [HEND.out, ← HLT.out] at hrow'
          have HROW2 := Go.Lib.hid hrow'
          have HB2 := Go.Lib.hid hb2
          clear hrow hrow' hb2
          go_wp2_with fail
          exact ⟨⟨k + 1, by omega, by simp, HROW2.out, HB2.out⟩, by simp [intOf]; omega⟩
    · obtain rfl : k = n := by omega
      rw [List.take_of_length_le (by rw [HN.out]; omega)] at hrow
      have hB := hbw.size
      have hlr := HLG.out k
      rw [List.take_of_length_le (by rw [HN.out]; omega)] at hlr
      have hnorm := pnorm_any _ _ _ _ wr hrow (by omega)
      rw [upOf_join, HR.out] at hnorm
      have HNM := Go.Lib.hid hnorm
      have HBW := Go.Lib.hid hbw
      clear hrow hnorm hbw hlr
      go_wp2_with fail
      refine HNM.out.mono ?_
      rintro e w2 ⟨v', rfl, hI, hb2⟩
      have HI := Go.Lib.hid hI; clear hI
      have HB2 := Go.Lib.hid hb2; clear hb2
      go_wp2_with fail
      go_ret
      exact ⟨_, rfl, HI.out, HBW.out.trans HB2.out⟩
end Go.Proofs.Ytgfkiekcdjnaeaa.W
