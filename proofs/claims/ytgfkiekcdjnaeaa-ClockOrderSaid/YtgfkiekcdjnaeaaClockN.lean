/- The reference of vectors: the lesser numbers; a device's next stamp. -/
import Derived.Test.YtgfkiekcdjnaeaaClockJ
namespace Go.Proofs.Ytgfkiekcdjnaeaa.W
set_option linter.unusedVariables false
open Go.RowKit Go.Proofs Arb

def mMeet (x : Int) (l : List (List Int)) (w : Nat) : Int := l.foldl (fun n v => min n (vAt v w)) x
theorem vMeet_take (x : Int) (ls : List (List Int)) (w k : Nat) (l : List Int) (h : ls[k]? = some l) : mMeet x (ls.take (k + 1)) w = min (mMeet x (ls.take k) w) (vAt l w) := by
  unfold mMeet
  rw [List.take_add_one, h, List.foldl_append]
  rfl

set_option maxHeartbeats 1000000 in
theorem rmeet_any (v : Value) (ls : List (List Int)) (w : World) (h : Vecs w v ls) (hn : ls.length ≤ 100000) (hl : ∀ l ∈ ls, l.length ≤ 100000) :
    Calls Try.prog 24 #[v] w fun e w' => ∃ v', e = .returned v' ∧ Ints w' v' (meetOf ls) ∧ Below w.heap.size w w' := by
  obtain ⟨i0, hi, hz0, hz1, hz2⟩ := info_parts info_int
  have HV := Go.Lib.hid h
  obtain ⟨A, n, c, rfl, hls, _⟩ := h
  have hnl : n ≤ 100000 := by omega
  have hlg := longest_le ls hl
  obtain ⟨r, hr⟩ : ∃ r, longestOf ls = r := ⟨_, rfl⟩
  rw [hr] at hlg
  have hlo := fun w' hb => rlongest_any (.slice A n c) ls w' (HV.out.below hb) hn hl
  rw [hr] at hlo
  have HLO := Go.Lib.hid hlo; clear hlo
  have HR := Go.Lib.hid hr; clear hr
  have HL := Go.Lib.hid hl; clear hl
  have HN := Go.Lib.hid hls; clear hls
  go_enter Try.func24, Try.ntmps24
  go_wp2_with fail
  go_loopw [3, 4, 5, 6] (fun vo i _ _ wr => ∃ k : Nat, k ≤ r ∧ i = .int .i64 (k : Int) ∧ Row wr w.heap.size 3 1 vo k (((List.range k).map (vMeet ls)).map fun z => .int .i64 z) ∧ Below w.heap.size w wr) (fun _ i _ _ _ => r - (intOf i).toNat)
  case atStart => exact ⟨0, by omega, rfl, Row.nil _ _ _ _, Below.refl _ _⟩
  case round =>
    obtain ⟨k, hk, rfl, hrow, hbw⟩ := hrel
    have HROW := Go.Lib.hid hrow; clear hrow
    have hB := hbw.size
    have HBW := Go.Lib.hid hbw; clear hbw
    by_cases hkr : k < r
    · have hkr' : (k : Int) < (r : Int) := by omega
      have hn0 : 0 < n := by
        rcases Nat.eq_zero_or_pos n with h0 | h0
        · have h1 := HR.out
          have hnil : ls = [] := List.eq_nil_of_length_eq_zero (by rw [HN.out]; exact h0)
          rw [hnil] at h1
          simp [longestOf] at h1
          omega
        · exact h0
      obtain ⟨b0, off0, A0', c0', l0, hA0, hg0, hcell0, hint0⟩ := (HV.out.below HBW.out).at 0 hn0
      subst hA0
      have hhd : ls.headD [] = l0 := by
        cases hls : ls with
        | nil => rw [hls] at hg0; simp at hg0
        | cons x y => rw [hls] at hg0; simpa using hg0
      have hat0 := rat_any _ l0 k wr hint0 (HL.out l0 (List.mem_of_getElem? hg0)) (by omega)
      rw [Nat.add_zero] at hcell0
      have hn0' : (0 : Int) < (n : Int) := by omega
      obtain ⟨y0, hy0⟩ : ∃ y0, vAt l0 k = y0 := ⟨_, rfl⟩
      rw [hy0] at hat0
      have HAT0 := Go.Lib.hid hat0; clear hat0
      have HY0 := Go.Lib.hid hy0; clear hy0
      have HHD := Go.Lib.hid hhd; clear hhd
      clear hg0 hint0
      go_wp2_with fail
      refine (HLO.out _ HBW.out).mono ?_; rintro e w1 ⟨rfl, rfl⟩
      go_wp2_with fail
      refine HAT0.out.mono ?_; rintro e w1 ⟨rfl, rfl⟩
      go_wp2_with fail
      obtain ⟨WB, rfl⟩ : ∃ WB, WB = wr := ⟨_, rfl⟩
      go_loop [5, 6] (fun x i => ∃ q : Nat, q ≤ n ∧ i = .int .i64 (q : Int) ∧ x = .int .i64 (mMeet (vAt l0 k) (ls.take q) k)) (fun _ i => n - (intOf i).toNat)
      case atStart => exact ⟨0, by omega, rfl, by rw [← HY0.out]; rfl⟩
      case round =>
        obtain ⟨q, hq, rfl, rfl⟩ := hrel
        by_cases hqn : q < n
        · obtain ⟨b, off, A', c', l, hA, hg, hcell, hint⟩ := (HV.out.below HBW.out).at q hqn
          cases hA
          have hqn' : (q : Int) < (n : Int) := by omega
          have hat := rat_any _ l k WB hint (HL.out l (List.mem_of_getElem? hg)) (by omega)
          have hnx := vMeet_take (vAt l0 k) ls k q l hg
          obtain ⟨x, hx⟩ : ∃ x, mMeet (vAt l0 k) (ls.take q) k = x := ⟨_, rfl⟩
          obtain ⟨y, hy⟩ : ∃ y, vAt l k = y := ⟨_, rfl⟩
          rw [hy] at hat
          rw [hx, hy] at hnx
          rw [hx]
          have HAT := Go.Lib.hid hat; clear hat
          clear hx hy hg hint
          by_cases hxy : y < x
          · rw [show min x y = y by omega] at hnx
            have HNX := Go.Lib.hid hnx; clear hnx
            go_wp2_with fail
            refine HAT.out.mono ?_; rintro e w1 ⟨rfl, rfl⟩
            go_wp2_with fail
            exact ⟨⟨q + 1, by omega, by simp, by rw [HNX.out]⟩, by simp [intOf]; omega⟩
          · rw [show min x y = x by omega] at hnx
            have HNX := Go.Lib.hid hnx; clear hnx
            go_wp2_with fail
            refine HAT.out.mono ?_; rintro e w1 ⟨rfl, rfl⟩
            go_wp2_with fail
            exact ⟨⟨q + 1, by omega, by simp, by rw [HNX.out]⟩, by simp [intOf]; omega⟩
        · obtain rfl : q = n := by omega
          obtain ⟨x, hx⟩ : ∃ x, mMeet (vAt l0 k) (ls.take q) k = x := ⟨_, rfl⟩
          have hx' : vMeet ls k = x := by rw [← hx, List.take_of_length_le (by rw [HN.out]; omega)]; unfold vMeet mMeet; rw [HHD.out]
          rw [hx]
          have HX := Go.Lib.hid hx'; clear hx hx'
          go_wp2_with (at_builtin; refine wpList_append_row1 rfl (.tmp 32) (.tmp 34) _ rfl w.heap.size 3 i0 (.int .i64 0) 8 Try.underlying36 hi hz0 hz1 hz2 rfl u3 k _ rfl HROW.out (.int .i64 x) 3 rfl rfl (by unfold maxLen; omega) (by omega) hB ?_; intro v4 W4 hr4 hb4)
          refine ⟨⟨k + 1, by omega, by simp, ?_, HBW.out.trans hb4⟩, by simp [intOf]; omega⟩
          rw [List.range_succ, List.map_append, List.map_append]
          simp only [List.map_cons, List.map_nil, HX.out]
          exact hr4
    · obtain rfl : k = r := by omega
      have hints := Ints.of_row HROW.out
      go_wp2_with fail
      refine (HLO.out _ HBW.out).mono ?_; rintro e w1 ⟨rfl, rfl⟩
      go_wp2_with fail
      refine (rcut_any _ _ _ hints (by simp; omega)).mono ?_
      rintro e w2 ⟨v', m, rfl, rfl, hI⟩
      have HI := Go.Lib.hid hI; clear hI
      go_wp2_with fail
      go_ret
      refine ⟨_, rfl, ?_, ⟨HBW.out.os, HBW.out.tape, HBW.out.output, HBW.out.size, HBW.out.block⟩⟩
      have := HI.out
      unfold meetOf
      rw [HR.out]
      exact this.same fun _ _ _ => rfl

/-- The value v is the stamps ls. -/
def Stamps (w : World) (v : Value) (ls : List St) : Prop :=
  ∃ A n c, v = .slice A n c ∧ ls.length = n ∧ (0 < n → ∃ b off, A = some ⟨b, off, none⟩ ∧ ∀ j s, ls[j]? = some s → w.cell? ⟨b, off + j * 2, none⟩ = some (.int .i64 s.count) ∧ w.cell? ⟨b, off + j * 2 + 1, none⟩ = some (.int .i64 s.who))
theorem Stamps.below {w w' : World} {v : Value} {ls : List St} (h : Stamps w v ls) (hb : Below w.heap.size w w') : Stamps w' v ls := by
  obtain ⟨A, n, c, hv, hl, hr⟩ := h
  refine ⟨A, n, c, hv, hl, fun h0 => ?_⟩
  obtain ⟨b, off, hA, hz⟩ := hr h0
  refine ⟨b, off, hA, fun j s hj => ?_⟩
  obtain ⟨h1, h2⟩ := hz j s hj
  exact ⟨(hb.cell (p := ⟨b, off + j * 2, none⟩) (World.block_lt_of_cell? w _ h1)).trans h1, (hb.cell (p := ⟨b, off + j * 2 + 1, none⟩) (World.block_lt_of_cell? w _ h2)).trans h2⟩
theorem Stamps.of_sl {w : World} {A : Option Addr} {n c : Nat} {ls : List St} (h : Sl w 2 A n c (ls.map stCells)) : Stamps w (.slice A n c) ls := by
  refine ⟨A, n, c, rfl, by simpa using h.1, fun h0 => ?_⟩
  obtain ⟨b, off, hA, hr⟩ := h.2.2.2 h0
  refine ⟨b, off, hA, fun j s hj => ?_⟩
  have := (hr j (stCells s) (by simp [hj])).2
  exact ⟨by simpa using this 0 _ rfl, this 1 _ rfl⟩
theorem topCount_nonneg (ls : List St) : 0 ≤ topCount ls := by
  have : ∀ (l : List St) (n : Int), 0 ≤ n → 0 ≤ l.foldl (fun n s => max n s.count) n := by
    intro l
    induction l with
    | nil => intro n h; exact h
    | cons s l ih => intro n h; exact ih _ (by show 0 ≤ max n s.count; omega)
  exact this ls 0 (by omega)
theorem topCount_take (ls : List St) (k : Nat) (s : St) (h : ls[k]? = some s) : topCount (ls.take (k + 1)) = max (topCount (ls.take k)) s.count := by
  unfold topCount
  rw [List.take_add_one, h, List.foldl_append]
  rfl

set_option maxRecDepth 20000 in
set_option maxHeartbeats 1000000 in
theorem rnext_any (p : Int) (v : Value) (ls : List St) (w : World) (h : Stamps w v ls) (hn : ls.length ≤ 100000) :
    Calls Try.prog 18 #[.int .i64 p, v] w fun e w' => e = .returned (.tuple #[stVal (nextSt p ls).1, .int .i64 (nextSt p ls).2]) ∧ Below w.heap.size w w' := by
  obtain ⟨A, n, c, rfl, hls, hr⟩ := h
  have hb1 : ∀ s : St, Below w.heap.size w (w.alloc (.cells #[.int .i64 s.count, .int .i64 s.who] 23)) := fun s => (Below.refl _ _).alloc (Nat.le_refl _) _
  have HB := Go.Lib.hid hb1; clear hb1
  by_cases hp : p < 0
  · have he : nextSt p ls = (⟨0, 0⟩, 1) := by unfold nextSt; rw [if_pos (.inl hp)]
    rw [he]
    clear he hr
    go_enter Try.func18, Try.ntmps18
    go_wp2_with fail
    exact bodyPost_ret (v := .tuple #[.agg #[.int .i64 0, .int .i64 0], .int .i64 1]) (by simp [results, Try.results18, go_sem]) rfl ⟨rfl, HB.out ⟨0, 0⟩⟩
  · by_cases hp2 : 15 ≤ p
    · have he : nextSt p ls = (⟨0, 0⟩, 1) := by unfold nextSt; rw [if_pos (.inr hp2)]
      rw [he]
      clear he hr
      go_enter Try.func18, Try.ntmps18
      go_wp2_with fail
      exact bodyPost_ret (v := .tuple #[.agg #[.int .i64 0, .int .i64 0], .int .i64 1]) (by simp [results, Try.results18, go_sem]) rfl ⟨rfl, HB.out ⟨0, 0⟩⟩
    · obtain ⟨r, hrr⟩ : ∃ r, nextSt p ls = r := ⟨_, rfl⟩
      rw [hrr]
      unfold nextSt at hrr
      rw [if_neg (by omega)] at hrr
      have HRR := Go.Lib.hid hrr; clear hrr
      have HR := Go.Lib.hid hr; clear hr
      have HN := Go.Lib.hid hls; clear hls
      go_enter Try.func18, Try.ntmps18
      go_wp2_with fail
      go_loop [6, 7] (fun x i => ∃ k : Nat, k ≤ n ∧ i = .int .i64 (k : Int) ∧ x = .int .i64 (topCount (ls.take k))) (fun _ i => n - (intOf i).toNat)
      case atStart => exact ⟨0, by omega, rfl, rfl⟩
      case round =>
        obtain ⟨k, hk, rfl, rfl⟩ := hrel
        by_cases hkn : k < n
        · obtain ⟨b, off, hA, hz⟩ := HR.out (by omega)
          cases hA
          have hkl : k < ls.length := by rw [HN.out]; exact hkn
          have hg := List.getElem?_eq_getElem hkl
          obtain ⟨cn, hcn⟩ : ∃ y, (ls[k]).count = y := ⟨_, rfl⟩
          have hcell : (w.alloc (.cells #[.int .i64 0, .int .i64 0] 23)).cell? ⟨b, off + k * 2, none⟩ = some (.int .i64 cn) := by rw [← hcn]; exact cell_more (hz k _ hg).1
          have hnx := topCount_take ls k _ hg
          rw [hcn] at hnx
          have hkn' : (k : Int) < (n : Int) := by omega
          obtain ⟨x, hx⟩ : ∃ x, topCount (ls.take k) = x := ⟨_, rfl⟩
          rw [hx] at hnx
          rw [hx]
          clear hz hg hcn hx
          by_cases hxy : x < cn
          · rw [show max x cn = cn by omega] at hnx
            have HNX := Go.Lib.hid hnx; clear hnx
            go_wp2_with fail
            exact ⟨⟨k + 1, by omega, by simp, by rw [HNX.out]⟩, by simp [intOf]; omega⟩
          · rw [show max x cn = x by omega] at hnx
            have HNX := Go.Lib.hid hnx; clear hnx
            go_wp2_with fail
            exact ⟨⟨k + 1, by omega, by simp, by rw [HNX.out]⟩, by simp [intOf]; omega⟩
        · obtain rfl : k = n := by omega
          obtain ⟨x, hx⟩ : ∃ x, topCount (ls.take k) = x := ⟨_, rfl⟩
          have hx' : topCount ls = x := by rw [← hx, List.take_of_length_le (by rw [HN.out]; omega)]
          have hx0 : 0 ≤ x := by rw [← hx]; exact topCount_nonneg _
          rw [hx]
          have HX := Go.Lib.hid hx'; clear hx hx'
          by_cases hm : 1099511627776 ≤ x
          · go_wp2_with fail
            have hr0 : r = (⟨0, 0⟩, 21) := by rw [← HRR.out, HX.out, if_pos hm]
            rw [hr0]
            exact bodyPost_ret (v := .tuple #[.agg #[.int .i64 0, .int .i64 0], .int .i64 21]) (by simp [results, Try.results18, go_sem]) rfl ⟨rfl, HB.out ⟨0, 0⟩⟩
          · have HM := Go.Lib.hid hm
            go_wp2_with fail
            have hr0 : r = (⟨x + 1, p⟩, 0) := by rw [← HRR.out, HX.out, if_neg (by have := HM.out; omega)]
            rw [hr0]
            exact bodyPost_ret (v := .tuple #[.agg #[.int .i64 (x + 1), .int .i64 p], .int .i64 0]) (by simp [results, Try.results18, go_sem]) rfl ⟨rfl, HB.out ⟨x + 1, p⟩⟩
end Go.Proofs.Ytgfkiekcdjnaeaa.W
