/- The reference of vectors: the cut, the greater and the lesser numbers. -/
import Derived.Test.YtgfkiekcdjnaeaaClockS
namespace Go.Proofs.Ytgfkiekcdjnaeaa.W
set_option linter.unusedVariables false
open Go.RowKit Go.Proofs Arb

theorem trim_prefix : ∀ l : List Int, ∃ n, n ≤ l.length ∧ trim l = l.take n ∧ (∀ j, n ≤ j → j < l.length → l.getD j 0 = 0) ∧ (0 < n → l.getD (n - 1) 0 ≠ 0)
  | [] => ⟨0, by simp, rfl, fun j _ h => by simp at h, fun h => by omega⟩
  | x :: l => by
    obtain ⟨n, hn, ht, hz, hl⟩ := trim_prefix l
    simp only [trim]
    rcases Nat.eq_zero_or_pos n with h0 | h0
    · subst h0
      rw [ht, List.take_zero]
      by_cases hx : x = 0
      · refine ⟨0, by simp, by simp [hx], fun j _ hj => ?_, fun h => by omega⟩
        cases j with
        | zero => simpa using hx
        | succ j => simpa using hz j (by omega) (by simpa using hj)
      · refine ⟨1, by simp, by simp [hx], fun j h1 hj => ?_, fun _ => by simpa using hx⟩
        cases j with
        | zero => omega
        | succ j => simpa using hz j (by omega) (by simpa using hj)
    · have hne : trim l ≠ [] := by
        rw [ht]; intro h
        have := congrArg List.length h
        rw [List.length_take, List.length_nil] at this
        omega
      refine ⟨n + 1, by rw [List.length_cons]; omega, ?_, fun j h1 hj => ?_, fun _ => ?_⟩
      · cases hc : trim l with
        | nil => exact absurd hc hne
        | cons y l' => simp only [List.take_succ_cons, ← ht, hc]
      · cases j with
        | zero => omega
        | succ j => simpa using hz j (by omega) (by simpa using hj)
      · cases n with
        | zero => omega
        | succ n => simpa using hl (by omega)

/-- The walk of the cut: n numbers are left, and all behind them are 0. -/
theorem trim_take (l : List Int) (n : Nat) (hn : n ≤ l.length) (hz : ∀ j, n ≤ j → j < l.length → l.getD j 0 = 0) (hs : n = 0 ∨ l.getD (n - 1) 0 ≠ 0) : trim l = l.take n := by
  obtain ⟨m, hm, ht, hzm, hlm⟩ := trim_prefix l
  rcases Nat.lt_trichotomy n m with h | h | h
  · exact absurd (hz (m - 1) (by omega) (by omega)) (hlm (by omega))
  · rw [ht, h]
  · rcases hs with hs | hs
    · omega
    · exact absurd (hzm (n - 1) (by omega) (by omega)) hs

set_option maxHeartbeats 1000000 in
theorem rcut_any (v : Value) (zs : List Int) (w : World) (h : Ints w v zs) (hl : zs.length ≤ 1000000) :
    Calls Try.prog 32 #[v] w fun e w' => ∃ v' m, e = .returned v' ∧ w' = w.drewN m ∧ Ints w v' (trim zs) := by
  rcases Nat.eq_zero_or_pos zs.length with h0 | h0
  · obtain ⟨A, n, c, rfl, hn, _, _⟩ := h
    obtain rfl : n = 0 := by omega
    have hz : zs = [] := List.eq_nil_of_length_eq_zero hn
    subst hz
    clear h0 hn hl
    go_enter Try.func32, Try.ntmps32
    go_wp2_with fail
    go_loopw [3] (fun i wr => i = .int .i64 0 ∧ wr = w) (fun _ _ => 0)
    case atStart => exact ⟨rfl, rfl⟩
    case round =>
      obtain ⟨rfl, rfl⟩ := hrel
      go_wp2_with fail
      go_ret
      exact ⟨_, 0, rfl, rfl, A, 0, c, rfl, rfl, Nat.zero_le _, fun h => by omega⟩
  · obtain ⟨b, o, c, rfl, hc⟩ := h.form h0
    obtain ⟨n, hn⟩ : ∃ n, zs.length = n := ⟨_, rfl⟩
    rw [hn] at h hc hl h0 ⊢
    have HI := Go.Lib.hid h; clear h
    have HN := Go.Lib.hid hn; clear hn
    go_enter Try.func32, Try.ntmps32
    go_wp2_with fail
    go_loopw [3] (fun i wr => ∃ k : Nat, k ≤ n ∧ i = .int .i64 (k : Int) ∧ (∀ j, k ≤ j → j < n → zs.getD j 0 = 0) ∧ ∃ m, wr = w.drewN m) (fun i _ => (intOf i).toNat)
    case atStart => exact ⟨n, by omega, rfl, fun _ h1 h2 => by omega, 0, rfl⟩
    case round =>
      obtain ⟨k, hk, rfl, hall, m, rfl⟩ := hrel
      have HALL := Go.Lib.hid hall; clear hall
      have hint : ∀ k, k ≤ n → Ints w (.slice (some ⟨b, o, none⟩) k c) (zs.take k) := fun k hk => by
        refine ⟨_, k, c, rfl, by rw [List.length_take, HN.out]; omega, by omega, fun h => ⟨b, o, rfl, fun j z hj => ?_⟩⟩
        have hjk : j < k := by have := (List.getElem?_eq_some_iff.1 hj).1; rw [List.length_take] at this; omega
        have h1 := HI.out.cell j (by omega)
        rw [List.getElem?_take, if_pos hjk] at hj
        rw [h1, List.getD_eq_getElem?_getD, hj]
        rfl
      have HINT := Go.Lib.hid hint; clear hint
      rcases Nat.eq_zero_or_pos k with hk0 | hk0
      · subst hk0
        have htr : trim zs = zs.take 0 := trim_take zs 0 (by omega) (by rw [HN.out]; exact HALL.out) (.inl rfl)
        have HTR := Go.Lib.hid htr; clear htr
        go_wp2_with fail
        first | (go_quiet (fail)) | skip
        go_wp2_with fail
        go_ret
        exact ⟨_, m, rfl, rfl, by rw [HTR.out]; exact HINT.out 0 (by omega)⟩
      · obtain ⟨p, rfl⟩ : ∃ p, k = p + 1 := ⟨k - 1, by omega⟩
        have cp := HI.out.cell p (by omega)
        obtain ⟨x, hx⟩ : ∃ x, zs.getD p 0 = x := ⟨_, rfl⟩
        rw [hx] at cp
        have hp1 : (p : Int) < (n : Int) := by omega
        by_cases hx0 : x = 0
        · have hb0 : (x == 0) = true := by simp [hx0]
          have HX := Go.Lib.hid hx; clear hx
          have HX0 := Go.Lib.hid hx0; clear hx0
          go_wp2_with fail
          first | (go_quiet (fail)) | skip
          go_wp2_with fail
          refine ⟨⟨p, by omega, rfl, fun j h1 h2 => ?_, m, rfl⟩, by simp [intOf]⟩
          rcases Nat.lt_or_ge p j with h | h
          · exact HALL.out j (by omega) h2
          · obtain rfl : j = p := by omega
            rw [HX.out, HX0.out]
        · have hb0 : (x == 0) = false := by simp [hx0]
          have HX := Go.Lib.hid hx; clear hx
          go_wp2_with fail
          first | (go_quiet (fail)) | skip
          go_wp2_with fail
          go_ret
          have htr : trim zs = zs.take (p + 1) := trim_take zs (p + 1) (by rw [HN.out]; exact hk) (by rw [HN.out]; exact HALL.out) (.inr (by rw [Nat.add_sub_cancel, HX.out]; exact hx0))
          exact ⟨_, m, rfl, rfl, by rw [htr]; exact HINT.out (p + 1) hk⟩

theorem info_int : (Try.prog.info? 3).map (fun i => (i.zero, i.size, i.bytes)) = some (some (.int .i64 0), 1, 8) := by kernel_rfl
theorem vJoin_take (ls : List (List Int)) (w k : Nat) (l : List Int) (h : ls[k]? = some l) : vJoin (ls.take (k + 1)) w = max (vJoin (ls.take k) w) (vAt l w) := by
  unfold vJoin
  rw [List.take_add_one, h, List.foldl_append]
  rfl

set_option maxHeartbeats 1000000 in
theorem rjoin_any (v : Value) (ls : List (List Int)) (w : World) (h : Vecs w v ls) (hn : ls.length ≤ 100000) (hl : ∀ l ∈ ls, l.length ≤ 100000) :
    Calls Try.prog 22 #[v] w fun e w' => ∃ v', e = .returned v' ∧ Ints w' v' (joinOf ls) ∧ Below w.heap.size w w' := by
  obtain ⟨i0, hi, hz0, hz1, hz2⟩ := info_parts info_int
  have HV := Go.Lib.hid h
  obtain ⟨A, n, c, rfl, hls, _⟩ := h
  have hnl : n ≤ 100000 := by omega
  have hlg := longest_le ls hl
  obtain ⟨r, hr⟩ : ∃ r, longestOf ls = r := ⟨_, rfl⟩
  rw [hr] at hlg
  have hlo := fun w' hb => rlongest_any (.slice A n c) ls w' (HV.out.below hb) hn hl
  rw [hr] at hlo
  have HLO := Go.Lib.hid hlo; clear hlo
  have HR := Go.Lib.hid hr; clear hr
  have HL := Go.Lib.hid hl; clear hl
  have HN := Go.Lib.hid hls; clear hls
  go_enter Try.func22, Try.ntmps22
  go_wp2_with fail
  go_loopw [3, 4, 5, 6] (fun vo i _ _ wr => ∃ k : Nat, k ≤ r ∧ i = .int .i64 (k : Int) ∧ Row wr w.heap.size 3 1 vo k (((List.range k).map (vJoin ls)).map fun z => .int .i64 z) ∧ Below w.heap.size w wr) (fun _ i _ _ _ => r - (intOf i).toNat)
  case atStart => exact ⟨0, by omega, rfl, Row.nil _ _ _ _, Below.refl _ _⟩
  case round =>
    obtain ⟨k, hk, rfl, hrow, hbw⟩ := hrel
    have HROW := Go.Lib.hid hrow; clear hrow
    have hB := hbw.size
    have HBW := Go.Lib.hid hbw; clear hbw
    by_cases hkr : k < r
    · have hkr' : (k : Int) < (r : Int) := by omega
      go_wp2_with fail
      refine (HLO.out _ HBW.out).mono ?_; rintro e w1 ⟨rfl, rfl⟩
      go_wp2_with fail
      obtain ⟨WB, rfl⟩ : ∃ WB, WB = wr := ⟨_, rfl⟩
      go_loop [5, 6] (fun x i => ∃ q : Nat, q ≤ n ∧ i = .int .i64 (q : Int) ∧ x = .int .i64 (vJoin (ls.take q) k)) (fun _ i => n - (intOf i).toNat)
      case atStart => exact ⟨0, by omega, rfl, rfl⟩
      case round =>
        obtain ⟨q, hq, rfl, rfl⟩ := hrel
        by_cases hqn : q < n
        · obtain ⟨b, off, A', c', l, rfl, hg, hcell, hint⟩ := (HV.out.below HBW.out).at q hqn
          have hqn' : (q : Int) < (n : Int) := by omega
          have hat := rat_any _ l k WB hint (HL.out l (List.mem_of_getElem? hg)) (by omega)
          have hnx := vJoin_take ls k q l hg
          obtain ⟨x, hx⟩ : ∃ x, vJoin (ls.take q) k = x := ⟨_, rfl⟩
          obtain ⟨y, hy⟩ : ∃ y, vAt l k = y := ⟨_, rfl⟩
          rw [hy] at hat
          rw [hx, hy] at hnx
          rw [hx]
          have HAT := Go.Lib.hid hat; clear hat
          clear hx hy hg hint
          by_cases hxy : x < y
          · rw [show max x y = y by omega] at hnx
            have HNX := Go.Lib.hid hnx; clear hnx
            go_wp2_with fail
            refine HAT.out.mono ?_; rintro e w1 ⟨rfl, rfl⟩
            go_wp2_with fail
            exact ⟨⟨q + 1, by omega, by simp, by rw [HNX.out]⟩, by simp [intOf]; omega⟩
          · rw [show max x y = x by omega] at hnx
            have HNX := Go.Lib.hid hnx; clear hnx
            go_wp2_with fail
            refine HAT.out.mono ?_; rintro e w1 ⟨rfl, rfl⟩
            go_wp2_with fail
            exact ⟨⟨q + 1, by omega, by simp, by rw [HNX.out]⟩, by simp [intOf]; omega⟩
        · obtain rfl : q = n := by omega
          obtain ⟨x, hx⟩ : ∃ x, vJoin (ls.take q) k = x := ⟨_, rfl⟩
          have hx' : vJoin ls k = x := by rw [← hx, List.take_of_length_le (by rw [HN.out]; omega)]
          rw [hx]
          have HX := Go.Lib.hid hx'; clear hx hx'
          go_wp2_with (at_builtin; refine wpList_append_row1 rfl (.tmp 27) (.tmp 29) _ rfl w.heap.size 3 i0 (.int .i64 0) 8 Try.underlying36 hi hz0 hz1 hz2 rfl u3 k _ rfl HROW.out (.int .i64 x) 3 rfl rfl (by unfold maxLen; omega) (by omega) hB ?_; intro v4 W4 hr4 hb4)
          refine ⟨⟨k + 1, by omega, by simp, ?_, HBW.out.trans hb4⟩, by simp [intOf]; omega⟩
          rw [List.range_succ, List.map_append, List.map_append]
          simp only [List.map_cons, List.map_nil, HX.out]
          exact hr4
    · obtain rfl : k = r := by omega
      have hints := Ints.of_row HROW.out
      go_wp2_with fail
      refine (HLO.out _ HBW.out).mono ?_; rintro e w1 ⟨rfl, rfl⟩
      go_wp2_with fail
      refine (rcut_any _ _ _ hints (by simp; omega)).mono ?_
      rintro e w2 ⟨v', m, rfl, rfl, hI⟩
      have HI := Go.Lib.hid hI; clear hI
      go_wp2_with fail
      go_ret
      refine ⟨_, rfl, ?_, ⟨HBW.out.os, HBW.out.tape, HBW.out.output, HBW.out.size, HBW.out.block⟩⟩
      have := HI.out
      unfold joinOf
      rw [HR.out]
      exact this.same fun _ _ _ => rfl
end Go.Proofs.Ytgfkiekcdjnaeaa.W
