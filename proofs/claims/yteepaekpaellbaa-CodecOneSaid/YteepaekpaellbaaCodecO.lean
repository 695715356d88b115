/- The walk of CodecOne. -/
import Derived.Test.YteepaekpaellbaaCodecL
namespace Go.Proofs.Yteepaekpaellbaa.W
open Go.RowKit Go.Proofs Arb

theorem u64_wrap (n : Nat) (h : n < 18446744073709551616) : u64 (wrap64 (n : Int)) = n := by
  unfold u64 wrap64; omega
theorem rdNum_err (l : List UInt8) (h : (rdNum l).2.2 ≠ 0) : (rdNum l).1 = 0 := by
  unfold rdNum at h ⊢
  split
  · rfl
  · rename_i d r
    simp only at h
    split
    · rfl
    · split
      · rfl
      · split
        · rfl
        · rename_i h1 h2 h3
          rw [if_neg h1, if_neg h2, if_neg h3] at h
          exact absurd rfl h

set_option maxHeartbeats 1000000 in
theorem codecOne_walk (l : List UInt8) (hl : l.length ≤ 140737488351232) (w : World) :
    Calls Try.prog 7 #[.string (BS l)] w fun e w' => e = .returned (.bool true) ∧ Below w.heap.size w w' := by
  have hst : stepNum l 0 = ((rdNum l).1, l.drop (rdNum l).2.1, (rdNum l).2.2) := by simp [stepNum]
  have hlt := rdNum_lt l
  have hu := rdNum_used l
  by_cases he : (rdNum l).2.2 = 0
  · have henc := enc_of_rd l he
    have hw := u64_wrap _ hlt
    have hn := fun (b : Nat) (W : World) (hR : IsR W b l 0) => rnumr_any b l 0 W hR (by omega)
    rw [hst, he] at hn
    have hnum := fun W => num_any (wrap64 ((rdNum l).1 : Int)) W
    rw [hw, henc] at hnum
    generalize wrap64 ((rdNum l).1 : Int) = n at *
    generalize (rdNum l).2.1 = u at *
    simp only at hn
    have HN := Go.Lib.hid hn; clear hn
    have HE := Go.Lib.hid hnum; clear hnum
    clear hst hw henc he hlt
    have hsz : (BS (l.take u)).size = u := by rw [BS_size, List.length_take]; omega
    have hsz2 : (BS l).size = l.length := BS_size l
    have hex : (BS l).extract 0 u = BS (l.take u) := by rw [BS_extract]; simp
    by_cases hd : l.drop u = []
    · have hul : u = l.length := by have := congrArg List.length hd; simp at this; omega
      have hO : Hid (endOf (l.drop u) 0 = 0) := by show endOf _ 0 = 0; rw [hd]; rfl
      have hx : BS (l.take u) = BS l := by rw [List.take_of_length_le (by omega)]
      rw [hx] at hex hsz
      have HEX := Go.Lib.hid hx; clear hx
      have HE2 : Hid (∀ W, Calls Try.prog 9 #[.int .i64 n] W fun e w' => e = .returned (.string (BS l)) ∧ Below W.heap.size W w') := fun W => by
        have := HE.out W
        rw [show ({ data := (List.take u l).toArray } : ByteArray) = BS l from HEX.out] at this
        exact this
      clear hd hsz
      subst hul
      go_enter Try.func7, Try.ntmps7
      go_wp2_with fail
      refine (read_any l _).mono ?_; rintro e w1 ⟨rfl, rfl⟩
      have HR1 : Hid (IsR (w.alloc (.cells #[.string (BS l), .int .i64 0] 46)) w.heap.size l 0) := heap_alloc_new w _
      go_wp2_with fail
      refine (HN.out _ _ HR1.out).mono ?_; rintro e w2 ⟨rfl, hr2, hg2⟩
      have HR2 := Go.Lib.hid hr2; clear hr2
      have HG2 := Go.Lib.hid hg2; clear hg2
      have HB2 : Hid (Below w.heap.size w w2) := ((Below.refl _ _).alloc (Nat.le_refl _) _).grown HG2.out (by simp) (by simp)
      go_wp2_with fail
      refine (err_any _ _ _ _ HR2.out).mono ?_; rintro e w3 ⟨rfl, rfl⟩
      go_wp2_with fail
      refine (HE2.out _).mono ?_; rintro e w4 ⟨rfl, hb4⟩
      have HB4 := Go.Lib.hid hb4; clear hb4
      have HR4 := Go.Lib.hid (HR2.out.below HB4.out)
      go_wp2_with fail
      refine (end_any _ _ _ _ HR4.out).mono ?_; rintro e w5 ⟨rfl, rfl⟩
      rw [hO.out]
      go_wp2_with fail
      refine (awake_any _).mono ?_; rintro e w6 ⟨rfl, hb6⟩
      have HB6 := Go.Lib.hid hb6; clear hb6
      go_wp2_with fail
      go_ret
      have h4 := HB2.out.trans (HB4.out.mono HB2.out.size)
      exact ⟨rfl, h4.trans (HB6.out.mono h4.size)⟩
    · have hul : u < l.length := by
        rcases Nat.lt_or_ge u l.length with h | h
        · exact h
        · exact absurd (List.drop_of_length_le h) hd
      have hO : Hid (endOf (l.drop u) 0 = 12) := by show endOf _ 0 = 12; simp [endOf, hd]
      have hne : ((BS (l.take u)).toList == (BS l).toList) = false := by
        rw [Go.Lib.toList_data, Go.Lib.toList_data, BS_list, BS_list]
        apply beq_eq_false_iff_ne.2
        intro h
        have := congrArg List.length h
        rw [List.length_take] at this
        omega
      have HE2 : Hid (∀ W, Calls Try.prog 9 #[.int .i64 n] W fun e w' => e = .returned (.string (BS (l.take u))) ∧ Below W.heap.size W w') := fun W => HE.out W
      clear hd
      go_enter Try.func7, Try.ntmps7
      go_wp2_with fail
      refine (read_any l _).mono ?_; rintro e w1 ⟨rfl, rfl⟩
      have HR1 : Hid (IsR (w.alloc (.cells #[.string (BS l), .int .i64 0] 46)) w.heap.size l 0) := heap_alloc_new w _
      go_wp2_with fail
      refine (HN.out _ _ HR1.out).mono ?_; rintro e w2 ⟨rfl, hr2, hg2⟩
      have HR2 := Go.Lib.hid hr2; clear hr2
      have HG2 := Go.Lib.hid hg2; clear hg2
      have HB2 : Hid (Below w.heap.size w w2) := ((Below.refl _ _).alloc (Nat.le_refl _) _).grown HG2.out (by simp) (by simp)
      go_wp2_with fail
      refine (err_any _ _ _ _ HR2.out).mono ?_; rintro e w3 ⟨rfl, rfl⟩
      go_wp2_with fail
      refine (HE2.out _).mono ?_; rintro e w4 ⟨rfl, hb4⟩
      have HB4 := Go.Lib.hid hb4; clear hb4
      have HR4 := Go.Lib.hid (HR2.out.below HB4.out)
      go_wp2_with fail
      refine (end_any _ _ _ _ HR4.out).mono ?_; rintro e w5 ⟨rfl, rfl⟩
      rw [hO.out]
      go_wp2_with fail
      refine (awake_any _).mono ?_; rintro e w6 ⟨rfl, hb6⟩
      have HB6 := Go.Lib.hid hb6; clear hb6
      go_wp2_with fail
      go_ret
      have h4 := HB2.out.trans (HB4.out.mono HB2.out.size)
      exact ⟨rfl, h4.trans (HB6.out.mono h4.size)⟩
  · have hn := fun (b : Nat) (W : World) (hR : IsR W b l 0) => rnumr_any b l 0 W hR (by omega)
    rw [hst, rdNum_err l he] at hn
    have h0 : wrap64 ((0 : Nat) : Int) = 0 := by simp [wrap64]
    simp only [h0] at hn
    generalize (rdNum l).2.2 = e1 at *
    generalize (rdNum l).2.1 = u at *
    have HN := Go.Lib.hid hn; clear hn
    have he1 : (e1 != 0) = true := by simpa using he
    have he2 : (e1 == 0) = false := by simpa using he
    have hld : (l.drop u).length ≤ 281474976710656 := by rw [List.length_drop]; omega
    have hs1 : stepNum (l.drop u) e1 = (0, l.drop u, e1) := by simp [stepNum, he]
    have hs2 : stepText (l.drop u) e1 = ([], l.drop u, e1) := by simp [stepText, he]
    have HN2 : Hid (∀ (b : Nat) (W : World), IsR W b (l.drop u) e1 → Calls Try.prog 17 #[.pointer (some ⟨b, 0, none⟩)] W fun e w' => e = .returned (.int .i64 0) ∧ IsR w' b (l.drop u) e1 ∧ W.grownBy w' (some b)) := fun b W hR => by
      have := rnumr_any b (l.drop u) e1 W hR hld
      rw [hs1] at this
      simpa only [h0] using this
    have HT2 : Hid (∀ (b : Nat) (W : World), IsR W b (l.drop u) e1 → Calls Try.prog 15 #[.pointer (some ⟨b, 0, none⟩)] W fun e w' => e = .returned (.string ⟨#[]⟩) ∧ IsR w' b (l.drop u) e1 ∧ W.grownBy w' (some b)) := fun b W hR => by
      have := rtext_any b (l.drop u) e1 W hR hld
      rw [hs2] at this
      exact this
    clear hst hlt hu he hs1 hs2 hld h0
    go_enter Try.func7, Try.ntmps7
    go_wp2_with fail
    refine (read_any l _).mono ?_; rintro e w1 ⟨rfl, rfl⟩
    have HR1 : Hid (IsR (w.alloc (.cells #[.string (BS l), .int .i64 0] 46)) w.heap.size l 0) := heap_alloc_new w _
    go_wp2_with fail
    refine (HN.out _ _ HR1.out).mono ?_; rintro e w2 ⟨rfl, hr2, hg2⟩
    have HR2 := Go.Lib.hid hr2; clear hr2
    have HG2 := Go.Lib.hid hg2; clear hg2
    have HB2 : Hid (Below w.heap.size w w2) := ((Below.refl _ _).alloc (Nat.le_refl _) _).grown HG2.out (by simp) (by simp)
    go_wp2_with fail
    refine (err_any _ _ _ _ HR2.out).mono ?_; rintro e w3 ⟨rfl, rfl⟩
    go_wp2_with fail
    refine (HN2.out _ _ HR2.out).mono ?_; rintro e w4 ⟨rfl, hr4, hg4⟩
    have HR4 := Go.Lib.hid hr4; clear hr4
    have HB4 := Go.Lib.hid (HB2.out.grown hg4 HB2.out.size (by simp)); clear hg4
    go_wp2_with fail
    refine (HT2.out _ _ HR4.out).mono ?_; rintro e w5 ⟨rfl, hr5, hg5⟩
    have HB5 := Go.Lib.hid (HB4.out.grown hg5 HB4.out.size (by simp)); clear hg5 hr5
    go_wp2_with fail
    refine (awake_any _).mono ?_; rintro e w6 ⟨rfl, hb6⟩
    have HB6 := Go.Lib.hid hb6; clear hb6
    go_wp2_with fail
    go_ret
    exact ⟨rfl, HB5.out.trans (HB6.out.mono HB5.out.size)⟩
end Go.Proofs.Yteepaekpaellbaa.W
