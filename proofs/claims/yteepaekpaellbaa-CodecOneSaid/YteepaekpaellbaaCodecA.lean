/- codec.Text, the reference's Text, and the chapter's examples. -/
import Derived.Test.YteepaekpaellbaaCodecT
namespace Go.Proofs.Yteepaekpaellbaa.W
open Go.RowKit Go.Proofs Arb

theorem enc_length (u : Nat) : (enc u).length ≤ 9 := by
  unfold enc; rw [List.length_cons, be_length]; have := digs_le u; omega

set_option maxHeartbeats 1000000 in
theorem ctext_any (l : List UInt8) (w : World) (hl : l.length ≤ 281474976710656) :
    Calls Try.prog 12 #[.string (BS l)] w fun e w' => e = .returned (.string (BS (enc (u64 l.length) ++ l))) ∧ Below w.heap.size w w' := by
  have hsz : (BS l).size = l.length := BS_size l
  have hap : (BS (enc (u64 l.length)) ++ BS l) = BS (enc (u64 l.length) ++ l) := ByteArray.mk_append_mk _ _
  have hel := enc_length (u64 l.length)
  have HA := Go.Lib.hid hap; clear hap
  have hes : (BS (enc (u64 l.length))).size = (enc (u64 l.length)).length := BS_size _
  have hc : ∀ W : World, Calls Try.prog 9 #[.int .i64 (l.length : Int)] W fun e w' => e = .returned (.string (BS (enc (u64 l.length)))) ∧ Below W.heap.size W w' := fun W => num_any _ W
  generalize enc (u64 l.length) = x at *
  have HC := Go.Lib.hid hc; clear hc
  go_enter Try.func12, Try.ntmps12
  go_wp2_with (go_at_call 9; refine (HC.out _).mono ?_; rintro e w1 ⟨rfl, hb⟩)
  go_ret
  rw [← HA.out]
  exact ⟨rfl, hb⟩

set_option maxHeartbeats 1000000 in
theorem rtextn_any (l : List UInt8) (w : World) (hl : l.length ≤ 281474976710656) :
    Calls Try.prog 13 #[.string (BS l)] w fun e w' => e = .returned (.string (BS (enc (u64 l.length) ++ l))) ∧ Below w.heap.size w w' := by
  have hsz : (BS l).size = l.length := BS_size l
  have hap : (BS (enc (u64 l.length)) ++ BS l) = BS (enc (u64 l.length) ++ l) := ByteArray.mk_append_mk _ _
  have hel := enc_length (u64 l.length)
  have HA := Go.Lib.hid hap; clear hap
  have hes : (BS (enc (u64 l.length))).size = (enc (u64 l.length)).length := BS_size _
  have hc : ∀ W : World, Calls Try.prog 10 #[.int .i64 (l.length : Int)] W fun e w' => e = .returned (.string (BS (enc (u64 l.length)))) ∧ Below W.heap.size W w' := fun W => rnum_any _ W
  generalize enc (u64 l.length) = x at *
  have HC := Go.Lib.hid hc; clear hc
  go_enter Try.func13, Try.ntmps13
  go_wp2_with (go_at_call 10; refine (HC.out _).mono ?_; rintro e w1 ⟨rfl, hb⟩)
  go_ret
  rw [← HA.out]
  exact ⟨rfl, hb⟩

theorem num_0 (w : World) : Calls Try.prog 9 #[.int .i64 0] w fun e w' => e = .returned (.string ⟨#[0]⟩) ∧ Below w.heap.size w w' := by
  have h := num_any 0 w
  rw [show enc (u64 0) = [0] by decide +kernel] at h
  exact h
theorem num_258 (w : World) : Calls Try.prog 9 #[.int .i64 258] w fun e w' => e = .returned (.string ⟨#[2, 1, 2]⟩) ∧ Below w.heap.size w w' := by
  have h := num_any 258 w
  rw [show enc (u64 258) = [2, 1, 2] by decide +kernel] at h
  exact h
theorem num_m1 (w : World) : Calls Try.prog 9 #[.int .i64 (-1)] w fun e w' => e = .returned (.string ⟨#[8, 255, 255, 255, 255, 255, 255, 255, 255]⟩) ∧ Below w.heap.size w w' := by
  have h := num_any (-1) w
  rw [show enc (u64 (-1)) = [8, 255, 255, 255, 255, 255, 255, 255, 255] by decide +kernel] at h
  exact h
theorem text_ab (w : World) : Calls Try.prog 12 #[.string ⟨#[97, 98]⟩] w fun e w' => e = .returned (.string ⟨#[1, 2, 97, 98]⟩) ∧ Below w.heap.size w w' := by
  have h := ctext_any [97, 98] w (by decide)
  rw [show enc (u64 ([97, 98] : List UInt8).length) ++ [97, 98] = [1, 2, 97, 98] by decide +kernel] at h
  exact h

theorem read_lit (a : Array UInt8) (w : World) :
    Calls Try.prog 14 #[.string ⟨a⟩] w fun e w' => e = .returned (.pointer (some ⟨w.heap.size, 0, none⟩)) ∧ w.heap.size < w'.heap.size ∧ IsR w' w.heap.size a.toList 0 ∧ Below w.heap.size w w' := by
  have h := read_any a.toList w
  refine h.mono fun e w' ⟨he, hw⟩ => ?_
  subst hw
  exact ⟨he, by simp, heap_alloc_new w _, (Below.refl _ _).alloc (Nat.le_refl _) _⟩

/-- What Num does to a reader of which only the error is wanted later. -/
theorem rnum_err (b : Nat) (l : List UInt8) (e1 : Int) (w : World) (h : IsR w b l 0) (hl : l.length ≤ 281474976710656) (he : (rdNum l).2.2 = e1) :
    Calls Try.prog 17 #[.pointer (some ⟨b, 0, none⟩)] w fun e w' => (∃ v, e = .returned v) ∧ (∃ l', IsR w' b l' e1) ∧ w.grownBy w' (some b) :=
  (rnumr_any b l 0 w h hl).mono fun e w' ⟨h1, h2, h3⟩ => ⟨⟨_, h1⟩, ⟨_, by have : (stepNum l 0).2.2 = e1 := by simp [stepNum, he]
                                                                          rw [this] at h2; exact h2⟩, h3⟩

set_option maxHeartbeats 2000000 in
theorem awake_any (w : World) :
    Calls Try.prog 11 #[] w fun e w' => e = .returned (.bool true) ∧ Below w.heap.size w w' := by
  go_enter Try.func11, Try.ntmps11
  go_wp2_with fail
  refine (read_lit _ _).mono ?_; rintro e w1 ⟨rfl, hz1, ha1, hb1⟩
  have HA1 := Go.Lib.hid ha1; clear ha1
  have HB1 := Go.Lib.hid hb1; clear hb1
  go_wp2_with fail
  refine (read_lit _ _).mono ?_; rintro e w2 ⟨rfl, hz2, hc2, hb2⟩
  have HC2 := Go.Lib.hid hc2; clear hc2
  have HB2 := Go.Lib.hid hb2; clear hb2
  go_wp2_with fail
  refine (read_lit _ _).mono ?_; rintro e w3 ⟨rfl, hz3, hd3, hb3⟩
  have HD3 := Go.Lib.hid hd3; clear hd3
  have HB3 := Go.Lib.hid hb3; clear hb3
  have HA3 := Go.Lib.hid ((HA1.out.below HB2.out).below HB3.out)
  have HC3 := Go.Lib.hid (HC2.out.below HB3.out)
  have hA3l : ([2, 0, 1] : List UInt8).length ≤ 281474976710656 := by decide
  go_wp2_with fail
  refine (rnum_err _ _ 11 _ HA3.out (by decide) (by decide)).mono ?_; rintro e w4 ⟨⟨v4, rfl⟩, ⟨la, ha4⟩, hg4⟩
  have HA4 := Go.Lib.hid ha4; clear ha4
  have HG4 := Go.Lib.hid hg4; clear hg4
  have HC4 := Go.Lib.hid (HC3.out.kept HG4.out (by simp; omega))
  have HD4 := Go.Lib.hid (HD3.out.kept HG4.out (by simp; omega))
  go_wp2_with fail
  refine (rnum_err _ _ 11 _ HC4.out (by decide) (by decide)).mono ?_; rintro e w5 ⟨⟨v5, rfl⟩, ⟨lc, hc5⟩, hg5⟩
  have HC5 := Go.Lib.hid hc5; clear hc5
  have HG5 := Go.Lib.hid hg5; clear hg5
  have HA5 := Go.Lib.hid (HA4.out.kept HG5.out (by simp; omega))
  have HD5 := Go.Lib.hid (HD4.out.kept HG5.out (by simp; omega))
  go_wp2_with fail
  refine (rnum_err _ _ 10 _ HD5.out (by decide) (by decide)).mono ?_; rintro e w6 ⟨⟨v6, rfl⟩, ⟨ld, hd6⟩, hg6⟩
  have HD6 := Go.Lib.hid hd6; clear hd6
  have HG6 := Go.Lib.hid hg6; clear hg6
  have HA6 := Go.Lib.hid (HA5.out.kept HG6.out (by simp; omega))
  have HC6 := Go.Lib.hid (HC5.out.kept HG6.out (by simp; omega))
  have HW6 : Hid (Below w.heap.size w w6) := by
    have h3 : Below w.heap.size w w3 := (HB1.out.trans (HB2.out.mono (by omega))).trans (HB3.out.mono (by omega))
    exact ((h3.grown HG4.out h3.size (by simp)).grown HG5.out (Nat.le_trans h3.size HG4.out.size) (by simp; omega)).grown HG6.out (Nat.le_trans h3.size (Nat.le_trans HG4.out.size HG5.out.size)) (by simp; omega)
  go_wp2_with fail
  refine (num_0 _).mono ?_; rintro e w7 ⟨rfl, hb7⟩
  have HB7 := Go.Lib.hid hb7; clear hb7
  go_wp2_with fail
  refine (num_258 _).mono ?_; rintro e w8 ⟨rfl, hb8⟩
  have HB8 := Go.Lib.hid hb8; clear hb8
  go_wp2_with fail
  refine (num_m1 _).mono ?_; rintro e w9 ⟨rfl, hb9⟩
  have HB9 := Go.Lib.hid hb9; clear hb9
  go_wp2_with fail
  refine (text_ab _).mono ?_; rintro e w10 ⟨rfl, hb10⟩
  have HB10 := Go.Lib.hid hb10; clear hb10
  have HA10 := Go.Lib.hid ((((HA6.out.below HB7.out).below HB8.out).below HB9.out).below HB10.out)
  have HC10 := Go.Lib.hid ((((HC6.out.below HB7.out).below HB8.out).below HB9.out).below HB10.out)
  have HD10 := Go.Lib.hid ((((HD6.out.below HB7.out).below HB8.out).below HB9.out).below HB10.out)
  go_wp2_with fail
  refine (end_any _ _ 11 _ HA10.out).mono ?_; rintro e w11 ⟨rfl, rfl⟩
  go_wp2_with fail
  refine (end_any _ _ 11 _ HC10.out).mono ?_; rintro e w12 ⟨rfl, rfl⟩
  go_wp2_with fail
  refine (end_any _ _ 10 _ HD10.out).mono ?_; rintro e w13 ⟨rfl, rfl⟩
  go_wp2_with fail
  go_ret
  refine ⟨?_, ?_⟩
  · simp [endOf]
  · have h6 := HW6.out
    exact (((h6.trans (HB7.out.mono h6.size)).trans (HB8.out.mono (Nat.le_trans h6.size HB7.out.size))).trans (HB9.out.mono (Nat.le_trans h6.size (Nat.le_trans HB7.out.size HB8.out.size)))).trans (HB10.out.mono (Nat.le_trans h6.size (Nat.le_trans HB7.out.size (Nat.le_trans HB8.out.size HB9.out.size))))
end Go.Proofs.Yteepaekpaellbaa.W
