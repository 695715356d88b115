/- The walk of CodecReads. -/
import Derived.Test.YteepaekpaellbaaCodecF
import Derived.Deep.QuietTactic
import Derived.BigQuiet
namespace Go.Proofs.Yteepaekpaellbaa.W
open Go.RowKit Go.Proofs Arb

theorem quiet_left {P : Program} {f : FuncId} {args : Array Value} {w : World} {n : Nat} {v : Value}
    (h : Calls P f args (w.drewN n) fun e w' => e = .returned v ∧ w.drewN n = w') : Calls P f args (w.drewN n) fun e w'' => e = .returned v ∧ ∃ m, w'' = w.drewN m :=
  h.mono fun _ _ ⟨he, hm⟩ => ⟨he, n, hm.symm⟩

theorem stepNum_same (l1 l2 : List UInt8) (e : Int) (h : e ≠ 0 ∨ l1 = l2) : (stepNum l1 e).1 = (stepNum l2 e).1 ∧ (stepNum l1 e).2.2 = (stepNum l2 e).2.2 ∧ ((stepNum l1 e).2.2 ≠ 0 ∨ (stepNum l1 e).2.1 = (stepNum l2 e).2.1) := by
  rcases h with h | rfl
  · simp [stepNum, h]
  · exact ⟨rfl, rfl, .inr rfl⟩
theorem rdText_refOf (l1 : List UInt8) : (rdText l1).1 = (refOf ((rdNum l1).1, l1.drop (rdNum l1).2.1, (rdNum l1).2.2)).1 ∧ (rdText l1).2.2 = (refOf ((rdNum l1).1, l1.drop (rdNum l1).2.1, (rdNum l1).2.2)).2.2 ∧
    ((rdText l1).2.2 ≠ 0 ∨ l1.drop (rdText l1).2.1 = (refOf ((rdNum l1).1, l1.drop (rdNum l1).2.1, (rdNum l1).2.2)).2.1) := by
  unfold refOf rdText
  generalize rdNum l1 = p
  obtain ⟨n, u, e⟩ := p
  simp only [List.length_drop]
  by_cases h1 : e = 0
  · subst h1
    by_cases h2 : l1.length - u < n
    · simp [h2]
    · simp [h2, List.drop_drop]
  · simp [h1]
theorem stepText_same (l1 l2 : List UInt8) (e : Int) (h : e ≠ 0 ∨ l1 = l2) : (stepText l1 e).1 = (refText l2 e).1 ∧ (stepText l1 e).2.2 = (refText l2 e).2.2 ∧ ((stepText l1 e).2.2 ≠ 0 ∨ (stepText l1 e).2.1 = (refText l2 e).2.1) := by
  by_cases he : e = 0
  · subst he
    rcases h with h | rfl
    · exact absurd rfl h
    · have hs : stepNum l1 0 = ((rdNum l1).1, l1.drop (rdNum l1).2.1, (rdNum l1).2.2) := by simp [stepNum]
      have ht : stepText l1 0 = ((rdText l1).1, l1.drop (rdText l1).2.1, (rdText l1).2.2) := by simp [stepText]
      have := rdText_refOf l1
      rw [ht]
      unfold refText
      rw [hs]
      exact this
  · simp [stepText, refText, refOf, stepNum, he]
theorem stepText_len (l : List UInt8) (e0 : Int) : (stepText l e0).2.1.length ≤ l.length := by
  unfold stepText
  split
  · exact Nat.le_refl _
  · simp
theorem refText_len (l : List UInt8) (e0 : Int) : (refText l e0).2.1.length ≤ l.length := by
  have := stepNum_len l e0
  unfold refText refOf
  split
  · exact this
  · split
    · exact this
    · simp; omega

theorem endOf_same (l1 l2 : List UInt8) (e : Int) (h : e ≠ 0 ∨ l1 = l2) : endOf l1 e = endOf l2 e := by
  rcases h with h | rfl
  · simp [endOf, h]
  · rfl

theorem textPair (l1 l2 : List UInt8) (e : Int) (h : e ≠ 0 ∨ l1 = l2) (h1 : l1.length ≤ 281474976710656) (h2 : l2.length ≤ 281474976710656) :
    ∃ (t l1' l2' : List UInt8) (e' q : Int), (∀ (b : Nat) (W : World), IsR W b l1 e → Calls Try.prog 15 #[.pointer (some ⟨b, 0, none⟩)] W fun x w' => x = .returned (.string (BS t)) ∧ IsR w' b l1' e' ∧ W.grownBy w' (some b)) ∧
      (∀ (b : Nat) (W : World), IsF W b l2 e → Calls Try.prog 16 #[.pointer (some ⟨b, 0, none⟩)] W fun x w' => x = .returned (.string (BS t)) ∧ IsF w' b l2' e' ∧ W.grownBy w' (some b)) ∧
      (e' ≠ 0 ∨ l1' = l2') ∧ l1'.length ≤ l1.length ∧ l2'.length ≤ l2.length ∧ endOf l1' e' = q ∧ endOf l2' e' = q := by
  obtain ⟨a1, a2, a3⟩ := stepText_same l1 l2 e h
  refine ⟨(stepText l1 e).1, (stepText l1 e).2.1, (refText l2 e).2.1, (stepText l1 e).2.2, _, fun b W hR => rtext_any b l1 e W hR h1, fun b W hF => ?_, a3, stepText_len _ _, refText_len _ _, rfl, (endOf_same _ _ _ a3).symm⟩
  rw [a1, a2]
  exact ftext_any b l2 e W hF h2
theorem numPair (l1 l2 : List UInt8) (e : Int) (h : e ≠ 0 ∨ l1 = l2) (h1 : l1.length ≤ 281474976710656) (h2 : l2.length ≤ 281474976710656) :
    ∃ (t : Int) (l1' l2' : List UInt8) (e' q : Int), (∀ (b : Nat) (W : World), IsR W b l1 e → Calls Try.prog 17 #[.pointer (some ⟨b, 0, none⟩)] W fun x w' => x = .returned (.int .i64 t) ∧ IsR w' b l1' e' ∧ W.grownBy w' (some b)) ∧
      (∀ (b : Nat) (W : World), IsF W b l2 e → Calls Try.prog 18 #[.pointer (some ⟨b, 0, none⟩)] W fun x w' => x = .returned (.int .i64 t) ∧ IsF w' b l2' e' ∧ W.grownBy w' (some b)) ∧
      (e' ≠ 0 ∨ l1' = l2') ∧ l1'.length ≤ l1.length ∧ l2'.length ≤ l2.length ∧ endOf l1' e' = q ∧ endOf l2' e' = q := by
  obtain ⟨a1, a2, a3⟩ := stepNum_same l1 l2 e h
  refine ⟨_, (stepNum l1 e).2.1, (stepNum l2 e).2.1, (stepNum l1 e).2.2, _, fun b W hR => rnumr_any b l1 e W hR h1, fun b W hF => ?_, a3, stepNum_len _ _, stepNum_len _ _, rfl, (endOf_same _ _ _ a3).symm⟩
  rw [a1, a2]
  exact fnum_any b l2 e W hF h2

theorem below_drewN {B : Nat} {a w : World} (h : Below B a w) (n : Nat) : Below B a (w.drewN n) := ⟨h.os, h.tape, h.output, h.size, h.block⟩

/-- What holds between two calls of CodecReads. -/
def ReadsRel (w : World) (l : List UInt8) (wr : World) : Prop :=
  ∃ (l1 l2 : List UInt8) (e1 : Int), IsR wr w.heap.size l1 e1 ∧ IsF wr (w.heap.size + 1) l2 e1 ∧ (e1 ≠ 0 ∨ l1 = l2) ∧ l1.length ≤ l.length ∧ l2.length ≤ l.length ∧ Below w.heap.size w wr

set_option maxHeartbeats 4000000 in
theorem codecReads_walk (w : World) (l : List UInt8) (hl : l.length ≤ 140737488351232) (A : Option Addr) (n c : Nat) (bs : List Bool) (hS : Sl w 1 A n c (bs.map fun z => [.bool z])) (_hc : c * 1 ≤ 140737488351232) (hbn : bs.length = n) :
    Calls Try.prog 5 #[.string (BS l), .slice A n c] w fun e w' => e = .returned (.bool true) ∧ Below w.heap.size w w' := by
  have hsz : (BS l).size = l.length := BS_size l
  have hnc : n ≤ c := hS.2.1
  have HS := Go.Lib.hid hS; clear hS
  have HBN := Go.Lib.hid hbn; clear hbn
  by_cases hbig : 100000 < l.length
  · go_enter Try.func5, Try.ntmps5
    go_wp2_with fail
    refine (awake_any _).mono ?_; rintro e w3 ⟨rfl, hb3⟩
    have HB3 := Go.Lib.hid hb3; clear hb3
    go_wp2_with fail
    go_ret
    exact ⟨rfl, HB3.out⟩
  · go_enter Try.func5, Try.ntmps5
    go_wp2_with fail
    refine (read_any l _).mono ?_; rintro e w1 ⟨rfl, rfl⟩
    go_wp2_with fail
    go_loopw [7] (fun i wr => ∃ k : Nat, k ≤ n ∧ k ≤ 100 ∧ i = .int .i64 (k : Int) ∧ ReadsRel w l wr) (fun i _ => 100 - (intOf i).toNat)
    case atStart =>
      refine ⟨0, by omega, by omega, rfl, l, l, 0, ?_, ?_, .inr rfl, Nat.le_refl _, Nat.le_refl _, ?_⟩
      · have h := heap_alloc_new w (.cells #[.string (BS l), .int .i64 0] 46)
        exact (Below.heap_alloc _ _ _ (by simp)).trans h
      · have h := heap_alloc_new (w.alloc (.cells #[.string (BS l), .int .i64 0] 46)) (.cells #[.string (BS l), .int .i64 0] 33)
        rw [World.size_alloc] at h
        exact h
      · exact ((Below.refl _ _).alloc (Nat.le_refl _) _).alloc (by simp) _
    case round =>
      obtain ⟨k, hk, hk2, rfl, hRR⟩ := hrel
      have HRR := Go.Lib.hid hRR; clear hRR
      by_cases hkn : k < n
      · by_cases hkh : k < 100
        · obtain ⟨l1, l2, e1, hr1, hf1, hj, hl1, hl2, hb1⟩ := HRR.out
          obtain ⟨b, off, z, rfl, hz, hcell⟩ := (HS.out.below hb1).cell1 hkn
          have HR1 := Go.Lib.hid hr1; clear hr1
          have HF1 := Go.Lib.hid hf1; clear hf1
          have HJ := Go.Lib.hid hj; clear hj
          have HB1 := Go.Lib.hid hb1; clear hb1
          clear hz
          cases z with
          | true =>
            obtain ⟨t, l1', l2', e2, q, hm, hf, hj2, hl1', hl2', hq1, hq2⟩ := textPair l1 l2 e1 HJ.out (by omega) (by omega)
            have HM := Go.Lib.hid hm; clear hm
            have HF := Go.Lib.hid hf; clear hf
            have HJ2 := Go.Lib.hid hj2; clear hj2
            have HQ1 := Go.Lib.hid hq1; clear hq1
            have HQ2 := Go.Lib.hid hq2; clear hq2
            go_wp2_with fail
            refine (HM.out _ _ HR1.out).mono ?_; rintro e w2 ⟨rfl, hr2, hg2⟩
            have HR2 := Go.Lib.hid hr2; clear hr2
            have HF2 := Go.Lib.hid (HF1.out.kept hg2 (by simp))
            have HB2 := Go.Lib.hid (HB1.out.grown hg2 HB1.out.size (by simp)); clear hg2
            go_wp2_with fail
            refine (HF.out _ _ HF2.out).mono ?_; rintro e w3 ⟨rfl, hf3, hg3⟩
            have hx1 := hf3.cell1
            have HF3 := Go.Lib.hid hf3; clear hf3
            have HR3 := Go.Lib.hid (HR2.out.kept hg3 (by simp))
            have HB3 := Go.Lib.hid (HB2.out.grown hg3 HB2.out.size (by simp)); clear hg3
            have HE1 : Hid (∀ m : Nat, Calls Try.prog 20 #[.pointer (some ⟨w.heap.size, 0, none⟩)] (w3.drewN m) fun x w' => x = .returned (.int .i64 q) ∧ w3.drewN m = w') := fun m => by
              have := end_any w.heap.size l1' e2 (w3.drewN m) HR3.out
              rwa [HQ1.out] at this
            have HE2 : Hid (∀ m : Nat, Calls Try.prog 21 #[.pointer (some ⟨w.heap.size + 1, 0, none⟩)] (w3.drewN m) fun x w' => x = .returned (.int .i64 q) ∧ w3.drewN m = w') := fun m => by
              have := fend_any (w.heap.size + 1) l2' e2 (w3.drewN m) HF3.out
              rwa [HQ2.out] at this
            go_wp2_with fail
            go_quiet ((first | (go_at_call 19; exact quiet_left (err_any w.heap.size l1' e2 _ HR3.out)) | (go_at_call 20; exact quiet_left (HE1.out _)) | (go_at_call 21; exact quiet_left (HE2.out _))))
            go_wp2_with fail
            exact ⟨⟨k + 1, by omega, by omega, by go_num, l1', l2', e2, HR3.out, HF3.out, HJ2.out, by omega, by omega, below_drewN HB3.out nq⟩, by simp [intOf]; omega⟩
          | false =>
            obtain ⟨t, l1', l2', e2, q, hm, hf, hj2, hl1', hl2', hq1, hq2⟩ := numPair l1 l2 e1 HJ.out (by omega) (by omega)
            have HM := Go.Lib.hid hm; clear hm
            have HF := Go.Lib.hid hf; clear hf
            have HJ2 := Go.Lib.hid hj2; clear hj2
            have HQ1 := Go.Lib.hid hq1; clear hq1
            have HQ2 := Go.Lib.hid hq2; clear hq2
            go_wp2_with fail
            refine (HM.out _ _ HR1.out).mono ?_; rintro e w2 ⟨rfl, hr2, hg2⟩
            have HR2 := Go.Lib.hid hr2; clear hr2
            have HF2 := Go.Lib.hid (HF1.out.kept hg2 (by simp))
            have HB2 := Go.Lib.hid (HB1.out.grown hg2 HB1.out.size (by simp)); clear hg2
            go_wp2_with fail
            refine (HF.out _ _ HF2.out).mono ?_; rintro e w3 ⟨rfl, hf3, hg3⟩
            have hx1 := hf3.cell1
            have HF3 := Go.Lib.hid hf3; clear hf3
            have HR3 := Go.Lib.hid (HR2.out.kept hg3 (by simp))
            have HB3 := Go.Lib.hid (HB2.out.grown hg3 HB2.out.size (by simp)); clear hg3
            have HE1 : Hid (∀ m : Nat, Calls Try.prog 20 #[.pointer (some ⟨w.heap.size, 0, none⟩)] (w3.drewN m) fun x w' => x = .returned (.int .i64 q) ∧ w3.drewN m = w') := fun m => by
              have := end_any w.heap.size l1' e2 (w3.drewN m) HR3.out
              rwa [HQ1.out] at this
            have HE2 : Hid (∀ m : Nat, Calls Try.prog 21 #[.pointer (some ⟨w.heap.size + 1, 0, none⟩)] (w3.drewN m) fun x w' => x = .returned (.int .i64 q) ∧ w3.drewN m = w') := fun m => by
              have := fend_any (w.heap.size + 1) l2' e2 (w3.drewN m) HF3.out
              rwa [HQ2.out] at this
            go_wp2_with fail
            go_quiet ((first | (go_at_call 19; exact quiet_left (err_any w.heap.size l1' e2 _ HR3.out)) | (go_at_call 20; exact quiet_left (HE1.out _)) | (go_at_call 21; exact quiet_left (HE2.out _))))
            go_wp2_with fail
            exact ⟨⟨k + 1, by omega, by omega, by go_num, l1', l2', e2, HR3.out, HF3.out, HJ2.out, by omega, by omega, below_drewN HB3.out nq⟩, by simp [intOf]; omega⟩
        · obtain rfl : k = 100 := by omega
          go_wp2_with fail
          refine (awake_any _).mono ?_; rintro e w3 ⟨rfl, hb3⟩
          have HB3 := Go.Lib.hid hb3; clear hb3
          go_wp2_with fail
          go_ret
          obtain ⟨l1, l2, e1, hr1, hf1, hj, hl1, hl2, hb1⟩ := HRR.out
          exact ⟨rfl, hb1.trans (HB3.out.mono hb1.size)⟩
      · obtain rfl : k = n := by omega
        go_wp2_with fail
        refine (awake_any _).mono ?_; rintro e w3 ⟨rfl, hb3⟩
        have HB3 := Go.Lib.hid hb3; clear hb3
        go_wp2_with fail
        go_ret
        obtain ⟨l1, l2, e1, hr1, hf1, hj, hl1, hl2, hb1⟩ := HRR.out
        exact ⟨rfl, hb1.trans (HB3.out.mono hb1.size)⟩
end Go.Proofs.Yteepaekpaellbaa.W
