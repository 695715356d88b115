/- The reference's reader. -/
import Derived.Test.YtmkmahjboocoaaaCodecR
namespace Go.Proofs.Ytmkmahjboocoaaa.W
open Go.RowKit Go.Proofs Arb

/-- Block b is the reference's reader of the bytes l, with the error e. -/
def IsF (w : World) (b : Nat) (l : List UInt8) (e : Int) : Prop := w.heap[b]? = some (.cells #[.string (BS l), .int .i64 e] 67 (0, 0))
theorem IsF.cell0 {w : World} {b : Nat} {l : List UInt8} {e : Int} (h : IsF w b l e) : w.cell? ⟨b, 0, none⟩ = some (.string (BS l)) := by simp [World.cell?, show w.heap[b]? = _ from h]
theorem IsF.cell1 {w : World} {b : Nat} {l : List UInt8} {e : Int} (h : IsF w b l e) : w.cell? ⟨b, 1, none⟩ = some (.int .i64 e) := by simp [World.cell?, show w.heap[b]? = _ from h]
theorem IsF.free {w : World} {b : Nat} {l : List UInt8} {e : Int} (h : IsF w b l e) (i : Nat) : w.frozen? ⟨b, i, none⟩ = false := frozen_of_row w b i _ _ h
theorem IsF.lt {w : World} {b : Nat} {l : List UInt8} {e : Int} (h : IsF w b l e) : b < w.heap.size := (Array.getElem?_eq_some_iff.1 h).1
theorem IsF.below {w w' : World} {b : Nat} {l : List UInt8} {e : Int} (h : IsF w b l e) (hb : Below w.heap.size w w') : IsF w' b l e := (hb.block b h.lt).trans h
theorem IsF.kept {w w' : World} {b : Nat} {l : List UInt8} {e : Int} {row : Option Nat} (h : IsF w b l e) (hb : w.grownBy w' row) (hne : some b ≠ row) : IsF w' b l e := (hb.block b h.lt hne).trans h
theorem IsF.set0 {w : World} {b : Nat} {l : List UInt8} {e : Int} (l' : List UInt8) (h : IsF w b l e) :
    IsF (w.setCell ⟨b, 0, none⟩ (.string (BS l'))) b l' e ∧ w.grownBy (w.setCell ⟨b, 0, none⟩ (.string (BS l'))) (some b) :=
  ⟨heap_setCell_same w b 0 _ _ (.string (BS l')) h, rfl, rfl, rfl, by simp [World.setCell], fun _ _ hk => heap_setCell_other _ _ _ _ (fun e => hk (by rw [e]))⟩
theorem IsF.set1 {w : World} {b : Nat} {l : List UInt8} {e : Int} (e' : Int) (h : IsF w b l e) :
    IsF (w.setCell ⟨b, 1, none⟩ (.int .i64 e')) b l e' ∧ w.grownBy (w.setCell ⟨b, 1, none⟩ (.int .i64 e')) (some b) :=
  ⟨heap_setCell_same w b 1 _ _ (.int .i64 e') h, rfl, rfl, rfl, by simp [World.setCell], fun _ _ hk => heap_setCell_other _ _ _ _ (fun e => hk (by rw [e]))⟩

set_option maxHeartbeats 2000000 in
theorem fnum_any (b : Nat) (l : List UInt8) (e0 : Int) (w : World) (h : IsF w b l e0) (hl : l.length ≤ 281474976710656) :
    Calls Try.prog 45 #[.pointer (some ⟨b, 0, none⟩)] w fun e w' => e = .returned (.int .i64 (wrap64 ((stepNum l e0).1 : Int))) ∧ IsF w' b (stepNum l e0).2.1 (stepNum l e0).2.2 ∧ w.grownBy w' (some b) := by
  have h0 := h.cell0
  have h1 := h.cell1
  have f0 := h.free 0
  have f1 := h.free 1
  have hs0 := fun l' => h.set0 l'
  have hs1 := fun e' => h.set1 e'
  have S0 := Go.Lib.hid hs0; clear hs0
  have S1 := Go.Lib.hid hs1; clear hs1
  have hz : (BS l).size = l.length := BS_size l
  have HZ := Go.Lib.hid hz; clear hz
  by_cases he : e0 = 0
  · subst he
    have hst : stepNum l 0 = ((rdNum l).1, l.drop (rdNum l).2.1, (rdNum l).2.2) := by simp [stepNum]
    rw [hst]
    clear hst
    have H := Go.Lib.hid h; clear h
    cases l with
    | nil =>
      have hz0 : (BS []).size = 0 := rfl
      go_enter Try.func45, Try.ntmps45
      go_wp2_with fail
      go_ret
      exact ⟨by simp [wrap64, rdNum], S1.out 10⟩
    | cons d r =>
      obtain ⟨n, hn⟩ : ∃ n : Nat, d.toNat = n := ⟨_, rfl⟩
      have hnlt : n < 256 := by rw [← hn]; exact d.toNat_lt
      have hsz : 0 < (BS (d :: r)).size := by rw [BS_size]; simp
      have hsz2 : (BS (d :: r)).size ≤ 281474976710656 := by rw [BS_size]; exact hl
      have hg0 : (BS (d :: r))[0].toNat = n := by rw [BS_get]; simpa using hn
      have HN := Go.Lib.hid hn; clear hn
      by_cases h8 : 8 < n
      · go_enter Try.func45, Try.ntmps45
        go_wp2_with fail
        go_ret
        have hr : rdNum (d :: r) = (0, 0, 11) := by simp [rdNum, HN.out, h8]
        rw [hr]
        exact ⟨by simp [wrap64], S1.out 11⟩
      · by_cases hr : (BS (d :: r)).size < 1 + n
        · go_enter Try.func45, Try.ntmps45
          go_wp2_with fail
          go_ret
          have hr : rdNum (d :: r) = (0, 0, 10) := by
            have : r.length < n := by have := HZ.out; simp at this; omega
            simp [rdNum, HN.out, h8, this]
          rw [hr]
          exact ⟨by simp [wrap64], S1.out 10⟩
        · by_cases hn0 : n = 0
          · have htl := BS_tail (d :: r) 1
            go_enter Try.func45, Try.ntmps45
            go_wp2_with fail
            go_loop [4, 5] (fun u i => i = .int .i64 1 ∧ u = .int .u64 0) (fun _ _ => 0)
            case atStart => exact ⟨rfl, rfl⟩
            case round =>
              obtain ⟨rfl, rfl⟩ := hrel
              go_wp2
              go_ret
              have hr : rdNum (d :: r) = (0, 1, 0) := by simp [rdNum, HN.out, hn0, val]
              rw [hr]
              exact ⟨by simp [wrap64], S0.out _⟩
          · have hrl : n ≤ r.length := by have := HZ.out; simp at this; omega
            cases r with
            | nil => simp at hrl; omega
            | cons c r' =>
              have h1' : 1 < (BS (d :: c :: r')).size := by rw [BS_size]; simp
              obtain ⟨m, hm⟩ : ∃ m : Nat, c.toNat = m := ⟨_, rfl⟩
              have hmlt : m < 256 := by rw [← hm]; exact c.toNat_lt
              have hg1 : (BS (d :: c :: r'))[1].toNat = m := by rw [BS_get]; simpa using hm
              have HM := Go.Lib.hid hm; clear hm
              have hn0' : 0 < n := by omega
              have HRL := Go.Lib.hid hrl; clear hrl
              clear hn0
              by_cases hm0 : m = 0
              · have HM0 := Go.Lib.hid hm0
                go_enter Try.func45, Try.ntmps45
                go_wp2_with fail
                go_ret
                have h4 : c = 0 := by apply UInt8.toNat_inj.1; rw [HM.out, HM0.out]; rfl
                have hr : rdNum (d :: c :: r') = (0, 0, 11) := by
                  unfold rdNum
                  simp only [HN.out]
                  rw [if_neg h8, if_neg (by have := HRL.out; omega), if_pos ⟨by omega, by simp [h4]⟩]
                rw [hr]
                exact ⟨by simp [wrap64], S1.out 11⟩
              · have hmb : ((m : Int) == 0) = false := by rw [beq_eq_false_iff_ne]; omega
                have hr : rdNum (d :: c :: r') = (val ((c :: r').take n), 1 + n, 0) := by
                  unfold rdNum
                  simp only [HN.out]
                  rw [if_neg h8, if_neg (by have := HRL.out; omega), if_neg]
                  rintro ⟨_, h⟩
                  simp at h
                  apply hm0
                  rw [← HM.out, h]; rfl
                have HR := Go.Lib.hid hr; clear hr
                have htl := BS_tail (d :: c :: r') (1 + n)
                have HTL := Go.Lib.hid htl; clear htl
                have HSZ : Hid (n + 1 ≤ (BS (d :: c :: r')).size) := by show n + 1 ≤ (BS (d :: c :: r')).size; omega
                have hzb : (((BS (d :: c :: r')).size : Int) == 0) = false := by rw [beq_eq_false_iff_ne]; omega
                clear hm0
                generalize hL : d :: c :: r' = l at *
                have HL := Go.Lib.hid hL; clear hL
                go_enter Try.func45, Try.ntmps45
                go_wp2_with fail
                go_loop [4, 5] (fun u i => ∃ k : Nat, k ≤ n ∧ i = .int .i64 ((k + 1 : Nat) : Int) ∧ u = .int .u64 ((val ((c :: r').take k) : Nat) : Int)) (fun _ i => n + 1 - (intOf i).toNat)
                case atStart => exact ⟨0, by omega, rfl, by simp [val]⟩
                case round =>
                  obtain ⟨k, hk, rfl, rfl⟩ := hrel
                  have hv := val_lt ((c :: r').take k)
                  have hvl : ((c :: r').take k).length ≤ k := List.length_take_le _ _
                  by_cases hkd : k < n
                  · have hks : k + 1 < (BS l).size := by have := HSZ.out; omega
                    have hkr : k < (c :: r').length := by have := HRL.out; omega
                    have hkk : (BS l)[k + 1].toNat < 256 := (BS l)[k+1].toNat_lt
                    have hvs : val ((c :: r').take (k + 1)) = val ((c :: r').take k) * 256 + (BS l)[k + 1].toNat := by
                      rw [List.take_succ_eq_append_getElem hkr, val_snoc, BS_get]
                      simp [← HL.out]
                    have hv2 : val ((c :: r').take k) < 72057594037927936 := Nat.lt_of_lt_of_le hv (Nat.le_trans (Nat.pow_le_pow_right (by decide) (by omega : ((c :: r').take k).length ≤ 7)) (by decide))
                    have HV := Go.Lib.hid hvs; clear hvs hv
                    generalize val ((c :: r').take k) = x at HV hv2
                    go_wp2
                    go_round
                    case rel => exact ⟨k + 1, by omega, by go_num, by rw [HV.out, Nat.mul_comm]; go_num⟩
                    case measure => simp [intOf]; omega
                  · obtain rfl : k = n := by omega
                    have htl := HTL.out
                    have hS := HSZ.out
                    generalize hV : val ((c :: r').take k) = x at *
                    go_wp2
                    go_ret
                    rw [HR.out]
                    exact ⟨rfl, S0.out _⟩
  · have HO : Hid (stepNum l e0 = (0, l, e0)) := by show stepNum l e0 = (0, l, e0); simp [stepNum, he]
    have he1 : (e0 != 0) = true := by simpa using he
    have he2 : (e0 == 0) = false := by simpa using he
    clear he
    have H := Go.Lib.hid h; clear h
    go_enter Try.func45, Try.ntmps45
    go_wp2_with fail
    go_ret
    rw [HO.out]
    exact ⟨by simp [wrap64], H.out, World.grownBy.refl _ _⟩

set_option maxHeartbeats 2000000 in
theorem ftext_any (b : Nat) (l : List UInt8) (e0 : Int) (w : World) (h : IsF w b l e0) (hl : l.length ≤ 281474976710656) :
    Calls Try.prog 46 #[.pointer (some ⟨b, 0, none⟩)] w fun e w' => e = .returned (.string (BS (refText l e0).1)) ∧ IsF w' b (refText l e0).2.1 (refText l e0).2.2 ∧ w.grownBy w' (some b) := by
  have hn := fnum_any b l e0 w h hl
  have hlen := stepNum_len l e0
  have hlt := stepNum_lt l e0
  have hR : refText l e0 = refOf (stepNum l e0) := rfl
  generalize refText l e0 = R at *
  generalize stepNum l e0 = p at *
  obtain ⟨n, l1, e1⟩ := p
  simp only at hn hlen hlt
  have HN := Go.Lib.hid hn; clear hn h
  by_cases he : e1 = 0
  · subst he
    by_cases hm : l1.length < n
    · have HO : Hid (R = ([], l1, 10)) := by
        show R = _
        rw [hR]
        unfold refOf
        rw [if_neg (by simp), if_pos hm]
      clear hR
      have hu : IntKind.u64.wrap (wrap64 (n : Int)) = (n : Int) := by rw [IntKind.wrap_u64]; unfold wrap64; omega
      have hz : (BS l1).size = l1.length := BS_size l1
      generalize wrap64 (n : Int) = m at *
      go_enter Try.func46, Try.ntmps46
      go_wp2_with fail
      refine HN.out.mono ?_; rintro e w1 ⟨rfl, hr1, hg1⟩
      have h0 := hr1.cell0
      have h1 := hr1.cell1
      have f0 := hr1.free 0
      have f1 := hr1.free 1
      have S1 := Go.Lib.hid (hr1.set1 10)
      have HG1 := Go.Lib.hid hg1; clear hg1
      have HR1 := Go.Lib.hid hr1; clear hr1
      go_wp2_with fail
      go_ret
      rw [HO.out]
      exact ⟨rfl, S1.out.1, grownBy_trans HG1.out S1.out.2⟩
    · have HO : Hid (R = (l1.take n, l1.drop n, 0)) := by
        show R = _
        rw [hR]
        unfold refOf
        rw [if_neg (by simp), if_neg hm]
      clear hR
      have hw : wrap64 (n : Int) = n := by unfold wrap64; omega
      rw [hw] at HN
      have hz : n ≤ (BS l1).size := by rw [BS_size]; omega
      have hz2 : (BS l1).size ≤ 281474976710656 := by rw [BS_size]; omega
      have htl := BS_tail l1 n
      have hex : (BS l1).extract 0 n = BS (l1.take n) := by rw [BS_extract]; simp
      clear hw hm hlen
      go_enter Try.func46, Try.ntmps46
      go_wp2_with fail
      refine HN.out.mono ?_; rintro e w1 ⟨rfl, hr1, hg1⟩
      have h0 := hr1.cell0
      have h1 := hr1.cell1
      have f0 := hr1.free 0
      have f1 := hr1.free 1
      have S0 := Go.Lib.hid (hr1.set0 (l1.drop n))
      have HG1 := Go.Lib.hid hg1; clear hg1
      have HR1 := Go.Lib.hid hr1; clear hr1
      go_wp2_with fail
      go_ret
      rw [HO.out]
      exact ⟨rfl, S0.out.1, grownBy_trans HG1.out S0.out.2⟩
  · have HO : Hid (R = ([], l1, e1)) := by
      show R = _
      rw [hR]
      unfold refOf
      rw [if_pos he]
    clear hR
    have he1 : (e1 != 0) = true := by simpa using he
    have he2 : (e1 == 0) = false := by simpa using he
    generalize wrap64 (n : Int) = m at *
    clear he
    go_enter Try.func46, Try.ntmps46
    go_wp2_with fail
    refine HN.out.mono ?_; rintro e w1 ⟨rfl, hr1, hg1⟩
    have h0 := hr1.cell0
    have h1 := hr1.cell1
    have HG1 := Go.Lib.hid hg1; clear hg1
    have HR1 := Go.Lib.hid hr1; clear hr1
    go_wp2_with fail
    go_ret
    rw [HO.out]
    exact ⟨rfl, HR1.out, HG1.out⟩

set_option maxHeartbeats 1000000 in
theorem fend_any (b : Nat) (l : List UInt8) (e0 : Int) (w : World) (h : IsF w b l e0) :
    Calls Try.prog 47 #[.pointer (some ⟨b, 0, none⟩)] w fun e w' => e = .returned (.int .i64 (endOf l e0)) ∧ w = w' := by
  have h0 := h.cell0
  have h1 := h.cell1
  clear h
  by_cases he : e0 = 0
  · subst he
    have hl : (BS l).toList.isEmpty = decide (l = []) := by rw [Go.Lib.toList_data, BS_list]; cases l <;> rfl
    by_cases hn : l = []
    · have HO : Hid (endOf l 0 = 0) := by subst hn; rfl
      have hl1 : (BS l).toList.isEmpty = true := by rw [hl]; simpa using hn
      clear hl hn
      go_enter Try.func47, Try.ntmps47
      go_wp2_with fail
      go_ret
      rw [HO.out]
      exact ⟨rfl, rfl⟩
    · have HO : Hid (endOf l 0 = 12) := by show endOf l 0 = 12; simp [endOf, hn]
      have hl1 : (BS l).toList.isEmpty = false := by rw [hl]; simpa using hn
      clear hl hn
      go_enter Try.func47, Try.ntmps47
      go_wp2_with fail
      go_ret
      rw [HO.out]
      exact ⟨rfl, rfl⟩
  · have HO : Hid (endOf l e0 = e0) := by show endOf l e0 = e0; simp [endOf, he]
    have he1 : (e0 != 0) = true := by simpa using he
    have he2 : (e0 == 0) = false := by simpa using he
    clear he
    go_enter Try.func47, Try.ntmps47
    go_wp2_with fail
    go_ret
    rw [HO.out]
    exact ⟨rfl, rfl⟩
end Go.Proofs.Ytmkmahjboocoaaa.W
