import Derived.Test.YtmkmahjboocoaaaCodecW
namespace Go.Proofs.Ytmkmahjboocoaaa.W
open Go.RowKit Go.Proofs Arb

theorem or_low (x y : Nat) (hx : x < 72057594037927936) (hy : y < 256) : bits .or .u64 ((x : Int) * 256) (y : Int) = ((x * 256 + y : Nat) : Int) := by
  have h := u64_or_nat (x * 256) y (by omega) (by omega)
  rw [nat_join 8 (x * 256) y (by omega) (by omega)] at h
  rw [← h, Int.natCast_mul]
  rfl

set_option maxHeartbeats 1000000 in
theorem number_any (s : ByteArray) (w : World) (hs : s.size ≤ maxLen) :
    Calls Try.prog 67 #[.string s] w fun e w' => e = .returned (.tuple #[.int .u64 ((rdNum s.data.toList).1 : Int), .int .i64 ((rdNum s.data.toList).2.1 : Int), .int .i64 (rdNum s.data.toList).2.2]) ∧ w = w' := by
  unfold maxLen at hs
  by_cases h0 : s.size = 0
  · have hl : s.data.toList = [] := List.eq_nil_of_length_eq_zero (by rw [← Go.Lib.size_eq]; exact h0)
    have he : s.toList.isEmpty = true := by rw [Go.Lib.toList_data, hl]; rfl
    have HL := Go.Lib.hid hl; clear hl
    clear h0
    go_enter Try.func67, Try.ntmps67
    go_wp2_with fail
    go_ret3
    rw [HL.out]
    exact ⟨rfl, rfl⟩
  · have h0' : 0 < s.size := by omega
    obtain ⟨d, hd⟩ : ∃ d : Nat, s[0].toNat = d := ⟨_, rfl⟩
    have hdlt : d < 256 := by rw [← hd]; exact s[0].toNat_lt
    obtain ⟨d0, r, hl⟩ : ∃ d0 r, s.data.toList = d0 :: r := by
      cases h : s.data.toList with
      | nil => rw [Go.Lib.size_eq, h] at h0'; simp at h0'
      | cons a b => exact ⟨a, b, rfl⟩
    have hd0 : d0.toNat = d := by
      rw [← hd]
      have : s[0] = s.data.toList[0]'(by rw [hl]; simp) := rfl
      rw [this]; simp [hl]
    have hsz : s.size = r.length + 1 := by rw [Go.Lib.size_eq, hl]; rfl
    have he : s.toList.isEmpty = false := by rw [Go.Lib.toList_data, hl]; rfl
    have HL := Go.Lib.hid hl; clear hl
    have HZ := Go.Lib.hid hsz; clear hsz
    have HD := Go.Lib.hid hd0; clear hd0
    clear h0
    by_cases h8 : 8 < d
    · go_enter Try.func67, Try.ntmps67
      go_wp2_with fail
      go_ret3
      rw [HL.out]
      simp [rdNum, HD.out, h8]
    · by_cases hr : s.size - 1 < d
      · go_enter Try.func67, Try.ntmps67
        go_wp2_with fail
        go_ret3
        rw [HL.out]
        have : r.length < d := by have := HZ.out; omega
        simp [rdNum, HD.out, h8, this]
      · by_cases hd1 : d = 0
        · go_enter Try.func67, Try.ntmps67
          go_wp2_with fail
          go_loop [6, 7] (fun n i => i = .int .i64 1 ∧ n = .int .u64 0) (fun _ _ => 0)
          case atStart => exact ⟨rfl, rfl⟩
          case round =>
            obtain ⟨rfl, rfl⟩ := hrel
            go_wp2
            go_ret3
            rw [HL.out]
            simp [rdNum, HD.out, hd1, val]
        · have h1' : 1 < s.size := by omega
          obtain ⟨c, hc⟩ : ∃ c : Nat, s[1].toNat = c := ⟨_, rfl⟩
          have hclt : c < 256 := by rw [← hc]; exact s[1].toNat_lt
          obtain ⟨c0, r', hr'⟩ : ∃ c0 r', r = c0 :: r' := by
            cases r with
            | nil => have := HZ.out; simp at this; omega
            | cons a b => exact ⟨a, b, rfl⟩
          have hcc : c0.toNat = c := by
            rw [← hc]
            have : s[1] = s.data.toList[1]'(by rw [HL.out, hr']; simp) := rfl
            rw [this]; simp [HL.out, hr']
          have HR := Go.Lib.hid hr'; clear hr'
          have HC := Go.Lib.hid hcc; clear hcc
          have hd1' : 0 < d := by omega
          clear hd1
          by_cases hc0 : c = 0
          · have HC0 := Go.Lib.hid hc0
            go_enter Try.func67, Try.ntmps67
            go_wp2_with fail
            go_ret3
            rw [HL.out]
            have h3 : ¬ r.length < d := by have := HZ.out; omega
            have h4 : c0 = 0 := by apply UInt8.toNat_inj.1; rw [HC.out, HC0.out]; rfl
            have h5 : r[0]? = some 0 := by rw [HR.out, h4]; rfl
            have h6 : d ≠ 0 := by omega
            simp only [rdNum, HD.out, h8, h3, h5, h6, if_true, ne_eq, not_false_eq_true, and_self, if_neg]
            simp
          · have h3 : ¬ r.length < d := by have := HZ.out; omega
            have h5 : r[0]? ≠ some 0 := by
              rw [HR.out]
              intro h
              simp at h
              apply hc0
              rw [← HC.out, h]; rfl
            have H3 := Go.Lib.hid h3; clear h3
            have hcb : ((c : Int) == 0) = false := by rw [beq_eq_false_iff_ne]; omega
            have H5 := Go.Lib.hid h5; clear h5
            go_enter Try.func67, Try.ntmps67
            go_wp2_with fail
            go_loop [6, 7] (fun n i => ∃ k : Nat, k ≤ d ∧ i = .int .i64 ((k + 1 : Nat) : Int) ∧ n = .int .u64 ((val (r.take k) : Nat) : Int)) (fun _ i => d + 1 - (intOf i).toNat)
            case atStart => exact ⟨0, by omega, rfl, by simp [val]⟩
            case round =>
              obtain ⟨k, hk, rfl, rfl⟩ := hrel
              have hv := val_lt (r.take k)
              have hvl : (r.take k).length ≤ k := List.length_take_le _ _
              by_cases hkd : k < d
              · have hks : k + 1 < s.size := by omega
                have hkr : k < r.length := by have := HZ.out; omega
                have hkk : s[k + 1].toNat < 256 := s[k+1].toNat_lt
                have hvs : val (r.take (k + 1)) = val (r.take k) * 256 + s[k + 1].toNat := by
                  rw [List.take_succ_eq_append_getElem hkr, val_snoc]
                  have : s[k + 1] = s.data.toList[k + 1]'(by rw [← Go.Lib.size_eq]; exact hks) := rfl
                  rw [this]
                  simp [HL.out]
                have hv2 : val (r.take k) < 72057594037927936 := Nat.lt_of_lt_of_le hv (Nat.le_trans (Nat.pow_le_pow_right (by decide) (by omega : (r.take k).length ≤ 7)) (by decide))
                have HV := Go.Lib.hid hvs; clear hvs hv
                generalize val (r.take k) = x at HV hv2
                have HOR := Go.Lib.hid (or_low x s[k + 1].toNat hv2 hkk)
                go_wp2
                go_round
                case rel => exact ⟨k + 1, by omega, by go_num, by rw [HV.out, HOR.out]⟩
                case measure => simp [intOf]; omega
              · obtain rfl : k = d := by omega
                go_wp2
                go_ret3
                rw [HL.out]
                have h6 : k ≠ 0 := by omega
                have h7 : ¬ (k ≠ 0 ∧ r[0]? = some 0) := fun h => H5.out h.2
                simp only [rdNum, HD.out, h8, H3.out, h7, if_false]
                simp

theorem clone_any (s : ByteArray) (w : World) (hlim : s.size ≤ 281474976710656) :
    Calls Try.prog 70 #[.string s] w fun e w' => e = .returned (.string s) ∧ Below w.heap.size w w' := by
  go_enter Try.func70, Try.ntmps70
  go_wp2_with (go_at_call 73; refine (Try.stringslite_Clone s _ hlim).mono ?_; rintro e w' ⟨rfl, hb⟩)
  go_ret
  exact ⟨rfl, hb⟩

set_option maxHeartbeats 1000000 in
theorem text_any (s : ByteArray) (w : World) (hs : s.size ≤ 281474976710656) :
    Calls Try.prog 69 #[.string s] w fun e w' => e = .returned (.tuple #[.string (BS (rdText s.data.toList).1), .int .i64 ((rdText s.data.toList).2.1 : Int), .int .i64 (rdText s.data.toList).2.2]) ∧ Below w.heap.size w w' := by
  have hu := rdNum_used s.data.toList
  have hn := rdNum_lt s.data.toList
  rw [← Go.Lib.size_eq] at hu
  by_cases he : (rdNum s.data.toList).2.2 = 0
  · by_cases hm : s.size - (rdNum s.data.toList).2.1 < (rdNum s.data.toList).1
    · have ht : rdText s.data.toList = ([], 0, 10) := by
        unfold rdText
        rw [if_neg (by simp [he]), if_pos (by rw [← Go.Lib.size_eq]; exact hm)]
      have HT := Go.Lib.hid ht; clear ht
      have hc := number_any s w (by unfold maxLen; omega)
      rw [he] at hc
      generalize (rdNum s.data.toList).1 = n at hc hm hn
      generalize (rdNum s.data.toList).2.1 = u at hc hm hu
      have HC := Go.Lib.hid hc; clear hc he
      go_enter Try.func69, Try.ntmps69
      go_wp2_with (go_at_call 67; refine HC.out.mono ?_; rintro e w' ⟨rfl, rfl⟩)
      go_ret3
      rw [HT.out]
      exact ⟨rfl, Below.refl _ _⟩
    · have ht : rdText s.data.toList = ((s.data.toList.drop (rdNum s.data.toList).2.1).take (rdNum s.data.toList).1, (rdNum s.data.toList).2.1 + (rdNum s.data.toList).1, 0) := by
        unfold rdText
        rw [if_neg (by simp [he]), if_neg (by rw [← Go.Lib.size_eq]; exact hm)]
      have HT := Go.Lib.hid ht; clear ht
      have hc := number_any s w (by unfold maxLen; omega)
      rw [he] at hc
      generalize (rdNum s.data.toList).1 = n at hc hm hn HT
      generalize (rdNum s.data.toList).2.1 = u at hc hm hu HT
      have HC := Go.Lib.hid hc; clear hc he
      go_enter Try.func69, Try.ntmps69
      go_wp2_with (first | (go_at_call 67; refine HC.out.mono ?_; rintro e w' ⟨rfl, rfl⟩) | (go_at_call 70; refine (clone_any _ _ (by rw [ByteArray.size_extract]; omega)).mono ?_; rintro e w' ⟨rfl, hb⟩))
      go_ret3
      rw [HT.out]
      refine ⟨?_, hb⟩
      have e1 : s.extract u (u + n) = BS ((s.data.toList.drop u).take n) := by
        rw [Go.Lib.extract_eq]; unfold BS; congr 3; omega
      rw [e1]
      simp
  · have ht : rdText s.data.toList = ([], 0, (rdNum s.data.toList).2.2) := by
      unfold rdText
      rw [if_pos he]
    have HT := Go.Lib.hid ht; clear ht
    have hc := number_any s w (by unfold maxLen; omega)
    generalize (rdNum s.data.toList).1 = n at hc hn
    generalize (rdNum s.data.toList).2.1 = u at hc hu
    generalize (rdNum s.data.toList).2.2 = er at hc he HT
    have HC := Go.Lib.hid hc; clear hc
    have he' : (er == 0) = false := by simpa using he
    have he2 : (er != 0) = true := by simpa using he
    clear he
    go_enter Try.func69, Try.ntmps69
    go_wp2_with (go_at_call 67; refine HC.out.mono ?_; rintro e w' ⟨rfl, rfl⟩)
    go_ret3
    rw [HT.out]
    exact ⟨rfl, Below.refl _ _⟩

/-- Block b is a reader of the bytes l, with the error e. -/
def IsR (w : World) (b : Nat) (l : List UInt8) (e : Int) : Prop := w.heap[b]? = some (.cells #[.string (BS l), .int .i64 e] 79 (0, 0))
theorem IsR.cell0 {w : World} {b : Nat} {l : List UInt8} {e : Int} (h : IsR w b l e) : w.cell? ⟨b, 0, none⟩ = some (.string (BS l)) := by simp [World.cell?, show w.heap[b]? = _ from h]
theorem IsR.cell1 {w : World} {b : Nat} {l : List UInt8} {e : Int} (h : IsR w b l e) : w.cell? ⟨b, 1, none⟩ = some (.int .i64 e) := by simp [World.cell?, show w.heap[b]? = _ from h]
theorem IsR.free {w : World} {b : Nat} {l : List UInt8} {e : Int} (h : IsR w b l e) (i : Nat) : w.frozen? ⟨b, i, none⟩ = false := frozen_of_row w b i _ _ h
theorem IsR.lt {w : World} {b : Nat} {l : List UInt8} {e : Int} (h : IsR w b l e) : b < w.heap.size := (Array.getElem?_eq_some_iff.1 h).1
theorem IsR.below {w w' : World} {b : Nat} {l : List UInt8} {e : Int} (h : IsR w b l e) (hb : Below w.heap.size w w') : IsR w' b l e := (hb.block b h.lt).trans h
theorem IsR.kept {w w' : World} {b : Nat} {l : List UInt8} {e : Int} {row : Option Nat} (h : IsR w b l e) (hb : w.grownBy w' row) (hne : some b ≠ row) : IsR w' b l e := (hb.block b h.lt hne).trans h
theorem IsR.set {w : World} {b : Nat} {l l' : List UInt8} {e e' : Int} (h : IsR w b l e) :
    IsR ((w.setCell ⟨b, 0, none⟩ (.string (BS l'))).setCell ⟨b, 1, none⟩ (.int .i64 e')) b l' e' ∧ w.grownBy ((w.setCell ⟨b, 0, none⟩ (.string (BS l'))).setCell ⟨b, 1, none⟩ (.int .i64 e')) (some b) := by
  constructor
  · have h1 := heap_setCell_same _ b 1 _ _ (.int .i64 e') (heap_setCell_same w b 0 _ _ (.string (BS l')) h)
    exact h1
  · refine ⟨rfl, rfl, rfl, by simp [World.setCell], fun k _ hk => ?_⟩
    rw [heap_setCell_other _ _ _ _ (fun e => hk (by rw [e])), heap_setCell_other _ _ _ _ (fun e => hk (by rw [e]))]

set_option maxHeartbeats 1000000 in
theorem err_any (b : Nat) (l : List UInt8) (e0 : Int) (w : World) (h : IsR w b l e0) :
    Calls Try.prog 66 #[.pointer (some ⟨b, 0, none⟩)] w fun e w' => e = .returned (.int .i64 e0) ∧ w = w' := by
  have h1 := h.cell1
  go_enter Try.func66, Try.ntmps66
  go_wp2_with fail
  go_ret
  exact ⟨rfl, rfl⟩

set_option maxHeartbeats 1000000 in
theorem end_any (b : Nat) (l : List UInt8) (e0 : Int) (w : World) (h : IsR w b l e0) :
    Calls Try.prog 44 #[.pointer (some ⟨b, 0, none⟩)] w fun e w' => e = .returned (.int .i64 (endOf l e0)) ∧ w = w' := by
  have h1 := h.cell0
  have H := Go.Lib.hid h; clear h
  by_cases he : e0 = 0
  · subst he
    have hl : (BS l).toList.isEmpty = decide (l = []) := by rw [Go.Lib.toList_data, BS_list]; cases l <;> rfl
    by_cases hn : l = []
    · have HO : Hid (endOf l 0 = 0) := by subst hn; rfl
      have hl1 : (BS l).toList.isEmpty = true := by rw [hl]; simpa using hn
      clear hl hn
      go_enter Try.func44, Try.ntmps44
      go_wp2_with (go_at_call 66; refine (err_any b l 0 _ H.out).mono ?_; rintro e w' ⟨rfl, rfl⟩)
      go_ret
      rw [HO.out]
      exact ⟨rfl, rfl⟩
    · have HO : Hid (endOf l 0 = 12) := by show endOf l 0 = 12; simp [endOf, hn]
      have hl1 : (BS l).toList.isEmpty = false := by rw [hl]; simpa using hn
      clear hl hn
      go_enter Try.func44, Try.ntmps44
      go_wp2_with (go_at_call 66; refine (err_any b l 0 _ H.out).mono ?_; rintro e w' ⟨rfl, rfl⟩)
      go_ret
      rw [HO.out]
      exact ⟨rfl, rfl⟩
  · have HO : Hid (endOf l e0 = e0) := by show endOf l e0 = e0; simp [endOf, he]
    have he1 : (e0 != 0) = true := by simpa using he
    have he2 : (e0 == 0) = false := by simpa using he
    clear he
    go_enter Try.func44, Try.ntmps44
    go_wp2_with (go_at_call 66; refine (err_any b l e0 _ H.out).mono ?_; rintro e w' ⟨rfl, rfl⟩)
    go_ret
    rw [HO.out]
    exact ⟨rfl, rfl⟩

theorem read_any (l : List UInt8) (w : World) :
    Calls Try.prog 40 #[.string (BS l)] w fun e w' => e = .returned (.pointer (some ⟨w.heap.size, 0, none⟩)) ∧ w' = w.alloc (.cells #[.string (BS l), .int .i64 0] 79) := by
  go_enter Try.func40, Try.ntmps40
  go_wp2
  go_ret
  exact ⟨rfl, rfl⟩

set_option maxHeartbeats 1000000 in
theorem pass_any (b : Nat) (l : List UInt8) (e0 : Int) (u : Nat) (e1 : Int) (w : World) (h : IsR w b l e0) (hu : u ≤ l.length) (hl : l.length ≤ 281474976710656) :
    Calls Try.prog 68 #[.pointer (some ⟨b, 0, none⟩), .int .i64 (u : Int), .int .i64 e1] w fun e w' => e = .returned (.tuple #[]) ∧ IsR w' b (l.drop u) e1 ∧ w.grownBy w' (some b) := by
  have hs := h.set (l' := l.drop u) (e' := e1)
  have h0 := h.cell0
  have h1 := h.cell1
  have f0 := h.free 0
  have f1 := h.free 1
  have hsz : u ≤ (BS l).size := by rw [BS_size]; exact hu
  have hsz2 : (BS l).size ≤ 281474976710656 := by rw [BS_size]; exact hl
  have htl := BS_tail l u
  clear hu hl
  have HS := Go.Lib.hid hs; clear hs h
  go_enter Try.func68, Try.ntmps68
  go_wp2
  go_end0
  exact ⟨rfl, HS.out⟩

set_option maxHeartbeats 1000000 in
theorem rnumr_any (b : Nat) (l : List UInt8) (e0 : Int) (w : World) (h : IsR w b l e0) (hl : l.length ≤ 281474976710656) :
    Calls Try.prog 42 #[.pointer (some ⟨b, 0, none⟩)] w fun e w' => e = .returned (.int .i64 (wrap64 ((stepNum l e0).1 : Int))) ∧ IsR w' b (stepNum l e0).2.1 (stepNum l e0).2.2 ∧ w.grownBy w' (some b) := by
  by_cases he : e0 = 0
  · subst he
    have hst : stepNum l 0 = ((rdNum l).1, l.drop (rdNum l).2.1, (rdNum l).2.2) := by simp [stepNum]
    rw [hst]
    have hc := number_any (BS l) w (by rw [BS_size]; unfold maxLen; omega)
    rw [BS_list] at hc
    have hu := rdNum_used l
    clear hst
    generalize (rdNum l).1 = n at *
    generalize (rdNum l).2.1 = u at *
    generalize (rdNum l).2.2 = e1 at *
    have h0 := h.cell0
    have HC := Go.Lib.hid hc; clear hc
    have H := Go.Lib.hid h; clear h
    go_enter Try.func42, Try.ntmps42
    go_wp2_with (first | (go_at_call 66; refine (err_any b l 0 _ H.out).mono ?_; rintro e w' ⟨rfl, rfl⟩) | (go_at_call 67; refine HC.out.mono ?_; rintro e w' ⟨rfl, rfl⟩) | (go_at_call 68; refine (pass_any b l 0 u e1 _ H.out hu hl).mono ?_; rintro e w' ⟨rfl, hR, hg⟩))
    go_ret
    exact ⟨rfl, hR, hg⟩
  · have HO : Hid (stepNum l e0 = (0, l, e0)) := by show stepNum l e0 = (0, l, e0); simp [stepNum, he]
    have he1 : (e0 != 0) = true := by simpa using he
    have he2 : (e0 == 0) = false := by simpa using he
    clear he
    have H := Go.Lib.hid h; clear h
    go_enter Try.func42, Try.ntmps42
    go_wp2_with (go_at_call 66; refine (err_any b l e0 _ H.out).mono ?_; rintro e w' ⟨rfl, rfl⟩)
    go_ret
    rw [HO.out]
    exact ⟨by simp [wrap64], H.out, World.grownBy.refl _ _⟩

set_option maxHeartbeats 1000000 in
theorem rtext_any (b : Nat) (l : List UInt8) (e0 : Int) (w : World) (h : IsR w b l e0) (hl : l.length ≤ 281474976710656) :
    Calls Try.prog 43 #[.pointer (some ⟨b, 0, none⟩)] w fun e w' => e = .returned (.string (BS (stepText l e0).1)) ∧ IsR w' b (stepText l e0).2.1 (stepText l e0).2.2 ∧ w.grownBy w' (some b) := by
  by_cases he : e0 = 0
  · subst he
    have hst : stepText l 0 = ((rdText l).1, l.drop (rdText l).2.1, (rdText l).2.2) := by simp [stepText]
    rw [hst]
    have hc := text_any (BS l) w (by rw [BS_size]; omega)
    rw [BS_list] at hc
    have hu := rdText_used l
    clear hst
    generalize (rdText l).1 = n at *
    generalize (rdText l).2.1 = u at *
    generalize (rdText l).2.2 = e1 at *
    have h0 := h.cell0
    have HC := Go.Lib.hid hc; clear hc
    have H := Go.Lib.hid h; clear h
    go_enter Try.func43, Try.ntmps43
    go_wp2_with (first | (go_at_call 66; refine (err_any b l 0 _ H.out).mono ?_; rintro e w' ⟨rfl, rfl⟩) | (go_at_call 69; refine HC.out.mono ?_; rintro e w1 ⟨rfl, hb⟩) | (go_at_call 68; refine (pass_any b l 0 u e1 _ (H.out.below hb) hu hl).mono ?_; rintro e w' ⟨rfl, hR, hg⟩))
    go_ret
    exact ⟨rfl, hR, grown_below hb hg⟩
  · have HO : Hid (stepText l e0 = ([], l, e0)) := by show stepText l e0 = ([], l, e0); simp [stepText, he]
    have he1 : (e0 != 0) = true := by simpa using he
    have he2 : (e0 == 0) = false := by simpa using he
    clear he
    have H := Go.Lib.hid h; clear h
    go_enter Try.func43, Try.ntmps43
    go_wp2_with (go_at_call 66; refine (err_any b l e0 _ H.out).mono ?_; rintro e w' ⟨rfl, rfl⟩)
    go_ret
    rw [HO.out]
    exact ⟨rfl, H.out, World.grownBy.refl _ _⟩

end Go.Proofs.Ytmkmahjboocoaaa.W
