/- The program's stamps, and whether a vector covers another one: contracts. -/
import Derived.Test.YtgfkiekcdjnaeaaClockN
namespace Go.Proofs.Ytgfkiekcdjnaeaa.W
set_option linter.unusedVariables false
open Go.RowKit Go.Proofs Arb

set_option maxHeartbeats 1000000 in
theorem pdevice_any (p : Int) (w : World) :
    Calls Try.prog 27 #[.int .i64 p] w fun e w' => e = .returned (.bool (decide (0 ≤ p ∧ p < 15))) ∧ w = w' := by
  obtain ⟨r, hr⟩ : ∃ r, decide (0 ≤ p ∧ p < 15) = r := ⟨_, rfl⟩
  rw [hr]
  have HR := Go.Lib.hid hr; clear hr
  by_cases h1 : 0 ≤ p
  · by_cases h2 : p < 15
    · go_enter Try.func27, Try.ntmps27
      go_wp2_with fail
      go_ret
      exact ⟨by rw [← HR.out]; simp [h1, h2], rfl⟩
    · go_enter Try.func27, Try.ntmps27
      go_wp2_with fail
      go_ret
      exact ⟨by rw [← HR.out]; simp [h2], rfl⟩
  · go_enter Try.func27, Try.ntmps27
    go_wp2_with fail
    go_ret
    exact ⟨by rw [← HR.out]; simp; omega, rfl⟩

set_option maxRecDepth 20000 in
set_option maxHeartbeats 1000000 in
theorem pright_any (s : St) (w : World) :
    Calls Try.prog 12 #[.agg (stCells s).toArray] w fun e w' => e = .returned (.int .i64 s.right) ∧ Below w.heap.size w w' := by
  obtain ⟨a, b⟩ := s
  show Calls Try.prog 12 #[.agg #[.int .i64 a, .int .i64 b]] w _
  have hB : Below w.heap.size w (w.alloc (.cells #[.int .i64 a, .int .i64 b] 23)) := (Below.refl _ _).alloc (Nat.le_refl _) _
  obtain ⟨r, hr⟩ : ∃ r, St.right ⟨a, b⟩ = r := ⟨_, rfl⟩
  rw [hr]
  have HB := Go.Lib.hid hB; clear hB
  have HR := Go.Lib.hid hr; clear hr
  by_cases h1 : a < 1
  · go_enter Try.func12, Try.ntmps12
    go_wp2_with fail
    go_ret
    exact ⟨by rw [← HR.out]; simp [St.right, h1], HB.out⟩
  · by_cases h2 : 1099511627776 < a
    · go_enter Try.func12, Try.ntmps12
      go_wp2_with fail
      go_ret
      exact ⟨by rw [← HR.out]; simp [St.right, h2], HB.out⟩
    · obtain ⟨d, hd⟩ : ∃ d, decide (0 ≤ b ∧ b < 15) = d := ⟨_, rfl⟩
      have hdv := pdevice_any b
      rw [hd] at hdv
      have HD := Go.Lib.hid hd; clear hd
      have HDV := Go.Lib.hid hdv; clear hdv
      have H1 := Go.Lib.hid h1
      have H2 := Go.Lib.hid h2
      cases d
      · go_enter Try.func12, Try.ntmps12
        go_wp2_with fail
        refine (HDV.out _).mono ?_; rintro e w1 ⟨rfl, rfl⟩
        go_wp2_with fail
        go_ret
        have := of_decide_eq_false HD.out
        have := H1.out
        have := H2.out
        exact ⟨by rw [← HR.out]; simp [St.right]; omega, HB.out⟩
      · go_enter Try.func12, Try.ntmps12
        go_wp2_with fail
        refine (HDV.out _).mono ?_; rintro e w1 ⟨rfl, rfl⟩
        go_wp2_with fail
        go_ret
        have := of_decide_eq_true HD.out
        have := H1.out
        have := H2.out
        exact ⟨by rw [← HR.out]; simp [St.right]; omega, HB.out⟩

set_option maxRecDepth 20000 in
set_option maxHeartbeats 1000000 in
theorem pless_any (s t : St) (w : World) :
    Calls Try.prog 14 #[.agg (stCells s).toArray, .agg (stCells t).toArray] w fun e w' => e = .returned (.bool (s.less t)) ∧ Below w.heap.size w w' := by
  obtain ⟨a, b⟩ := s
  obtain ⟨c, d⟩ := t
  show Calls Try.prog 14 #[.agg #[.int .i64 a, .int .i64 b], .agg #[.int .i64 c, .int .i64 d]] w _
  have hB : Below w.heap.size w ((w.alloc (.cells #[.int .i64 a, .int .i64 b] 23)).alloc (.cells #[.int .i64 c, .int .i64 d] 23)) := ((Below.refl _ _).alloc (Nat.le_refl _) _).alloc (by simp) _
  obtain ⟨r, hr⟩ : ∃ r, St.less ⟨a, b⟩ ⟨c, d⟩ = r := ⟨_, rfl⟩
  rw [hr]
  have HB := Go.Lib.hid hB; clear hB
  have HR := Go.Lib.hid hr; clear hr
  by_cases h1 : a = c
  · have hd1 : (a != c) = false := by simp [h1]
    by_cases h3 : b < d
    · have hd3 : decide (b < d) = true := by simp; omega
      have H2 := Go.Lib.hid h1; clear h1
      go_enter Try.func14, Try.ntmps14
      go_wp2_with fail
      go_ret
      exact ⟨by rw [← HR.out]; simp [St.less, h3, H2.out], HB.out⟩
    · have hd3 : decide (b < d) = false := by simp; omega
      have H2 := Go.Lib.hid h1; clear h1
      go_enter Try.func14, Try.ntmps14
      go_wp2_with fail
      go_ret
      exact ⟨by rw [← HR.out]; simp [St.less, h3, H2.out], HB.out⟩
  · have hd1 : (a != c) = true := by simp [h1]
    by_cases h3 : a < c
    · have hd3 : decide (a < c) = true := by simp; omega
      go_enter Try.func14, Try.ntmps14
      go_wp2_with fail
      go_ret
      exact ⟨by rw [← HR.out]; simp [St.less, h3], HB.out⟩
    · have hd3 : decide (a < c) = false := by simp; omega
      go_enter Try.func14, Try.ntmps14
      go_wp2_with fail
      go_ret
      exact ⟨by rw [← HR.out]; simp [St.less, h3, h1], HB.out⟩

set_option maxHeartbeats 1000000 in
theorem pat_any (v : Value) (zs : List Int) (k : Nat) (w : World) (h : Ints w v zs) (hl : zs.length ≤ 100000) (hk : k ≤ 100000) :
    Calls Try.prog 34 #[v, .int .i64 (k : Int)] w fun e w' => e = .returned (.int .i64 (vAt zs k)) ∧ w = w' := by
  obtain ⟨A, n, c, rfl, rfl, hc, hr⟩ := h
  by_cases hkn : k < zs.length
  · obtain ⟨b, off, rfl, hz⟩ := hr (by omega)
    have hcell := hz k _ (List.getElem?_eq_getElem hkn)
    have hv : vAt zs k = max zs[k] 0 := by unfold vAt; rw [List.getD_eq_getElem?_getD, List.getElem?_eq_getElem hkn]; rfl
    obtain ⟨x, hx⟩ : ∃ x, zs[k] = x := ⟨_, rfl⟩
    rw [hx] at hcell hv
    have hkn' : (k : Int) < (zs.length : Int) := by omega
    have hkd : decide ((zs.length : Int) ≤ (k : Int)) = false := by simp; omega
    clear hr hz hx
    by_cases hx0 : 0 ≤ x
    · rw [show max x 0 = x by omega] at hv
      have HV := Go.Lib.hid hv; clear hv
      go_enter Try.func34, Try.ntmps34
      go_wp2_with fail
      go_ret
      rw [HV.out]
      exact ⟨rfl, rfl⟩
    · rw [show max x 0 = 0 by omega] at hv
      have HV := Go.Lib.hid hv; clear hv
      go_enter Try.func34, Try.ntmps34
      go_wp2_with fail
      go_ret
      rw [HV.out]
      exact ⟨rfl, rfl⟩
  · have hv : vAt zs k = 0 := by unfold vAt; rw [List.getD_eq_getElem?_getD, List.getElem?_eq_none (by omega)]; rfl
    have HV := Go.Lib.hid hv; clear hv
    have hkd : decide ((zs.length : Int) ≤ (k : Int)) = true := by simp; omega
    clear hr
    go_enter Try.func34, Try.ntmps34
    go_wp2_with fail
    go_ret
    rw [HV.out]
    exact ⟨rfl, rfl⟩
set_option maxRecDepth 20000 in
set_option maxHeartbeats 1000000 in
theorem plast_any (v : Value) (ls : List St) (w : World) (h : Stamps w v ls) (hn : ls.length ≤ 100000) :
    Calls Try.prog 28 #[v] w fun e w' => e = .returned (.int .i64 (topCount ls)) ∧ Below w.heap.size w w' := by
  obtain ⟨A, n, c, rfl, hls, hr⟩ := h
  obtain ⟨r, hrr⟩ : ∃ r, topCount ls = r := ⟨_, rfl⟩
  rw [hrr]
  have HRR := Go.Lib.hid hrr; clear hrr
  have HR := Go.Lib.hid hr; clear hr
  have HN := Go.Lib.hid hls; clear hls
  go_enter Try.func28, Try.ntmps28
  go_wp2_with fail
  go_loopw [3, 5, 8, 9, 10, 11, 12, 13, 14, 15, 16] (fun x _ i _ _ _ _ _ _ _ _ wr => ∃ k : Nat, k ≤ n ∧ i = .int .i64 (k : Int) ∧ x = .int .i64 (topCount (ls.take k)) ∧ Below w.heap.size w wr) (fun _ _ i _ _ _ _ _ _ _ _ _ => n - (intOf i).toNat)
  case atStart => exact ⟨0, by omega, rfl, rfl, Below.refl _ _⟩
  case round =>
    obtain ⟨k, hk, rfl, rfl, hb⟩ := hrel
    by_cases hkn : k < n
    · obtain ⟨b, off, hA, hz⟩ := HR.out (by omega)
      cases hA
      have hkl : k < ls.length := by rw [HN.out]; exact hkn
      have hg := List.getElem?_eq_getElem hkl
      obtain ⟨cn, hcn⟩ : ∃ y, (ls[k]).count = y := ⟨_, rfl⟩
      obtain ⟨wn, hwn⟩ : ∃ y, (ls[k]).who = y := ⟨_, rfl⟩
      have hc1 := (hz k _ hg).1
      have hc2 := (hz k _ hg).2
      have hlt := World.block_lt_of_cell? w _ hc1
      replace hc1 := (hb.cell (p := ⟨b, off + k * 2, none⟩) hlt).trans hc1
      replace hc2 := (hb.cell (p := ⟨b, off + k * 2 + 1, none⟩) hlt).trans hc2
      rw [hcn] at hc1
      rw [hwn] at hc2
      have hnx := topCount_take ls k _ hg
      rw [hcn] at hnx
      have hkn' : (k : Int) < (n : Int) := by omega
      obtain ⟨x, hx⟩ : ∃ x, topCount (ls.take k) = x := ⟨_, rfl⟩
      rw [hx] at hnx
      rw [hx]
      have hb2 := hb.alloc hb.size (.cells #[.int .i64 cn, .int .i64 wn] 23)
      have HB2 := Go.Lib.hid hb2; clear hb2
      clear hz hg hcn hx hwn hb hlt
      by_cases hxy : x < cn
      · rw [show max x cn = cn by omega] at hnx
        have HNX := Go.Lib.hid hnx; clear hnx
        go_wp2_with fail
        exact ⟨⟨k + 1, by omega, by simp, by rw [HNX.out], HB2.out⟩, by simp [intOf]; omega⟩
      · rw [show max x cn = x by omega] at hnx
        have HNX := Go.Lib.hid hnx; clear hnx
        go_wp2_with fail
        exact ⟨⟨k + 1, by omega, by simp, by rw [HNX.out], HB2.out⟩, by simp [intOf]; omega⟩
    · obtain rfl : k = n := by omega
      obtain ⟨x, hx⟩ : ∃ x, topCount (ls.take k) = x := ⟨_, rfl⟩
      have hx' : topCount ls = x := by rw [← hx, List.take_of_length_le (by rw [HN.out]; omega)]
      rw [hx]
      have HX := Go.Lib.hid hx'; clear hx hx'
      have HB := Go.Lib.hid hb; clear hb
      go_wp2_with fail
      go_ret
      exact ⟨by rw [show x = r by rw [← HX.out, HRR.out]]; rfl, HB.out⟩

set_option maxHeartbeats 1000000 in
theorem pcovers_any (u v : Value) (a b : List Int) (w : World) (hu : Ints w u a) (hv : Ints w v b) (ha : a.length ≤ 100000) (hb : b.length ≤ 100000) :
    Calls Try.prog 25 #[u, v] w fun e w' => e = .returned (.bool (coversOf a b)) ∧ Below w.heap.size w w' := by
  have HU := Go.Lib.hid hu; clear hu
  have HV0 := Go.Lib.hid hv
  obtain ⟨A, n, c, rfl, hbl, hc, hcell⟩ := hv
  obtain ⟨r, hr⟩ : ∃ r, coversOf a b = r := ⟨_, rfl⟩
  rw [hr]
  have HR := Go.Lib.hid hr; clear hr
  have HBL := Go.Lib.hid hbl; clear hbl
  have HC := Go.Lib.hid hcell; clear hcell
  go_enter Try.func25, Try.ntmps25
  go_wp2_with fail
  go_loop [5, 6, 9, 10, 11, 12, 13, 14, 15, 16, 17, 18, 19] (fun _ _ i _ _ _ _ _ _ _ _ _ _ => ∃ k : Nat, k ≤ n ∧ i = .int .i64 (k : Int) ∧ ∀ w, w < k → b.getD w 0 ≤ vAt a w) (fun _ _ i _ _ _ _ _ _ _ _ _ _ => n - (intOf i).toNat)
  case atStart => exact ⟨0, by omega, rfl, fun _ h => by omega⟩
  case round =>
    obtain ⟨k, hk, rfl, hall⟩ := hrel
    have HALL := Go.Lib.hid hall; clear hall
    by_cases hkn : k < n
    · have hkn' : (k : Int) < (n : Int) := by omega
      have hk1 : k ≤ 100000 := by have := HBL.out; omega
      obtain ⟨bk, off, rfl, hz⟩ := HC.out (by omega)
      have hg := List.getElem?_eq_getElem (l := b) (i := k) (by rw [HBL.out]; exact hkn)
      have hcl := hz k _ hg
      obtain ⟨x, hx⟩ : ∃ x, vAt a k = x := ⟨_, rfl⟩
      obtain ⟨y, hy⟩ : ∃ y, b[k]'(by rw [HBL.out]; exact hkn) = y := ⟨_, rfl⟩
      rw [hy] at hcl
      have hyd : b.getD k 0 = y := by rw [List.getD_eq_getElem?_getD, hg, ← hy]; rfl
      have h1 := fun w hw => pat_any u a k w hw ha hk1
      rw [hx] at h1
      have H1 := Go.Lib.hid h1; clear h1
      have HX := Go.Lib.hid hx; clear hx
      have HY := Go.Lib.hid hyd; clear hyd
      clear hz hg hy
      by_cases hxy : x < y
      · have hd : decide (x < y) = true := by simp; omega
        go_wp2_with fail
        refine (H1.out _ HU.out).mono ?_; rintro e w1 ⟨rfl, rfl⟩
        go_wp2_with fail
        go_ret
        refine ⟨?_, Below.refl _ _⟩
        have hf : coversOf a b = false := by
          unfold coversOf
          rw [List.all_eq_false]
          exact ⟨k, List.mem_range.2 (by have := HBL.out; omega), by rw [HX.out]; unfold vAt; rw [HY.out]; simp; omega⟩
        rw [← HR.out, hf]; rfl
      · have hd : decide (x < y) = false := by simp; omega
        go_wp2_with fail
        refine (H1.out _ HU.out).mono ?_; rintro e w1 ⟨rfl, rfl⟩
        go_wp2_with fail
        refine ⟨⟨k + 1, by omega, by simp, fun w hw => ?_⟩, by simp [intOf]; omega⟩
        rcases Nat.lt_or_ge w k with h | h
        · exact HALL.out w h
        · obtain rfl : w = k := by omega
          rw [HX.out, HY.out]; omega
    · obtain rfl : k = n := by omega
      go_wp2_with fail
      go_ret
      refine ⟨?_, Below.refl _ _⟩
      have hcv : ∀ w, w < k → vAt b w ≤ vAt a w := by
        intro w hw
        have h1 := HALL.out w hw
        have h0 : 0 ≤ vAt a w := by unfold vAt; omega
        have h2 : vAt b w = max (b.getD w 0) 0 := rfl
        omega
      rw [← HR.out, covers_range a b k hcv HBL.out.symm]
      rfl
end Go.Proofs.Ytgfkiekcdjnaeaa.W
