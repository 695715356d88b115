/- The walks of the laws of layer 2. -/
import Derived.Test.YtjicfkdggpinkaaCrcA
namespace Go.Proofs.Ytjicfkdggpinkaa.W
open Go.RowKit Go.Proofs Arb

theorem bstep {w b c : World} (h : Below w.heap.size w b) (k : Below b.heap.size b c) : Below w.heap.size w c := h.trans (k.mono h.size)

set_option maxHeartbeats 1600000 in
theorem crcSums_walk (l : List UInt8) (hl0 : l.length ≤ 140737488351232) (w : World) :
    Calls Try.prog 3 #[.string (BS l)] w fun e w' => e = .returned (.bool true) ∧ Below w.heap.size w w' := by
  have hsz : (BS l).size = l.length := BS_size l
  by_cases hl : 100000 < l.length
  · go_enter Try.func3, Try.ntmps3
    go_wp2_with fail
    refine (awake_any _).mono ?_; rintro e w3 ⟨rfl, hb3⟩
    have HB3 := Go.Lib.hid hb3; clear hb3
    go_wp2_with fail
    go_ret
    exact ⟨rfl, HB3.out⟩
  · go_enter Try.func3, Try.ntmps3
    go_wp2_with fail
    refine (sum_any l _ hl0).mono ?_; rintro e w1 ⟨rfl, hb1⟩
    have HB1 := Go.Lib.hid hb1; clear hb1
    go_wp2_with fail
    refine (rsum_any l _ hl0).mono ?_; rintro e w2 ⟨rfl, rfl⟩
    go_wp2_with fail
    refine (awake_any _).mono ?_; rintro e w3 ⟨rfl, hb3⟩
    have HB3 := Go.Lib.hid hb3; clear hb3
    go_wp2_with fail
    go_ret
    exact ⟨rfl, bstep HB1.out HB3.out⟩

set_option maxHeartbeats 1600000 in
theorem crcMore_walk (s : Int) (_ : (Lit.int .i64 s).wf = true) (l : List UInt8) (hl0 : l.length ≤ 140737488351232) (w : World) :
    Calls Try.prog 4 #[.int .i64 s, .string (BS l)] w fun e w' => e = .returned (.bool true) ∧ Below w.heap.size w w' := by
  have hsz : (BS l).size = l.length := BS_size l
  by_cases hl : 100000 < l.length
  · go_enter Try.func4, Try.ntmps4
    go_wp2_with fail
    refine (awake_any _).mono ?_; rintro e w3 ⟨rfl, hb3⟩
    have HB3 := Go.Lib.hid hb3; clear hb3
    go_wp2_with fail
    go_ret
    exact ⟨rfl, HB3.out⟩
  · go_enter Try.func4, Try.ntmps4
    go_wp2_with fail
    refine (more_any s l _ hl0).mono ?_; rintro e w1 ⟨rfl, hb1⟩
    have HB1 := Go.Lib.hid hb1; clear hb1
    go_wp2_with fail
    refine (rmore_any s l _ hl0).mono ?_; rintro e w2 ⟨rfl, rfl⟩
    go_wp2_with fail
    refine (awake_any _).mono ?_; rintro e w3 ⟨rfl, hb3⟩
    have HB3 := Go.Lib.hid hb3; clear hb3
    go_wp2_with fail
    go_ret
    exact ⟨rfl, bstep HB1.out HB3.out⟩

theorem BS_append (a b : List UInt8) : BS a ++ BS b = BS (a ++ b) := by
  apply ByteArray.ext
  simp [BS, ByteArray.data_append]

set_option maxHeartbeats 1600000 in
theorem crcJoins_walk (a : List UInt8) (ha0 : a.length ≤ 140737488351232) (b : List UInt8) (hb0 : b.length ≤ 140737488351232) (w : World) :
    Calls Try.prog 5 #[.string (BS a), .string (BS b)] w fun e w' => e = .returned (.bool true) ∧ Below w.heap.size w w' := by
  have hsa : (BS a).size = a.length := BS_size a
  have hsb : (BS b).size = b.length := BS_size b
  by_cases ha : 100000 < a.length
  · go_enter Try.func5, Try.ntmps5
    go_wp2_with fail
    refine (awake_any _).mono ?_; rintro e w3 ⟨rfl, hb3⟩
    have HB3 := Go.Lib.hid hb3; clear hb3
    go_wp2_with fail
    go_ret
    exact ⟨rfl, HB3.out⟩
  · by_cases hb : 100000 < b.length
    · go_enter Try.func5, Try.ntmps5
      go_wp2_with fail
      refine (awake_any _).mono ?_; rintro e w3 ⟨rfl, hb3⟩
      have HB3 := Go.Lib.hid hb3; clear hb3
      go_wp2_with fail
      go_ret
      exact ⟨rfl, HB3.out⟩
    · have hab := BS_append a b
      have hm := moreN_append 0 a b
      have HM := Go.Lib.hid hm; clear hm
      go_enter Try.func5, Try.ntmps5
      go_wp2_with fail
      refine (sum_any a _ ha0).mono ?_; rintro e w1 ⟨rfl, hb1⟩
      have HB1 := Go.Lib.hid hb1; clear hb1
      go_wp2_with fail
      refine (more_any _ b _ hb0).mono ?_; rintro e w2 ⟨rfl, hb2⟩
      rw [HM.out]
      have HB2 := Go.Lib.hid hb2; clear hb2
      go_wp2_with fail
      refine (sum_any (a ++ b) _ (by simp; omega)).mono ?_; rintro e w3 ⟨rfl, hb3⟩
      have HB3 := Go.Lib.hid hb3; clear hb3
      go_wp2_with fail
      refine (awake_any _).mono ?_; rintro e w4 ⟨rfl, hb4⟩
      have HB4 := Go.Lib.hid hb4; clear hb4
      go_wp2_with fail
      go_ret
      exact ⟨rfl, bstep (bstep (bstep HB1.out HB2.out) HB3.out) HB4.out⟩

set_option maxRecDepth 20000 in
set_option maxHeartbeats 1600000 in
theorem crcSmall_walk (s : Int) (_ : (Lit.int .i64 s).wf = true) (l : List UInt8) (hl0 : l.length ≤ 140737488351232) (w : World) :
    Calls Try.prog 7 #[.int .i64 s, .string (BS l)] w fun e w' => e = .returned (.bool true) ∧ Below w.heap.size w w' := by
  have hsz : (BS l).size = l.length := BS_size l
  by_cases hl : 100000 < l.length
  · go_enter Try.func7, Try.ntmps7
    go_wp2_with fail
    refine (awake_any _).mono ?_; rintro e w3 ⟨rfl, hb3⟩
    have HB3 := Go.Lib.hid hb3; clear hb3
    go_wp2_with fail
    go_ret
    exact ⟨rfl, HB3.out⟩
  · have hlow := i64_low32 s
    have hlt := moreN_lt s l
    have hml : moreN (low32 s : Int) l = moreN s l := by unfold moreN; rw [low32_nat (low32_lt s)]
    obtain ⟨n, hn⟩ : ∃ n, moreN s l = n := ⟨_, rfl⟩
    rw [hn] at hlt hml
    have hm1 := fun w => more_any s l w hl0
    have hm2 := fun w => more_any (low32 s : Int) l w hl0
    rw [hn] at hm1
    rw [hml] at hm2
    have HM1 := Go.Lib.hid hm1; clear hm1
    have HM2 := Go.Lib.hid hm2; clear hm2 hml hn
    go_enter Try.func7, Try.ntmps7
    have HLOW := Go.Lib.hid hlow; clear hlow
    go_wp2_with fail
    refine (HM1.out _).mono ?_; rintro e w1 ⟨rfl, hb1⟩
    have HB1 := Go.Lib.hid hb1; clear hb1
    have hge : (decide ((n : Int) ≥ 0)) = true := by simp
    have hlt2 : (decide ((n : Int) < 4294967296)) = true := by simp; omega
    clear hlt
    go_wp2_with fail
    rw [HLOW.out]
    refine (HM2.out _).mono ?_; rintro e w2 ⟨rfl, hb2⟩
    have HB2 := Go.Lib.hid hb2; clear hb2
    go_wp2_with fail
    refine (awake_any _).mono ?_; rintro e w3 ⟨rfl, hb3⟩
    have HB3 := Go.Lib.hid hb3; clear hb3
    go_wp2_with fail
    go_ret
    exact ⟨rfl, bstep (bstep HB1.out HB2.out) HB3.out⟩
end Go.Proofs.Ytjicfkdggpinkaa.W
