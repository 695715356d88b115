/- The walks of layer 1's laws. -/
import Derived.Test.YteepaekpaellbaaCodecA
namespace Go.Proofs.Yteepaekpaellbaa.W
open Go.RowKit Go.Proofs Arb

set_option maxHeartbeats 1000000 in
theorem codecNum_walk (a0 : Int) (_ : (Lit.int .i64 a0).wf = true) (w : World) :
    Calls Try.prog 3 #[.int .i64 a0] w fun e w' => e = .returned (.bool true) ∧ Below w.heap.size w w' := by
  go_enter Try.func3, Try.ntmps3
  go_wp2_with fail
  refine (num_any _ _).mono ?_; rintro e w1 ⟨rfl, hb1⟩
  have HB1 := Go.Lib.hid hb1; clear hb1
  go_wp2_with fail
  refine (rnum_any _ _).mono ?_; rintro e w2 ⟨rfl, hb2⟩
  have HB2 := Go.Lib.hid hb2; clear hb2
  go_wp2_with fail
  refine (awake_any _).mono ?_; rintro e w3 ⟨rfl, hb3⟩
  have HB3 := Go.Lib.hid hb3; clear hb3
  go_wp2_with fail
  go_ret
  have h2 := HB1.out.trans (HB2.out.mono HB1.out.size)
  exact ⟨rfl, h2.trans (HB3.out.mono h2.size)⟩

set_option maxHeartbeats 1000000 in
theorem codecText_walk (l : List UInt8) (_ : l.length ≤ 140737488351232) (w : World) :
    Calls Try.prog 4 #[.string (BS l)] w fun e w' => e = .returned (.bool true) ∧ Below w.heap.size w w' := by
  have hsz : (BS l).size = l.length := BS_size l
  by_cases hl : 100000 < l.length
  · go_enter Try.func4, Try.ntmps4
    go_wp2_with fail
    refine (awake_any _).mono ?_; rintro e w3 ⟨rfl, hb3⟩
    have HB3 := Go.Lib.hid hb3; clear hb3
    go_wp2_with fail
    go_ret
    exact ⟨rfl, HB3.out⟩
  · go_enter Try.func4, Try.ntmps4
    go_wp2_with fail
    refine (ctext_any l _ (by omega)).mono ?_; rintro e w1 ⟨rfl, hb1⟩
    have HB1 := Go.Lib.hid hb1; clear hb1
    go_wp2_with fail
    refine (rtextn_any l _ (by omega)).mono ?_; rintro e w2 ⟨rfl, hb2⟩
    have HB2 := Go.Lib.hid hb2; clear hb2
    go_wp2_with fail
    refine (awake_any _).mono ?_; rintro e w3 ⟨rfl, hb3⟩
    have HB3 := Go.Lib.hid hb3; clear hb3
    go_wp2_with fail
    go_ret
    have h2 := HB1.out.trans (HB2.out.mono HB1.out.size)
    exact ⟨rfl, h2.trans (HB3.out.mono h2.size)⟩

theorem err_nil (w : World) :
    Calls Try.prog 19 #[.pointer none] w fun e w' => e = .returned (.int .i64 2) ∧ w = w' := by
  go_enter Try.func19, Try.ntmps19
  go_wp2_with fail
  go_ret
  exact ⟨rfl, rfl⟩
theorem rnum_nil (w : World) :
    Calls Try.prog 17 #[.pointer none] w fun e w' => e = .returned (.int .i64 0) ∧ w = w' := by
  go_enter Try.func17, Try.ntmps17
  go_wp2_with (go_at_call 19; refine (err_nil _).mono ?_; rintro e w' ⟨rfl, rfl⟩)
  go_ret
  exact ⟨rfl, rfl⟩
theorem rtext_nil (w : World) :
    Calls Try.prog 15 #[.pointer none] w fun e w' => e = .returned (.string ⟨#[]⟩) ∧ w = w' := by
  go_enter Try.func15, Try.ntmps15
  go_wp2_with (go_at_call 19; refine (err_nil _).mono ?_; rintro e w' ⟨rfl, rfl⟩)
  go_ret
  exact ⟨rfl, rfl⟩
theorem end_nil (w : World) :
    Calls Try.prog 20 #[.pointer none] w fun e w' => e = .returned (.int .i64 2) ∧ w = w' := by
  go_enter Try.func20, Try.ntmps20
  go_wp2_with (go_at_call 19; refine (err_nil _).mono ?_; rintro e w' ⟨rfl, rfl⟩)
  go_ret
  exact ⟨rfl, rfl⟩

set_option maxHeartbeats 1000000 in
theorem codecNil_walk (a0 : Int) (_ : (Lit.int .i64 a0).wf = true) (w : World) :
    Calls Try.prog 8 #[.int .i64 a0] w fun e w' => e = .returned (.bool true) ∧ Below w.heap.size w w' := by
  have hne : (BS (enc (u64 a0))).toList.isEmpty = false := by rw [Go.Lib.toList_data, BS_list]; rfl
  have hc : ∀ W : World, Calls Try.prog 9 #[.int .i64 a0] W fun e w' => e = .returned (.string (BS (enc (u64 a0)))) ∧ Below W.heap.size W w' := fun W => num_any _ W
  generalize BS (enc (u64 a0)) = x at hne hc
  have HC := Go.Lib.hid hc; clear hc
  go_enter Try.func8, Try.ntmps8
  go_wp2_with (first
    | (go_at_call 17; refine (rnum_nil _).mono ?_; rintro e w' ⟨rfl, rfl⟩)
    | (go_at_call 15; refine (rtext_nil _).mono ?_; rintro e w' ⟨rfl, rfl⟩)
    | (go_at_call 19; refine (err_nil _).mono ?_; rintro e w' ⟨rfl, rfl⟩)
    | (go_at_call 20; refine (end_nil _).mono ?_; rintro e w' ⟨rfl, rfl⟩)
    | (go_at_call 9; refine (HC.out _).mono ?_; rintro e w1 ⟨rfl, hb1⟩; have HB1 := Go.Lib.hid hb1; clear hb1)
    | (go_at_call 11; refine (awake_any _).mono ?_; rintro e w2 ⟨rfl, hb2⟩; have HB2 := Go.Lib.hid hb2; clear hb2))
  go_ret
  exact ⟨rfl, HB1.out.trans (HB2.out.mono HB1.out.size)⟩
end Go.Proofs.Yteepaekpaellbaa.W
