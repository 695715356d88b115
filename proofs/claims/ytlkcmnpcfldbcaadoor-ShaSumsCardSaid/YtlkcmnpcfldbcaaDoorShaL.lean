/- The walks of the laws of layer 3. -/
import Derived.Test.YtlkcmnpcfldbcaaDoorShaP
import Derived.Deep.RegionHeld3
namespace Go.Proofs.YtlkcmnpcfldbcaaDoor.W
set_option linter.unusedVariables false
open Go.RowKit Go.Proofs Arb


set_option maxRecDepth 20000 in
theorem awake_any (w : World) (hK : KMet w) :
    Calls Tryd.prog 8 #[] w fun e w' => e = .returned (.bool true) ∧ Below w.heap.size w w' := by
  have hk := fun w hK => pkey_any [97, 98, 99] w (by decide) hK
  rw [abc] at hk
  have HK := Go.Lib.hid hk; have HKM := Go.Lib.hid hK; clear hk hK
  go_enter Tryd.func8, Tryd.ntmps8
  go_wp2_with fail
  refine (HK.out _ HKM.out).mono ?_; rintro e w1 ⟨rfl, hb1⟩
  have HB1 := Go.Lib.hid hb1; clear hb1
  go_wp2_with fail
  go_ret
  refine ⟨?_, HB1.out⟩
  show Ending.returned (.bool ((BS _).toList == _)) = _
  rw [Go.Lib.toList_data, BS_list]
  rfl

set_option maxHeartbeats 1600000 in
theorem shaSums_walk (l : List UInt8) (_ : l.length ≤ 140737488351232) (w : World) (hK : KMet w) :
    Calls Tryd.prog 3 #[.string (BS l)] w fun e w' => e = .returned (.bool true) ∧ Below w.heap.size w w' := by
  have hsz : (BS l).size = l.length := BS_size l
  have HKM := Go.Lib.hid hK; clear hK
  by_cases hl : 100000 < l.length
  · go_enter Tryd.func3, Tryd.ntmps3
    go_wp2_with fail
    refine (awake_any _ HKM.out).mono ?_; rintro e w3 ⟨rfl, hb3⟩
    have HB3 := Go.Lib.hid hb3; clear hb3
    go_wp2_with fail
    go_ret
    exact ⟨rfl, HB3.out⟩
  · go_enter Tryd.func3, Tryd.ntmps3
    go_wp2_with fail
    refine (psum_any l _ (by omega) HKM.out).mono ?_; rintro e w1 ⟨rfl, hb1⟩
    have HB1 := Go.Lib.hid hb1; clear hb1
    go_wp2_with fail
    refine (rsum3_any l _ (by omega)).mono ?_; rintro e w2 ⟨rfl, hb2⟩
    have HB2 := Go.Lib.hid hb2; clear hb2
    go_wp2_with fail
    refine (awake_any _ (HKM.out.after (bjoin HB1.out HB2.out))).mono ?_; rintro e w3 ⟨rfl, hb3⟩
    have HB3 := Go.Lib.hid hb3; clear hb3
    go_wp2_with fail
    go_ret
    exact ⟨rfl, bjoin (bjoin HB1.out HB2.out) HB3.out⟩

set_option maxHeartbeats 1600000 in
theorem shaKeys_walk (l : List UInt8) (_ : l.length ≤ 140737488351232) (w : World) (hK : KMet w) :
    Calls Tryd.prog 4 #[.string (BS l)] w fun e w' => e = .returned (.bool true) ∧ Below w.heap.size w w' := by
  have hsz : (BS l).size = l.length := BS_size l
  have HKM := Go.Lib.hid hK; clear hK
  by_cases hl : 100000 < l.length
  · go_enter Tryd.func4, Tryd.ntmps4
    go_wp2_with fail
    refine (awake_any _ HKM.out).mono ?_; rintro e w3 ⟨rfl, hb3⟩
    have HB3 := Go.Lib.hid hb3; clear hb3
    go_wp2_with fail
    go_ret
    exact ⟨rfl, HB3.out⟩
  · go_enter Tryd.func4, Tryd.ntmps4
    go_wp2_with fail
    refine (pkey_any l _ (by omega) HKM.out).mono ?_; rintro e w1 ⟨rfl, hb1⟩
    have HB1 := Go.Lib.hid hb1; clear hb1
    go_wp2_with fail
    refine (rkey_any l _ (by omega)).mono ?_; rintro e w2 ⟨rfl, hb2⟩
    have HB2 := Go.Lib.hid hb2; clear hb2
    go_wp2_with fail
    refine (awake_any _ (HKM.out.after (bjoin HB1.out HB2.out))).mono ?_; rintro e w3 ⟨rfl, hb3⟩
    have HB3 := Go.Lib.hid hb3; clear hb3
    go_wp2_with fail
    go_ret
    exact ⟨rfl, bjoin (bjoin HB1.out HB2.out) HB3.out⟩

set_option maxHeartbeats 1600000 in
theorem shaSizes_walk (l : List UInt8) (_ : l.length ≤ 140737488351232) (w : World) (hK : KMet w) :
    Calls Tryd.prog 5 #[.string (BS l)] w fun e w' => e = .returned (.bool true) ∧ Below w.heap.size w w' := by
  have hsz : (BS l).size = l.length := BS_size l
  have HKM := Go.Lib.hid hK; clear hK
  by_cases hl : 100000 < l.length
  · go_enter Tryd.func5, Tryd.ntmps5
    go_wp2_with fail
    refine (awake_any _ HKM.out).mono ?_; rintro e w3 ⟨rfl, hb3⟩
    have HB3 := Go.Lib.hid hb3; clear hb3
    go_wp2_with fail
    go_ret
    exact ⟨rfl, HB3.out⟩
  · have hsum := fun w hK => psum_any l w (by omega) hK
    have hkey := fun w hK => pkey_any l w (by omega) hK
    obtain ⟨d, hd⟩ : ∃ d, sha512 l = d := ⟨_, rfl⟩
    have hdl : d.length = 64 := by rw [← hd]; exact sha512_length l
    rw [hd] at hsum hkey
    have hsd : (BS d).size = 64 := by rw [BS_size]; exact hdl
    have hext : (BS d).extract 0 32 = BS (d.take 32) := by rw [BS_extract]; rfl
    have HSUM := Go.Lib.hid hsum; clear hsum
    have HKEY := Go.Lib.hid hkey; clear hkey
    clear hd hdl
    go_enter Tryd.func5, Tryd.ntmps5
    go_wp2_with fail
    refine (HSUM.out _ HKM.out).mono ?_; rintro e w1 ⟨rfl, hb1⟩
    have HB1 := Go.Lib.hid hb1; clear hb1
    go_wp2_with fail
    go_region_held3 (fun _ => True) (first | trivial) (first | (go_at_call 9; refine (HKEY.out w1.drew ((HKM.out.after HB1.out).heap rfl)).mono ?_; rintro e w2 ⟨rfl, hb2⟩; have HB2 := Go.Lib.hid hb2; clear hb2) | (go_at_call 8; refine (awake_any w2 (((HKM.out.after HB1.out).heap (w' := w1.drew) rfl).after HB2.out)).mono ?_; rintro e w3 ⟨rfl, hb3⟩; have HB3 := Go.Lib.hid hb3; clear hb3))
    go_wp2_with fail
    go_ret
    exact ⟨rfl, bjoin (bjoin HB1.out (below_from HB2.out rfl rfl rfl rfl)) HB3.out⟩
end Go.Proofs.YtlkcmnpcfldbcaaDoor.W
