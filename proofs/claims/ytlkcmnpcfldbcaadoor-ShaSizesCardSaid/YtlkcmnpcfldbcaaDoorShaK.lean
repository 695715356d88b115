/- The reference of the digests: the key. -/
import Derived.Test.YtlkcmnpcfldbcaaDoorShaS
import Derived.Test.YtlkcmnpcfldbcaaDoorShaB
namespace Go.Proofs.YtlkcmnpcfldbcaaDoor.W
open Go.RowKit Go.Proofs Arb

theorem sha512_length (l : List UInt8) : (sha512 l).length = 64 := by rw [sha512_hAt, bytesOf_length, hAt_length]

theorem rkey_any (l : List UInt8) (w : World) (hl : l.length ≤ 1000000) :
    Calls Tryd.prog 10 #[.string (BS l)] w fun e w' => e = .returned (.string (BS ((sha512 l).take 32))) ∧ Below w.heap.size w w' := by
  obtain ⟨d, hd⟩ : ∃ d, sha512 l = d := ⟨_, rfl⟩
  have hdl : d.length = 64 := by rw [← hd]; exact sha512_length l
  have hr := fun w => rsum3_any l w hl
  rw [hd] at hr
  rw [hd]
  have hsz : (BS d).size = 64 := by rw [BS_size]; exact hdl
  have hle : 32 ≤ (BS d).size := by omega
  have hext : (BS d).extract 0 32 = BS (d.take 32) := by rw [BS_extract]; rfl
  have HR := Go.Lib.hid hr; clear hr
  have HSZ := Go.Lib.hid hsz; clear hsz hd
  go_enter Tryd.func10, Tryd.ntmps10
  go_wp2_with (go_at_call 7; refine (HR.out _).mono ?_; rintro e w1 ⟨rfl, hb1⟩; have HB1 := Go.Lib.hid hb1; clear hb1)
  go_ret
  refine ⟨?_, HB1.out⟩
  first | rfl | (rw [← hext]; rfl)
end Go.Proofs.YtlkcmnpcfldbcaaDoor.W
