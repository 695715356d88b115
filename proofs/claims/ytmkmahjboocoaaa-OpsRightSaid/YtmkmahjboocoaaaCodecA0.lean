/- codec.Text. -/
import Derived.Test.YtmkmahjboocoaaaCodecT
namespace Go.Proofs.Ytmkmahjboocoaaa.W
open Go.RowKit Go.Proofs Arb

set_option maxHeartbeats 1000000 in
theorem ctext_any (l : List UInt8) (w : World) (hl : l.length ≤ 281474976710656) :
    Calls Try.prog 38 #[.string (BS l)] w fun e w' => e = .returned (.string (BS (enc (u64 l.length) ++ l))) ∧ Below w.heap.size w w' := by
  have hsz : (BS l).size = l.length := BS_size l
  have hap : (BS (enc (u64 l.length)) ++ BS l) = BS (enc (u64 l.length) ++ l) := ByteArray.mk_append_mk _ _
  have hel := enc_length (u64 l.length)
  have HA := Go.Lib.hid hap; clear hap
  have hes : (BS (enc (u64 l.length))).size = (enc (u64 l.length)).length := BS_size _
  have hc : ∀ W : World, Calls Try.prog 37 #[.int .i64 (l.length : Int)] W fun e w' => e = .returned (.string (BS (enc (u64 l.length)))) ∧ Below W.heap.size W w' := fun W => num_any _ W
  generalize enc (u64 l.length) = x at *
  have HC := Go.Lib.hid hc; clear hc
  go_enter Try.func38, Try.ntmps38
  go_wp2_with (go_at_call 37; refine (HC.out _).mono ?_; rintro e w1 ⟨rfl, hb⟩)
  go_ret
  rw [← HA.out]
  exact ⟨rfl, hb⟩
end Go.Proofs.Ytmkmahjboocoaaa.W
