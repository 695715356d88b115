/- The reference of the digests: its small functions. -/
import Derived.Test.YtlkcmnpcfldbcaaDoorProg
import Derived.Test.YtlkcmnpcfldbcaaDoorChecked
import Derived.Test.YtlkcmnpcfldbcaaDoorShaM
import Derived.Test.YtlkcmnpcfldbcaaDoorBase
import Derived.Test.YtlkcmnpcfldbcaaDoorCells
import Derived.WalkKit
import Derived.Laws.BitsAllLaws
import Derived.WalkSpells
import Derived.WalkLawsBesides
import Derived.Outline
import Derived.Lib.Hide
import Derived.Lib.BufferRead
import Derived.Deep.QuietTactic
import Derived.BigQuiet
namespace Go.Proofs.YtlkcmnpcfldbcaaDoor.W
open Go.RowKit Go.Proofs Arb

theorem rotr_bits (x n : Nat) (hx : x < 18446744073709551616) : bits .or .u64 ((x : Int) / 2 ^ n) (IntKind.u64.wrap ((x : Int) * 2 ^ (64 - n))) = ((rotr x n : Nat) : Int) := by
  have e1 : (x : Int) / 2 ^ n = ((x / 2 ^ n : Nat) : Int) := by rw [Int.natCast_ediv, Int.natCast_pow]; rfl
  have e2 : IntKind.u64.wrap ((x : Int) * 2 ^ (64 - n)) = ((x * 2 ^ (64 - n) % 18446744073709551616 : Nat) : Int) := by
    rw [IntKind.wrap_u64, Int.natCast_emod, Int.natCast_mul, Int.natCast_pow]; rfl
  rw [e1, e2]
  exact u64_or_nat _ _ (Nat.lt_of_le_of_lt (Nat.div_le_self _ _) hx) (Nat.mod_lt _ (by omega))

set_option maxHeartbeats 1000000 in
theorem turned_any (x n : Nat) (w : World) (hx : x < 18446744073709551616) (hn : n ≤ 64) :
    Calls Tryd.prog 17 #[.int .u64 (x : Int), .int .i64 (n : Int)] w fun e w' => e = .returned (.int .u64 (rotr x n : Int)) ∧ ∃ m, w' = w.drewN m := by
  have hb := rotr_bits x n hx
  have HB := Go.Lib.hid hb; clear hb
  go_enter Tryd.func17, Tryd.ntmps17
  go_wp2_with fail
  go_quiet (fail)
  go_wp2_with fail
  go_ret
  refine ⟨?_, _, rfl⟩
  rw [← HB.out]
  rfl

theorem turnedZ (x n : Nat) (z : Int) (w : World) (hz : z = (n : Int)) (hx : x < 18446744073709551616) (hn : n ≤ 64) :
    Calls Tryd.prog 17 #[.int .u64 (x : Int), .int .i64 z] w fun e w' => e = .returned (.int .u64 (rotr x n : Int)) ∧ ∃ m, w' = w.drewN m := by
  subst hz; exact turned_any x n w hx hn

def cells64 (l : List Nat) : Array Value := (l.map fun (x : Nat) => Value.int .u64 (x : Int)).toArray
def kCells : Array Value := cells64 shaK

set_option maxRecDepth 20000 in
set_option maxHeartbeats 1000000 in
theorem constants_any (w : World) :
    Calls Tryd.prog 16 #[] w fun e w' => e = .returned (.slice (some ⟨w.heap.size, 0, none⟩) 80 80) ∧ w' = w.alloc (.cells kCells 25) := by
  go_enter Tryd.func16, Tryd.ntmps16
  go_wp2_with fail
  go_ret
  exact ⟨rfl, rfl⟩
end Go.Proofs.YtlkcmnpcfldbcaaDoor.W
