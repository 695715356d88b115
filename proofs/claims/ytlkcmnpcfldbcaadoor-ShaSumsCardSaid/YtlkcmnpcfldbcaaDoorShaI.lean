/- Contracts of package sha's calls: what is appended; Sum; Key. -/
import Derived.Test.YtlkcmnpcfldbcaaDoorShaH
namespace Go.Proofs.YtlkcmnpcfldbcaaDoor.W
set_option linter.unusedVariables false
open Go.RowKit Go.Proofs Arb

theorem BS_append (a b : List UInt8) : BS a ++ BS b = BS (a ++ b) := ByteArray.mk_append_mk _ _
theorem repeat_zero : ∀ c : Nat, (⟨(Go.Lib.repeatL [0] c).toArray⟩ : ByteArray) = BS (List.replicate c 0) := by
  intro c
  have : Go.Lib.repeatL [(0 : UInt8)] c = List.replicate c 0 := by
    induction c with
    | zero => rfl
    | succ c ih => rw [List.replicate_succ, ← ih]; rfl
  rw [this]; rfl
theorem zeros_eq (n : Nat) : 127 - (n + 16) % 128 = zerosOf n := by unfold zerosOf; omega

set_option maxHeartbeats 1000000 in
theorem padding_any (n : Nat) (w : World) (hn : n ≤ 1000000) :
    Calls Tryd.prog 13 #[.int .i64 (n : Int)] w fun e w' => e = .returned (.string (BS ([128] ++ List.replicate (zerosOf n) 0 ++ be8 0 ++ be8 (8 * n)))) ∧ Below w.heap.size w w' := by
  have hmod : (127 : Int) - ((n : Int) + 16) % 128 = ((zerosOf n : Nat) : Int) := by rw [← zeros_eq]; omega
  have hz := zeros_eq n
  have hzl : zerosOf n < 128 := by rw [← hz]; omega
  have hw : IntKind.u64.wrap (n : Int) = (n : Int) := by rw [IntKind.wrap_u64]; omega
  obtain ⟨z, hzz⟩ : ∃ z, zerosOf n = z := ⟨_, rfl⟩
  rw [hzz] at hmod hzl
  rw [hzz]
  have HM := Go.Lib.hid hmod
  clear hz hzz hmod
  go_enter Tryd.func13, Tryd.ntmps13
  go_wp2_with fail
  refine (Tryd.bits_Mul64 n 8 (by omega) (by omega) _).mono ?_
  rintro e w1 ⟨rfl, rfl⟩
  rw [show n * 8 / 18446744073709551616 = 0 by omega, show n * 8 % 18446744073709551616 = 8 * n by omega]
  go_wp2_with fail
  rw [HM.out]
  refine (Tryd.strings_Repeat ⟨#[0]⟩ z _ (by omega) (show 1 * z ≤ 140737488355328 by omega)).mono ?_
  rintro e w2 ⟨rfl, hb2⟩
  rw [show (⟨#[0]⟩ : ByteArray).data.toList = [0] from rfl, repeat_zero]
  have HB2 := Go.Lib.hid hb2; clear hb2
  have hs1 : (BS (List.replicate z (0 : UInt8))).size = z := by rw [BS_size, List.length_replicate]
  have hs2 : (BS (bytesOf [0, 8 * n])).size = 16 := by rw [BS_size, bytesOf_length]; rfl
  have hcat1 : (⟨#[128]⟩ : ByteArray) ++ BS (List.replicate z 0) = BS (128 :: List.replicate z 0) := BS_append [128] _
  have hs3 : (BS (128 :: List.replicate z (0 : UInt8))).size = z + 1 := by rw [BS_size]; simp
  have hcat2 : BS (128 :: List.replicate z 0) ++ BS (bytesOf [0, 8 * n]) = BS ([128] ++ List.replicate z 0 ++ be8 0 ++ be8 (8 * n)) := by
    rw [BS_append, List.append_assoc _ (be8 0)]
    congr 2
  have HC1 := Go.Lib.hid hcat1; have HC2 := Go.Lib.hid hcat2
  clear hcat1 hcat2
  go_wp2_with fail
  rw [HC1.out]
  refine (numbersText_any [0, 8 * n] w2.heap.size 2 _ rfl (by omega) (by omega) ?_).mono ?_
  · intro i hi
    rw [cell_of_row _ _ _ _ _ _ (heap_alloc_new w2 _)]
    match i, hi with
    | 0, _ => rfl
    | 1, _ => rfl
  rintro e w3 ⟨rfl, hb3⟩
  have hb : Below w1.heap.size w1 w3 := (HB2.out.alloc HB2.out.size _).trans (hb3.mono (by have := HB2.out.size; simp; omega))
  have HB := Go.Lib.hid hb; clear hb hb3
  go_wp2_with fail
  go_ret
  exact ⟨congrArg (fun x => Ending.returned (Value.string x)) HC2.out, HB.out⟩
end Go.Proofs.YtlkcmnpcfldbcaaDoor.W
