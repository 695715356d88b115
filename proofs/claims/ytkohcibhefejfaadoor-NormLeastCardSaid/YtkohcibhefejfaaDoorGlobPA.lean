/- The program's filters: what it calls of Go's strings, at texts of one byte: Index, Count, CutPrefix, Split. -/
import Derived.Test.YtkohcibhefejfaaDoorGlobN
import Derived.Test.YtkohcibhefejfaaDoorGlobU
import Derived.Test.YtkohcibhefejfaaDoorShelf
import Derived.Shelf.RegionOpenPlain
import Derived.Shelf.Strings.SplitCore
namespace Go.Proofs.YtkohcibhefejfaaDoor.W
set_option maxRecDepth 20000
set_option linter.unusedVariables false
open Go.RowKit Go.Proofs Arb

theorem BS_data (l : List UInt8) : (BS l).data.toList = l := by first | rfl | simp [BS]
theorem pidx_any (c : UInt8) (s : List UInt8) (w : World) : Calls Tryd.prog 38 #[.string (BS s), .string ⟨#[c]⟩] w fun e w' => e = .returned (.int .i64 (Go.Lib.indexByte s c)) ∧ w' = w := by
  have := Tryd.stringslite_Index_one (BS s) c w
  rwa [BS_data] at this
theorem pcount_any (c : UInt8) (s : List UInt8) (w : World) : Calls Tryd.prog 12 #[.string (BS s), .string ⟨#[c]⟩] w fun e w' => e = .returned (.int .i64 ((s.count c : Nat) : Int)) ∧ w' = w := by
  have := Tryd.strings_Count_one (BS s) c w
  rwa [BS_data] at this
theorem pprefix_any (s p : List UInt8) (w : World) : Calls Tryd.prog 40 #[.string (BS s), .string (BS p)] w fun e w' => e = .returned (.tuple #[.string (BS (if p.isPrefixOf s = true then s.drop p.length else s)), .bool (p.isPrefixOf s)]) ∧ w' = w := by
  have := Tryd.strings_CutPrefix (BS s) (BS p) w
  rw [BS_data, BS_data] at this
  exact this

theorem indexB_one (c : UInt8) (s : List UInt8) : Go.Lib.indexB (BS s) ⟨#[c]⟩ = Go.Lib.indexByte s c := by
  show Go.Lib.index (BS s).data.toList [c] = _
  rw [BS_data, Go.Lib.index_one]
theorem countB_one (c : UInt8) (s : List UInt8) : Go.Lib.countB (BS s) ⟨#[c]⟩ = s.count c := by
  show Go.Lib.count (BS s).data.toList [c] = _
  rw [BS_data, Go.Lib.count_one]
theorem splitB_spl (c : UInt8) : ∀ (k : Nat) (s : List UInt8), s.count c = k → Go.Lib.splitB ⟨#[c]⟩ 0 k (BS s) = (spl c s).map BS
  | 0, s, h => by
    have : c ∉ s := List.count_eq_zero.1 h
    rw [Go.Lib.splitB_zero, spl_none this]; rfl
  | k + 1, s, h => by
    rcases cut_cases c s with ⟨h1, _⟩ | ⟨x, y, h1, h2, _, h4⟩
    · rw [List.count_eq_zero.2 h1] at h; cases h
    · have hx : (BS s).extract 0 x.length = BS x := by rw [BS_extract, h1]; simp
      have hy : (BS s).extract (x.length + 1) (BS s).size = BS y := by rw [BS_tail, h1]; simp
      have hc : y.count c = k := by
        rw [h1, List.count_append, List.count_eq_zero.2 h2, List.count_cons_self] at h
        omega
      rw [Go.Lib.splitB_hit _ _ _ _ x.length (by rw [indexB_one, h4])]
      show (BS s).extract 0 (x.length + 0) :: Go.Lib.splitB ⟨#[c]⟩ 0 k ((BS s).extract (x.length + 1) (BS s).size) = _
      rw [Nat.add_zero, hx, hy, splitB_spl c k y hc, h1, spl_cons h2]
      rfl
theorem pgen_any (c : UInt8) (s : List UInt8) (w : World) (hl : s.length ≤ 100000) :
    Calls Tryd.prog 27 #[.string (BS s), .string ⟨#[c]⟩, .int .i64 0, .int .i64 (-1)] w fun e w' => e = .returned (.slice (some ⟨w.heap.size, 0, none⟩) (spl c s).length (spl c s).length) ∧ w' = w.alloc (.cells ((spl c s).map tx).toArray 9) := by
  have h := Any.strings_genSplit_core Tryd.lays221 (by kernel_rfl) (BS s) ⟨#[c]⟩ 0 (-1) (s.count c + 1) w (by rw [BS_size]; omega) (by show 1 ≤ 1; omega) (Nat.zero_le _)
    (fun x d hx => by
      have := Tryd.strings_Index_one x c (w.alloc (.cells d 9))
      rw [← Go.Lib.index_one] at this
      exact this)
    (by
      have := pcount_any c s w
      rw [← countB_one] at this
      exact this)
    (by decide) (by decide) (by
      rw [if_pos (by decide), countB_one, BS_size]
      have := List.count_le_length (l := s) (a := c)
      omega)
  rw [Nat.add_sub_cancel, splitB_spl c _ s rfl] at h
  have hc := spl_count c s
  have e2 : Go.Lib.cellsOf ((spl c s).map BS) (s.count c + 1) = ((spl c s).map tx).toArray := by
    have := Go.Lib.cellsOf_full ((spl c s).map BS)
    rw [List.length_map, hc] at this
    rw [this, List.map_map]
    rfl
  rw [e2, List.length_map, ← hc] at h
  exact h
set_option maxHeartbeats 1000000 in
/-- strings.Split at one byte. -/
theorem psplit_any (c : UInt8) (s : List UInt8) (w : World) (hl : s.length ≤ 100000) :
    Calls Tryd.prog 13 #[.string (BS s), .string ⟨#[c]⟩] w fun e w' => ∃ v, e = .returned v ∧ Txts w' v (spl c s) ∧ Below w.heap.size w w' := by
  have HG := Go.Lib.hid (pgen_any c s w hl)
  go_enter Tryd.func13, Tryd.ntmps13
  go_wp2_with fail
  refine HG.out.mono ?_; rintro e w1 ⟨rfl, hw1⟩
  have HW := Go.Lib.hid hw1; clear hw1
  go_wp2_with fail
  go_ret
  refine ⟨_, rfl, ⟨_, _, _, rfl, rfl, Nat.le_refl _, fun h0 => ⟨_, _, rfl, fun j x hx => ?_⟩⟩, ?_⟩
  · rw [HW.out, cell_of_row _ _ _ _ _ _ (heap_alloc_new w _), Nat.zero_add]
    simp [hx, tx]
  · rw [HW.out]
    exact (Below.refl _ w).alloc (Nat.le_refl _) _
end Go.Proofs.YtkohcibhefejfaaDoor.W
