/- Contracts of package codec's functions over this program. -/
import Derived.Test.YtmkmahjboocoaaaProg
import Derived.Test.YtmkmahjboocoaaaChecked
import Derived.Test.YtmkmahjboocoaaaShelf
import Derived.Test.YtmkmahjboocoaaaCodecR
import Derived.Test.YtmkmahjboocoaaaBase
import Derived.Test.YtmkmahjboocoaaaCells
import Derived.WalkKit
import Derived.WalkSpells
import Derived.WalkLawsBesides
import Derived.Outline
import Derived.Lib.Hide
import Derived.Lib.BufferRead
namespace Go.Proofs.Ytmkmahjboocoaaa.W
open Go.RowKit Go.Proofs Arb

theorem len64 (u : Nat) (w : World) (h : u < 18446744073709551616) :
    Calls Try.prog 62 #[.int .u64 (u : Int)] w fun e w' => e = .returned (.int .i64 (Go.Lib.bitLen u)) ∧ w = w' :=
  (Try.bits_Len64 u w (by omega) (by omega)).mono fun e w' ⟨he, hw⟩ => ⟨by simpa using he, hw.symm⟩

/-- The cells of Num's bytes while j of them are laid. -/
def NumRow (k u j : Nat) (C : Array Value) : Prop := ∃ pre : List Value, pre.length = k - j ∧ C.toList = .int .u8 (k : Int) :: (pre ++ Go.Lib.byteCells (be j u))

theorem NumRow.start {k u : Nat} {M' : List Value} (h : M'.length = k) : NumRow k u 0 (.int .u8 (k : Int) :: M').toArray := ⟨M', by simpa using h, by simp [be, Go.Lib.byteCells]⟩
theorem NumRow.cell {k u j : Nat} {C : Array Value} (h : NumRow k u j C) (hj : j < k) : ∃ v, C[k - j]? = some v := by
  obtain ⟨pre, hp, hC⟩ := h
  have hl : C.size = 1 + k := by
    rw [← Array.length_toList, hC]
    simp [hp, Go.Lib.byteCells_length, be_length]; omega
  exact ⟨C[k - j]'(by omega), Array.getElem?_eq_getElem _⟩
theorem NumRow.next {k u j x : Nat} {C : Array Value} (h : NumRow k u j C) (hj : j < k) (hx : u / 256 ^ j = x) : NumRow k u (j + 1) (C.setIfInBounds (k - j) (.int .u8 ((x : Int) % 256))) := by
  obtain ⟨pre, hp, hC⟩ := h
  refine ⟨pre.take (k - j - 1), by rw [List.length_take]; omega, ?_⟩
  rw [Array.toList_setIfInBounds, hC]
  obtain ⟨q, hq⟩ : ∃ q, k - j = q + 1 := ⟨k - j - 1, by omega⟩
  rw [hq] at hp ⊢
  have hp' : pre = pre.take q ++ [pre[q]'(by omega)] := by
    rw [← List.take_succ_eq_append_getElem, List.take_of_length_le (by omega)]
  have hb : Go.Lib.byteCells (be (j + 1) u) = Value.int .u8 ((x : Int) % 256) :: Go.Lib.byteCells (be j u) := by
    rw [be_cons, hx]
    simp [Go.Lib.byteCells]
  rw [hb, List.set_cons_succ]
  conv => lhs; rw [hp']
  simp only [Nat.add_sub_cancel]
  rw [List.append_assoc, List.set_append_right _ _ (by rw [List.length_take]; omega)]
  have : q - (pre.take q).length = 0 := by rw [List.length_take]; omega
  rw [this]
  rfl
theorem NumRow.full {k u : Nat} {C : Array Value} (h : NumRow k u k C) (hk : k < 256) : C = (Go.Lib.byteCells (UInt8.ofNat k :: be k u)).toArray := by
  obtain ⟨pre, hp, hC⟩ := h
  have : pre = [] := List.eq_nil_of_length_eq_zero (by omega)
  subst this
  apply Array.toList_inj.1
  rw [hC]
  have : (k : Int) % 256 = k := by omega
  simp [Go.Lib.byteCells, this]

set_option maxHeartbeats 1000000 in
theorem num_u (n : Int) (u : Nat) (w : World) (hu : IntKind.u64.wrap n = (u : Int)) (hlt : u < 18446744073709551616) :
    Calls Try.prog 37 #[.int .i64 n] w fun e w' => e = .returned (.string ⟨(enc u).toArray⟩) ∧ Below w.heap.size w w' := by
  obtain ⟨i0, hi, hz0, hz1, hz2⟩ := info_parts info5
  have hb := bitLen_le u hlt
  have hd8 := digs_le u
  have hd : ((Go.Lib.bitLen u : Int) + 7) / 8 = (digs u : Int) := by rw [← bits_digs u hlt]; omega
  have henc : enc u = UInt8.ofNat (digs u) :: be (digs u) u := rfl
  generalize hk : digs u = k at hd hd8 henc
  generalize hL : Go.Lib.bitLen u = L at hd hb
  obtain ⟨M, hM⟩ : ∃ M, M = madeCells (Value.int .u8 0).cells ((1 + (k : Int)).toNat * i0.size) := ⟨_, rfl⟩
  have hMs : M.size = 1 + k := by rw [hM, size_madeCells, hz1]; omega
  have hmk : ∀ W : World, (Instr.makeSlice 75 (.int .i64 (1 + ((L : Int) + 7) / 8)) (.int .i64 (1 + ((L : Int) + 7) / 8))).run Try.prog W = .ok (.slice (some ⟨W.heap.size, 0, none⟩) (1 + k) (1 + k)) (W.alloc (.cells M 5)) := fun W => by
    have h := run_make (P := Try.prog) W 75 5 i0 (.int .u8 0) Try.underlying75 hi hz0 .i64 .i64 (1 + (k : Int)) (1 + (k : Int)) (by omega) (by omega) (by rw [hz2]; omega) (by omega)
    rw [← hM] at h
    rw [hd, h]
    have : (1 + (k : Int)).toNat = 1 + k := by omega
    rw [this]
  clear hM
  obtain ⟨m0, M', rfl⟩ : ∃ m0 M', M = (⟨m0 :: M'⟩ : Array Value) := by
    obtain ⟨l⟩ := M
    cases l with
    | nil => simp at hMs; omega
    | cons a b => exact ⟨a, b, rfl⟩
  have hMl : M'.length = k := by simp at hMs; omega
  clear hMs
  have HM := Go.Lib.hid hMl; clear hMl
  have HK := Go.Lib.hid hk; clear hk
  have HL := Go.Lib.hid hL; clear hL
  have HE := Go.Lib.hid henc; clear henc
  have HD := Go.Lib.hid hd; clear hd
  go_enter Try.func37, Try.ntmps37
  go_wp2_with (first | (go_at_call 62; go_must (refine (len64 u _ hlt).mono ?_; rintro e w' ⟨rfl, rfl⟩); rw [HL.out]))
  rw [HD.out]
  go_loopw [3, 6] (fun r i wr => ∃ j : Nat, j ≤ k ∧ i = .int .i64 ((k - j : Nat) : Int) ∧ r = .int .u64 ((u / 256 ^ j : Nat) : Int) ∧ ∃ C : Array Value, wr = w.alloc (.cells C 5) ∧ NumRow k u j C) (fun _ i _ => (intOf i).toNat)
  case atStart => exact ⟨0, by omega, rfl, by simp, _, rfl, .start HM.out⟩
  case round =>
    obtain ⟨j, hj, rfl, rfl, C, rfl, hC⟩ := hrel
    by_cases hlt2 : j < k
    · have hux : u / 256 ^ j < 18446744073709551616 := Nat.lt_of_le_of_lt (Nat.div_le_self _ _) hlt
      have hx' : u / 256 ^ (j + 1) = (u / 256 ^ j) / 256 := by rw [Nat.pow_succ, Nat.div_div_eq_div_mul]
      generalize hx : u / 256 ^ j = x at hux hx'
      obtain ⟨v, hv⟩ := hC.cell hlt2
      have HC := Go.Lib.hid (hC.next hlt2 hx); clear hC
      have HX := Go.Lib.hid hx'; clear hx' hx
      go_wp2
      go_roundw
      case rel => exact ⟨j + 1, by omega, by go_num, by rw [HX.out]; go_num, _, rfl, HC.out⟩
      case measure => simp [intOf]; omega
    · obtain rfl : j = k := by omega
      have hcv : (convert 75 9 (.slice (some ⟨w.heap.size, 0, none⟩) (1 + j) (1 + j))).run Try.prog (w.alloc (.cells C 5)) = .ok (.string ⟨(enc u).toArray⟩) (w.alloc (.cells C 5)) := by
        have hl : (enc u).length = 1 + j := by rw [HE.out, List.length_cons, be_length]; omega
        have h := run_convert_bytes_back (P := Try.prog) (w.alloc (.cells C 5)) 75 9 5 ⟨w.heap.size, 0, none⟩ (1 + j) (enc u) Try.underlying75 Try.underlying5 Try.underlying9
          (Go.Lib.bytes_of_row (heap_alloc_new w _) (by rw [hC.full (by omega), ← HE.out, List.take_of_length_le (by simp [Go.Lib.byteCells_length])]))
        rw [hl] at h
        exact h
      go_wp2
      go_ret
      exact ⟨rfl, (Below.refl _ _).alloc (Nat.le_refl _) _⟩

theorem num_any (n : Int) (w : World) :
    Calls Try.prog 37 #[.int .i64 n] w fun e w' => e = .returned (.string ⟨(enc (u64 n)).toArray⟩) ∧ Below w.heap.size w w' :=
  num_u n (u64 n) w (wrap_u64 n) (u64_lt n)
end Go.Proofs.Ytmkmahjboocoaaa.W
