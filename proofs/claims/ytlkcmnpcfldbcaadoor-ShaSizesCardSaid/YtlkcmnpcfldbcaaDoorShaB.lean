/- Contracts of package sha's small functions: the bytes of numbers. -/
import Derived.Test.YtlkcmnpcfldbcaaDoorShaA
import Derived.OwnWalk
namespace Go.Proofs.YtlkcmnpcfldbcaaDoor.W
open Go.RowKit Go.Proofs Arb

theorem bytesOf_length : ∀ h : List Nat, (bytesOf h).length = 8 * h.length
  | [] => rfl
  | x :: h => by
    have := bytesOf_length h
    simp only [bytesOf, List.flatMap_cons, List.length_append, be8_length, List.length_cons] at this ⊢
    omega
theorem bytesOf_get : ∀ (h : List Nat) (i q : Nat), i < h.length → q < 8 → (bytesOf h)[8 * i + q]? = some (UInt8.ofNat (h.getD i 0 / 2 ^ (56 - 8 * q)))
  | x :: h, 0, q, _, hq => by
    simp only [bytesOf, List.flatMap_cons, Nat.mul_zero, Nat.zero_add]
    rw [List.getElem?_append_left (by rw [be8_length]; exact hq), be8_get x q hq]
    rfl
  | x :: h, i + 1, q, hi, hq => by
    have := bytesOf_get h i q (by simpa using hi) hq
    simp only [bytesOf, List.flatMap_cons] at this ⊢
    rw [List.getElem?_append_right (by rw [be8_length]; omega), be8_length, show 8 * (i + 1) + q - 8 = 8 * i + q by omega, this]
    simp
/-- The bytes of numbers, of which i are laid whole and of the next one the last k bytes. -/
def part (L : List UInt8) (i k : Nat) : List UInt8 := (List.range L.length).map fun p => if p < 8 * i ∨ (8 * i + 8 ≤ p + k ∧ p < 8 * i + 8) then L.getD p 0 else 0
theorem part_length (L : List UInt8) (i k : Nat) : (part L i k).length = L.length := by simp [part]
theorem part_get (L : List UInt8) (i k p : Nat) (h : p < L.length) : (part L i k)[p]? = some (if p < 8 * i ∨ (8 * i + 8 ≤ p + k ∧ p < 8 * i + 8) then L.getD p 0 else 0) := by simp [part, h]
theorem part_next (L : List UInt8) (i : Nat) : part L i 8 = part L (i + 1) 0 := by
  apply List.map_congr_left
  intro p _
  have : (p < 8 * i ∨ (8 * i + 8 ≤ p + 8 ∧ p < 8 * i + 8)) = (p < 8 * (i + 1) ∨ (8 * (i + 1) + 8 ≤ p + 0 ∧ p < 8 * (i + 1) + 8)) := by apply propext; omega
  simp only [this]
theorem part_none (L : List UInt8) : part L 0 0 = List.replicate L.length 0 := by
  apply List.ext_getElem?
  intro p
  by_cases h : p < L.length
  · rw [part_get L 0 0 p h, if_neg (by omega)]
    simp [h]
  · rw [List.getElem?_eq_none (by rw [part_length]; omega), List.getElem?_eq_none (by simp; omega)]
theorem part_all (L : List UInt8) (n : Nat) (h : L.length = 8 * n) : part L n 0 = L := by
  apply List.ext_getElem?
  intro p
  by_cases h' : p < L.length
  · rw [part_get L n 0 p h', if_pos (by omega), List.getD_eq_getElem?_getD, List.getElem?_eq_getElem h']
    rfl
  · rw [List.getElem?_eq_none (by rw [part_length]; omega), List.getElem?_eq_none (by omega)]
theorem part_set (h : List Nat) (i k : Nat) (hi : i < h.length) (hk : k < 8) : (part (bytesOf h) i k).set (8 * i + (7 - k)) (UInt8.ofNat (h.getD i 0 / 2 ^ (8 * k))) = part (bytesOf h) i (k + 1) := by
  have hl := bytesOf_length h
  apply List.ext_getElem?
  intro p
  rw [List.getElem?_set]
  by_cases hp : 8 * i + (7 - k) = p
  · subst hp
    have hg : (bytesOf h).getD (8 * i + (7 - k)) 0 = UInt8.ofNat (h.getD i 0 / 2 ^ (8 * k)) := by
      rw [List.getD_eq_getElem?_getD, bytesOf_get h i (7 - k) hi (by omega), show 56 - 8 * (7 - k) = 8 * k by omega]
      rfl
    rw [if_pos rfl, if_pos (by rw [part_length, hl]; omega), part_get _ _ _ _ (by rw [hl]; omega), if_pos (by omega), hg]
  · rw [if_neg hp]
    by_cases h' : p < (bytesOf h).length
    · rw [part_get _ _ _ _ h', part_get _ _ _ _ h']
      have : (p < 8 * i ∨ (8 * i + 8 ≤ p + k ∧ p < 8 * i + 8)) = (p < 8 * i ∨ (8 * i + 8 ≤ p + (k + 1) ∧ p < 8 * i + 8)) := by apply propext; omega
      simp only [this]
    · rw [List.getElem?_eq_none (by rw [part_length]; omega), List.getElem?_eq_none (by rw [part_length]; omega)]
theorem byteCells_set (l : List UInt8) (i n : Nat) : (Go.Lib.byteCells l).set i (.int .u8 ((n : Int) % 256)) = Go.Lib.byteCells (l.set i (UInt8.ofNat n)) := by
  have := byte_cell n
  simp only [Go.Lib.byteCells, List.map_cons, List.map_nil, List.cons.injEq, and_true] at this
  simp only [Go.Lib.byteCells, List.map_set]
  rw [← this]
theorem byteCells_zeros (n : Nat) : (madeCells (Value.int .u8 0).cells (n * 1)).toList = Go.Lib.byteCells (List.replicate n 0) := by
  simp only [madeCells, Go.Lib.byteCells, Value.cells, Array.toList_map, Array.toList_range, Nat.mul_one, List.map_replicate]
  rw [List.eq_replicate_iff]
  refine ⟨by simp, fun u hu => ?_⟩
  obtain ⟨p, _, rfl⟩ := List.mem_map.1 hu
  show (#[Value.int .u8 0] : Array Value)[p % 1]! = _
  rw [Nat.mod_one]
  rfl

set_option maxHeartbeats 1600000 in
theorem numbersText_any (xs : List Nat) (b n : Nat) (w : World) (hn : xs.length = n) (h0 : 0 < n) (h8 : n ≤ 8) (hc : ∀ i, i < n → w.cell? ⟨b, i, none⟩ = some (.int .u64 ((xs.getD i 0 : Nat) : Int))) :
    Calls Tryd.prog 14 #[.slice (some ⟨b, 0, none⟩) n n] w fun e w' => e = .returned (.string (BS (bytesOf xs))) ∧ Below w.heap.size w w' := by
  obtain ⟨i0, hi, hz0, hz1, hz2⟩ := info_parts info8
  have hL := bytesOf_length xs
  rw [hn] at hL
  have hblt : b < w.heap.size := World.block_lt_of_cell? w ⟨b, 0, none⟩ (hc 0 h0)
  have hmul : IntKind.i64.wrap (8 * (n : Int)) = ((8 * n : Nat) : Int) := by rw [IntKind.wrap_i64]; omega
  go_enter Tryd.func14, Tryd.ntmps14
  go_wp2_with (refine wpList_make_full _ rfl (.tmp 9) (.tmp 9) 32 rfl w.heap.size 5 i0 (.int .u8 0) 1 Tryd.underlying32 hi hz0 hz1 .i64 .i64 _ _ (8 * n) rfl rfl (by omega) (by omega) (by rw [hz2]; omega) (by unfold maxLen; omega) (Nat.le_refl _) ?_; intro w1 hr1 hg1)
  have hrow1 := Row.of hr1
  rw [byteCells_zeros, ← hL, ← part_none, hL] at hrow1
  have hbel1 : Below w.heap.size w w1 := ⟨hg1.os, hg1.tape, hg1.output, hg1.size, fun k hk => hg1.block k hk (by simp)⟩
  have HR1 := Go.Lib.hid hrow1
  have HB1 := Go.Lib.hid hbel1
  clear hr1 hg1 hrow1 hbel1
  go_loopw [13] (fun idx wr => ∃ i : Nat, i ≤ n ∧ idx = .int .i64 (i : Int) ∧ Row wr w.heap.size 5 1 (.slice (some ⟨w.heap.size, 0, none⟩) (8 * n) (8 * n)) (8 * n) (Go.Lib.byteCells (part (bytesOf xs) i 0)) ∧ Below w.heap.size w wr) (fun idx _ => n - (intOf idx).toNat)
  case atStart => exact ⟨0, by omega, rfl, HR1.out, HB1.out⟩
  case round =>
    obtain ⟨i, hin, rfl, hr, hb⟩ := hrel
    have HR := Go.Lib.hid hr; clear hr
    have HB := Go.Lib.hid hb; clear hb
    by_cases hi8 : i < n
    · have hcell : wr.cell? ⟨b, i, none⟩ = some (.int .u64 ((xs.getD i 0 : Nat) : Int)) := (HB.out.cell hblt).trans (hc i hi8)
      obtain ⟨x, hx⟩ : ∃ x, xs.getD i 0 = x := ⟨_, rfl⟩
      rw [hx] at hcell
      go_wp2_with fail
      go_loopw [5, 6] (fun nv jv w2 => ∃ k : Nat, k ≤ 8 ∧ jv = .int .i64 (7 - (k : Int)) ∧ nv = .int .u64 ((x / 2 ^ (8 * k) : Nat) : Int) ∧ Row w2 w.heap.size 5 1 (.slice (some ⟨w.heap.size, 0, none⟩) (8 * n) (8 * n)) (8 * n) (Go.Lib.byteCells (part (bytesOf xs) i k)) ∧ Below w.heap.size w w2) (fun _ jv _ => ((intOf jv) + 1).toNat)
      case atStart => exact ⟨0, by omega, rfl, by simp, HR.out, HB.out⟩
      case round =>
        obtain ⟨k, hk, rfl, rfl, hr2, hb2⟩ := hrel
        by_cases hk8 : k < 8
        · obtain ⟨g, cap, hgv, _, _, _, hcs, hfs⟩ := hr2.open (by omega)
          cases hgv
          obtain ⟨v0, hv0⟩ : ∃ v, (Go.Lib.byteCells (part (bytesOf xs) i k))[8 * i + (7 - k)]? = some v := ⟨_, List.getElem?_eq_getElem (by rw [Go.Lib.byteCells_length, part_length, hL]; omega)⟩
          have hcell0 := hcs _ _ hv0
          have hfro := hfs (8 * i + (7 - k)) (by omega)
          have hset := hr2.set w.heap.size (8 * n) (8 * i + (7 - k)) rfl (.int .u8 (((x / 2 ^ (8 * k) : Nat) : Int) % 256))
          rw [byteCells_set, ← hx, part_set xs i k (by omega) hk8, hx] at hset
          have hb3 : Below w.heap.size w (wr.setCell ⟨w.heap.size, 8 * i + (7 - k), none⟩ (.int .u8 (((x / 2 ^ (8 * k) : Nat) : Int) % 256))) :=
            hb2.trans ⟨rfl, rfl, rfl, by simp [World.setCell], fun _ hkk => heap_setCell_other _ _ _ _ (by simp; omega)⟩
          have hdiv : ((x / 2 ^ (8 * k) : Nat) : Int) / 256 = ((x / 2 ^ (8 * (k + 1)) : Nat) : Int) := by
            rw [show 8 * (k + 1) = 8 * k + 8 by omega, Nat.pow_add, ← Nat.div_div_eq_div_mul, Int.natCast_ediv (x / 2 ^ (8 * k)) (2 ^ 8)]
            rfl
          obtain ⟨y, hy⟩ : ∃ y, x / 2 ^ (8 * k) = y := ⟨_, rfl⟩
          rw [hy] at hset hb3 hdiv ⊢
          have HSET := Go.Lib.hid hset; have HB3 := Go.Lib.hid hb3; have HDIV := Go.Lib.hid hdiv
          clear hset hb3 hdiv hv0 hcs hfs hr2 hb2 hy
          go_wp2_with fail
          refine ⟨⟨k + 1, by omega, by simp; omega, congrArg _ HDIV.out, HSET.out, HB3.out⟩, by simp [intOf]; omega⟩
        · obtain rfl : k = 8 := by omega
          rw [part_next] at hr2
          have HR2 := Go.Lib.hid hr2; clear hr2
          have HB2 := Go.Lib.hid hb2; clear hb2
          go_wp2_with fail
          refine ⟨⟨i + 1, by omega, by simp, HR2.out, HB2.out⟩, by simp [intOf]; omega⟩
    · obtain rfl : i = n := by omega
      have hrd := Rd.row HR.out
      rw [part_all _ _ hL] at hrd
      have hconv := run_string_rd (P := Tryd.prog) 32 9 5 _ _ _ Tryd.underlying32 Tryd.underlying5 Tryd.underlying9 hrd
      clear hrd
      go_wp2_with fail
      go_ret
      exact ⟨rfl, HB.out⟩
end Go.Proofs.YtlkcmnpcfldbcaaDoor.W
