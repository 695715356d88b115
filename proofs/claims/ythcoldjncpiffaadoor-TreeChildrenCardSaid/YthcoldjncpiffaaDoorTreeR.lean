/- The reference of trees: a node's place, a stamp's node. -/
import Derived.Test.YthcoldjncpiffaaDoorTreeS
import Derived.Test.YthcoldjncpiffaaDoorTreeN
namespace Go.Proofs.YthcoldjncpiffaaDoor.W
set_option linter.unusedVariables false
open Go.RowKit Go.Proofs Arb

/-- The place of a stamp's node, or -1. -/
def atI (l : List Nod) (s : St) : Int := match findOf l s with | some _ => (atOf l s : Int) | none => -1
theorem find_hit {l : List Nod} {s : St} {k : Nat} {x : Nod} (h : ∀ (j : Nat) (y : Nod), j < k → l[j]? = some y → y.id ≠ s) (hx : l[k]? = some x) (hs : x.id = s) : findOf l s = some x ∧ atOf l s = k := by
  obtain ⟨hk, hkx⟩ := List.getElem?_eq_some_iff.1 hx
  have hsp : l = l.take k ++ x :: l.drop (k + 1) := by rw [← hkx]; simp
  have hall : ∀ y ∈ l.take k, y.id ≠ s := fun y hy => by
    obtain ⟨j, hj, hjy⟩ := List.getElem_of_mem hy
    rw [List.length_take] at hj
    refine h j y (by omega) ?_
    rw [List.getElem?_eq_getElem (by omega)]
    rw [← hjy, List.getElem_take]
  have h1 := findOf_swap (l2 := l.drop (k + 1)) hs hall
  have h2 := atOf_swap (l2 := l.drop (k + 1)) hs hall
  rw [← hsp] at h1 h2
  rw [List.length_take] at h2
  exact ⟨h1, by omega⟩
theorem find_miss {l : List Nod} {s : St} {n : Nat} (hn : l.length = n) (h : ∀ (j : Nat) (y : Nod), j < n → l[j]? = some y → y.id ≠ s) : findOf l s = none := by
  refine findOf_none.2 fun y hy => ?_
  obtain ⟨j, hj, hjy⟩ := List.getElem_of_mem hy
  exact h j y (by omega) (by rw [List.getElem?_eq_getElem hj, hjy])

set_option maxRecDepth 20000 in
set_option maxHeartbeats 4000000 in
theorem rat7_any (v : Value) (l : List Nod) (s : St) (w : World) (h : Nods w v l) (hl : l.length ≤ 1000000) :
    Calls Tryd.prog 32 #[v, .agg #[.int .i64 s.count, .int .i64 s.who]] w fun e w' => e = .returned (.int .i64 (atI l s)) ∧ Below w.heap.size w w' := by
  obtain ⟨A, c, rfl, hc⟩ := h.len
  obtain ⟨r, hr⟩ : ∃ r, atI l s = r := ⟨_, rfl⟩
  rw [hr]
  obtain ⟨n, hnn⟩ : ∃ n, l.length = n := ⟨_, rfl⟩
  rw [hnn] at h hc hl
  rw [hnn]
  have HV := Go.Lib.hid h; clear h
  have HR := Go.Lib.hid hr; clear hr
  have HN := Go.Lib.hid hnn; clear hnn
  go_enter Tryd.func32, Tryd.ntmps32
  have hb0 : Below w.heap.size w (w.alloc (.cells #[.int .i64 s.count, .int .i64 s.who] 30)) := (Below.refl _ _).alloc (Nat.le_refl _) _
  have ha0 : (w.alloc (.cells #[.int .i64 s.count, .int .i64 s.who] 30)).cell? ⟨w.heap.size, 0, none⟩ = some (.int .i64 s.count) := by rw [cell_of_row _ _ _ _ _ _ (heap_alloc_new w _)]; rfl
  have ha1 : (w.alloc (.cells #[.int .i64 s.count, .int .i64 s.who] 30)).cell? ⟨w.heap.size, 1, none⟩ = some (.int .i64 s.who) := by rw [cell_of_row _ _ _ _ _ _ (heap_alloc_new w _)]; rfl
  have hlt0 : w.heap.size < (w.alloc (.cells #[.int .i64 s.count, .int .i64 s.who] 30)).heap.size := by simp
  have hv1 := HV.out.below hb0
  go_wp2_with fail
  obtain ⟨W1, hW1⟩ : ∃ W, w.alloc (.cells #[.int .i64 s.count, .int .i64 s.who] 30) = W := ⟨_, rfl⟩
  rw [hW1] at hb0 ha0 ha1 hlt0 hv1 ⊢
  have HB0 := Go.Lib.hid hb0; have HA0 := Go.Lib.hid ha0; have HA1 := Go.Lib.hid ha1; have HV1 := Go.Lib.hid hv1; have HLT := Go.Lib.hid hlt0
  clear hb0 ha0 ha1 hlt0 hv1 hW1
  go_loopw [5, 6, 7, 8, 9, 10, 11, 12, 13, 14, 15, 16, 17, 18] (fun i _ _ _ _ _ _ _ _ _ _ _ _ _ wr => ∃ k : Nat, k ≤ n ∧ i = .int .i64 (k : Int) ∧ (∀ (j : Nat) (y : Nod), j < k → l[j]? = some y → y.id ≠ s) ∧ Below W1.heap.size W1 wr) (fun i _ _ _ _ _ _ _ _ _ _ _ _ _ _ => n - (intOf i).toNat)
  case atStart => exact ⟨0, by omega, rfl, fun _ _ h => by omega, Below.refl _ _⟩
  case round =>
    obtain ⟨k, hk, rfl, hall, hbw⟩ := hrel
    have HALL := Go.Lib.hid hall; clear hall
    have HBW := Go.Lib.hid hbw
    by_cases hkn : k < n
    · have hkn' : (k : Int) < (n : Int) := by omega
      obtain ⟨b1, o1, x, rfl, hg1, hx⟩ := (HV1.out.below hbw).at k hkn
      obtain ⟨c0, c1, -⟩ := nd_cells hx
      have d0 := (hbw.cell (p := ⟨w.heap.size, 0, none⟩) HLT.out).trans HA0.out
      have d1 := (hbw.cell (p := ⟨w.heap.size, 1, none⟩) HLT.out).trans HA1.out
      have hq := fun w => eq_st x.id s w
      obtain ⟨q, hqe⟩ : ∃ q, decide (x.id = s) = q := ⟨_, rfl⟩
      rw [hqe] at hq
      have HG1 := Go.Lib.hid hg1; clear hg1
      have HQ := Go.Lib.hid hqe; clear hqe
      clear hx hbw
      cases q
      · go_wp2_with fail
        first | (go_quiet (fail)) | skip
        go_wp2_with fail
        refine ⟨⟨k + 1, by omega, by simp, fun j y hj hy => ?_, below_drewN HBW.out _⟩, by simp [intOf]; omega⟩
        rcases Nat.lt_or_ge j k with h | h
        · exact HALL.out j y h hy
        · obtain rfl : j = k := by omega
          rw [HG1.out] at hy
          injection hy with hy
          subst hy
          exact of_decide_eq_false HQ.out
      · go_wp2_with fail
        first | (go_quiet (fail)) | skip
        go_wp2_with fail
        go_ret
        obtain ⟨h1, h2⟩ := find_hit HALL.out HG1.out (of_decide_eq_true HQ.out)
        refine ⟨?_, bstep HB0.out (below_drewN HBW.out _)⟩
        rw [← HR.out]
        unfold atI
        rw [h1, h2]
        rfl
    · obtain rfl : k = n := by omega
      clear hbw
      go_wp2_with fail
      go_ret
      have h1 := find_miss HN.out HALL.out
      refine ⟨?_, bstep HB0.out HBW.out⟩
      rw [← HR.out]
      unfold atI
      rw [h1]
      rfl

theorem at_get {l : List Nod} {s : St} {n : Nod} (h : findOf l s = some n) : l[atOf l s]? = some n ∧ atOf l s < l.length := by
  obtain ⟨l1, l2, h1, h2, -, -⟩ := at_parts l s n h
  rw [h2, h1]
  simp
/-- What Find answers. -/
def foundOf (l : List Nod) (s : St) : Nod × Bool := match findOf l s with | some n => (n, true) | none => (Nod.zero, false)
end Go.Proofs.YthcoldjncpiffaaDoor.W
