/- The reference of trees: Children. -/
import Derived.Test.YthcoldjncpiffaaDoorTreeW0
namespace Go.Proofs.YthcoldjncpiffaaDoor.W
set_option linter.unusedVariables false
open Go.RowKit Go.Proofs Arb

theorem children_take (l : List Nod) (s : St) (k : Nat) (x : Nod) (h : l[k]? = some x) : childrenOf (l.take (k + 1)) s = if x.parent = s then childrenOf (l.take k) s ++ [x] else childrenOf (l.take k) s := by
  unfold childrenOf
  rw [List.take_add_one, h, List.filter_append]
  simp only [Option.toList_some, List.filter_cons, List.filter_nil, decide_eq_true_eq]
  split <;> simp
theorem children_length (l : List Nod) (s : St) : (childrenOf l s).length ≤ l.length := List.length_filter_le _ _

set_option maxRecDepth 20000 in
set_option maxHeartbeats 4000000 in
theorem rchildren7_any (v : Value) (l : List Nod) (s : St) (w : World) (h : Nods w v l) (hl : l.length ≤ 100000) :
    Calls Tryd.prog 25 #[v, .agg #[.int .i64 s.count, .int .i64 s.who]] w fun e w' => ∃ v', e = .returned v' ∧ Nods w' v' (childrenOf l s) ∧ Below w.heap.size w w' := by
  obtain ⟨A, c, rfl, hc⟩ := h.len
  obtain ⟨r, hr⟩ : ∃ r, childrenOf l s = r := ⟨_, rfl⟩
  rw [hr]
  obtain ⟨n, hnn⟩ : ∃ n, l.length = n := ⟨_, rfl⟩
  rw [hnn] at h hc hl
  rw [hnn]
  have htl : l.take n = l := List.take_of_length_le (by omega)
  have hb0 : Below w.heap.size w (w.alloc (.cells #[.int .i64 s.count, .int .i64 s.who] 30)) := (Below.refl _ _).alloc (Nat.le_refl _) _
  have ha0 : (w.alloc (.cells #[.int .i64 s.count, .int .i64 s.who] 30)).cell? ⟨w.heap.size, 0, none⟩ = some (.int .i64 s.count) := by rw [cell_of_row _ _ _ _ _ _ (heap_alloc_new w _)]; rfl
  have ha1 : (w.alloc (.cells #[.int .i64 s.count, .int .i64 s.who] 30)).cell? ⟨w.heap.size, 1, none⟩ = some (.int .i64 s.who) := by rw [cell_of_row _ _ _ _ _ _ (heap_alloc_new w _)]; rfl
  have hlt0 : w.heap.size < (w.alloc (.cells #[.int .i64 s.count, .int .i64 s.who] 30)).heap.size := by simp
  have hv1 := h.below hb0
  obtain ⟨W1, hW1⟩ : ∃ W, w.alloc (.cells #[.int .i64 s.count, .int .i64 s.who] 30) = W := ⟨_, rfl⟩
  rw [hW1] at hb0 ha0 ha1 hlt0 hv1
  have HB0 := Go.Lib.hid hb0; have HA0 := Go.Lib.hid ha0; have HA1 := Go.Lib.hid ha1; have HV1 := Go.Lib.hid hv1; have HLT := Go.Lib.hid hlt0; have HW1 := Go.Lib.hid hW1; have HR := Go.Lib.hid hr; have HTL := Go.Lib.hid htl
  clear hb0 ha0 ha1 hlt0 hv1 hW1 hr htl h hnn
  go_enter Tryd.func25, Tryd.ntmps25
  go_wp2_with fail
  rw [HW1.out]
  go_loopw [5, 6, 7, 8, 9, 10, 11, 12, 13, 14, 15, 16, 17, 18, 19, 20, 21, 22, 23, 24, 25, 26] (fun vo i _ _ _ _ _ _ _ _ _ _ _ _ _ _ _ _ _ _ _ _ wr => ∃ k : Nat, k ≤ n ∧ i = .int .i64 (k : Int) ∧ Row wr W1.heap.size 37 7 vo (childrenOf (l.take k) s).length (ndsCells (childrenOf (l.take k) s)) ∧ Below W1.heap.size W1 wr) (fun _ i _ _ _ _ _ _ _ _ _ _ _ _ _ _ _ _ _ _ _ _ _ => n - (intOf i).toNat)
  case atStart => exact ⟨0, by omega, rfl, Row.nil _ _ _ _, Below.refl _ _⟩
  case round =>
    obtain ⟨k, hk, rfl, hrow, hbw⟩ := hrel
    by_cases hkn : k < n
    · have hkn' : (k : Int) < (n : Int) := by omega
      obtain ⟨b1, o1, x, rfl, hg1, hx⟩ := (HV1.out.below hbw).at k hkn
      obtain ⟨c0, c1, c2, c3, c4, c5, c6⟩ := nd_cells hx
      have d0 := (hbw.cell (p := ⟨w.heap.size, 0, none⟩) HLT.out).trans HA0.out
      have d1 := (hbw.cell (p := ⟨w.heap.size, 1, none⟩) HLT.out).trans HA1.out
      have hq := fun w => eq_st x.parent s w
      obtain ⟨q, hqe⟩ : ∃ q, decide (x.parent = s) = q := ⟨_, rfl⟩
      rw [hqe] at hq
      have hnx := children_take l s k x hg1
      have hcl := children_length (l.take k) s
      have htl : (l.take k).length ≤ n := by rw [List.length_take]; omega
      obtain ⟨sk, hsk⟩ : ∃ z, childrenOf (l.take k) s = z := ⟨_, rfl⟩
      rw [hsk] at hrow hcl hnx
      obtain ⟨m, hm⟩ : ∃ m, sk.length = m := ⟨_, rfl⟩
      rw [hm] at hrow hcl
      have HROW := Go.Lib.hid hrow; have HBW := Go.Lib.hid hbw; have HM := Go.Lib.hid hm; have HX := Go.Lib.hid hx
      clear hrow hbw hm hx hsk hg1
      cases q
      · rw [if_neg (of_decide_eq_false hqe)] at hnx
        have HNX := Go.Lib.hid hnx; clear hnx hqe
        go_wp2_with fail
        go_quiet (fail)
        have hrq : Row (wr.drewN nq) W1.heap.size 37 7 u5 m (ndsCells sk) := HROW.out.heap rfl
        have hbq := below_drewN HBW.out nq
        have HRQ := Go.Lib.hid hrq; have HBQ := Go.Lib.hid hbq
        clear hrq hbq
        go_wp2_with fail
        exact ⟨⟨k + 1, by omega, by simp, by rw [HNX.out, HM.out]; exact HRQ.out, HBQ.out⟩, by simp [intOf]; omega⟩
      · rw [if_pos (of_decide_eq_true hqe)] at hnx
        have HNX := Go.Lib.hid hnx; clear hnx hqe
        go_wp2_with fail
        go_quiet (fail)
        have hrq : Row (wr.drewN nq) W1.heap.size 37 7 u5 m (ndsCells sk) := HROW.out.heap rfl
        have hbq := below_drewN HBW.out nq
        have hxq : NodAt (wr.drewN nq) b1 (o1 + k * 7) x := HX.out
        obtain ⟨Wq, hWq⟩ : ∃ W, wr.drewN nq = W := ⟨_, rfl⟩
        rw [hWq] at hrq hbq hxq
        rw [hWq]
        clear c0 c1 c2 c3 c4 c5 c6 d0 d1
        obtain ⟨c0, c1, c2, c3, c4, c5, c6⟩ := nd_cells hxq
        have hBq := hbq.size
        have HRQ := Go.Lib.hid hrq; have HBQ := Go.Lib.hid hbq
        clear hrq hbq hxq hWq
        go_wp2_with (at_builtin; refine wpList_append_nd rfl (.tmp 20) (.tmp 25) rfl W1.heap.size u5 m sk rfl HRQ.out x _ rfl rfl (by omega) hBq ?_; intro v4 W4 hr4 hb4)
        exact ⟨⟨k + 1, by omega, by simp, by rw [HNX.out, List.length_append, HM.out]; exact hr4, HBQ.out.trans hb4⟩, by simp [intOf]; omega⟩
    · obtain rfl : k = n := by omega
      rw [HTL.out, HR.out] at hrow
      have HO := Go.Lib.hid (Nods.of_row hrow); have HBW := Go.Lib.hid hbw
      clear hrow hbw
      go_wp2_with fail
      go_ret
      exact ⟨_, rfl, HO.out, bstep HB0.out HBW.out⟩
end Go.Proofs.YthcoldjncpiffaaDoor.W
