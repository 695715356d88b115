/- The program's forms: strings.Clone, CutPrefix, glob.Within, fresh, byText (it makes memory and turns nothing). -/
import Derived.Test.YtkohcibhefejfaaDoorNormPM
import Derived.Test.YtkohcibhefejfaaDoorGlobU
import Derived.Test.YtkohcibhefejfaaDoorShelf
import Derived.Sort.Grow
namespace Go.Proofs.YtkohcibhefejfaaDoor.W
set_option maxRecDepth 20000
set_option linter.unusedVariables false
open Go.RowKit Go.Proofs Arb Go.Sort

/-- Blocks are made, and nothing else. -/
def Gr (w w' : World) : Prop := ∃ os, w' = grow w os
theorem Gr.refl (w : World) : Gr w w := ⟨#[], (grow_empty w).symm⟩
theorem Gr.trans {a b c : World} (h : Gr a b) (k : Gr b c) : Gr a c := by
  obtain ⟨x, rfl⟩ := h
  obtain ⟨y, rfl⟩ := k
  exact ⟨_, grow_grow _ _ _⟩
theorem Gr.one (w : World) (o : Obj) : Gr w (w.alloc o) := ⟨_, alloc_eq_grow w o⟩
theorem Gr.alloc {w w' : World} (h : Gr w w') (o : Obj) : Gr w (w'.alloc o) := h.trans (.one _ o)

theorem two_cells10 {w : World} {g : Nat} {x y : Value} {t : TypeId} (h : w.heap[g]? = some (.cells #[x, y] t (0, 0))) :
    w.cell? ⟨g, 0, none⟩ = some x ∧ w.cell? ⟨g, 1, none⟩ = some y ∧ w.frozen? ⟨g, 0, none⟩ = false ∧ w.frozen? ⟨g, 1, none⟩ = false :=
  ⟨by simp [World.cell?, h], by simp [World.cell?, h], by simp [World.frozen?, h], by simp [World.frozen?, h]⟩
theorem two_set10 {w : World} {g : Nat} {x y u v : Value} {t : TypeId} (h : w.heap[g]? = some (.cells #[x, y] t (0, 0))) :
    (w.setCell ⟨g, 0, none⟩ u).setCell ⟨g, 1, none⟩ v = w.setRow g #[u, v] := by
  rw [setCell_eq_setRow w g 0 _ t _ u h, setCell_eq_setRow _ g 1 _ t _ v (setRow_heap w g _ _ t _ h), setRow_setRow]
  rfl

theorem nclone_any (l : List UInt8) (w : World) (hl : l.length ≤ 140737488351232) :
    Calls Tryd.prog 41 #[.string (BS l)] w fun e w' => e = .returned (.string (BS l)) ∧ Below w.heap.size w w' := by
  have hC := fun w => Tryd.stringslite_Clone (BS l) w (by rw [BS_size]; omega)
  have HC := Go.Lib.hid hC; clear hC
  go_enter Tryd.func41, Tryd.ntmps41
  go_wp2_with (go_at_call 53; refine (HC.out _).mono ?_; rintro e w1 ⟨rfl, hb1⟩)
  go_ret
  exact ⟨rfl, hb1⟩
set_option maxHeartbeats 1000000 in
theorem pfresh_any (k : Int) (t : List UInt8) (w : World) (hl : t.length ≤ 140737488351232) :
    Calls Tryd.prog 33 #[.int .i64 k, .string (BS t)] w fun e w' => e = .returned (.agg #[.int .i64 k, .string (BS t)]) ∧ Below w.heap.size w w' := by
  have hC := fun W => nclone_any t W hl
  have HC := Go.Lib.hid hC; clear hC
  obtain ⟨W, hW⟩ : ∃ W, w.alloc (.cells #[.int .i64 0, .string ⟨#[]⟩] 29) = W := ⟨_, rfl⟩
  have hB : Below w.heap.size w W := by rw [← hW]; exact (Below.refl _ w).alloc (Nat.le_refl _) _
  have hn : W.heap[w.heap.size]? = some (.cells #[.int .i64 0, .string ⟨#[]⟩] 29) := by rw [← hW]; exact heap_alloc_new w _
  have HB := Go.Lib.hid hB; have HN := Go.Lib.hid hn; have HW := Go.Lib.hid hW
  clear hB hn hW
  go_enter Tryd.func33, Tryd.ntmps33
  go_wp2_with fail
  rw [HW.out]
  refine (HC.out _).mono ?_; rintro e w1 ⟨rfl, hb1⟩
  have h1 : w1.heap[w.heap.size]? = some (.cells #[.int .i64 0, .string ⟨#[]⟩] 29) := (hb1.block _ (Array.getElem?_eq_some_iff.1 HN.out).1).trans HN.out
  obtain ⟨c0, c1, f0, f1⟩ := two_cells10 h1
  have HB1 := Go.Lib.hid (bstep HB.out hb1); have H1 := Go.Lib.hid h1
  clear hb1 h1
  go_wp2_with fail
  rw [two_set10 H1.out]
  exact bodyPost_ret (v := .agg #[.int .i64 k, .string (BS t)]) (results_cell_row (p := 4) rfl _ _ w.heap.size 29 #[.int .i64 k, .string (BS t)] (0, 0) _ rfl (setRow_heap _ _ _ _ _ _ H1.out) Tryd.underlying29 rfl (size_rl.trans (by rfl))) rfl ⟨rfl, below_setRow HB1.out (Nat.le_refl _) _⟩

set_option maxHeartbeats 2000000 in
theorem pby_gr (x y : Rul) (w : World) :
    Calls Tryd.prog 35 #[.agg #[.int .i64 x.kind, .string (BS x.text)], .agg #[.int .i64 y.kind, .string (BS y.text)]] w fun e w' => e = .returned (.int .i64 (cmpR x y)) ∧ Gr w w' := by
  obtain ⟨k, a⟩ := x
  obtain ⟨m, b⟩ := y
  show Calls Tryd.prog 35 #[.agg #[.int .i64 k, .string (BS a)], .agg #[.int .i64 m, .string (BS b)]] w _
  have hB : Gr w ((w.alloc (.cells #[.int .i64 k, .string (BS a)] 29)).alloc (.cells #[.int .i64 m, .string (BS b)] 29)) := (Gr.one _ _).alloc _
  have hC := fun W => Tryd.strings_Compare (BS a) (BS b) W
  rw [BS_list, BS_list] at hC
  have q1 := bs_eq a b
  have q2 := BS_beq a [46]
  have q3 := BS_beq b [46]
  obtain ⟨r, hr⟩ : ∃ r, cmpR ⟨k, a⟩ ⟨m, b⟩ = r := ⟨_, rfl⟩
  rw [hr]
  unfold cmpR cmpT at hr
  simp only at hr
  obtain ⟨c, hc⟩ : ∃ c, Go.Lib.compareBytes a b = c := ⟨_, rfl⟩
  rw [hc] at hr hC
  have HB := Go.Lib.hid hB; have HC := Go.Lib.hid hC
  clear hB hC hc
  by_cases h1 : a = b
  · rw [decide_eq_true h1] at q1
    rw [if_pos h1] at hr
    subst hr
    clear h1 q2 q3
    go_enter Tryd.func35, Tryd.ntmps35
    go_wp2_with fail
    go_ret
    exact ⟨rfl, HB.out⟩
  rw [decide_eq_false h1] at q1
  rw [if_neg h1] at hr
  clear h1
  by_cases h2 : a = [46]
  · rw [decide_eq_true h2] at q2
    rw [if_pos h2] at hr
    subst hr
    clear h2 q3
    go_enter Tryd.func35, Tryd.ntmps35
    go_wp2_with fail
    go_ret
    exact ⟨rfl, HB.out⟩
  rw [decide_eq_false h2] at q2
  rw [if_neg h2] at hr
  clear h2
  by_cases h3 : b = [46]
  · rw [decide_eq_true h3] at q3
    rw [if_pos h3] at hr
    subst hr
    clear h3
    go_enter Tryd.func35, Tryd.ntmps35
    go_wp2_with fail
    go_ret
    exact ⟨rfl, HB.out⟩
  · rw [decide_eq_false h3] at q3
    rw [if_neg h3] at hr
    subst hr
    clear h3
    go_enter Tryd.func35, Tryd.ntmps35
    go_wp2_with fail
    refine (HC.out _).mono ?_; rintro e w1 ⟨rfl, hw1⟩; rw [hw1]
    go_wp2_with fail
    go_ret
    exact ⟨rfl, HB.out⟩

theorem ncut_any (s p : List UInt8) (w : World) : Calls Tryd.prog 40 #[.string (BS s), .string (BS p)] w fun e w' => e = .returned (.tuple #[.string (BS (if p.isPrefixOf s = true then s.drop p.length else s)), .bool (p.isPrefixOf s)]) ∧ w' = w := by
  have := Tryd.strings_CutPrefix (BS s) (BS p) w
  rw [BS_list, BS_list] at this
  exact this
theorem within_cut10 {p o : List UInt8} (h1 : o ≠ [46]) (h2 : p ≠ o) : withinB p o = (o.isPrefixOf p && decide (1 < (p.drop o.length).length) && decide ((p.drop o.length).head? = some 47)) := by
  unfold withinB
  rw [decide_eq_false h1, decide_eq_false h2, Bool.false_or, Bool.false_or, List.head?_drop, List.length_drop]
  have h3 : decide (p.take o.length = o) = o.isPrefixOf p := by
    rw [Bool.eq_iff_iff, decide_eq_true_eq, List.isPrefixOf_iff_prefix, List.prefix_iff_eq_take]
    exact eq_comm
  rw [h3, Bool.and_comm (decide (o.length + 1 < p.length))]
  congr 2
  rw [decide_eq_decide]
  omega
set_option maxHeartbeats 2000000 in
theorem nwithin_any (p o : List UInt8) (w : World) (hp : p.length ≤ 100000) (ho : o.length ≤ 100000) :
    Calls Tryd.prog 28 #[.string (BS p), .string (BS o)] w fun e w' => e = .returned (.bool (withinB p o)) ∧ Below w.heap.size w w' := by
  have q1 := BS_beq o [46]
  have q2 := bs_eq p o
  have hc := fun W => ncut_any p o W
  by_cases h1 : o = [46]
  · have hr : withinB p o = true := by rw [h1]; exact within_dot p
    rw [hr]
    rw [decide_eq_true h1] at q1
    clear hr h1 q2 hc
    go_enter Tryd.func28, Tryd.ntmps28
    go_wp2_with fail
    go_ret
    exact ⟨rfl, Below.refl _ _⟩
  by_cases h2 : p = o
  · have hr : withinB p o = true := by rw [h2]; exact within_refl o
    rw [hr]
    rw [decide_eq_false h1] at q1
    rw [decide_eq_true h2] at q2
    clear hr h1 h2 hc
    go_enter Tryd.func28, Tryd.ntmps28
    go_wp2_with fail
    go_ret
    exact ⟨rfl, Below.refl _ _⟩
  have hr := within_cut10 h1 h2
  obtain ⟨r, hr0⟩ : ∃ r, withinB p o = r := ⟨_, rfl⟩
  rw [hr0] at hr ⊢
  rw [decide_eq_false h1] at q1
  rw [decide_eq_false h2] at q2
  clear hr0 h1 h2
  cases hpre : o.isPrefixOf p with
  | false =>
    rw [hpre] at hr hc
    rw [Bool.false_and, Bool.false_and] at hr
    subst hr
    rw [if_neg (by simp)] at hc
    have HC := Go.Lib.hid hc
    clear hc hpre
    go_enter Tryd.func28, Tryd.ntmps28
    go_wp2_with fail
    refine (HC.out _).mono ?_; rintro e wc ⟨rfl, hwc⟩
    rw [hwc]
    clear hwc wc
    go_wp2_with fail
    go_ret
    exact ⟨rfl, Below.refl _ _⟩
  | true =>
    rw [hpre] at hr hc
    rw [Bool.true_and] at hr
    rw [if_pos rfl] at hc
    have hbl : (p.drop o.length).length ≤ 100000 := by rw [List.length_drop]; omega
    obtain ⟨b, hb⟩ : ∃ b, p.drop o.length = b := ⟨_, rfl⟩
    rw [hb] at hr hc hbl
    have hsz : (BS b).size = b.length := BS_size b
    have HC := Go.Lib.hid hc
    clear hc hpre hb
    by_cases h3 : 1 < b.length
    · have h3' : (1 : Int) < (b.length : Int) := by omega
      have hlt : 0 < (BS b).size := by omega
      rw [decide_eq_true h3, Bool.true_and, List.head?_eq_getElem?, List.getElem?_eq_getElem (show 0 < b.length by omega)] at hr
      obtain ⟨d5, hd5⟩ : ∃ d, decide (some (b[0]'(by omega)) = some (47 : UInt8)) = d := ⟨_, rfl⟩
      rw [hd5] at hr
      have q5 : ((((BS b)[0]'hlt).toNat : Int) == 47) = d5 := by
        rw [BS_get, ← hd5]
        by_cases h : b[0]'(by omega) = 47
        · rw [h]; rfl
        · rw [decide_eq_false (by simpa using h), beq_eq_false_iff_ne]
          intro e
          exact h (UInt8.toNat_inj.1 (by show (b[0]'(by omega)).toNat = 47; omega))
      subst hr
      clear hd5
      cases r <;> (
        go_enter Tryd.func28, Tryd.ntmps28
        go_wp2_with fail
        refine (HC.out _).mono ?_; rintro e wc ⟨rfl, hwc⟩
        rw [hwc]
        clear hwc wc
        go_wp2_with fail
        go_ret
        exact ⟨rfl, Below.refl _ _⟩)
    · have h3' : decide ((1 : Int) < (b.length : Int)) = false := decide_eq_false (by omega)
      rw [decide_eq_false h3, Bool.false_and] at hr
      subst hr
      go_enter Tryd.func28, Tryd.ntmps28
      go_wp2_with fail
      refine (HC.out _).mono ?_; rintro e wc ⟨rfl, hwc⟩
      rw [hwc]
      clear hwc wc
      go_wp2_with fail
      go_ret
      exact ⟨rfl, Below.refl _ _⟩
end Go.Proofs.YtkohcibhefejfaaDoor.W
