/- The program's next stamp: its contract. -/
import Derived.Test.YtgfkiekcdjnaeaaClockI
import Derived.Laws.Rows
import Derived.Laws.Tables
import Derived.Laws.CopyOwn
namespace Go.Proofs.Ytgfkiekcdjnaeaa.W
set_option linter.unusedVariables false
open Go.RowKit Go.Proofs Arb

theorem size_stamp : (Try.prog.info? 23).map (·.size) = some 2 := by kernel_rfl
/-- The two cells of a block that holds a stamp. -/
theorem two_cells {w : World} {g : Nat} {x y : Value} {t : TypeId} (h : w.heap[g]? = some (.cells #[x, y] t (0, 0))) :
    w.cell? ⟨g, 0, none⟩ = some x ∧ w.cell? ⟨g, 1, none⟩ = some y ∧ w.frozen? ⟨g, 0, none⟩ = false ∧ w.frozen? ⟨g, 1, none⟩ = false :=
  ⟨by simp [World.cell?, h], by simp [World.cell?, h], by simp [World.frozen?, h], by simp [World.frozen?, h]⟩
theorem two_set {w : World} {g : Nat} {x y u v : Value} {t : TypeId} (h : w.heap[g]? = some (.cells #[x, y] t (0, 0))) :
    (w.setCell ⟨g, 0, none⟩ u).setCell ⟨g, 1, none⟩ v = w.setRow g #[u, v] := by
  rw [setCell_eq_setRow w g 0 _ t _ u h, setCell_eq_setRow _ g 1 _ t _ v (setRow_heap w g _ _ t _ h), setRow_setRow]
  rfl
/-- What a function gives whose results are a cell and a slot. -/
theorem results_cell_tmp {P : Program} {fn : Func} {p q : Tmp} {ty : TypeId} (h : fn.results = #[.cell p ty, .tmp q]) (tmps : Array Value) (w : World) (g : Nat) (t : TypeId) (cs : Array Value) (fr : Nat × Nat) (d : TypeDesc)
    (hp : tmps.getD p undef = .pointer (some ⟨g, 0, none⟩)) (hg : w.heap[g]? = some (.cells cs t fr))
    (hu : P.underlying ty = some d) (hd : (match d with | .struct _ | .array _ _ => true | _ => false) = true) (hi : (P.info? ty).map (·.size) = some cs.size) {y : Value} (hq : tmps.getD q undef = y) :
    (results fn tmps).run P w = .ok (.tuple #[.agg cs, y]) w := by
  subst hq
  have hp' : tmps[p]?.getD undef = .pointer (some ⟨g, 0, none⟩) := by simpa using hp
  simp [results, h, hp', asAddr, run_loadVar_row w g t ty cs fr d hg hu hd hi]

set_option maxRecDepth 20000 in
set_option maxHeartbeats 1000000 in
theorem pnext_any (p : Int) (v : Value) (ls : List St) (w : World) (h : Stamps w v ls) (hn : ls.length ≤ 100000) :
    Calls Try.prog 17 #[.int .i64 p, v] w fun e w' => e = .returned (.tuple #[stVal (nextSt p ls).1, .int .i64 (nextSt p ls).2]) ∧ Below w.heap.size w w' := by
  obtain ⟨r, hrr⟩ : ∃ r, nextSt p ls = r := ⟨_, rfl⟩
  rw [hrr]
  unfold nextSt at hrr
  obtain ⟨d, hd⟩ : ∃ d, decide (0 ≤ p ∧ p < 15) = d := ⟨_, rfl⟩
  have hdv := pdevice_any p
  rw [hd] at hdv
  have HDV := Go.Lib.hid hdv; clear hdv
  have hb1 : ∀ s : St, Below w.heap.size w (w.alloc (.cells #[.int .i64 s.count, .int .i64 s.who] 23)) := fun s => (Below.refl _ _).alloc (Nat.le_refl _) _
  have HB := Go.Lib.hid hb1; clear hb1
  have h0 := (Below.refl w.heap.size w).alloc (Nat.le_refl _) (.cells #[.int .i64 0, .int .i64 0] 23)
  have HL := Go.Lib.hid (plast_any v ls _ (h.below h0) hn)
  clear h h0
  cases d
  · have hd' := of_decide_eq_false hd
    rw [if_pos (by omega)] at hrr
    subst hrr
    clear hd hd'
    go_enter Try.func17, Try.ntmps17
    go_wp2_with fail
    refine (HDV.out _).mono ?_; rintro e w1 ⟨rfl, rfl⟩
    go_wp2_with fail
    exact bodyPost_ret (v := .tuple #[.agg #[.int .i64 0, .int .i64 0], .int .i64 1]) (by simp [results, Try.results17, go_sem]) rfl ⟨rfl, HB.out ⟨0, 0⟩⟩
  · have hd' := of_decide_eq_true hd
    rw [if_neg (by omega)] at hrr
    clear hd hd'
    obtain ⟨x, hx⟩ : ∃ x, topCount ls = x := ⟨_, rfl⟩
    rw [hx] at HL hrr
    have HX0 := Go.Lib.hid (topCount_nonneg ls)
    rw [hx] at HX0
    clear hx
    have HRR := Go.Lib.hid hrr; clear hrr
    by_cases hm : 1099511627776 ≤ x
    · have hd : decide (1099511627776 ≤ x) = true := by simp; omega
      have HM := Go.Lib.hid hm; clear hm
      go_enter Try.func17, Try.ntmps17
      go_wp2_with fail
      refine (HDV.out _).mono ?_; rintro e w1 ⟨rfl, rfl⟩
      go_wp2_with fail
      refine HL.out.mono ?_; rintro e w1 ⟨rfl, hb⟩
      have hh := (hb.block w.heap.size (by simp)).trans (heap_alloc_new _ _)
      have hB := (HB.out ⟨0, 0⟩).trans (hb.mono (by simp))
      obtain ⟨c0, c1, f0, f1⟩ := two_cells hh
      have HH := Go.Lib.hid hh; clear hh
      have HBB := Go.Lib.hid hB; clear hB hb
      go_wp2_with fail
      rw [two_set HH.out]
      have hr0 : r = (⟨0, 0⟩, 21) := by rw [← HRR.out, if_pos HM.out]
      rw [hr0]
      exact bodyPost_ret (v := .tuple #[.agg #[.int .i64 0, .int .i64 0], .int .i64 21]) (results_cell_tmp (p := 4) (q := 5) rfl _ _ w.heap.size 23 #[.int .i64 0, .int .i64 0] (0, 0) _ rfl (setRow_heap _ _ _ _ _ _ HH.out) Try.underlying23 rfl (size_stamp.trans (by rfl)) rfl) rfl ⟨rfl, below_setRow HBB.out (Nat.le_refl _) _⟩
    · have hd : decide (1099511627776 ≤ x) = false := by simp; omega
      have h0 : 0 ≤ x := HX0.out
      have hx1 : IntKind.i64.wrap (x + 1) = x + 1 := by rw [IntKind.wrap_i64]; omega
      have HM := Go.Lib.hid hm
      go_enter Try.func17, Try.ntmps17
      go_wp2_with fail
      refine (HDV.out _).mono ?_; rintro e w1 ⟨rfl, rfl⟩
      go_wp2_with fail
      refine HL.out.mono ?_; rintro e w1 ⟨rfl, hb⟩
      have hh := (hb.block w.heap.size (by simp)).trans (heap_alloc_new _ _)
      have hB := (HB.out ⟨0, 0⟩).trans (hb.mono (by simp))
      obtain ⟨c0, c1, f0, f1⟩ := two_cells hh
      have HH := Go.Lib.hid hh; clear hh
      have HBB := Go.Lib.hid hB; clear hB hb
      go_wp2_with fail
      rw [two_set HH.out]
      have hr0 : r = (⟨x + 1, p⟩, 0) := by rw [← HRR.out, if_neg (by have := HM.out; omega)]
      rw [hr0]
      exact bodyPost_ret (v := .tuple #[.agg #[.int .i64 (x + 1), .int .i64 p], .int .i64 0]) (results_cell_tmp (p := 4) (q := 5) rfl _ _ w.heap.size 23 #[.int .i64 (x + 1), .int .i64 p] (0, 0) _ rfl (setRow_heap _ _ _ _ _ _ HH.out) Try.underlying23 rfl (size_stamp.trans (by rfl)) rfl) rfl ⟨rfl, below_setRow HBB.out (Nat.le_refl _) _⟩
end Go.Proofs.Ytgfkiekcdjnaeaa.W
