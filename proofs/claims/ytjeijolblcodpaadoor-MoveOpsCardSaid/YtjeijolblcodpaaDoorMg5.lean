/- Parts of the proof that all the laws of this package share, in their order. Each says what is in it. -/
import Derived.Test.YtjeijolblcodpaaDoorMg0
import Derived.Test.YtjeijolblcodpaaDoorMg1
import Derived.WalkSpells
import Derived.WalkLawsBesides
import Derived.Outline
import Derived.Lib.Hide
import Derived.Deep.QuietTactic
import Derived.BigQuiet
import Derived.Test.YtjeijolblcodpaaDoorMg4
import Derived.Sort.Grow
import Derived.Test.YtjeijolblcodpaaDoorMg2
import Derived.Laws.Rows
import Derived.WalkKit
import Derived.Test.YtjeijolblcodpaaDoorMg3

/- The order of stamps, in the program: its contract. -/
section
namespace Go.Proofs.YtjeijolblcodpaaDoor.W
set_option maxRecDepth 20000
set_option linter.unusedVariables false
open Go.RowKit Go.Proofs Arb

set_option maxRecDepth 20000 in
set_option maxHeartbeats 1000000 in
theorem pless_any (s t : St) (w : World) :
    Calls Tryd.prog 20 #[.agg (stCells s).toArray, .agg (stCells t).toArray] w fun e w' => e = .returned (.bool (s.less t)) ∧ Below w.heap.size w w' := by
  obtain ⟨a, b⟩ := s
  obtain ⟨c, d⟩ := t
  show Calls Tryd.prog 20 #[.agg #[.int .i64 a, .int .i64 b], .agg #[.int .i64 c, .int .i64 d]] w _
  have hB : Below w.heap.size w ((w.alloc (.cells #[.int .i64 a, .int .i64 b] 33)).alloc (.cells #[.int .i64 c, .int .i64 d] 33)) := ((Below.refl _ _).alloc (Nat.le_refl _) _).alloc (by simp) _
  obtain ⟨r, hr⟩ : ∃ r, St.less ⟨a, b⟩ ⟨c, d⟩ = r := ⟨_, rfl⟩
  rw [hr]
  have HB := Go.Lib.hid hB; clear hB
  have HR := Go.Lib.hid hr; clear hr
  by_cases h1 : a = c
  · have hd1 : (a != c) = false := by simp [h1]
    by_cases h3 : b < d
    · have hd3 : decide (b < d) = true := by simp; omega
      have H2 := Go.Lib.hid h1; clear h1
      go_enter Tryd.func20, Tryd.ntmps20
      go_wp2_with fail
      go_ret
      exact ⟨by rw [← HR.out]; simp [St.less, h3, H2.out], HB.out⟩
    · have hd3 : decide (b < d) = false := by simp; omega
      have H2 := Go.Lib.hid h1; clear h1
      go_enter Tryd.func20, Tryd.ntmps20
      go_wp2_with fail
      go_ret
      exact ⟨by rw [← HR.out]; simp [St.less, h3, H2.out], HB.out⟩
  · have hd1 : (a != c) = true := by simp [h1]
    by_cases h3 : a < c
    · have hd3 : decide (a < c) = true := by simp; omega
      go_enter Tryd.func20, Tryd.ntmps20
      go_wp2_with fail
      go_ret
      exact ⟨by rw [← HR.out]; simp [St.less, h3], HB.out⟩
    · have hd3 : decide (a < c) = false := by simp; omega
      go_enter Tryd.func20, Tryd.ntmps20
      go_wp2_with fail
      go_ret
      exact ⟨by rw [← HR.out]; simp [St.less, h3, h1], HB.out⟩

end Go.Proofs.YtjeijolblcodpaaDoor.W
end

/- The program's orders of stamps, steps and nodes: what they answer; they make memory and turn nothing. -/
section
namespace Go.Proofs.YtjeijolblcodpaaDoor.W
set_option maxRecDepth 20000
set_option linter.unusedVariables false
open Go.RowKit Go.Proofs Arb Go.Sort

/-- Blocks are made, and nothing else. -/
def Gr (w w' : World) : Prop := ∃ os, w' = grow w os
theorem Gr.refl (w : World) : Gr w w := ⟨#[], (grow_empty w).symm⟩
theorem Gr.trans {a b c : World} (h : Gr a b) (k : Gr b c) : Gr a c := by
  obtain ⟨x, rfl⟩ := h
  obtain ⟨y, rfl⟩ := k
  exact ⟨_, grow_grow _ _ _⟩
theorem Gr.one (w : World) (o : Obj) : Gr w (w.alloc o) := ⟨_, alloc_eq_grow w o⟩
theorem Gr.alloc {w w' : World} (h : Gr w w') (o : Obj) : Gr w (w'.alloc o) := h.trans (.one _ o)
theorem Gr.below {w w' : World} (h : Gr w w') : Below w.heap.size w w' := by
  obtain ⟨x, rfl⟩ := h
  exact ⟨rfl, rfl, rfl, by simp, fun k hk => heap_grow_old w x hk⟩

set_option maxHeartbeats 1000000 in
theorem pless_gr (s t : St) (w : World) :
    Calls Tryd.prog 20 #[.agg #[.int .i64 s.count, .int .i64 s.who], .agg #[.int .i64 t.count, .int .i64 t.who]] w fun e w' => e = .returned (.bool (s.less t)) ∧ Gr w w' := by
  obtain ⟨a, b⟩ := s
  obtain ⟨c, d⟩ := t
  show Calls Tryd.prog 20 #[.agg #[.int .i64 a, .int .i64 b], .agg #[.int .i64 c, .int .i64 d]] w _
  have hB : Gr w ((w.alloc (.cells #[.int .i64 a, .int .i64 b] 33)).alloc (.cells #[.int .i64 c, .int .i64 d] 33)) := (Gr.one _ _).alloc _
  obtain ⟨r, hr⟩ : ∃ r, St.less ⟨a, b⟩ ⟨c, d⟩ = r := ⟨_, rfl⟩
  rw [hr]
  have HB := Go.Lib.hid hB; clear hB
  have HR := Go.Lib.hid hr; clear hr
  by_cases h1 : a = c
  · have hd1 : (a != c) = false := by simp [h1]
    by_cases h3 : b < d
    · have hd3 : decide (b < d) = true := by simp; omega
      have H2 := Go.Lib.hid h1; clear h1
      go_enter Tryd.func20, Tryd.ntmps20
      go_wp2_with fail
      go_ret
      exact ⟨by rw [← HR.out]; simp [St.less, h3, H2.out], HB.out⟩
    · have hd3 : decide (b < d) = false := by simp; omega
      have H2 := Go.Lib.hid h1; clear h1
      go_enter Tryd.func20, Tryd.ntmps20
      go_wp2_with fail
      go_ret
      exact ⟨by rw [← HR.out]; simp [St.less, h3, H2.out], HB.out⟩
  · have hd1 : (a != c) = true := by simp [h1]
    by_cases h3 : a < c
    · have hd3 : decide (a < c) = true := by simp; omega
      go_enter Tryd.func20, Tryd.ntmps20
      go_wp2_with fail
      go_ret
      exact ⟨by rw [← HR.out]; simp [St.less, h3], HB.out⟩
    · have hd3 : decide (a < c) = false := by simp; omega
      go_enter Tryd.func20, Tryd.ntmps20
      go_wp2_with fail
      go_ret
      exact ⟨by rw [← HR.out]; simp [St.less, h3, h1], HB.out⟩

/-- Negative, zero or positive. -/
def ordI (s t : St) : Int := if s.less t = true then -1 else if t.less s = true then 1 else 0
theorem ordI_neg (s t : St) : decide (ordI s t < 0) = s.less t := by
  unfold ordI
  cases s.less t
  · cases t.less s <;> rfl
  · rfl
theorem ordI_zero (s t : St) : decide (ordI s t = 0) = decide (s = t) := by
  unfold ordI
  by_cases h : s = t
  · subst h
    rw [St.less_irrefl]
    simp
  · rcases St.less_total h with h1 | h1
    · simp [h1, h]
    · simp [h1, h, St.less_asymm h1]
set_option maxHeartbeats 1000000 in
theorem porder_gr (s t : St) (w : World) :
    Calls Tryd.prog 34 #[.agg #[.int .i64 s.count, .int .i64 s.who], .agg #[.int .i64 t.count, .int .i64 t.who]] w fun e w' => e = .returned (.int .i64 (ordI s t)) ∧ Gr w w' := by
  have hB : Gr w ((w.alloc (.cells #[.int .i64 s.count, .int .i64 s.who] 33)).alloc (.cells #[.int .i64 t.count, .int .i64 t.who] 33)) := (Gr.one _ _).alloc _
  have c0 : ∀ W', Gr ((w.alloc (.cells #[.int .i64 s.count, .int .i64 s.who] 33)).alloc (.cells #[.int .i64 t.count, .int .i64 t.who] 33)) W' → W'.cell? ⟨w.heap.size, 0, none⟩ = some (.int .i64 s.count) ∧ W'.cell? ⟨w.heap.size, 1, none⟩ = some (.int .i64 s.who) ∧ W'.cell? ⟨w.heap.size + 1, 0, none⟩ = some (.int .i64 t.count) ∧ W'.cell? ⟨w.heap.size + 1, 1, none⟩ = some (.int .i64 t.who) := fun W' hW' => by
    have hb := hW'.below
    have hn := heap_alloc_new w (.cells #[.int .i64 s.count, .int .i64 s.who] 33)
    have hn2 := heap_alloc_new (w.alloc (.cells #[.int .i64 s.count, .int .i64 s.who] 33)) (.cells #[.int .i64 t.count, .int .i64 t.who] 33)
    rw [show (w.alloc (.cells #[.int .i64 s.count, .int .i64 s.who] 33)).heap.size = w.heap.size + 1 by simp] at hn2
    have h1 := ((Below.heap_alloc _ (.cells #[.int .i64 t.count, .int .i64 t.who] 33) _ (Array.getElem?_eq_some_iff.1 hn).1).trans hn)
    have h2 := (hb.block _ (Array.getElem?_eq_some_iff.1 h1).1).trans h1
    have h3 := (hb.block _ (Array.getElem?_eq_some_iff.1 hn2).1).trans hn2
    refine ⟨?_, ?_, ?_, ?_⟩
    · rw [cell_of_row _ _ _ _ _ _ h2]; rfl
    · rw [cell_of_row _ _ _ _ _ _ h2]; rfl
    · rw [cell_of_row _ _ _ _ _ _ h3]; rfl
    · rw [cell_of_row _ _ _ _ _ _ h3]; rfl
  have hc1 := pless_gr s t
  have hc2 := pless_gr t s
  obtain ⟨r, hr⟩ : ∃ r, ordI s t = r := ⟨_, rfl⟩
  rw [hr]
  unfold ordI at hr
  obtain ⟨W, hW⟩ : ∃ W, (w.alloc (.cells #[.int .i64 s.count, .int .i64 s.who] 33)).alloc (.cells #[.int .i64 t.count, .int .i64 t.who] 33) = W := ⟨_, rfl⟩
  rw [hW] at hB c0
  obtain ⟨p, hp⟩ : ∃ p, s.less t = p := ⟨_, rfl⟩
  obtain ⟨q, hq⟩ : ∃ q, t.less s = q := ⟨_, rfl⟩
  rw [hp] at hc1 hr
  rw [hq] at hc2 hr
  have HB := Go.Lib.hid hB; have HC := Go.Lib.hid c0; have HC1 := Go.Lib.hid hc1; have HC2 := Go.Lib.hid hc2; have HW := Go.Lib.hid hW
  clear hB c0 hc1 hc2 hp hq hW
  cases p
  · cases q
    · obtain rfl : 0 = r := by simpa using hr
      clear hr
      go_enter Tryd.func34, Tryd.ntmps34
      go_wp2_with fail
      rw [HW.out]
      obtain ⟨x0, x1, x2, x3⟩ := HC.out W (Gr.refl W)
      go_wp2_with fail
      refine (HC1.out _).mono ?_; rintro e w1 ⟨rfl, hg1⟩
      have G1 := Go.Lib.hid hg1
      clear x0 x1 x2 x3
      obtain ⟨x0, x1, x2, x3⟩ := HC.out w1 hg1
      clear hg1
      go_wp2_with fail
      refine (HC2.out _).mono ?_; rintro e w2 ⟨rfl, hg2⟩
      have G2 := Go.Lib.hid hg2; clear hg2
      go_wp2_with fail
      go_ret
      exact ⟨rfl, (HB.out.trans G1.out).trans G2.out⟩
    · obtain rfl : 1 = r := by simpa using hr
      clear hr
      go_enter Tryd.func34, Tryd.ntmps34
      go_wp2_with fail
      rw [HW.out]
      obtain ⟨x0, x1, x2, x3⟩ := HC.out W (Gr.refl W)
      go_wp2_with fail
      refine (HC1.out _).mono ?_; rintro e w1 ⟨rfl, hg1⟩
      have G1 := Go.Lib.hid hg1
      clear x0 x1 x2 x3
      obtain ⟨x0, x1, x2, x3⟩ := HC.out w1 hg1
      clear hg1
      go_wp2_with fail
      refine (HC2.out _).mono ?_; rintro e w2 ⟨rfl, hg2⟩
      have G2 := Go.Lib.hid hg2; clear hg2
      go_wp2_with fail
      go_ret
      exact ⟨rfl, (HB.out.trans G1.out).trans G2.out⟩
  · obtain rfl : -1 = r := by simpa using hr
    clear hr
    go_enter Tryd.func34, Tryd.ntmps34
    go_wp2_with fail
    rw [HW.out]
    obtain ⟨x0, x1, x2, x3⟩ := HC.out W (Gr.refl W)
    go_wp2_with fail
    refine (HC1.out _).mono ?_; rintro e w1 ⟨rfl, hg1⟩
    have G1 := Go.Lib.hid hg1
    clear hg1
    go_wp2_with fail
    go_ret
    exact ⟨rfl, HB.out.trans G1.out⟩
set_option maxHeartbeats 1000000 in
/-- A step against a stamp. -/
theorem pagainst_gr (x : Stp) (t : St) (w : World) :
    Calls Tryd.prog 24 #[stpVal x, .agg #[.int .i64 t.count, .int .i64 t.who]] w fun e w' => e = .returned (.int .i64 (ordI x.op.stamp t)) ∧ Gr w w' := by
  have hB : Gr w ((w.alloc (.cells (stpArr x) 58)).alloc (.cells #[.int .i64 t.count, .int .i64 t.who] 33)) := (Gr.one _ _).alloc _
  have hn := SpB.new w x
  have hn1 : SpB ((w.alloc (.cells (stpArr x) 58)).alloc (.cells #[.int .i64 t.count, .int .i64 t.who] 33)) w.heap.size x := (Below.heap_alloc _ _ _ hn.lt).trans hn
  obtain ⟨c0, c1, -⟩ := op_cells0 hn1.at.op
  have hn2 := heap_alloc_new (w.alloc (.cells (stpArr x) 58)) (.cells #[.int .i64 t.count, .int .i64 t.who] 33)
  rw [show (w.alloc (.cells (stpArr x) 58)).heap.size = w.heap.size + 1 by simp] at hn2
  have d0 : ((w.alloc (.cells (stpArr x) 58)).alloc (.cells #[.int .i64 t.count, .int .i64 t.who] 33)).cell? ⟨w.heap.size + 1, 0, none⟩ = some (.int .i64 t.count) := by rw [cell_of_row _ _ _ _ _ _ hn2]; rfl
  have d1 : ((w.alloc (.cells (stpArr x) 58)).alloc (.cells #[.int .i64 t.count, .int .i64 t.who] 33)).cell? ⟨w.heap.size + 1, 1, none⟩ = some (.int .i64 t.who) := by rw [cell_of_row _ _ _ _ _ _ hn2]; rfl
  have hc := porder_gr x.op.stamp t
  obtain ⟨r, hr⟩ : ∃ r, ordI x.op.stamp t = r := ⟨_, rfl⟩
  rw [hr] at hc ⊢
  obtain ⟨W, hW⟩ : ∃ W, (w.alloc (.cells (stpArr x) 58)).alloc (.cells #[.int .i64 t.count, .int .i64 t.who] 33) = W := ⟨_, rfl⟩
  rw [hW] at hB c0 c1 d0 d1
  unfold stpVal
  unfold stpArr stpCells opCells ndCells at hW ⊢
  simp only [List.cons_append, List.nil_append] at hW ⊢
  have HB := Go.Lib.hid hB; have HC := Go.Lib.hid hc; have HW := Go.Lib.hid hW
  clear hB hc hW hr hn hn1 hn2
  go_enter Tryd.func24, Tryd.ntmps24
  go_wp2_with fail
  rw [HW.out]
  go_wp2_with fail
  refine (HC.out _).mono ?_; rintro e w1 ⟨rfl, hg1⟩
  have G1 := Go.Lib.hid hg1; clear hg1
  go_wp2_with fail
  go_ret
  exact ⟨rfl, HB.out.trans G1.out⟩
set_option maxHeartbeats 1000000 in
/-- Two nodes by their stamps. -/
theorem pcmp_gr (x y : Nod) (w : World) :
    Calls Tryd.prog 33 #[ndVal x, ndVal y] w fun e w' => e = .returned (.int .i64 (ordI x.id y.id)) ∧ Gr w w' := by
  have hB : Gr w ((w.alloc (.cells (ndArr x) 49)).alloc (.cells (ndArr y) 49)) := (Gr.one _ _).alloc _
  have hn := NodAt.new w x 49
  have hn1 := hn.below (((Below.refl _ _).alloc (Nat.le_refl _) (.cells (ndArr y) 49)))
  obtain ⟨c0, c1, -⟩ := nd_cells0 hn1
  have hn2 := NodAt.new (w.alloc (.cells (ndArr x) 49)) y 49
  rw [show (w.alloc (.cells (ndArr x) 49)).heap.size = w.heap.size + 1 by simp] at hn2
  obtain ⟨d0, d1, -⟩ := nd_cells0 hn2
  have hc := porder_gr x.id y.id
  obtain ⟨r, hr⟩ : ∃ r, ordI x.id y.id = r := ⟨_, rfl⟩
  rw [hr] at hc ⊢
  obtain ⟨W, hW⟩ : ∃ W, (w.alloc (.cells (ndArr x) 49)).alloc (.cells (ndArr y) 49) = W := ⟨_, rfl⟩
  rw [hW] at hB c0 c1 d0 d1
  unfold ndVal
  unfold ndArr ndCells at hW ⊢
  have HB := Go.Lib.hid hB; have HC := Go.Lib.hid hc; have HW := Go.Lib.hid hW
  clear hB hc hW hr hn hn1 hn2
  go_enter Tryd.func33, Tryd.ntmps33
  go_wp2_with fail
  rw [HW.out]
  go_wp2_with fail
  refine (HC.out _).mono ?_; rintro e w1 ⟨rfl, hg1⟩
  have G1 := Go.Lib.hid hg1; clear hg1
  go_wp2_with fail
  go_ret
  exact ⟨rfl, HB.out.trans G1.out⟩
end Go.Proofs.YtjeijolblcodpaaDoor.W
end

/- Steps of a quiet walk that the kit's do not take: a struct is loaded whole, a field is taken of a value. -/
section
namespace Arb
set_option maxRecDepth 20000
set_option linter.unusedVariables false
open Go Go.RowKit

theorem run_loadVar_at {P : Program} (w : World) (p : Addr) (ty : TypeId) (cs : Array Value) (d : TypeDesc) (hc : ∀ (j : Nat) (v : Value), cs[j]? = some v → w.cell? (p.add j) = some v)
    (hu : P.underlying ty = some d) (hd : (match d with | .struct _ | .array _ _ => true | _ => false) = true) (hi : (P.info? ty).map (·.size) = some cs.size) :
    (loadVar ty p).run P w = .ok (.agg cs) w := by
  have hl : (loadCells p cs.toList.length).run P w = .ok cs.toList.toArray w :=
    run_loadCells_list (P := P) w p cs.toList (fun j v hv => hc j v (by simpa using hv))
  cases hq : P.info? ty with
  | none => simp [hq] at hi
  | some i =>
    have hs : i.size = cs.size := by simpa [hq] using hi
    have hagg : (isAgg ty).run P w = .ok true w := by
      unfold isAgg
      rw [Sem.run_bind, run_underlying hu w]
      cases d <;> simp_all
    simp only [Array.length_toList, Array.toArray_toList] at hl
    simp [loadVar, Sem.run_bind, hagg, Go.sizeOf, typeInfo, hq, hs, hl]

variable {P : Program} {ops : Array Oper} {C : World → Prop} {Q : Act → Prop} {a : Act} {o : Oper} {rest : List Oper}
theorem wpQuiet_load (ty : TypeId) (x : Operand) (ho : o.op = .load ty x) (hw : Region.wanted o (yielded ops a.tmps) = true) (p : Addr) (hx : a.eval x = .pointer (some p)) (v : Value)
    (hl : ∀ w, C w → (loadVar ty p).run P w = .ok v w) (h : wpQuiet P ops C Q rest (a.put o.dst v)) : wpQuiet P ops C Q (o :: rest) a := by
  unfold wpQuiet
  rw [if_pos hw]
  refine ⟨v, fun w hC => ?_, h⟩
  unfold Oper.quietAt execOp
  simp only [ho, hx, Instr.loadAt, Instr.sureAddr, Sem.run_bind, Sem.run_pure, Result.andThen_ok, hl w hC]
  exact ⟨rfl, rfl⟩
theorem wpQuiet_field (ty : TypeId) (x : Operand) (f : Nat) (ho : o.op = .field ty x f) (hw : Region.wanted o (yielded ops a.tmps) = true) (u v : Value) (hx : a.eval x = u)
    (hl : ∀ w, (Instr.field ty u f).run P w = .ok v w) (h : wpQuiet P ops C Q rest (a.put o.dst v)) : wpQuiet P ops C Q (o :: rest) a := by
  unfold wpQuiet
  rw [if_pos hw]
  refine ⟨v, fun w hC => ?_, h⟩
  unfold Oper.quietAt execOp
  simp only [ho, hx, Sem.run_bind, Sem.run_pure, Result.andThen_ok, hl w]
  exact ⟨rfl, rfl⟩
end Arb
end

/- Lists of stamps: what lies in them, what is appended to them. -/
section
namespace Go.Proofs.YtjeijolblcodpaaDoor.W
set_option maxRecDepth 20000
set_option linter.unusedVariables false
open Go.RowKit Go.Proofs Arb

def stArr (s : St) : Array Value := (stCells s).toArray
theorem info_st : (Tryd.prog.info? 33).map (fun i => (i.zero, i.size, i.bytes)) = some (some (.agg #[.int .i64 0, .int .i64 0]), 2, 16) := by kernel_rfl
/-- The stamp x lies at offset o of block b. -/
def StAt (w : World) (b o : Nat) (x : St) : Prop := w.rangeAt b o (stCells x)
theorem StAt.lt {w : World} {b o : Nat} {x : St} (h : StAt w b o x) : b < w.heap.size := World.block_lt_of_cell? w _ (h 0 _ rfl)
theorem StAt.below {w w' : World} {b o : Nat} {x : St} (h : StAt w b o x) (hb : Below w.heap.size w w') : StAt w' b o x := fun j v hv => (hb.cell (p := ⟨b, o + j, none⟩) h.lt).trans (h j v hv)
theorem StAt.new (w : World) (x : St) (t : TypeId) : StAt (w.alloc (.cells (stArr x) t)) w.heap.size 0 x := fun j v hv => by
  rw [cell_of_row _ _ _ _ _ _ (heap_alloc_new w _), Nat.zero_add]
  simpa [stArr] using hv
theorem st_cells {w : World} {b o : Nat} {x : St} (h : StAt w b o x) : w.cell? ⟨b, o, none⟩ = some (.int .i64 x.count) ∧ w.cell? ⟨b, o + 1, none⟩ = some (.int .i64 x.who) := ⟨h 0 _ rfl, h 1 _ rfl⟩
theorem st_cells0 {w : World} {b : Nat} {x : St} (h : StAt w b 0 x) : w.cell? ⟨b, 0, none⟩ = some (.int .i64 x.count) ∧ w.cell? ⟨b, 1, none⟩ = some (.int .i64 x.who) := by
  have := st_cells h
  simpa only [Nat.zero_add] using this
/-- The value v is the stamps l. -/
def Sts (w : World) (v : Value) (l : List St) : Prop :=
  ∃ A n c, v = .slice A n c ∧ l.length = n ∧ n ≤ c ∧ (A = none → c = 0) ∧ (0 < n → ∃ b off, A = some ⟨b, off, none⟩ ∧ ∀ j x, l[j]? = some x → StAt w b (off + j * 2) x)
theorem Sts.below {w w' : World} {v : Value} {l : List St} (h : Sts w v l) (hb : Below w.heap.size w w') : Sts w' v l := by
  obtain ⟨A, n, c, hv, hl, hc, hA0, hr⟩ := h
  refine ⟨A, n, c, hv, hl, hc, hA0, fun h0 => ?_⟩
  obtain ⟨b, off, hA, hz⟩ := hr h0
  exact ⟨b, off, hA, fun j x hj => (hz j x hj).below hb⟩
theorem Sts.nil (w : World) : Sts w (.slice none 0 0) [] := ⟨none, 0, 0, rfl, rfl, Nat.le_refl _, fun _ => rfl, fun h => by omega⟩
theorem Sts.len {w : World} {v : Value} {l : List St} (h : Sts w v l) : ∃ A c, v = .slice A l.length c ∧ l.length ≤ c := by
  obtain ⟨A, n, c, rfl, rfl, hc, _⟩ := h
  exact ⟨A, c, rfl, hc⟩
theorem Sts.at {w : World} {A : Option Addr} {n c : Nat} {l : List St} (h : Sts w (.slice A n c) l) (k : Nat) (hk : k < n) : ∃ b off x, A = some ⟨b, off, none⟩ ∧ l[k]? = some x ∧ StAt w b (off + k * 2) x := by
  obtain ⟨A', n', c', he, hl, _, _, hr⟩ := h
  cases he
  obtain ⟨b, off, rfl, hz⟩ := hr (by omega)
  have hg := List.getElem?_eq_getElem (l := l) (i := k) (by omega)
  exact ⟨b, off, _, rfl, hg, hz k _ hg⟩
/-- The cells of stamps, one behind the other. -/
def stsCells (l : List St) : List Value := (l.map stCells).flatten
theorem stsCells_length (l : List St) : (stsCells l).length = l.length * 2 := by
  induction l with
  | nil => rfl
  | cons x l ih =>
    show (stCells x ++ stsCells l).length = _
    rw [List.length_append, ih, List.length_cons]
    show 2 + l.length * 2 = _
    omega
theorem stsCells_append (l m : List St) : stsCells (l ++ m) = stsCells l ++ stsCells m := by simp [stsCells]
theorem stsCells_one (x : St) : stsCells [x] = stCells x := by simp [stsCells]
theorem stsCells_at : ∀ (l : List St) (j : Nat) (x : St), l[j]? = some x → ∀ (i : Nat) (v : Value), (stCells x)[i]? = some v → (stsCells l)[j * 2 + i]? = some v
  | [], j, x, h, _, _, _ => by simp at h
  | y :: l, j, x, h, i, v, hv => by
    have hi : i < 2 := (List.getElem?_eq_some_iff.1 hv).1
    show (stCells y ++ stsCells l)[j * 2 + i]? = some v
    cases j with
    | zero =>
      simp at h
      subst h
      rw [List.getElem?_append_left (by show 0 * 2 + i < 2; omega), Nat.zero_mul, Nat.zero_add]
      exact hv
    | succ j =>
      have h' : l[j]? = some x := by simpa using h
      have := stsCells_at l j x h' i v hv
      rw [List.getElem?_append_right (by show 2 ≤ _; omega)]
      show (stsCells l)[(j + 1) * 2 + i - 2]? = some v
      rw [show (j + 1) * 2 + i - 2 = j * 2 + i by omega]
      exact this
theorem Sts.of_row {w : World} {base : Nat} {e : TypeId} {v : Value} {n : Nat} {l : List St} (h : Row w base e 2 v n (stsCells l)) : Sts w v l := by
  have hl : l.length = n := by have := h.1; rw [stsCells_length] at this; omega
  rcases Nat.eq_zero_or_pos n with h0 | h0
  · subst h0
    rcases h.2 with ⟨rfl, _⟩ | ⟨g, cap, cur, fz, rfl, _⟩
    · exact ⟨none, 0, 0, rfl, hl, Nat.le_refl _, fun _ => rfl, fun h => by omega⟩
    · exact ⟨_, 0, cap, rfl, hl, Nat.zero_le _, nofun, fun h => by omega⟩
  · obtain ⟨g, cap, rfl, hc, _, _, hcell, _⟩ := h.open h0
    refine ⟨_, n, cap, rfl, hl, hc, nofun, fun _ => ⟨g, 0, rfl, fun j x hj => ?_⟩⟩
    intro i v hv
    rw [show 0 + j * 2 + i = j * 2 + i by omega]
    exact hcell _ _ (stsCells_at l j x hj i v hv)
theorem st_oneCell (x : St) : ∀ u ∈ stCells x, u.oneCell' = true := by
  intro u hu
  simp only [stCells, List.mem_cons, List.not_mem_nil, or_false] at hu
  rcases hu with rfl | rfl <;> simp [Value.oneCell']
theorem sts_oneCell (l : List St) : ∀ u ∈ stsCells l, u.oneCell' = true := by
  intro u hu
  obtain ⟨c, hc, hu⟩ := List.mem_flatten.1 hu
  obtain ⟨x, _, rfl⟩ := List.mem_map.1 hc
  exact st_oneCell x u hu
/-- The first k stamps, as a slice that is appended. -/
theorem Sts.rdTake {w : World} {A : Option Addr} {n c : Nat} {l : List St} (h : Sts w (.slice A n c) l) (k : Nat) (hk : k ≤ n) : Rd w 2 (.slice A k c) k (stsCells (l.take k)) := by
  obtain ⟨A', n', c', he, hl, hc, hA, hr⟩ := h
  cases he
  refine ⟨by rw [stsCells_length, List.length_take]; omega, ?_⟩
  cases A with
  | none =>
    left
    have := hA rfl
    have h0 : k = 0 := by omega
    rw [this, h0]
    exact ⟨rfl, rfl⟩
  | some a =>
    right
    refine ⟨a, c, rfl, fun j u hu => ?_⟩
    have hj : j < k * 2 := by have := (List.getElem?_eq_some_iff.1 hu).1; rw [stsCells_length, List.length_take] at this; omega
    obtain ⟨b, off, he, hz⟩ := hr (by omega)
    cases he
    have hq : j / 2 < k := by omega
    have hx : (l.take k)[j / 2]? = l[j / 2]? := by rw [List.getElem?_take, if_pos hq]
    have hg := List.getElem?_eq_getElem (l := l) (i := j / 2) (by omega)
    have hop := hz _ _ hg
    have hc := stsCells_at (l.take k) (j / 2) _ (hx.trans hg) (j % 2) ((stCells (l[j / 2]'(by omega)))[j % 2]'(by show j % 2 < 2; omega)) (List.getElem?_eq_getElem _)
    rw [show j / 2 * 2 + j % 2 = j by omega, hu] at hc
    injection hc with hc
    rw [Go.Lib.addr_add, hc]
    have := hop (j % 2) _ (List.getElem?_eq_getElem (by show j % 2 < 2; omega))
    rw [show off + j / 2 * 2 + j % 2 = off + j by omega] at this
    exact this
/-- The stamps from the k-th on, as a slice that is appended. -/
theorem Sts.rdDrop {w : World} {b off : Nat} {n c : Nat} {l : List St} (h : Sts w (.slice (some ⟨b, off, none⟩) n c) l) (k : Nat) (hk : k ≤ n) (o : Nat) (ho : k < n → o = off + k * 2) (m : Nat) (hm : m = n - k) (c2 : Nat) : Rd w 2 (.slice (some ⟨b, o, none⟩) m c2) m (stsCells (l.drop k)) := by
  obtain ⟨A', n', c', he, hl, hc, hA, hr⟩ := h
  cases he
  subst hm
  refine ⟨by rw [stsCells_length, List.length_drop]; omega, .inr ⟨_, c2, rfl, fun j u hu => ?_⟩⟩
  have hj : j < (n - k) * 2 := by have := (List.getElem?_eq_some_iff.1 hu).1; rw [stsCells_length, List.length_drop] at this; omega
  obtain ⟨b', off', he, hz⟩ := hr (by omega)
  cases he
  rw [ho (by omega)]
  have hg := List.getElem?_eq_getElem (l := l) (i := k + j / 2) (by omega)
  have hx : (l.drop k)[j / 2]? = l[k + j / 2]? := by rw [List.getElem?_drop]
  have hop := hz _ _ hg
  have hc := stsCells_at (l.drop k) (j / 2) _ (hx.trans hg) (j % 2) ((stCells (l[k + j / 2]'(by omega)))[j % 2]'(by show j % 2 < 2; omega)) (List.getElem?_eq_getElem _)
  rw [show j / 2 * 2 + j % 2 = j by omega, hu] at hc
  injection hc with hc
  rw [Go.Lib.addr_add, hc]
  have := hop (j % 2) _ (List.getElem?_eq_getElem (by show j % 2 < 2; omega))
  rw [show off + (k + j / 2) * 2 + j % 2 = off + k * 2 + j by omega] at this
  exact this

/-- 'append(s, l...)' of stamps. -/
theorem wpList_append_sts {ops : Array Oper} {rest : List Oper} {o : Oper} {a : Act} {w : World} {Q : Exit → Act → World → Prop} (hgd : o.guard = none) (s x : Operand)
    (ho : o.op = .call { callee := .builtin .append, args := #[s, x], argTypes := #[101, 101] })
    (base : Nat) (v : Value) (n : Nat) (l : List St) (hs : a.eval s = v) (hown : Row w base 33 2 v n (stsCells l))
    (vx : Value) (m : Nat) (k : List St) (hx : a.eval x = vx) (hr : Rd w 2 vx m (stsCells k))
    (h63 : n ≤ 1000000) (h64 : m ≤ 1000000) (hbase : base ≤ w.heap.size)
    (h : ∀ v' w', Row w' base 33 2 v' (n + m) (stsCells (l ++ k)) → Below base w w' → wpList Tryd.prog ops Q rest (a.put o.dst v') w') :
    wpList Tryd.prog ops Q (o :: rest) a w := by
  obtain ⟨i0, hi, hz0, hz1, hz2⟩ := info_parts info_st
  refine wpList_append_row hgd s x 101 ho base 33 i0 _ 2 16 Tryd.underlying101 hi hz0 hz1 hz2 rfl (by decide) v n _ hs hown vx m (stsCells k) hx hr (sts_oneCell _) (by unfold maxLen; omega) (by omega) hbase ?_
  intro v' w' hr hg _
  exact h v' w' (by rw [stsCells_append]; exact hr) ((Below.refl base w).grown hg hbase fun k hk => (hown.lt k hk).1)

/-- 'append(s, x)' of one stamp: x lies in a new block of its own first. -/
theorem wpList_append_st {ops : Array Oper} {rest : List Oper} {o : Oper} {a : Act} {w : World} {Q : Exit → Act → World → Prop} (hgd : o.guard = none) (s x : Operand)
    (ho : o.op = .call { callee := .builtin .append, args := #[s, x], argTypes := #[101, 101] })
    (base : Nat) (v : Value) (n : Nat) (l : List St) (hs : a.eval s = v) (hown : Row w base 33 2 v n (stsCells l))
    (y : St) (cs : Array Value) (hcs : cs = stArr y) (hx : a.eval x = .slice (some ⟨w.heap.size, 0, none⟩) 1 1)
    (h63 : n ≤ 1000000) (hbase : base ≤ w.heap.size)
    (h : ∀ v' w', Row w' base 33 2 v' (n + 1) (stsCells (l ++ [y])) → Below base w w' → wpList Tryd.prog ops Q rest (a.put o.dst v') w') :
    wpList Tryd.prog ops Q (o :: rest) a (w.alloc (.cells cs 33)) := by
  subst hcs
  obtain ⟨i0, hi, hz0, hz1, hz2⟩ := info_parts info_st
  refine wpList_append_row hgd s x 101 ho base 33 i0 _ 2 16 Tryd.underlying101 hi hz0 hz1 hz2 rfl (by decide) v n _ hs (hown.alloc _) _ 1 (stsCells [y]) hx ?_ (sts_oneCell _) (by unfold maxLen; omega) (by omega) (by simp; omega) ?_
  · have := Rd.new w (stArr y) 33 1 1 2 rfl
    rw [stsCells_one]
    simpa [stArr] using this
  · intro v' w' hr hg _
    exact h v' w' (by rw [stsCells_append]; exact hr) (((Below.refl base w).alloc hbase _).grown hg (by simp; omega) fun k hk => (hown.lt k hk).1)
end Go.Proofs.YtjeijolblcodpaaDoor.W
end

/- The reference of stamps: which one is ahead. -/
section
namespace Go.Proofs.YtjeijolblcodpaaDoor.W
set_option maxRecDepth 20000
set_option linter.unusedVariables false
open Go.RowKit Go.Proofs Arb

set_option maxRecDepth 20000 in
set_option maxHeartbeats 1000000 in
theorem rless_any (s t : St) (w : World) :
    Calls Tryd.prog 30 #[.agg (stCells s).toArray, .agg (stCells t).toArray] w fun e w' => e = .returned (.bool (s.less t)) ∧ Below w.heap.size w w' := by
  obtain ⟨a, b⟩ := s
  obtain ⟨c, d⟩ := t
  show Calls Tryd.prog 30 #[.agg #[.int .i64 a, .int .i64 b], .agg #[.int .i64 c, .int .i64 d]] w _
  have hB : Below w.heap.size w ((w.alloc (.cells #[.int .i64 a, .int .i64 b] 33)).alloc (.cells #[.int .i64 c, .int .i64 d] 33)) := ((Below.refl _ _).alloc (Nat.le_refl _) _).alloc (by simp) _
  obtain ⟨r, hr⟩ : ∃ r, St.less ⟨a, b⟩ ⟨c, d⟩ = r := ⟨_, rfl⟩
  rw [hr]
  have HB := Go.Lib.hid hB; clear hB
  have HR := Go.Lib.hid hr; clear hr
  by_cases h1 : a < c
  · go_enter Tryd.func30, Tryd.ntmps30
    go_wp2_with fail
    go_ret
    exact ⟨by rw [← HR.out]; simp [St.less, h1], HB.out⟩
  · have hd1 : decide (a < c) = false := by simp; omega
    by_cases h2 : a = c
    · have hd2 : (a == c) = true := by simp [h2]
      by_cases h3 : b < d
      · have H2 := Go.Lib.hid h2; clear h2
        go_enter Tryd.func30, Tryd.ntmps30
        go_wp2_with fail
        go_ret
        exact ⟨by rw [← HR.out]; simp [St.less, h3, H2.out], HB.out⟩
      · have hd3 : decide (b < d) = false := by simp; omega
        have H2 := Go.Lib.hid h2; clear h2
        go_enter Tryd.func30, Tryd.ntmps30
        go_wp2_with fail
        go_ret
        exact ⟨by rw [← HR.out]; simp [St.less, h3, H2.out], HB.out⟩
    · have hd2 : (a == c) = false := by simp [h2]
      go_enter Tryd.func30, Tryd.ntmps30
      go_wp2_with fail
      go_ret
      exact ⟨by rw [← HR.out]; simp [St.less, h1, h2], HB.out⟩
end Go.Proofs.YtjeijolblcodpaaDoor.W
end
