/- The once fills the table, once. -/
import Derived.Test.YtjicfkdggpinkaaCrcO
namespace Go.Proofs.Ytjicfkdggpinkaa.W
open Go.RowKit Go.Proofs Arb

theorem below_grown {w w' : World} {row : Option Nat} (h : Below w.heap.size w w') : w.grownBy w' row := ⟨h.os, h.tape, h.output, h.size, fun k hk _ => h.block k hk⟩
theorem grownBy_setRow {w : World} {g : Nat} (cs : Array Value) : w.grownBy (w.setRow g cs) (some g) :=
  ⟨rfl, rfl, rfl, by simp, fun k _ hne => setRow_other w g k cs (fun e => hne (by rw [e]))⟩

theorem below_row {w w' : World} {g B : Nat} (h : w.grownBy w' (some g)) (hl : g < w.heap.size) (hB : B ≤ g) : Below B w w' :=
  ⟨h.os, h.tape, h.output, h.size, fun k hk => h.block k (by omega) (by simp; omega)⟩

set_option maxRecDepth 20000 in
set_option maxHeartbeats 1000000 in
theorem fill_any (b : Nat) (w : World) (h : IsRow w b 0) :
    Calls Try.prog 14 #[.pointer (some ⟨b, 0, none⟩)] w fun e w' => e = .returned (.tuple #[]) ∧ IsRow w' b 256 ∧ w.grownBy w' (some b) := by
  have H := Go.Lib.hid h; clear h
  go_enter Try.func14, Try.ntmps14
  go_wp2_with fail
  refine (allSteps_any _).mono ?_
  rintro e w1 ⟨rfl, hb1⟩
  have hr1 : w1.heap[b]? = some (.cells (rowAt 0) 31 (0, 0)) := (hb1.block b H.out.lt).trans H.out
  have HB1 := Go.Lib.hid hb1; clear hb1
  have HR1 := Go.Lib.hid hr1; clear hr1
  go_wp2_with (refine wpList_store_row rfl 31 (.tmp 0) (.tmp 1) rfl b (rowAt 256) rfl rfl 31 (rowAt 0) HR1.out (size_steps.trans (by rw [rowAt_size])) (by rw [rowAt_size, rowAt_size]) (rowAt_one 256) ?_)
  go_end0
  exact ⟨rfl, setRow_heap _ _ _ _ _ _ HR1.out, grownBy_trans (below_grown HB1.out) (grownBy_setRow _)⟩

set_option maxRecDepth 20000 in
set_option maxHeartbeats 1600000 in
/-- The once's slow road: not yet done, its lock free. -/
theorem slow_any (bo bs : Nat) (hne : bo ≠ bs) (w : World) (h : IsOnce w bo 0 0) (hs : IsRow w bs 0) :
    Calls Try.prog 17 #[.pointer (some ⟨bo, 0, none⟩), .func (.func 14) #[] #[.pointer (some ⟨bs, 0, none⟩)]] w fun e w' =>
      e = .returned (.tuple #[]) ∧ IsOnce w' bo 1 0 ∧ IsRow w' bs 256 ∧ ∀ B, B ≤ bo → B ≤ bs → Below B w w' := by
  obtain ⟨hl, hg1⟩ := h.set1 1
  have hs1 := hs.kept hg1 (by simpa using Ne.symm hne)
  have c1 := h.cell1
  have f1 := h.free 1
  have hld := run_call_load (P := Try.prog) Try.func19 (by kernel_rfl) (by kernel_rfl) (by kernel_rfl) .u32 (by kernel_rfl) hl.cell0
  have hnot : ∀ (x : Bool) (w : World), (Op.unary .not (.bool x)).run Try.prog w = .ok (.bool (!x)) w := fun _ _ => rfl
  have hlt := h.lt
  have HL := Go.Lib.hid hl; clear hl
  have HS1 := Go.Lib.hid hs1; clear hs1 hs h
  have HG1 := Go.Lib.hid hg1; clear hg1
  go_enter_defers Try.func17, Try.ntmps17
  go_wp2_with (go_at_call 20; refine (lock_free ⟨bo, 1, none⟩ _ (by go_simp) (by go_simp)).mono ?_; rintro e w' ⟨rfl, rfl⟩)
  go_wp2_with (first | (go_at_call 16; go_in) | (go_at_call 14; refine (fill_any bs _ HS1.out).mono ?_; rintro e w2 ⟨rfl, hr2, hg2⟩))
  have ho2 := HL.out.kept hg2 (by simpa using hne)
  obtain ⟨ho3, hg3⟩ := IsOnce.set0 (w := w2.drew) 1 (show IsOnce w2.drew bo 0 1 from ho2)
  obtain ⟨ho4, hg4⟩ := ho3.set1 0
  refine leaves_cons (f := 22) (args := #[.pointer (some ⟨bo, 0, none⟩), .bool true]) (by simp) (by simp [go_sem]) ?_
  refine (store_deferred ⟨bo, 0, none⟩ (.int .u32 0) .returning _ ho2.cell0 (ho2.free 0)).mono ?_
  rintro e u' w'' ⟨rfl, rfl, rfl⟩
  refine leaves_cons (f := 21) (args := #[.pointer (some ⟨bo, 1, none⟩)]) (by simp [settle]) (by simp [go_sem]) ?_
  refine (unlock_deferred ⟨bo, 1, none⟩ _ _ ho3.cell1 (ho3.free 1)).mono ?_
  rintro e u' w'' ⟨rfl, rfl, rfl⟩
  have hr4 := ((IsRow.kept (w := w2.drew) (show IsRow w2.drew bs 256 from hr2) hg3 (by simpa using Ne.symm hne)).kept hg4 (by simpa using Ne.symm hne))
  have hbel : ∀ B, B ≤ bo → B ≤ bs → Below B w ((w2.drew.setCell ⟨bo, 0, none⟩ (.int .u32 1)).setCell ⟨bo, 1, none⟩ (.int .i32 0)) := fun B h1 h2 =>
    ((below_row HG1.out hlt h1).trans ((below_row hg2 HS1.out.lt h2).drew)).trans ((below_row hg3 ho2.lt h1).trans (below_row hg4 ho3.lt h1))
  exact ⟨_, results_none rfl _ _ _, rfl, ho4, hr4, hbel⟩

/-- Block bo is a free once, not yet done, over a table that is not filled; or a once that is done, over a filled one. -/
def Once (w : World) (bo bs : Nat) (n : Nat) : Prop := (n = 0 ∧ IsOnce w bo 0 0 ∧ IsRow w bs 0) ∨ (IsOnce w bo 1 0 ∧ IsRow w bs 256)

set_option maxRecDepth 20000 in
set_option maxHeartbeats 1600000 in
theorem do_any (bo bs : Nat) (hne : bo ≠ bs) (w : World) (n : Nat) (h : Once w bo bs n) :
    Calls Try.prog 13 #[.pointer (some ⟨bo, 0, none⟩), .func (.func 14) #[] #[.pointer (some ⟨bs, 0, none⟩)]] w fun e w' =>
      e = .returned (.tuple #[]) ∧ IsOnce w' bo 1 0 ∧ IsRow w' bs 256 ∧ ∀ B, B ≤ bo → B ≤ bs → Below B w w' := by
  have hnot : ∀ (x : Bool) (w : World), (Op.unary .not (.bool x)).run Try.prog w = .ok (.bool (!x)) w := fun _ _ => rfl
  rcases h with ⟨_, h, hr⟩ | ⟨h, hr⟩
  · have hl := run_call_load (P := Try.prog) Try.func19 (by kernel_rfl) (by kernel_rfl) (by kernel_rfl) .u32 (by kernel_rfl) h.cell0
    have H := Go.Lib.hid h; clear h
    have HR := Go.Lib.hid hr; clear hr
    go_enter Try.func13, Try.ntmps13
    go_wp2_with (first | (go_at_call 17; refine (slow_any bo bs hne _ H.out HR.out).mono ?_; rintro e w' ⟨rfl, h2, h3, h4⟩) | (go_at_call 16; go_in))
    go_end0
    exact ⟨rfl, h2, h3, h4⟩
  · have hl := run_call_load (P := Try.prog) Try.func19 (by kernel_rfl) (by kernel_rfl) (by kernel_rfl) .u32 (by kernel_rfl) h.cell0
    have H := Go.Lib.hid h; clear h
    have HR := Go.Lib.hid hr; clear hr
    go_enter Try.func13, Try.ntmps13
    go_wp2
    go_end0
    exact ⟨rfl, H.out, HR.out, fun B _ _ => Below.refl _ _⟩
end Go.Proofs.Ytjicfkdggpinkaa.W
