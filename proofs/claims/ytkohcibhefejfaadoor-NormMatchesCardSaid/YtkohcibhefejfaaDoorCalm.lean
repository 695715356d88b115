/- Regions that draw their order, whose operations read and whose calls make memory: one walk in the order of the text. -/
import Derived.Test.YtkohcibhefejfaaDoorOwn
import Derived.Deep.QuietTactic
import Derived.BigQuiet
namespace Arb
set_option maxRecDepth 20000
set_option linter.unusedVariables false
open Go Go.RowKit

/-- A world in which nothing below 'base' has turned since W. -/
def BW (base : Nat) (W : World) : Type := { w' : World // Below base W w' }
def BW.w {base : Nat} {W : World} (x : BW base W) : World := x.1
theorem BW.ne (base : Nat) (W : World) : Nonempty (BW base W) := ⟨⟨W, Below.refl base W⟩⟩
theorem BW.cell {base : Nat} {W : World} (x : BW base W) {a : Addr} {u : Value} (h : W.cell? a = some u) (hl : a.block < base) : x.w.cell? a = some u := (x.2.cell hl).trans h
theorem bw_of {P : Program} {f : FuncId} {args : Array Value} {base : Nat} {W : World} {x : BW base W} {v : Value} (hbase : base ≤ W.heap.size)
    (h : Calls P f args x.w fun e w' => e = .returned v ∧ Below x.w.heap.size x.w w') : Calls P f args x.w fun e w'' => e = .returned v ∧ ∃ y : BW base W, w'' = y.w :=
  h.mono fun _ w' ⟨he, hb⟩ => ⟨he, ⟨w', x.2.trans (hb.mono (Nat.le_trans hbase x.2.size))⟩, rfl⟩
theorem bw_same {P : Program} {f : FuncId} {args : Array Value} {base : Nat} {W : World} {x : BW base W} {v : Value}
    (h : Calls P f args x.w fun e w' => e = .returned v ∧ w' = x.w) : Calls P f args x.w fun e w'' => e = .returned v ∧ ∃ y : BW base W, w'' = y.w :=
  h.mono fun _ _ ⟨he, hb⟩ => ⟨he, x, hb⟩
theorem below_drewN {B : Nat} {a w : World} (h : Below B a w) (n : Nat) : Below B a (w.drewN n) := ⟨h.os, h.tape, h.output, h.size, h.block⟩
theorem wp_region_calm {P : Program} {id : Nat} {Q : Exit → Act → World → Prop} {a : Act} {w : World} {l : List Oper} (base : Nat) (W : World) (hw : Below base W w)
    (hm : P.follows .mixedOrders = true) (hB : Region.lexB .any l.toArray = true)
    (h : wpQuiet P l.toArray (fun w' => ∃ x : BW base W, w' = x.w) (fun a' => ∀ w', (∃ x : BW base W, w' = x.w) → Q .normal a' w') l a) : (Code.region id l.toArray true).wp P Q a w :=
  wp_region_quiet (C := fun w' => ∃ x : BW base W, w' = x.w) hm hB ⟨⟨{ w with drawn := w.drawn + 1 }, ⟨hw.os, hw.tape, hw.output, hw.size, hw.block⟩⟩, rfl⟩ (by simpa using h)
end Arb
