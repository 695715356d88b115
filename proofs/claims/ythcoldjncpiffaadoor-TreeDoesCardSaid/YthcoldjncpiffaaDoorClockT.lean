/- Stamps and vectors as arguments: what lies in their cells. -/
import Derived.Test.YthcoldjncpiffaaDoorProg
import Derived.Test.YthcoldjncpiffaaDoorChecked
import Derived.Test.YthcoldjncpiffaaDoorClockM
import Derived.Test.YthcoldjncpiffaaDoorCells
import Derived.WalkKit
namespace Go.Proofs.YthcoldjncpiffaaDoor.W
set_option linter.unusedVariables false
open Go.RowKit Go.Proofs Arb Go.WideShapes

def stCells (s : St) : List Value := [.int .i64 s.count, .int .i64 s.who]
def stVal (s : St) : Value := .agg #[.int .i64 s.count, .int .i64 s.who]
def stWf (s : St) : Prop := (Lit.int .i64 s.count).wf = true ∧ (Lit.int .i64 s.who).wf = true

theorem cells_St {w : World} {f : Nat} {cs : List Value} (h : Cells Tryd.prog w f 30 cs) : ∃ s : St, cs = stCells s ∧ stWf s := by
  obtain ⟨hl, hf⟩ := cells_struct Tryd.underlying30 h
  rw [show Tryd.prog.cellsOf 30 = 2 by kernel_rfl] at hl
  match cs, hl with
  | [x0, x1], _ =>
    have hc : Tryd.prog.cellsOf 3 = 1 := by kernel_rfl
    obtain ⟨f0, h0⟩ : ∃ f', Cells Tryd.prog w f' 3 [x0] := by
      obtain ⟨f', h⟩ := hf 0 _ rfl
      exact ⟨f', by simpa [hc] using h⟩
    obtain ⟨f1, h1⟩ : ∃ f', Cells Tryd.prog w f' 3 [x1] := by
      obtain ⟨f', h⟩ := hf 1 _ rfl
      exact ⟨f', by simpa [hc] using h⟩
    obtain ⟨a, ea, wa⟩ := cells_int Tryd.underlying3 h0
    obtain ⟨b, eb, wb⟩ := cells_int Tryd.underlying3 h1
    simp at ea eb
    exact ⟨⟨a, b⟩, by simp [stCells, ea, eb], wa, wb⟩

end Go.Proofs.YthcoldjncpiffaaDoor.W
