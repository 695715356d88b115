/- Stamps and vectors as arguments: what lies in their cells. -/
import Derived.Test.YtgfkiekcdjnaeaaProg
import Derived.Test.YtgfkiekcdjnaeaaChecked
import Derived.Test.YtgfkiekcdjnaeaaClockM
import Derived.Test.YtgfkiekcdjnaeaaCells
import Derived.WalkKit
namespace Go.Proofs.Ytgfkiekcdjnaeaa.W
set_option linter.unusedVariables false
open Go.RowKit Go.Proofs Arb Go.WideShapes

def stCells (s : St) : List Value := [.int .i64 s.count, .int .i64 s.who]
def stVal (s : St) : Value := .agg #[.int .i64 s.count, .int .i64 s.who]
def stWf (s : St) : Prop := (Lit.int .i64 s.count).wf = true ∧ (Lit.int .i64 s.who).wf = true

theorem cells_St {w : World} {f : Nat} {cs : List Value} (h : Cells Try.prog w f 23 cs) : ∃ s : St, cs = stCells s ∧ stWf s := by
  obtain ⟨hl, hf⟩ := cells_struct Try.underlying23 h
  rw [show Try.prog.cellsOf 23 = 2 by kernel_rfl] at hl
  match cs, hl with
  | [x0, x1], _ =>
    have hc : Try.prog.cellsOf 3 = 1 := by kernel_rfl
    obtain ⟨f0, h0⟩ : ∃ f', Cells Try.prog w f' 3 [x0] := by
      obtain ⟨f', h⟩ := hf 0 _ rfl
      exact ⟨f', by simpa [hc] using h⟩
    obtain ⟨f1, h1⟩ : ∃ f', Cells Try.prog w f' 3 [x1] := by
      obtain ⟨f', h⟩ := hf 1 _ rfl
      exact ⟨f', by simpa [hc] using h⟩
    obtain ⟨a, ea, wa⟩ := cells_int Try.underlying3 h0
    obtain ⟨b, eb, wb⟩ := cells_int Try.underlying3 h1
    simp at ea eb
    exact ⟨⟨a, b⟩, by simp [stCells, ea, eb], wa, wb⟩

theorem cells_Sts {w : World} {f : Nat} {cs : List Value} (h : Cells Try.prog w f 28 cs) :
    ∃ (A : Option Addr) (n c : Nat) (l : List St), cs = [.slice A n c] ∧ c * 16 ≤ 140737488351232 ∧ Sl w 2 A n c (l.map stCells) ∧ (∀ s ∈ l, stWf s) ∧ l.length = n := by
  obtain ⟨A, n, c, rows, rfl, hb, hr, hs⟩ := cells_slice Try.underlying28 (by rw [show Try.prog.cellsOf 23 = 2 by kernel_rfl]; omega) h
  rw [show Try.prog.bytesOf 23 = 16 by kernel_rfl] at hb
  rw [show Try.prog.cellsOf 23 = 2 by kernel_rfl] at hs
  obtain ⟨l, h1, h2, h3⟩ := sl_typed stCells (q := stWf) hs fun r hm => by
    obtain ⟨f', hf'⟩ := hr r hm
    exact cells_St hf'
  exact ⟨A, n, c, l, rfl, hb, h1, h2, h3⟩
end Go.Proofs.Ytgfkiekcdjnaeaa.W
