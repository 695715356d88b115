/- Rows of the call's own: their form, what lies there already, other blocks. -/
import Derived.Test.YtkohcibhefejfaaDoorOwn
import Derived.Laws.Rows
import Derived.Laws.Tables
import Derived.Laws.CopyOwn
namespace Arb
set_option maxRecDepth 20000
open Go Go.RowKit
set_option linter.unusedVariables false

/-- A value laid where it lies already. -/
theorem setCell_same {w : World} {g j : Nat} {cur : Array Value} {e : TypeId} {fz : Nat × Nat} {u : Value} (h : w.heap[g]? = some (.cells cur e fz)) (hj : cur[j]? = some u) : w.setCell ⟨g, j, none⟩ u = w := by
  rw [setCell_eq_setRow w g j cur e fz u h]
  have : cur.setIfInBounds j u = cur := by
    apply Array.ext_getElem?
    intro i
    rw [Array.getElem?_setIfInBounds]
    by_cases hij : j = i
    · subst hij
      rw [if_pos rfl]
      split
      · exact hj.symm
      · rename_i hn
        rw [Array.getElem?_eq_none (by omega)]
    · rw [if_neg hij]
  rw [this]
  exact setRow_self w g cur e fz h
theorem Row.same {w : World} {base g n cap size j : Nat} {e : TypeId} {xs : List Value} {u : Value} (h : Row w base e size (.slice (some ⟨g, 0, none⟩) n cap) n xs) (hj : xs[j]? = some u) : w.setCell ⟨g, j, none⟩ u = w := by
  rcases h.2 with ⟨h1, _⟩ | ⟨g', cap', cur, fz, h1, hb, hg, hfz, hnc, hcm, hcs, ht⟩
  · cases h1
  · cases h1
    refine setCell_same hg ?_
    rw [← ht, List.getElem?_take] at hj
    split at hj
    · simpa using hj
    · cases hj

theorem rd_further {w w' : World} {size m : Nat} {v : Value} {xs : List Value} (h : Rd w size v m xs) (hb : Below w.heap.size w w') : Rd w' size v m xs := by
  refine ⟨h.1, ?_⟩
  rcases h.2 with h2 | ⟨ad, c, rfl, hc⟩
  · exact .inl h2
  · exact .inr ⟨ad, c, rfl, fun j u hu => (hb.cell (World.block_lt_of_cell? w _ (hc j u hu))).trans (hc j u hu)⟩

def lenOfV : Value → Nat
  | .slice _ n _ => n
  | _ => 0
theorem row_form {w : World} {base : Nat} {e : TypeId} {size : Nat} {v : Value} {n : Nat} {xs : List Value} (h : Row w base e size v n xs) : ∃ A c, v = .slice A n c := by
  rcases h.2 with ⟨rfl, rfl⟩ | ⟨g, cap, cur, fz, rfl, _⟩
  · exact ⟨_, _, rfl⟩
  · exact ⟨_, _, rfl⟩
/-- A cell of another block is laid. -/
theorem Row.other {w : World} {base : Nat} {e : TypeId} {size : Nat} {v : Value} {n : Nat} {xs : List Value} (h : Row w base e size v n xs) {b : Nat} (hb : b < base) (j : Nat) (u : Value) : Row (w.setCell ⟨b, j, none⟩ u) base e size v n xs := by
  refine ⟨h.1, ?_⟩
  rcases h.2 with hn | ⟨g, cap, cur, fz, rfl, hg, hgg, rest⟩
  · exact .inl hn
  · exact .inr ⟨g, cap, cur, fz, rfl, hg, (Below.heap_setCell _ _ _ g (by show g ≠ b; omega)).trans hgg, rest⟩
theorem Row.otherRow {w : World} {base : Nat} {e : TypeId} {size : Nat} {v : Value} {n : Nat} {xs : List Value} (h : Row w base e size v n xs) {b : Nat} (hb : b < base) (cs : Array Value) : Row (w.setRow b cs) base e size v n xs := by
  refine ⟨h.1, ?_⟩
  rcases h.2 with hn | ⟨g, cap, cur, fz, rfl, hg, hgg, rest⟩
  · exact .inl hn
  · exact .inr ⟨g, cap, cur, fz, rfl, hg, (setRow_other w b g cs (by omega)).trans hgg, rest⟩
end Arb
