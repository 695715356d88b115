/- Maps of texts to bools that the call makes: which texts are in. -/
import Derived.Test.YtkohcibhefejfaaDoorOwn
import Derived.Maps.Own
import Derived.Maps.Views
import Derived.StringKeys
namespace Arb
set_option maxRecDepth 20000
set_option linter.unusedVariables false
open Go Go.RowKit Go.Maps Go.WideMaps

theorem plainElem_bool_inv {H : Type} {P : Program} {e : TypeId} (he : P.underlying e = some .bool) {v : Value} {z : DataW H × List MemPlace} (h : plainElem P e v = some z) : ∃ x, v = .bool x ∧ z = (.lit (.bool x), []) := by
  unfold plainElem at h
  rw [he] at h
  split at h
  · rename_i x _
    cases h
    exact ⟨_, rfl, rfl⟩
  · rename_i h1; cases h1
  · rename_i h1; cases h1
  · cases h

/-- Block b is a map in which just the texts of S are true. -/
def SetIs (w : World) (P : Program) (k e : TypeId) (b n : Nat) (S : List (List UInt8)) : Prop :=
  ∃ D : DataW Unit, w.ownsMap P k (plainElem P e) b n D ∧ IsMap D ∧ ∀ l, D.atKey (.string l) (.lit (.bool false)) = .lit (.bool (decide (l ∈ S)))

section
variable {P : Program} {k e t : TypeId} {w w' : World} {b n : Nat} {S : List (List UInt8)}
theorem SetIs.made (w : World) (P : Program) (k e : TypeId) : SetIs (w.alloc (.map #[] 0)) P k e w.heap.size 0 [] :=
  ⟨.map [], World.ownsMap_made w P k _, isMap_empty, fun _ => rfl⟩
theorem SetIs.lt (h : SetIs w P k e b n S) : b < w.heap.size := let ⟨_, h1, _⟩ := h; h1.lt
theorem SetIs.below (h : SetIs w P k e b n S) (hb : Below w.heap.size w w') : SetIs w' P k e b n S := by
  obtain ⟨D, h1, h2⟩ := h
  exact ⟨D, h1.kept (row := none) ⟨hb.os, hb.tape, hb.output, hb.size, fun j hj _ => hb.block j hj⟩ (by simp), h2⟩
theorem SetIs.kept (h : SetIs w P k e b n S) {row : Option Nat} (hg : w.grownBy w' row) (hne : some b ≠ row) : SetIs w' P k e b n S := by
  obtain ⟨D, h1, h2⟩ := h
  exact ⟨D, h1.kept hg hne, h2⟩
theorem SetIs.look (h : SetIs w P k e b n S) (hk : P.underlying k = some .string) (ht : P.underlying t = some (.map k e)) (he : P.underlying e = some .bool) (hz : (zeroValue e).run P w = .ok (.bool false) w) (l : List UInt8) (hl : l.length ≤ maxLen) :
    (Instr.lookup t (.map (some b)) (.string (BS l)) false).run P w = .ok (.bool (decide (l ∈ S))) w := by
  obtain ⟨D, h1, _, h2⟩ := h
  obtain ⟨v, ps, hrun, hv⟩ := h1.lookup (string_keyed hk) ht hz (plainElem_bool he false) (keyOf_string_mk hk (s := BS l) (by rw [BS_size]; exact hl))
  rw [BS_list, h2 l] at hv
  obtain ⟨x, rfl, hx⟩ := plainElem_bool_inv he hv
  simp only [Prod.mk.injEq, DataW.lit.injEq, Lit.bool.injEq] at hx
  rw [hx.1]
  exact hrun
theorem wpList_set_add {ops : Array Oper} {rest : List Oper} {o : Oper} {a : Act} {Q : Exit → Act → World → Prop} (h : SetIs w P k e b n S) (hk : P.underlying k = some .string) (ht : P.underlying t = some (.map k e)) (he : P.underlying e = some .bool)
    (hg : o.guard = none) (m x v : Operand) (hop : o.op = Op.mapUpdate t m x v) (hm : a.eval m = .map (some b)) (hn : n < maxLen) (l : List UInt8) (hl : l.length ≤ maxLen) (hx : a.eval x = .string (BS l)) (hv : a.eval v = .bool true)
    (hK : ∀ w', SetIs w' P k e b (n + 1) (S ++ [l]) → w.grownBy w' (some b) → wpList P ops Q rest (a.put o.dst undef) w') : wpList P ops Q (o :: rest) a w := by
  obtain ⟨D, h1, hM, h2⟩ := h
  refine wpList_mapUpdate_own w hg m x v t hop k e (string_keyed hk) ht _ b n D hm h1 hn _ _ _ hx hv (keyOf_string_mk hk (s := BS l) (by rw [BS_size]; exact hl)) (.lit (.bool true)) [] (plainElem_bool he true) ?_
  intro w' hown hgr
  refine hK w' ⟨_, hown, ?_, fun q => ?_⟩ hgr
  · exact hM.put _ _
  · rw [BS_list]
    by_cases e : q = l
    · subst e
      rw [atKey_put_same hM (show WideAt.IsKeyLit (.string q) from trivial)]
      simp
    · rw [atKey_put_other (by intro h; cases h; exact e rfl), h2 q]
      simp [e]
theorem below_grown {base : Nat} (hg : w.grownBy w' (some b)) (hb : base ≤ b) (hs : base ≤ w.heap.size) : Below base w w' :=
  ⟨hg.os, hg.tape, hg.output, hg.size, fun j hj => hg.block j (by omega) (by intro h; cases h; omega)⟩
end
end Arb
