/- Maps of texts to ints that the call makes: which texts are in, and which number each has. -/
import Derived.Test.YtkohcibhefejfaaDoorSets
import Derived.Maps.OwnSet
namespace Arb
set_option maxRecDepth 20000
set_option linter.unusedVariables false
open Go Go.RowKit Go.Maps Go.WideMaps

def setVal (val : List UInt8 → Int) (l : List UInt8) (z : Int) (q : List UInt8) : Int := if q = l then z else val q
theorem setVal_same (val : List UInt8 → Int) (l : List UInt8) (z : Int) : setVal val l z l = z := if_pos rfl
theorem setVal_other {val : List UInt8 → Int} {l q : List UInt8} {z : Int} (h : q ≠ l) : setVal val l z q = val q := if_neg h
/-- Block b is a map in which just the texts of S stand; each text's number is 'val' of it. -/
def NumsIs (w : World) (P : Program) (k e : TypeId) (b n : Nat) (S : List (List UInt8)) (val : List UInt8 → Int) : Prop :=
  ∃ D : DataW Unit, w.ownsMap P k (plainElem P e) b n D ∧ IsMap D ∧ (∀ l, D.atKey (.string l) (.lit (.int .i64 0)) = .lit (.int .i64 (val l))) ∧ ∀ l, Maps.has D (.string l) = decide (l ∈ S)

section
variable {P : Program} {k e t : TypeId} {w w' : World} {b n : Nat} {S : List (List UInt8)} {val : List UInt8 → Int}
theorem NumsIs.made (w : World) (P : Program) (k e : TypeId) : NumsIs (w.alloc (.map #[] 0)) P k e w.heap.size 0 [] (fun _ => 0) :=
  ⟨.map [], World.ownsMap_made w P k _, isMap_empty, fun _ => rfl, fun _ => rfl⟩
theorem NumsIs.lt (h : NumsIs w P k e b n S val) : b < w.heap.size := let ⟨_, h1, _⟩ := h; h1.lt
theorem NumsIs.below (h : NumsIs w P k e b n S val) (hb : Below w.heap.size w w') : NumsIs w' P k e b n S val := by
  obtain ⟨D, h1, h2⟩ := h
  exact ⟨D, h1.kept (row := none) ⟨hb.os, hb.tape, hb.output, hb.size, fun j hj _ => hb.block j hj⟩ (by simp), h2⟩
theorem NumsIs.kept (h : NumsIs w P k e b n S val) {row : Option Nat} (hg : w.grownBy w' row) (hne : some b ≠ row) : NumsIs w' P k e b n S val := by
  obtain ⟨D, h1, h2⟩ := h
  exact ⟨D, h1.kept hg hne, h2⟩
theorem NumsIs.mono (h : NumsIs w P k e b n S val) {m : Nat} (hm : n ≤ m) : NumsIs w P k e b m S val := by
  obtain ⟨D, h1, h2⟩ := h
  exact ⟨D, h1.mono hm, h2⟩
theorem NumsIs.look (h : NumsIs w P k e b n S val) (hk : P.underlying k = some .string) (ht : P.underlying t = some (.map k e)) (he : P.underlying e = some (.int .i64)) (hz : (zeroValue e).run P w = .ok (.int .i64 0) w) (l : List UInt8) (hl : l.length ≤ maxLen) :
    (Instr.lookup t (.map (some b)) (.string (BS l)) false).run P w = .ok (.int .i64 (val l)) w := by
  obtain ⟨D, h1, _, h2, _⟩ := h
  obtain ⟨c, hrun, hat, _⟩ := h1.lookup_int (string_keyed hk) ht he hz (keyOf_string_mk hk (s := BS l) (by rw [BS_size]; exact hl))
  rw [BS_list, h2 l] at hat
  simp only [DataW.lit.injEq, Lit.int.injEq, true_and] at hat
  rw [hat]
  exact hrun
theorem NumsIs.look_ok (h : NumsIs w P k e b n S val) (hk : P.underlying k = some .string) (ht : P.underlying t = some (.map k e)) (he : P.underlying e = some (.int .i64)) (hz : (zeroValue e).run P w = .ok (.int .i64 0) w) (l : List UInt8) (hl : l.length ≤ maxLen) :
    (Instr.lookup t (.map (some b)) (.string (BS l)) true).run P w = .ok (.tuple #[.int .i64 (val l), .bool (decide (l ∈ S))]) w := by
  obtain ⟨D, h1, _, h2, h3⟩ := h
  obtain ⟨v, ps, hrun, hv⟩ := h1.look_ok (string_keyed hk) ht hz (plainElem_int he (by decide)) (keyOf_string_mk hk (s := BS l) (by rw [BS_size]; exact hl))
  rw [BS_list, h2 l] at hv
  rw [BS_list, h3 l] at hrun
  obtain ⟨c, rfl, hc, _⟩ := plainElem_int_inv he hv
  simp only [Prod.mk.injEq, DataW.lit.injEq, Lit.int.injEq, true_and] at hc
  rw [hc.1]
  exact hrun
theorem wpList_nums_put {ops : Array Oper} {rest : List Oper} {o : Oper} {a : Act} {Q : Exit → Act → World → Prop} (h : NumsIs w P k e b n S val) (hk : P.underlying k = some .string) (ht : P.underlying t = some (.map k e)) (he : P.underlying e = some (.int .i64))
    (hg : o.guard = none) (m x v : Operand) (hop : o.op = Op.mapUpdate t m x v) (hm : a.eval m = .map (some b)) (hn : n < maxLen) (l : List UInt8) (hl : l.length ≤ maxLen) (z : Int) (hz : (Lit.int .i64 z).wf = true) (hx : a.eval x = .string (BS l)) (hv : a.eval v = .int .i64 z)
    (hK : ∀ w', NumsIs w' P k e b (n + 1) (S ++ [l]) (setVal val l z) → w.grownBy w' (some b) → wpList P ops Q rest (a.put o.dst undef) w') : wpList P ops Q (o :: rest) a w := by
  obtain ⟨D, h1, hM, h2, h3⟩ := h
  refine wpList_mapUpdate_own w hg m x v t hop k e (string_keyed hk) ht _ b n D hm h1 hn _ _ _ hx hv (keyOf_string_mk hk (s := BS l) (by rw [BS_size]; exact hl)) (.lit (.int .i64 z)) [] (plainElem_int he hz) ?_
  intro w' hown hgr
  refine hK w' ⟨_, hown, ?_, fun q => ?_, fun q => ?_⟩ hgr
  · exact hM.put _ _
  · rw [BS_list]
    by_cases e : q = l
    · subst e
      rw [atKey_put_same hM (show WideAt.IsKeyLit (.string q) from trivial), setVal_same]
    · rw [atKey_put_other (by intro h; cases h; exact e rfl), h2 q, setVal_other e]
  · rw [BS_list]
    by_cases e : q = l
    · subst e
      rw [has_put_same hM (show WideAt.IsKeyLit (.string q) from trivial)]
      simp
    · rw [has_put_other (by intro h; cases h; exact e rfl), h3 q]
      simp [e]
end
end Arb
