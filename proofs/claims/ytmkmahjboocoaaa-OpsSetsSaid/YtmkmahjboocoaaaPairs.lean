/- Maps of pairs of numbers to bools that the call makes: which pairs are in. -/
import Derived.Test.YtmkmahjboocoaaaSets
import Derived.Maps.Keyed
import Derived.WideKeyArr
import Derived.ChangeKeys
namespace Arb
set_option linter.unusedVariables false
open Go Go.RowKit Go.Maps Go.WideMaps

def kb (p : Int × Int) : List UInt8 := keyBytes [.int .i64 p.1, .int .i64 p.2]
def pairOk (p : Int × Int) : Prop := (Lit.int .i64 p.1).wf = true ∧ (Lit.int .i64 p.2).wf = true
/-- Block b is a map in which just the pairs of S are true. -/
def PairIs (w : World) (P : Program) (k e : TypeId) (b n : Nat) (S : List (Int × Int)) : Prop :=
  ∃ D : DataW Unit, w.ownsMap P k (plainElem P e) b n D ∧ IsMap D ∧ ∀ p, pairOk p → D.atKey (.string (kb p)) (.lit (.bool false)) = .lit (.bool (decide (p ∈ S)))

section
variable {P : Program} {k e t i : TypeId} {w w' : World} {b n : Nat} {S : List (Int × Int)}
theorem PairIs.made (w : World) (P : Program) (k e : TypeId) : PairIs (w.alloc (.map #[] 0)) P k e w.heap.size 0 [] :=
  ⟨.map [], World.ownsMap_made w P k _, isMap_empty, fun _ _ => rfl⟩
theorem PairIs.lt (h : PairIs w P k e b n S) : b < w.heap.size := let ⟨_, h1, _⟩ := h; h1.lt
theorem PairIs.below (h : PairIs w P k e b n S) (hb : Below w.heap.size w w') : PairIs w' P k e b n S := by
  obtain ⟨D, h1, h2⟩ := h
  exact ⟨D, h1.kept (row := none) ⟨hb.os, hb.tape, hb.output, hb.size, fun j hj _ => hb.block j hj⟩ (by simp), h2⟩
theorem PairIs.kept (h : PairIs w P k e b n S) {row : Option Nat} (hg : w.grownBy w' row) (hne : some b ≠ row) : PairIs w' P k e b n S := by
  obtain ⟨D, h1, h2⟩ := h
  exact ⟨D, h1.kept hg hne, h2⟩
/-- What such a key reads as. -/
theorem keyOf_pair (A : ArrKey P k i 2) (hi : P.underlying i = some (.int .i64)) (hsz : ∃ m, P.types.size = m + 1) (hf : ∀ x y : Int, (Value.agg #[.int .i64 x, .int .i64 y]).formed P k = true) (p : Int × Int) (hp : pairOk p) :
    keyOf P k (.agg #[.int .i64 p.1, .int .i64 p.2]) = some (.string (kb p)) := by
  have hkt := A.keyType hsz
  unfold keyOf
  rw [A.hu]
  simp only [hkt, hf, Bool.and_self, if_true]
  obtain ⟨m, hm⟩ := hsz
  have hl : P.keyLits (P.types.size + 1) k [.int .i64 p.1, .int .i64 p.2] = some [.int .i64 p.1, .int .i64 p.2] := by
    rw [hm]
    have h1 : ∀ z : Int, (Lit.int .i64 z).wf = true → P.keyLits (m + 1) i [.int .i64 z] = some [.int .i64 z] := fun z hz => by
      simp [Program.keyLits, hi, hz]
    unfold Program.keyLits
    rw [A.hu]
    simp only [A.size, A.one, List.length_cons, List.length_nil, if_true]
    have hr : List.range 2 = [0, 1] := rfl
    rw [hr]
    simp [h1 p.1 hp.1, h1 p.2 hp.2]
  show (P.keyLits (P.types.size + 1) k [.int .i64 p.1, .int .i64 p.2]).map (fun ls => Lit.string (keyBytes ls)) = _
  rw [hl]
  rfl
theorem kb_inj (A : ArrKey P k i 2) (hi : P.underlying i = some (.int .i64)) (hsz : ∃ m, P.types.size = m + 1) (hf : ∀ x y : Int, (Value.agg #[.int .i64 x, .int .i64 y]).formed P k = true) (p q : Int × Int) (hp : pairOk p) (hq : pairOk q) (h : kb p = kb q) : p = q := by
  have h1 := keyOf_pair A hi hsz hf p hp
  have h2 := keyOf_pair A hi hsz hf q hq
  rw [← h] at h2
  have h3 := A.law.inj h1 h2
  obtain ⟨p1, p2⟩ := p
  obtain ⟨q1, q2⟩ := q
  simp at h3
  rw [h3.1, h3.2]
theorem PairIs.look (h : PairIs w P k e b n S) (A : ArrKey P k i 2) (hi : P.underlying i = some (.int .i64)) (hsz : ∃ m, P.types.size = m + 1) (hf : ∀ x y : Int, (Value.agg #[.int .i64 x, .int .i64 y]).formed P k = true)
    (ht : P.underlying t = some (.map k e)) (he : P.underlying e = some .bool) (hz : (zeroValue e).run P w = .ok (.bool false) w) (p : Int × Int) (hp : pairOk p) :
    (Instr.lookup t (.map (some b)) (.agg #[.int .i64 p.1, .int .i64 p.2]) false).run P w = .ok (.bool (decide (p ∈ S))) w := by
  obtain ⟨D, h1, _, h2⟩ := h
  obtain ⟨v, ps, hrun, hv⟩ := h1.lookup (Keyed.of_law A.law) ht hz (plainElem_bool he false) (keyOf_pair A hi hsz hf p hp)
  rw [h2 p hp] at hv
  obtain ⟨x, rfl, hx⟩ := plainElem_bool_inv he hv
  simp only [Prod.mk.injEq, DataW.lit.injEq, Lit.bool.injEq] at hx
  rw [hx.1]
  exact hrun
theorem wpList_pair_add {ops : Array Oper} {rest : List Oper} {o : Oper} {a : Act} {Q : Exit → Act → World → Prop} (h : PairIs w P k e b n S) (A : ArrKey P k i 2) (hi : P.underlying i = some (.int .i64)) (hsz : ∃ m, P.types.size = m + 1) (hf : ∀ x y : Int, (Value.agg #[.int .i64 x, .int .i64 y]).formed P k = true)
    (ht : P.underlying t = some (.map k e)) (he : P.underlying e = some .bool)
    (hg : o.guard = none) (m x v : Operand) (hop : o.op = Op.mapUpdate t m x v) (hm : a.eval m = .map (some b)) (hn : n < maxLen) (p : Int × Int) (hp : pairOk p) (hx : a.eval x = .agg #[.int .i64 p.1, .int .i64 p.2]) (hv : a.eval v = .bool true)
    (hK : ∀ w', PairIs w' P k e b (n + 1) (S ++ [p]) → w.grownBy w' (some b) → wpList P ops Q rest (a.put o.dst undef) w') : wpList P ops Q (o :: rest) a w := by
  obtain ⟨D, h1, hM, h2⟩ := h
  refine wpList_mapUpdate_own w hg m x v t hop k e (Keyed.of_law A.law) ht _ b n D hm h1 hn _ _ _ hx hv (keyOf_pair A hi hsz hf p hp) (.lit (.bool true)) [] (plainElem_bool he true) ?_
  intro w' hown hgr
  refine hK w' ⟨_, hown, ?_, fun q hq => ?_⟩ hgr
  · exact hM.put _ _
  · by_cases e : q = p
    · subst e
      rw [atKey_put_same hM (show WideAt.IsKeyLit (.string (kb q)) from trivial)]
      simp
    · rw [atKey_put_other (by intro h; injection h with h; exact e (kb_inj A hi hsz hf q p hq hp (by first | exact h | exact h.symm))), h2 q hq]
      simp [e]
end
end Arb
