/- Maps of stamps to nothing that the call makes: which stamps are in. -/
import Derived.Test.YtjeijolblcodpaaDoorMg6
import Derived.Maps.Own
import Derived.Maps.OwnSet
import Derived.Maps.Views
import Derived.Maps.Keyed
import Derived.DeepKeys3
namespace Go.Proofs.YtjeijolblcodpaaDoor.W
set_option maxRecDepth 20000
set_option linter.unusedVariables false
open Go.RowKit Go.Proofs Arb Go.Maps Go.WideMaps

/-- How an element without cells reads. -/
def rNone (v : Value) : Option (DataW Unit × List MemPlace) := match v with | .agg ⟨[]⟩ => some (.agg [], []) | _ => none
theorem rNone_inv {v : Value} {z : DataW Unit × List MemPlace} (h : rNone v = some z) : v = .agg #[] := by
  unfold rNone at h
  split at h
  · rfl
  · cases h

/-- Block b is a map in which just the stamps of S are. -/
def StIs (w : World) (b n : Nat) (S : List St) : Prop :=
  ∃ D : DataW Unit, w.ownsMap Tryd.prog 33 rNone b n D ∧ IsMap D ∧ ∀ p, stWf p → Maps.has D (.string (kst p)) = decide (p ∈ S)
theorem StIs.made (w : World) : StIs (w.alloc (.map #[] 0)) w.heap.size 0 [] :=
  ⟨.map [], World.ownsMap_made w _ _ _, isMap_empty, fun _ _ => rfl⟩
theorem StIs.lt {w : World} {b n : Nat} {S : List St} (h : StIs w b n S) : b < w.heap.size := let ⟨_, h1, _⟩ := h; h1.lt
theorem StIs.at {w w' : World} {b n : Nat} {S : List St} (h : StIs w b n S) (he : w'.heap[b]? = w.heap[b]?) : StIs w' b n S := by
  obtain ⟨D, ⟨es, clock, hb, h1⟩, h2⟩ := h
  exact ⟨D, ⟨es, clock, he.trans hb, h1⟩, h2⟩
theorem StIs.below {w w' : World} {b n : Nat} {S : List St} (h : StIs w b n S) (hb : Below w.heap.size w w') : StIs w' b n S := h.at (hb.block _ h.lt)
theorem StIs.look {w : World} {b n : Nat} {S : List St} (h : StIs w b n S) (p : St) (hp : stWf p) :
    (Instr.lookup 117 (.map (some b)) (.agg #[.int .i64 p.count, .int .i64 p.who]) true).run Tryd.prog w = .ok (.tuple #[.agg #[], .bool (decide (p ∈ S))]) w := by
  obtain ⟨D, h1, _, h2⟩ := h
  obtain ⟨v, ps, hrun, hv⟩ := h1.look_ok (Keyed.of_law law_st) Tryd.underlying117 (Tryd.zeroValue116 w) (show rNone _ = some (.agg [], []) from rfl) (keyOf_st p hp)
  rw [h2 p hp] at hrun
  rw [rNone_inv hv] at hrun
  exact hrun

theorem wpList_st_put {w : World} {b n : Nat} {S : List St} {ops : Array Oper} {rest : List Oper} {o : Oper} {a : Act} {Q : Exit → Act → World → Prop} (h : StIs w b n S)
    (hg : o.guard = none) (m x v : Operand) (hop : o.op = Op.mapUpdate 117 m x v ∨ o.op = Op.insert 117 m x v) (hm : a.eval m = .map (some b)) (hn : n < maxLen) (p : St) (hp : stWf p) (hx : a.eval x = .agg #[.int .i64 p.count, .int .i64 p.who]) (hv : a.eval v = .agg #[])
    (hK : ∀ w', StIs w' b (n + 1) (S ++ [p]) → w.grownBy w' (some b) → wpList Tryd.prog ops Q rest (a.put o.dst undef) w') : wpList Tryd.prog ops Q (o :: rest) a w := by
  obtain ⟨D, h1, hM, h2⟩ := h
  refine wpList_plain hg fun K' hK' => ?_
  obtain ⟨w', hrun, hown, hgr⟩ := h1.update (d := .agg []) (ps := []) (Keyed.of_law law_st) Tryd.underlying117 hn (keyOf_st p hp) (val := .agg #[]) rfl
  have hfin := hK' _ _ (hK w' ⟨_, hown, hM.put _ _, fun q hq => by
    by_cases e : q = p
    · subst e
      rw [has_put_same hM (show WideAt.IsKeyLit (.string (kst q)) from trivial)]
      simp
    · rw [has_put_other (by intro h; injection h with h; exact e (kst_inj q p hq hp h)), h2 q hq]
      simp [e]⟩ hgr)
  unfold Oper.wp
  rcases hop with hop | hop
  · simp [execOp, hop, hm, hx, hv, hrun, Result.andThen]
    exact hfin
  · simp [execOp, hop, hm, hx, hv, hrun, Result.andThen]
    exact hfin
end Go.Proofs.YtjeijolblcodpaaDoor.W
