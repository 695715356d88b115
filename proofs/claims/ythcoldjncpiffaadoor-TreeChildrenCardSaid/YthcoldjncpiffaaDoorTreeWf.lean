/- What trees of whole operations hold is whole. -/
import Derived.Test.YthcoldjncpiffaaDoorTreeT
import Derived.Test.YthcoldjncpiffaaDoorTreeP
namespace Go.Proofs.YthcoldjncpiffaaDoor.W
set_option linter.unusedVariables false
open Go.RowKit Go.Proofs Arb

theorem trash_wf : stWf St.trash := ⟨rfl, rfl⟩
theorem doOf_wf {l : List Nod} {x : Opn} (h : ∀ n ∈ l, ndWf n) (hx : opWf x) : ∀ n ∈ doOf l x, ndWf n := by
  refine doOf_all h ⟨hx.2.2.2.1, ?_, hx.2.2.2.2.2.1, hx.2.2.2.2.2.2⟩ (fun n hn => ?_)
  · show stWf (if mayOf l x.parent = true then x.parent else St.trash)
    split
    · exact hx.2.2.2.2.1
    · exact trash_wf
  · have h0 := h n hn
    unfold turnOf
    split
    · split
      · exact h0
      · exact ⟨h0.1, hx.2.2.2.2.1, hx.2.2.2.2.2.1, h0.2.2.2⟩
    · split
      · split
        · exact h0
        · exact ⟨h0.1, h0.2.1, h0.2.2.1, hx.2.2.2.2.2.2⟩
      · split
        · exact ⟨h0.1, trash_wf, h0.2.2.1, h0.2.2.2⟩
        · exact h0
theorem foldOf_wf {l : List Opn} (h : ∀ x ∈ l, opWf x) : ∀ n ∈ foldOf l, ndWf n := by
  have key : ∀ (l : List Opn) (ns : List Nod), (∀ x ∈ l, opWf x) → (∀ n ∈ ns, ndWf n) → ∀ n ∈ l.foldl doOf ns, ndWf n := by
    intro l
    induction l with
    | nil => intro ns _ h2; exact h2
    | cons x l ih =>
      intro ns h1 h2
      rw [List.foldl_cons]
      exact ih _ (fun y hy => h1 y (List.mem_cons_of_mem _ hy)) (doOf_wf h2 (h1 x (List.mem_cons_self ..)))
  exact key l [] h (by simp)
end Go.Proofs.YthcoldjncpiffaaDoor.W
