/- More mathematics of trees: a chain step by step, folds step by step. -/
import Derived.Test.YthcoldjncpiffaaDoorTreeN
namespace Arb
set_option linter.unusedVariables false

theorem chainGo_none {l : List Nod} {s : St} (h : findOf l s = none) (k : Nat) (out : List St) : chainGo l (k + 1) out s = if out = [] then [] else out ++ [s] := by
  rw [chainGo, h]
theorem chainGo_again {l : List Nod} {s : St} {n : Nod} (h : findOf l s = some n) {out : List St} (hs : s ∈ out) (k : Nat) : chainGo l (k + 1) out s = out := by
  rw [chainGo, h]
  simp only [hs, if_true]
theorem chainGo_on {l : List Nod} {s : St} {n : Nod} (h : findOf l s = some n) {out : List St} (hs : s ∉ out) (k : Nat) : chainGo l (k + 1) out s = chainGo l k (out ++ [s]) n.parent := by
  rw [chainGo, h]
  simp only [hs, if_false]
/-- How many nodes were not gone through yet. -/
def stillOf (l : List Nod) (out : List St) : Nat := (l.filter fun y => decide (y.id ∉ out)).length
theorem stillOf_nil (l : List Nod) : stillOf l [] = l.length := by
  unfold stillOf
  simp
theorem stillOf_on {l : List Nod} {s : St} {n : Nod} (h : findOf l s = some n) {out : List St} (hs : s ∉ out) : stillOf l (out ++ [s]) < stillOf l out := by
  obtain ⟨h1, rfl⟩ := findOf_some h
  exact left_lt h1 hs
theorem chainGo_length (l : List Nod) : ∀ (k : Nat) (out : List St) (s : St), out.length + stillOf l out ≤ l.length → (chainGo l k out s).length ≤ l.length + 1
  | 0, out, s, h => by rw [chainGo]; omega
  | k + 1, out, s, h => by
    cases hf : findOf l s with
    | none =>
      rw [chainGo_none hf]
      split
      · simp
      · simp; omega
    | some n =>
      by_cases hs : s ∈ out
      · rw [chainGo_again hf hs]; omega
      · rw [chainGo_on hf hs]
        have := stillOf_on hf hs
        exact chainGo_length l k _ _ (by simp; omega)
theorem chainOf_length (l : List Nod) (s : St) : (chainOf l s).length ≤ l.length + 1 := chainGo_length l _ [] s (by rw [stillOf_nil]; simp)
theorem foldOf_take (l : List Opn) (k : Nat) (x : Opn) (h : l[k]? = some x) : foldOf (l.take (k + 1)) = doOf (foldOf (l.take k)) x := by
  unfold foldOf
  rw [List.take_add_one, h, List.foldl_append]
  rfl
theorem foldOf_length (l : List Opn) : (foldOf l).length ≤ l.length := by
  have key : ∀ (l : List Opn) (ns : List Nod), (l.foldl doOf ns).length ≤ ns.length + l.length := by
    intro l
    induction l with
    | nil => intro ns; exact Nat.le_refl _
    | cons x l ih =>
      intro ns
      rw [List.foldl_cons]
      have h1 := ih (doOf ns x)
      have h2 := doOf_length ns x
      rw [List.length_cons]
      omega
  simpa [foldOf] using key l []
/-- Whatever holds of the nodes that are there and of the one that is made. -/
theorem doOf_all {p : Nod → Prop} {l : List Nod} {x : Opn} (h : ∀ n ∈ l, p n) (hm : p (madeOf l x)) (ht : ∀ n ∈ l, p (turnOf l x n)) : ∀ n ∈ doOf l x, p n := by
  unfold doOf
  cases hf : findOf l x.node with
  | none =>
    show ∀ n ∈ (if x.kind = 1 then insNod l (madeOf l x) else l), p n
    split
    · intro n hn
      rcases (insNod_mem l _ n).1 hn with rfl | hn
      · exact hm
      · exact h n hn
    · exact h
  | some m =>
    show ∀ n ∈ (if x.kind = 1 then l else l.set (atOf l x.node) (turnOf l x m)), p n
    split
    · exact h
    · intro n hn
      rcases List.mem_or_eq_of_mem_set hn with h1 | rfl
      · exact h n h1
      · exact ht m (findOf_some hf).1
theorem insNod_at (l : List Nod) (n : Nod) (k : Nat) (hk : k ≤ l.length) (h1 : ∀ (j : Nat) (y : Nod), j < k → l[j]? = some y → n.id.less y.id = false) (h2 : ∀ y : Nod, l[k]? = some y → n.id.less y.id = true) : insNod l n = l.take k ++ n :: l.drop k := by
  have key : ∀ (l : List Nod) (k : Nat), k ≤ l.length → (∀ (j : Nat) (y : Nod), j < k → l[j]? = some y → n.id.less y.id = false) → (∀ y : Nod, l[k]? = some y → n.id.less y.id = true) →
      l.takeWhile (fun y => !n.id.less y.id) = l.take k ∧ l.dropWhile (fun y => !n.id.less y.id) = l.drop k := by
    intro l
    induction l with
    | nil => intro k _ _ _; simp
    | cons a l ih =>
      intro k hk h1 h2
      cases k with
      | zero =>
        have := h2 a rfl
        simp [this]
      | succ k =>
        have ha := h1 0 a (by omega) rfl
        obtain ⟨i1, i2⟩ := ih k (by simpa using hk) (fun j y hj hy => h1 (j + 1) y (by omega) (by simpa using hy)) (fun y hy => h2 y (by simpa using hy))
        simp [ha, i1, i2]
  obtain ⟨a, b⟩ := key l k hk h1 h2
  unfold insNod
  rw [a, b]
end Arb
