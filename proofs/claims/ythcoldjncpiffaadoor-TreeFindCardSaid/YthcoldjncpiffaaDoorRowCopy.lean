/- copy of elements of whatever size; cells laid one behind the other in a block. -/
import Derived.Test.YthcoldjncpiffaaDoorMore
import Derived.Laws.IdiomCopy
namespace Arb
open Go Go.RowKit
set_option linter.unusedVariables false

theorem run_copy_sized {P : Program} (w : World) (dT sT ty elem : TypeId) (size k b o dLen dCap : Nat) (a : Addr) (sLen sCap : Nat) (cs : List Value)
    (hu : P.underlying dT = some (.slice elem)) (hs : (P.info? elem).map (·.size) = some size) (hk : Nat.min sLen dLen = k) (hn : cs.length = k * size)
    (hsrc : ∀ j v, cs[j]? = some v → w.cell? (a.add j) = some v) (hc : ∀ j, j < cs.length → (w.cell? ⟨b, o + j, none⟩).isSome = true) (hf : ∀ j, j < cs.length → w.frozen? ⟨b, o + j, none⟩ = false) (h1 : ∀ v ∈ cs, v.oneCell' = true) :
    (Builtin.copy_ #[dT, sT] ty #[.slice (some ⟨b, o, none⟩) dLen dCap, .slice (some a) sLen sCap]).run P w = .ok (goInt k) (w.setCells b o cs) := by
  have hl := run_firstCells_some (P := P) (w := w) size k a sLen sCap cs hn hsrc
  have hst := run_storeCells_cells (P := P) b o cs 0 w (by simpa using hc) (by simpa using hf) h1
  cases hq : P.info? elem with
  | none => simp [hq] at hs
  | some i =>
    have hi : i.size = size := by simpa [hq] using hs
    simp [Builtin.copy_, run_underlying hu, Builtin.lenOf, Go.sizeOf, typeInfo, hq, hi, hk, hl, hst]

/-- Values laid in an array from a place on. -/
def layAt : Array Value → Nat → List Value → Array Value
  | cur, _, [] => cur
  | cur, o, v :: r => layAt (cur.setIfInBounds o v) (o + 1) r
theorem layAt_size : ∀ (vs : List Value) (cur : Array Value) (o : Nat), (layAt cur o vs).size = cur.size
  | [], _, _ => rfl
  | v :: r, cur, o => by rw [layAt, layAt_size r]; simp
theorem layAt_get : ∀ (vs : List Value) (cur : Array Value) (o j : Nat), (layAt cur o vs)[j]? = if o ≤ j ∧ j < o + vs.length ∧ j < cur.size then vs[j - o]? else cur[j]?
  | [], cur, o, j => by rw [layAt, if_neg (by simp; omega)]
  | v :: r, cur, o, j => by
    rw [layAt, layAt_get r, Array.size_setIfInBounds, Array.getElem?_setIfInBounds, List.length_cons]
    by_cases h1 : o = j
    · subst h1
      rw [if_neg (by omega), if_pos rfl]
      by_cases h2 : o < cur.size
      · rw [if_pos h2, if_pos (by omega), Nat.sub_self]; rfl
      · rw [if_neg h2, if_neg (by omega), Array.getElem?_eq_none (by omega)]
    · rw [if_neg h1]
      by_cases h2 : o + 1 ≤ j ∧ j < o + 1 + r.length ∧ j < cur.size
      · rw [if_pos h2, if_pos (by omega), show j - o = (j - (o + 1)) + 1 by omega]
        rfl
      · rw [if_neg h2, if_neg (by omega)]
theorem heap_setCells_same {g : Nat} {e : TypeId} {fz : Nat × Nat} : ∀ (vs : List Value) (o : Nat) (w : World) (cur : Array Value), w.heap[g]? = some (.cells cur e fz) → (w.setCells g o vs).heap[g]? = some (.cells (layAt cur o vs) e fz)
  | [], _, _, _, h => h
  | v :: r, o, w, cur, h => by
    rw [World.setCells, layAt]
    refine heap_setCells_same r (o + 1) _ _ ?_
    rw [setCell_eq_setRow w g o cur e fz v h]
    exact setRow_heap w g cur _ e fz h
theorem heap_setCells_other {g k : Nat} (hk : k ≠ g) : ∀ (vs : List Value) (o : Nat) (w : World), (w.setCells g o vs).heap[k]? = w.heap[k]?
  | [], _, _ => rfl
  | v :: r, o, w => by rw [World.setCells, heap_setCells_other hk r, heap_setCell_other _ _ _ _ hk]
theorem setCells_size (g : Nat) : ∀ (vs : List Value) (o : Nat) (w : World), (w.setCells g o vs).heap.size = w.heap.size
  | [], _, _ => rfl
  | v :: r, o, w => by rw [World.setCells, setCells_size g r]; simp
theorem below_setCells {B : Nat} {a : World} {g : Nat} (hg : B ≤ g) : ∀ (vs : List Value) (o : Nat) (w : World), Below B a w → Below B a (w.setCells g o vs)
  | [], _, _, h => h
  | v :: r, o, w, h => by rw [World.setCells]; exact below_setCells hg r _ _ (h.setCell (p := ⟨g, o, none⟩) hg v)

/-- What lies in an array into which q values were laid at place p, what stood from there on behind them. -/
theorem lay_splice {cur cur2 : Array Value} {xs ys : List Value} {p q m : Nat} (hq : ys.length = q) (hp : p ≤ xs.length) (hm : m = xs.length + q) (hsz : m ≤ cur.size) (hcur : ∀ j, j < p → cur[j]? = xs[j]?)
    (h2 : cur2 = layAt (layAt cur (p + q) (xs.drop p)) p ys ∨ cur2 = layAt (layAt cur p ys) (p + q) (xs.drop p)) : cur2.toList.take m = xs.take p ++ ys ++ xs.drop p ∧ cur2.size = cur.size := by
  have hs : cur2.size = cur.size := by rcases h2 with rfl | rfl <;> rw [layAt_size, layAt_size]
  refine ⟨List.ext_getElem? fun j => ?_, hs⟩
  rw [List.getElem?_take]
  have hdl : (xs.drop p).length = xs.length - p := List.length_drop
  have hval : ∀ j, j < m → cur2[j]? = if j < p then xs[j]? else if j < p + q then ys[j - p]? else xs[j - q]? := fun j hj => by
    rcases h2 with rfl | rfl
    · rw [layAt_get, layAt_get, layAt_size, hdl, hq]
      by_cases a : j < p
      · rw [if_neg (by omega), if_neg (by omega), if_pos a, hcur j a]
      · by_cases b : j < p + q
        · rw [if_pos (by omega), if_neg a, if_pos b]
        · rw [if_neg (by omega), if_pos (by omega), if_neg a, if_neg b, List.getElem?_drop, show p + (j - (p + q)) = j - q by omega]
    · rw [layAt_get, layAt_get, layAt_size, hdl, hq]
      by_cases a : j < p
      · rw [if_neg (by omega), if_neg (by omega), if_pos a, hcur j a]
      · by_cases b : j < p + q
        · rw [if_neg (by omega), if_pos (by omega), if_neg a, if_pos b]
        · rw [if_pos (by omega), if_neg a, if_neg b, List.getElem?_drop, show p + (j - (p + q)) = j - q by omega]
  have htl : (xs.take p).length = p := by rw [List.length_take]; omega
  by_cases hj : j < m
  · rw [if_pos hj, Array.getElem?_toList, hval j hj, List.append_assoc, List.getElem?_append, htl, List.getElem?_append, hq]
    by_cases a : j < p
    · rw [if_pos a, if_pos a, List.getElem?_take, if_pos a]
    · rw [if_neg a, if_neg a]
      by_cases b : j < p + q
      · rw [if_pos b, if_pos (by omega)]
      · rw [if_neg b, if_neg (by omega), List.getElem?_drop, show p + (j - p - q) = j - q by omega]
  · rw [if_neg hj, List.getElem?_eq_none (by simp [hq]; omega)]
end Arb
