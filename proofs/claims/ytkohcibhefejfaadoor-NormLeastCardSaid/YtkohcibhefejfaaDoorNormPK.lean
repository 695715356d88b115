/- The program's forms: slices.Compact of rules. -/
import Derived.Test.YtkohcibhefejfaaDoorNormPW
import Derived.Test.YtkohcibhefejfaaDoorGlobRS
namespace Arb
set_option maxRecDepth 20000
set_option linter.unusedVariables false
open Go Go.RowKit
/-- The first m have been gone through, k of them are kept; what is behind them lies as it lay. -/
structure CompI (C R : List Rul) (k m : Nat) : Prop where
  len : R.length = C.length
  tk : R.take k = compOf (C.take m)
  kl : k < m
  rest : ∀ j, m ≤ j + 1 → R[j]? = C[j]?
theorem take_two {C : List Rul} {p : Nat} {x y : Rul} (hx : C[p]? = some x) (hy : C[p + 1]? = some y) : C.take (p + 2) = C.take p ++ [x] ++ [y] := by
  rw [List.take_add_one, hy, List.take_add_one, hx]
  rfl
theorem take_one {C : List Rul} {p : Nat} {x : Rul} (hx : C[p]? = some x) : C.take (p + 1) = C.take p ++ [x] := by
  rw [List.take_add_one, hx]
  rfl
theorem strict_next {C : List Rul} {p : Nat} {x y : Rul} (hx : C[p]? = some x) (hy : C[p + 1]? = some y) (hne : x ≠ y) (h : compOf (C.take (p + 1)) = C.take (p + 1)) : compOf (C.take (p + 2)) = C.take (p + 2) := by
  rw [take_two hx hy, comp_snoc, if_neg hne, ← take_one hx, h]
theorem CompI.start {C : List Rul} {p : Nat} {x y : Rul} (hx : C[p]? = some x) (hy : C[p + 1]? = some y) (he : x = y) (h : compOf (C.take (p + 1)) = C.take (p + 1)) : CompI C C (p + 1) (p + 2) := by
  refine ⟨rfl, ?_, by omega, fun _ _ => rfl⟩
  rw [take_two hx hy, comp_snoc, if_pos he, ← take_one hx, h]
theorem CompI.same {C R : List Rul} {k p : Nat} {x y : Rul} (hi : CompI C R k (p + 1)) (hx : C[p]? = some x) (hy : C[p + 1]? = some y) (he : y = x) : CompI C R k (p + 2) := by
  refine ⟨hi.len, ?_, by have := hi.kl; omega, fun j hj => hi.rest j (by omega)⟩
  rw [take_two hx hy, comp_snoc, if_pos he.symm, ← take_one hx, hi.tk]
theorem CompI.other {C R : List Rul} {k p : Nat} {x y : Rul} (hi : CompI C R k (p + 1)) (hx : C[p]? = some x) (hy : C[p + 1]? = some y) (he : y ≠ x) : CompI C (R.set k y) (k + 1) (p + 2) := by
  have hp := (List.getElem?_eq_some_iff.1 hy).1
  have hkl := hi.kl
  have hlen := hi.len
  refine ⟨by rw [List.length_set]; exact hi.len, ?_, by omega, fun j hj => ?_⟩
  · rw [take_two hx hy, comp_snoc, if_neg (fun e => he e.symm), ← take_one hx, ← hi.tk, List.take_add_one, List.getElem?_set_self (by omega)]
    rw [List.take_set_of_le (Nat.le_refl _)]
    rfl
  · rw [List.getElem?_set_ne (by omega)]
    exact hi.rest j (by omega)
theorem comp_small {C : List Rul} (h : C.length < 2) : compOf C = C := by
  match C, h with
  | [], _ => rfl
  | [x], _ => rfl
end Arb
namespace Go.Proofs.YtkohcibhefejfaaDoor.W
set_option maxRecDepth 20000
set_option linter.unusedVariables false
open Go.RowKit Go.Proofs Arb

theorem rls_set (R : List Rul) (k : Nat) (y : Rul) (hk : k < R.length) : ((rlsCells R).set (k * 2) (.int .i64 y.kind)).set (k * 2 + 1) (.string (BS y.text)) = rlsCells (R.set k y) := by
  induction R generalizing k with
  | nil => simp at hk
  | cons x R ih =>
    cases k with
    | zero => rfl
    | succ k =>
      have := ih k (by simpa using hk)
      unfold rlsCells at this ⊢
      rw [List.set_cons_succ, List.map_cons, List.map_cons, List.flatten_cons, List.flatten_cons, ← this]
      rw [show (k + 1) * 2 = k * 2 + 2 by omega]
      rfl
theorem below_cell10 {base g : Nat} {w V : World} (h : Below base w V) (hg : base ≤ g) (j : Nat) (u : Value) : Below base w (V.setCell ⟨g, j, none⟩ u) :=
  ⟨h.os, h.tape, h.output, by have := h.size; simpa [World.setCell] using this, fun k hk => (Below.heap_setCell _ _ _ k (by show k ≠ g; omega)).trans (h.block k hk)⟩
theorem row_rule {w : World} {base g cap n : Nat} {R : List Rul} (h : Row w base 29 2 (.slice (some ⟨g, 0, none⟩) n cap) n (rlsCells R)) {j : Nat} {x : Rul} (hx : R[j]? = some x) (hj : j < n) :
    RulAt w g (j * 2) x ∧ w.frozen? ⟨g, j * 2, none⟩ = false ∧ w.frozen? ⟨g, j * 2 + 1, none⟩ = false := by
  obtain ⟨g', cap', he, -, -, -, hc, hf⟩ := h.open (by omega)
  cases he
  exact ⟨fun i v hv => hc _ v (rlsCells_at R j x hx i v hv), hf _ (by omega), hf _ (by omega)⟩
/-- 'clear(s[k:])' on a row of the call's own: what is ahead stays. -/
theorem wpList_clear_rl {ops : Array Oper} {rest : List Oper} {o : Oper} {a : Act} {w : World} {Q : Exit → Act → World → Prop} (hgd : o.guard = none) (x : Operand)
    (ho : o.op = .call { callee := .builtin .clear, args := #[x], argTypes := #[22] })
    (base g n cap k m c : Nat) (R : List Rul) (hown : Row w base 29 2 (.slice (some ⟨g, 0, none⟩) n cap) n (rlsCells R)) (hkn : k + m = n) (hm : 0 < m) (hx : a.eval x = .slice (some ⟨g, k * 2, none⟩) m c)
    (h : ∀ w', Row w' base 29 2 (.slice (some ⟨g, 0, none⟩) k cap) k (rlsCells (R.take k)) → Below base w w' → wpList Tryd.prog ops Q rest (a.put o.dst (.tuple #[])) w') :
    wpList Tryd.prog ops Q (o :: rest) a w := by
  have hRl : R.length = n := by have := hown.1; rw [rlsCells_length] at this; omega
  rcases hown.2 with ⟨h1, _⟩ | ⟨g', cap', cur, fz, h1, hb, hg, hfz, hnc, hcm, hcs, ht⟩
  · cases h1
  · cases h1
    obtain ⟨zs, hzs⟩ : ∃ zs, (Builtin.zeroCells (Value.agg #[.int .i64 0, .string ⟨#[]⟩]).cells m).toList = zs := ⟨_, rfl⟩
    have hzl : zs.length = m * 2 := by
      rw [← hzs, Array.length_toList, size_zeroCells]
      rfl
    have hle : k * 2 + m * 2 ≤ cur.size := by rw [hcs]; have := Nat.mul_le_mul_right 2 hnc; omega
    have hst := run_storeCells_row Tryd.prog g (k * 2) 29 fz zs 0 cur w hg hfz (by rw [hzl]; omega) (by
      intro v hv
      rw [← hzs] at hv
      unfold Builtin.zeroCells at hv
      simp only [Value.cells, List.size_toArray, List.length_cons, List.length_nil, Array.toList_map, List.mem_map] at hv
      obtain ⟨i, _, rfl⟩ := hv
      rcases (by omega : i % 2 = 0 ∨ i % 2 = 1) with e | e
      · simp [e, Value.oneCell']
      · simp [e, Value.oneCell'])
    simp only [Nat.add_zero] at hst
    refine wpList_plain hgd fun K hK => ?_
    obtain ⟨m', rfl⟩ : ∃ m', m = m' + 1 := ⟨m - 1, by omega⟩
    have hz : ∀ w, (zeroValue 29).run Tryd.prog w = .ok (.agg #[.int .i64 0, .string ⟨#[]⟩]) w := Tryd.zeroValue29
    have hrun : (Builtin.clear_ #[22] o.type #[.slice (some ⟨g, k * 2, none⟩) (m' + 1) c]).run Tryd.prog w = .ok (.tuple #[]) (w.setRow g (cur.toList.take (k * 2) ++ zs ++ cur.toList.drop (k * 2 + zs.length)).toArray) := by
      unfold Builtin.clear_
      simp [run_underlying Tryd.underlying22, Sem.run_bind, hz, hzs, hst]
    have hsz2 : (cur.toList.take (k * 2) ++ zs ++ cur.toList.drop (k * 2 + zs.length)).toArray.size = cur.size := by
      simp only [List.size_toArray, List.length_append, List.length_take, List.length_drop, Array.length_toList]
      omega
    unfold Oper.wp execOp
    simp only [ho, resolve, invoke, builtin, Sem.run_bind, Sem.run_pure, Result.andThen_ok, List.map_toArray, List.map_cons, List.map_nil, hx, hrun]
    refine hK _ _ (h _ ⟨by rw [rlsCells_length, List.length_take]; omega, .inr ⟨g, cap, _, fz, rfl, hb, setRow_heap w g cur _ 29 _ hg, by rw [hsz2]; exact hfz, by omega, hcm, by rw [hsz2]; exact hcs, ?_⟩⟩ ⟨rfl, rfl, rfl, by simp, fun j hj => setRow_other w g j _ (by omega)⟩)
    have hpre : rlsCells R = rlsCells (R.take k) ++ rlsCells (R.drop k) := by rw [← rlsCells_append, List.take_append_drop]
    have hkl : (rlsCells (R.take k)).length = k * 2 := by rw [rlsCells_length, List.length_take]; omega
    have h1 : cur.toList.take (k * 2) = rlsCells (R.take k) := by
      have := congrArg (List.take (k * 2)) ht
      rw [List.take_take, Nat.min_eq_left (by omega), hpre, ← hkl, List.take_left] at this
      rw [hkl] at this
      exact this
    simp only [List.append_assoc]
    rw [h1, ← hkl, List.take_left]
end Go.Proofs.YtkohcibhefejfaaDoor.W
