/- Rules as slices that are appended. -/
import Derived.Test.YtkohcibhefejfaaDoorGlobT
namespace Go.Proofs.YtkohcibhefejfaaDoor.W
set_option maxRecDepth 20000
set_option linter.unusedVariables false
open Go.RowKit Go.Proofs Arb

theorem Ruls.rdTake {w : World} {A : Option Addr} {n c : Nat} {l : List Rul} (h : Ruls w (.slice A n c) l) (k : Nat) (hk : k ≤ n) : Rd w 2 (.slice A k c) k (rlsCells (l.take k)) := by
  obtain ⟨A', n', c', he, hl, hc, hA, hr⟩ := h
  cases he
  refine ⟨by rw [rlsCells_length, List.length_take]; omega, ?_⟩
  cases A with
  | none =>
    left
    have := hA rfl
    have h0 : k = 0 := by omega
    rw [this, h0]
    exact ⟨rfl, rfl⟩
  | some a =>
    right
    refine ⟨a, c, rfl, fun j u hu => ?_⟩
    have hj : j < k * 2 := by have := (List.getElem?_eq_some_iff.1 hu).1; rw [rlsCells_length, List.length_take] at this; omega
    obtain ⟨b, off, he, hz⟩ := hr (by omega)
    cases he
    have hq : j / 2 < k := by omega
    have hx : (l.take k)[j / 2]? = l[j / 2]? := by rw [List.getElem?_take, if_pos hq]
    have hg := List.getElem?_eq_getElem (l := l) (i := j / 2) (by omega)
    have hop := hz _ _ hg
    have hc := rlsCells_at (l.take k) (j / 2) _ (hx.trans hg) (j % 2) ((rlCells (l[j / 2]'(by omega)))[j % 2]'(by show j % 2 < 2; omega)) (List.getElem?_eq_getElem _)
    rw [show j / 2 * 2 + j % 2 = j by omega, hu] at hc
    injection hc with hc
    rw [Go.Lib.addr_add, hc]
    have := hop (j % 2) _ (List.getElem?_eq_getElem (by show j % 2 < 2; omega))
    rw [show off + j / 2 * 2 + j % 2 = off + j by omega] at this
    exact this
/-- The nodes from the k-th on, as a slice that is appended. -/
theorem Ruls.rdDrop {w : World} {b off : Nat} {n c : Nat} {l : List Rul} (h : Ruls w (.slice (some ⟨b, off, none⟩) n c) l) (k : Nat) (hk : k ≤ n) (o : Nat) (ho : k < n → o = off + k * 2) (m : Nat) (hm : m = n - k) (c2 : Nat) : Rd w 2 (.slice (some ⟨b, o, none⟩) m c2) m (rlsCells (l.drop k)) := by
  obtain ⟨A', n', c', he, hl, hc, hA, hr⟩ := h
  cases he
  subst hm
  refine ⟨by rw [rlsCells_length, List.length_drop]; omega, .inr ⟨_, c2, rfl, fun j u hu => ?_⟩⟩
  have hj : j < (n - k) * 2 := by have := (List.getElem?_eq_some_iff.1 hu).1; rw [rlsCells_length, List.length_drop] at this; omega
  obtain ⟨b', off', he, hz⟩ := hr (by omega)
  cases he
  rw [ho (by omega)]
  have hg := List.getElem?_eq_getElem (l := l) (i := k + j / 2) (by omega)
  have hx : (l.drop k)[j / 2]? = l[k + j / 2]? := by rw [List.getElem?_drop]
  have hop := hz _ _ hg
  have hc := rlsCells_at (l.drop k) (j / 2) _ (hx.trans hg) (j % 2) ((rlCells (l[k + j / 2]'(by omega)))[j % 2]'(by show j % 2 < 2; omega)) (List.getElem?_eq_getElem _)
  rw [show j / 2 * 2 + j % 2 = j by omega, hu] at hc
  injection hc with hc
  rw [Go.Lib.addr_add, hc]
  have := hop (j % 2) _ (List.getElem?_eq_getElem (by show j % 2 < 2; omega))
  rw [show off + (k + j / 2) * 2 + j % 2 = off + k * 2 + j by omega] at this
  exact this

/-- 'append(s, l...)' of nodes. -/
theorem wpList_append_rls {ops : Array Oper} {rest : List Oper} {o : Oper} {a : Act} {w : World} {Q : Exit → Act → World → Prop} (hgd : o.guard = none) (s x : Operand)
    (ho : o.op = .call { callee := .builtin .append, args := #[s, x], argTypes := #[22, 22] })
    (base : Nat) (v : Value) (n : Nat) (l : List Rul) (hs : a.eval s = v) (hown : Row w base 29 2 v n (rlsCells l))
    (vx : Value) (m : Nat) (k : List Rul) (hx : a.eval x = vx) (hr : Rd w 2 vx m (rlsCells k))
    (h63 : n ≤ 1000000) (h64 : m ≤ 1000000) (hbase : base ≤ w.heap.size)
    (h : ∀ v' w', Row w' base 29 2 v' (n + m) (rlsCells (l ++ k)) → Below base w w' → wpList Tryd.prog ops Q rest (a.put o.dst v') w') :
    wpList Tryd.prog ops Q (o :: rest) a w := by
  obtain ⟨i0, hi, hz0, hz1, hz2⟩ := info_parts info_rl
  refine wpList_append_row hgd s x 22 ho base 29 i0 _ 2 24 Tryd.underlying22 hi hz0 hz1 hz2 rfl (by decide) v n _ hs hown vx m (rlsCells k) hx hr (rls_oneCell _) (by unfold maxLen; omega) (by omega) hbase ?_
  intro v' w' hr hg _
  exact h v' w' (by rw [rlsCells_append]; exact hr) ((Below.refl base w).grown hg hbase fun k hk => (hown.lt k hk).1)
end Go.Proofs.YtkohcibhefejfaaDoor.W
