/- Two states and a list of the law's own, side by side. -/
import Derived.Test.YtjeijolblcodpaaDoorMg13
import Derived.Test.YtjeijolblcodpaaDoorMg3
import Derived.Test.YtjeijolblcodpaaDoorMg6
namespace Go.Proofs.YtjeijolblcodpaaDoor.W
set_option maxRecDepth 20000
set_option linter.unusedVariables false
open Go.RowKit Go.Proofs Arb

theorem Row.aside {w w' : World} {base : Nat} {e : TypeId} {size : Nat} {v : Value} {n : Nat} {xs : List Value} {F : Nat → Prop} (h : Row w base e size v n xs) (hk : Kept F w w') (hF : InSet (fun k => ¬ F k) v) : Row w' base e size v n xs := by
  refine ⟨h.1, ?_⟩
  rcases h.2 with hn | ⟨g, cap, cur, fz, rfl, hb, hg, rest⟩
  · exact .inl hn
  · exact .inr ⟨g, cap, cur, fz, rfl, hb, (hk.block g (Array.getElem?_eq_some_iff.1 hg).1 (hF ⟨g, 0, none⟩ n cap rfl)).trans hg, rest⟩

/-- 'append(s, l...)' of operations; what else turns. -/
theorem wpList_append_opsg {ops : Array Oper} {rest : List Oper} {o : Oper} {a : Act} {w : World} {Q : Exit → Act → World → Prop} (hgd : o.guard = none) (s x : Operand)
    (ho : o.op = .call { callee := .builtin .append, args := #[s, x], argTypes := #[22, 22] })
    (base : Nat) (v : Value) (n : Nat) (l : List Opn) (hs : a.eval s = v) (hown : Row w base 35 11 v n (opsCells l))
    (vx : Value) (m : Nat) (k : List Opn) (hx : a.eval x = vx) (hr : Rd w 11 vx m (opsCells k))
    (h63 : n ≤ 1000000) (h64 : m ≤ 1000000) (hbase : base ≤ w.heap.size)
    (h : ∀ v' w', Row w' base 35 11 v' (n + m) (opsCells (l ++ k)) → Kept (fun b => v.ownBlock = some b) w w' → (∀ b, v'.ownBlock = some b → v.ownBlock = some b ∨ w.heap.size ≤ b) → wpList Tryd.prog ops Q rest (a.put o.dst v') w') :
    wpList Tryd.prog ops Q (o :: rest) a w := by
  obtain ⟨i0, hi, hz0, hz1, hz2⟩ := info_parts info_op
  refine wpList_append_row hgd s x 22 ho base 35 i0 _ 11 104 Tryd.underlying22 hi hz0 hz1 hz2 rfl (by decide) v n _ hs hown vx m (opsCells k) hx hr (ops_oneCell _) (by unfold maxLen; omega) (by omega) hbase ?_
  intro v' w' hr hg ho2
  refine h v' w' (by rw [opsCells_append]; exact hr) ⟨hg.os, hg.tape, hg.output, hg.size, fun b hb hne => hg.block b hb fun e => hne e.symm⟩ fun b hb => ?_
  rcases ho2 with e | e
  · rw [e] at hb; exact .inl hb
  · rw [e] at hb
    injection hb with hb
    exact .inr (by omega)
/-- 'append(s, x)' of one operation; what else turns. -/
theorem wpList_append_opg {ops : Array Oper} {rest : List Oper} {o : Oper} {a : Act} {w : World} {Q : Exit → Act → World → Prop} (hgd : o.guard = none) (s x : Operand)
    (ho : o.op = .call { callee := .builtin .append, args := #[s, x], argTypes := #[22, 22] })
    (base : Nat) (v : Value) (n : Nat) (l : List Opn) (hs : a.eval s = v) (hown : Row w base 35 11 v n (opsCells l))
    (y : Opn) (cs : Array Value) (hcs : cs = opArr y) (hx : a.eval x = .slice (some ⟨w.heap.size, 0, none⟩) 1 1)
    (h63 : n ≤ 1000000) (hbase : base ≤ w.heap.size)
    (h : ∀ v' w', Row w' base 35 11 v' (n + 1) (opsCells (l ++ [y])) → Kept (fun b => v.ownBlock = some b) w w' → (∀ b, v'.ownBlock = some b → v.ownBlock = some b ∨ w.heap.size ≤ b) → wpList Tryd.prog ops Q rest (a.put o.dst v') w') :
    wpList Tryd.prog ops Q (o :: rest) a (w.alloc (.cells cs 35)) := by
  subst hcs
  refine wpList_append_opsg hgd s x ho base v n l hs (hown.alloc _) _ 1 [y] hx ?_ h63 (by omega) (by simp; omega) ?_
  · have := Rd.new w (opArr y) 35 1 1 11 rfl
    rw [opsCells_one]
    simpa [opArr] using this
  · intro v' w' hr hk ho2
    refine h v' w' hr ⟨hk.os, hk.tape, hk.output, Nat.le_trans (by simp) hk.size, fun b hb hne => (hk.block b (by simp; omega) hne).trans (Below.heap_alloc _ _ _ hb)⟩ fun b hb => ?_
    rcases ho2 b hb with e | e
    · exact .inl e
    · exact .inr (by simp at e; omega)

/-- Two states, both made behind W, and a list of operations of the law's own. -/
structure Both8 (W V : World) (ab : Nat) (Fa : Nat → Prop) (la : List Opn) (na : Int) (bb : Nat) (Fb : Nat → Prop) (lb : List Opn) (nb : Int) (v : Value) (T : List Opn) : Prop where
  a : Mine W V ab Fa la na
  b : Mine W V bb Fb lb nb
  apart : ∀ k, Fa k → ¬ Fb k
  row : Row V W.heap.size 35 11 v T.length (opsCells T)
  put : ∀ k, v.ownBlock = some k → k < V.heap.size ∧ ¬ Fa k ∧ ¬ Fb k
theorem own_inset {G : Nat → Prop} {w : World} {base : Nat} {e : TypeId} {size : Nat} {v : Value} {n : Nat} {xs : List Value} (h : Row w base e size v n xs) (hp : ∀ k, v.ownBlock = some k → G k) : InSet G v := fun a n' c he => by
  rcases h.2 with ⟨rfl, _⟩ | ⟨g, cap, cur, fz, rfl, _⟩
  · cases he
  · cases he
    exact hp g (by simp [Value.ownBlock])
section
variable {W V V' : World} {ab bb : Nat} {Fa Fb F' : Nat → Prop} {la lb l' T T' : List Opn} {na nb n' : Int} {v v' : Value}
theorem Both8.more (h : Both8 W V ab Fa la na bb Fb lb nb v T) (hb : Below V.heap.size V V') : Both8 W V' ab Fa la na bb Fb lb nb v T :=
  ⟨h.a.more hb, h.b.more hb, h.apart, h.row.below hb, fun k hk => ⟨Nat.lt_of_lt_of_le (h.put k hk).1 hb.size, (h.put k hk).2⟩⟩
theorem Both8.onA (h : Both8 W V ab Fa la na bb Fb lb nb v T) (hs : PSt V' ab F' l' n') (ht : Turned V V' Fa F') : Both8 W V' ab F' l' n' bb Fb lb nb v T := by
  obtain ⟨h1, h2⟩ := h.b.st.aside ht fun k hb ha => h.apart k ha hb
  have hput : ∀ k, v.ownBlock = some k → k < V'.heap.size ∧ ¬ F' k ∧ ¬ Fb k := fun k hk => by
    obtain ⟨p1, p2, p3⟩ := h.put k hk
    refine ⟨Nat.lt_of_lt_of_le p1 ht.size, fun hf => ?_, p3⟩
    rcases ht.grow k hf with e | e
    · exact p2 e
    · omega
  exact ⟨h.a.next hs ht, ⟨h1, h.b.new, h.b.bel.trans (ht.below h.a.new h.a.bel.size)⟩, fun k hf hb => h2 k hb hf, Row.aside h.row ht.kept (own_inset h.row fun k hk => (h.put k hk).2.1), hput⟩
theorem Both8.onB (h : Both8 W V ab Fa la na bb Fb lb nb v T) (hs : PSt V' bb F' l' n') (ht : Turned V V' Fb F') : Both8 W V' ab Fa la na bb F' l' n' v T := by
  obtain ⟨h1, h2⟩ := h.a.st.aside ht fun k ha hb => h.apart k ha hb
  have hput : ∀ k, v.ownBlock = some k → k < V'.heap.size ∧ ¬ Fa k ∧ ¬ F' k := fun k hk => by
    obtain ⟨p1, p2, p3⟩ := h.put k hk
    refine ⟨Nat.lt_of_lt_of_le p1 ht.size, p2, fun hf => ?_⟩
    rcases ht.grow k hf with e | e
    · exact p3 e
    · omega
  exact ⟨⟨h1, h.a.new, h.a.bel.trans (ht.below h.b.new h.b.bel.size)⟩, h.b.next hs ht, fun k ha hf => h2 k ha hf, Row.aside h.row ht.kept (own_inset h.row fun k hk => (h.put k hk).2.2), hput⟩
/-- Another list in the old one's place: a list that the call has made of new memory, or grown. -/
theorem Both8.list {u : Value} (h : Both8 W V ab Fa la na bb Fb lb nb v T) (hu : ∀ k, u.ownBlock = some k → ¬ Fa k ∧ ¬ Fb k) (hn : ∀ k, u.ownBlock = some k → W.heap.size ≤ k) (hk : Kept (fun b => u.ownBlock = some b) V V') (hr : Row V' W.heap.size 35 11 v' T'.length (opsCells T')) (ho : ∀ b, v'.ownBlock = some b → u.ownBlock = some b ∨ V.heap.size ≤ b) : Both8 W V' ab Fa la na bb Fb lb nb v' T' := by
  have hbel : Below W.heap.size W V' := h.a.bel.trans (hk.below hn h.a.bel.size)
  refine ⟨⟨h.a.st.kept hk fun k hf e => (hu k e).1 hf, h.a.new, hbel⟩, ⟨h.b.st.kept hk fun k hf e => (hu k e).2 hf, h.b.new, hbel⟩, h.apart, hr, fun k hk2 => ⟨(hr.lt k hk2).2, fun hf => ?_, fun hf => ?_⟩⟩
  · rcases ho k hk2 with e | e
    · exact (hu k e).1 hf
    · have := h.a.st.lt k hf; omega
  · rcases ho k hk2 with e | e
    · exact (hu k e).2 hf
    · have := h.b.st.lt k hf; omega
end
end Go.Proofs.YtjeijolblcodpaaDoor.W
