/- The program's filters: Parse. -/
import Derived.Test.YthjdccocfmicdaaDoorGlobPH
namespace Go.Proofs.YthjdccocfmicdaaDoor.W
set_option maxRecDepth 100000
set_option linter.unusedVariables false
open Go.RowKit Go.Proofs Arb Go.Shelf
attribute [local go_sem] Oper.semAt_some

theorem rulesAt_append : ∀ a b : List (List UInt8), rulesAt (a ++ b) = (rulesAt a).bind fun x => (rulesAt b).map (x ++ ·)
  | [], b => by simp [rulesAt]
  | s :: a, b => by
    rw [List.cons_append, rulesAt, rulesAt]
    cases ruleAt s with
    | none => rfl
    | some x =>
      simp only
      rw [rulesAt_append a b]
      cases rulesAt a with
      | none => rfl
      | some l => cases rulesAt b <;> rfl
theorem rulesAt_cut {pre suf : List (List UInt8)} (h : rulesAt pre = none) : rulesAt (pre ++ suf) = none := by rw [rulesAt_append, h]; rfl
theorem rulesAt_snoc9 {pre : List (List UInt8)} {l : List Rul} (h : rulesAt pre = some l) (x : List UInt8) : rulesAt (pre ++ [x]) = (ruleAt x).map (l ++ [·]) := by
  rw [rulesAt_append, h]
  show (rulesAt [x]).map (l ++ ·) = _
  rw [rulesAt]
  cases ruleAt x with
  | none => rfl
  | some y => rfl
theorem rulesAt_len : ∀ {s : List (List UInt8)} {l : List Rul}, rulesAt s = some l → l.length = s.length := fun {s} {l} h => by
  have := (rules_back s l h).2
  rw [← this, List.length_map]

/-- 'append(s, x)' of one rule within a fence: x lies in a new block of its own first. -/
theorem wpListIn_append_rl {F : Fence} {nF : Nat} {ops : Array Oper} {rest : List Oper} {o : Oper} {a : Act} {w : World} {Q : Exit → Act → World → Prop} (hgd : o.guard = none) (s x : Operand)
    (ho : o.op = .call { callee := .builtin .append, args := #[s, x], argTypes := #[23, 23] })
    (base : Nat) (v : Value) (n : Nat) (l : List Rul) (hs : a.eval s = v) (hown : Row w base 37 2 v n (rlsCells l))
    (y : Rul) (cs : Array Value) (hcs : cs = rlArr y) (g : Nat) (hgw : g = w.heap.size) (hx : a.eval x = .slice (some ⟨g, 0, none⟩) 1 1)
    (h63 : n ≤ 1000000) (hbase : base ≤ w.heap.size)
    (h : ∀ v' w', Row w' base 37 2 v' (n + 1) (rlsCells (l ++ [y])) → (w.alloc (.cells cs 37)).grownBy w' v.ownBlock → wpListIn F nF Tryd.prog ops Q rest (a.put o.dst v') w') :
    wpListIn F nF Tryd.prog ops Q (o :: rest) a (w.alloc (.cells cs 37)) := by
  subst hcs
  subst hgw
  obtain ⟨i0, hi, hz0, hz1, hz2⟩ := info_parts info_rl
  have hrd : Rd (w.alloc (.cells (rlArr y) 37)) 2 (.slice (some ⟨w.heap.size, 0, none⟩) 1 1) 1 (rlsCells [y]) := by
    have := Rd.new w (rlArr y) 37 1 1 2 rfl
    rw [rlsCells_one]
    simpa [rlArr] using this
  obtain ⟨v', w', hrun, h2, h3, -, -⟩ := run_append_row (P := Tryd.prog) base 23 o.type 37 i0 _ 2 24 Tryd.underlying23 hi hz0 hz1 hz2 rfl (by decide) v n _ (hown.alloc (.cells (rlArr y) 37)) _ 1 (rlsCells [y]) hrd (rls_oneCell _) (by unfold maxLen; omega) (by omega) (by simp; omega)
  refine wpListIn_plain hgd fun K' hK' => ?_
  unfold Oper.wpIn
  refine ⟨fun f hf => by simp [Oper.about, ho, resolve, Sem.run_pure, Target.leads, go_sem] at hf, ?_⟩
  rw [Oper.semAt_plain F _ _ (by rw [ho]; intro c hc'; cases hc')]
  unfold execOp
  simp only [ho, resolve, invoke, builtin, Sem.run_bind, Sem.run_pure, Result.andThen_ok, List.map_toArray, List.map_cons, List.map_nil, hs, hx, hrun]
  exact hK' _ _ (h v' w' (by rw [rlsCells_append]; exact h2) h3)

/-- Between two lines. -/
def ParIn (w : World) (pre : List Ln) (W : World) : Prop :=
  Below w.heap.size w W ∧ W.heap[w.heap.size]? = some (.cells #[.slice none 0 0] 23 (0, 0)) ∧ W.heap[w.heap.size + 1]? = some (.cells #[.int .i64 0] 24 (0, 0)) ∧
    ∃ v rl, W.heap[w.heap.size + 2]? = some (.cells #[v] 23 (0, 0)) ∧ Row W (w.heap.size + 3) 37 2 v rl.length (rlsCells rl) ∧ rulesAt (pre.map (·.1)) = some rl
/-- Behind a line that says no rule. -/
def ParOut (w : World) (c : Code) (pre : List Ln) (W : World) : Prop :=
  c = .ret ∧ rulesAt (pre.map (·.1)) = none ∧ Below w.heap.size w W ∧ W.heap[w.heap.size]? = some (.cells #[.slice none 0 0] 23 (0, 0)) ∧ W.heap[w.heap.size + 1]? = some (.cells #[.int .i64 30] 24 (0, 0))
theorem not_row {A : World} {k r : Nat} {cs : Array Value} {t : TypeId} {fr : Nat × Nat} (h : A.heap[k]? = some (.cells cs t fr)) (hr : ∃ o : Obj, A.heap[r]? = some o ∧ o.isCells = false) : k ≠ r := by
  rintro rfl
  obtain ⟨o, ho, hc⟩ := hr
  rw [h] at ho
  cases ho
  cases hc
theorem grown_keep {A B : World} {row : Option Nat} (hg : A.grownBy B row) {k : Nat} {cs : Array Value} {t : TypeId} {fr : Nat × Nat} (h : A.heap[k]? = some (.cells cs t fr)) (hr : ∀ r, row = some r → ∃ o : Obj, A.heap[r]? = some o ∧ o.isCells = false) : B.heap[k]? = some (.cells cs t fr) :=
  (hg.block k (Array.getElem?_eq_some_iff.1 h).1 fun e => not_row h (hr k e.symm) rfl).trans h
theorem row_grown {A B : World} {row : Option Nat} {base n : Nat} {e : TypeId} {size : Nat} {v : Value} {xs : List Value} (h : Row A base e size v n xs) (hg : A.grownBy B row) (hr : ∀ r, row = some r → ∃ o : Obj, A.heap[r]? = some o ∧ o.isCells = false) : Row B base e size v n xs := by
  refine h.kept hg ?_
  rcases h.2 with ⟨rfl, _⟩ | ⟨g, cap, cur, fz, rfl, h1, h2, _⟩
  · exact .inl rfl
  · right
    intro he
    exact not_row h2 (hr g he.symm) rfl
theorem ParIn.own (w : World) (B : Nat) (hB : w.heap.size ≤ B) : OwnFrom B (ParIn w) := fun s X Y row ⟨h1, h2, h3, v, rl, h4, h5, h6⟩ hg hr =>
  ⟨h1.grown hg h1.size fun k e => by have := (hr k e).1; omega, grown_keep hg h2 fun r e => (hr r e).2, grown_keep hg h3 fun r e => (hr r e).2, v, rl, grown_keep hg h4 fun r e => (hr r e).2, row_grown h5 hg fun r e => (hr r e).2, h6⟩
theorem ParOut.own (w : World) (B : Nat) (hB : w.heap.size ≤ B) (c : Code) : OwnFrom B (ParOut w c) := fun s X Y row ⟨h0, h1, h2, h3, h4⟩ hg hr =>
  ⟨h0, h1, h2.grown hg h2.size fun k e => by have := (hr k e).1; omega, grown_keep hg h3 fun r e => (hr r e).2, grown_keep hg h4 fun r e => (hr r e).2⟩
theorem agg23 : ∀ w, (isAgg 23).run Tryd.prog w = .ok false w := run_isAgg_plain Tryd.underlying23 rfl
theorem agg24 : ∀ w, (isAgg 24).run Tryd.prog w = .ok false w := run_isAgg_plain Tryd.underlying24 rfl
theorem one_cell {w : World} {g : Nat} {x : Value} {t : TypeId} (h : w.heap[g]? = some (.cells #[x] t (0, 0))) : w.cell? ⟨g, 0, none⟩ = some x ∧ w.frozen? ⟨g, 0, none⟩ = false :=
  ⟨by simp [World.cell?, h], by simp [World.frozen?, h]⟩
theorem one_set {w : World} {g : Nat} {x u : Value} {t : TypeId} (h : w.heap[g]? = some (.cells #[x] t (0, 0))) : (w.setCell ⟨g, 0, none⟩ u).heap[g]? = some (.cells #[u] t (0, 0)) := by
  rw [setCell_eq_setRow w g 0 _ t _ u h]
  exact setRow_heap w g _ _ t _ h

set_option maxHeartbeats 4000000 in
theorem pparse_last (t : List UInt8) (w : World) (hl : t.length ≤ 100000) (h0 : t ≠ []) (h10 : ¬ t.getLast? = some 10) :
    Calls Tryd.prog 12 #[.string (BS t)] w fun e w' => ∃ v, e = .returned (.tuple #[v, .int .i64 30]) ∧ Ruls w' v [] ∧ Below w.heap.size w w' := by
  have hs := fun W => psuffix_any t W hl
  rw [decide_eq_false h10] at hs
  have q := BS_beq t []
  rw [decide_eq_false h0] at q
  have HS := Go.Lib.hid hs
  clear hs h0 h10
  go_enter Tryd.func12, Tryd.ntmps12
  go_wp2_with fail
  refine (HS.out _).mono ?_; rintro e w1 ⟨rfl, hw1⟩
  rw [hw1]
  clear hw1 w1
  go_wp2_with fail
  exact bodyPost_ret (v := .tuple #[.slice none 0 0, .int .i64 30]) (results_two (p := 2) (q := 3) rfl _ _ ⟨w.heap.size, 0, none⟩ ⟨w.heap.size + 1, 0, none⟩ _ _ (by first | rfl | simp) (by first | rfl | simp) (by simp) (by simp) agg23 agg24) rfl ⟨_, rfl, Ruls.nil _, ((Below.refl _ w).alloc (Nat.le_refl _) _).alloc (by simp) _⟩
set_option maxHeartbeats 4000000 in
theorem pparse_big (t : List UInt8) (w : World) (hl : t.length ≤ 100000) (h0 : t = [] ∨ t.getLast? = some 10) (h16 : 16 < t.count 10) :
    Calls Tryd.prog 12 #[.string (BS t)] w fun e w' => ∃ v, e = .returned (.tuple #[v, .int .i64 40]) ∧ Ruls w' v [] ∧ Below w.heap.size w w' := by
  have hs := fun W => psuffix_any t W hl
  have hc := fun W => pcount_any 10 t W
  have hne : t ≠ [] := by rintro rfl; simp at h16
  rw [decide_eq_true (h0.resolve_left hne)] at hs
  obtain ⟨n, hn⟩ : ∃ n, t.count 10 = n := ⟨_, rfl⟩
  rw [hn] at hc h16
  have q := BS_beq t []
  rw [decide_eq_false hne] at q
  have h16' : (16 : Int) < (n : Int) := by omega
  have HS := Go.Lib.hid hs; have HC := Go.Lib.hid hc
  clear hs hc h0 hne hn
  go_enter Tryd.func12, Tryd.ntmps12
  go_wp2_with fail
  refine (HS.out _).mono ?_; rintro e w1 ⟨rfl, hw1⟩
  rw [hw1]
  clear hw1 w1
  go_wp2_with fail
  refine (HC.out _).mono ?_; rintro e w1 ⟨rfl, hw1⟩
  rw [hw1]
  clear hw1 w1
  go_wp2_with fail
  exact bodyPost_ret (v := .tuple #[.slice none 0 0, .int .i64 40]) (results_two (p := 2) (q := 3) rfl _ _ ⟨w.heap.size, 0, none⟩ ⟨w.heap.size + 1, 0, none⟩ _ _ (by first | rfl | simp) (by first | rfl | simp) (by simp) (by simp) agg23 agg24) rfl ⟨_, rfl, Ruls.nil _, ((Below.refl _ w).alloc (Nat.le_refl _) _).alloc (by simp) _⟩
end Go.Proofs.YthjdccocfmicdaaDoor.W
