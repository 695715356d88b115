/- Maps of operations to bools that the call makes: which operations are in. -/
import Derived.Test.YtjeijolblcodpaaDoorMg1
import Derived.Test.YtjeijolblcodpaaDoorMg6
import Derived.Maps.Own
import Derived.Maps.Views
import Derived.Maps.Keyed
import Derived.DeepKeys3
namespace Go.Proofs.YtjeijolblcodpaaDoor.W
set_option maxRecDepth 20000
set_option linter.unusedVariables false
open Go.RowKit Go.Proofs Arb Go.Maps Go.WideMaps

def kop (x : Opn) : List UInt8 := keyBytes [.int .i64 x.stamp.count, .int .i64 x.stamp.who, .int .i64 x.seq, .int .i64 x.kind, .int .i64 x.node.count, .int .i64 x.node.who, .bool x.dir, .int .i64 x.parent.count, .int .i64 x.parent.who, .string x.name, .string x.manifest]
theorem law_op : KeyLaw Tryd.prog 35 := deep_law (m := 3) (by omega) (by kernel_rfl) (by kernel_rfl) (by rw [Tryd.underlying35])
theorem keyOf_op (x : Opn) (hx : opWf x) : keyOf Tryd.prog 35 (.agg #[.int .i64 x.stamp.count, .int .i64 x.stamp.who, .int .i64 x.seq, .int .i64 x.kind, .int .i64 x.node.count, .int .i64 x.node.who, .bool x.dir, .int .i64 x.parent.count, .int .i64 x.parent.who, .string (BS x.name), .string (BS x.manifest)]) = some (.string (kop x)) := by
  obtain ⟨m, hm⟩ : ∃ m, Tryd.prog.types.size = m + 2 := ⟨Tryd.prog.types.size - 2, by kernel_rfl⟩
  have hkt : Tryd.prog.keyType 35 = true := by kernel_rfl
  have hf : (Value.agg #[.int .i64 x.stamp.count, .int .i64 x.stamp.who, .int .i64 x.seq, .int .i64 x.kind, .int .i64 x.node.count, .int .i64 x.node.who, .bool x.dir, .int .i64 x.parent.count, .int .i64 x.parent.who, .string (BS x.name), .string (BS x.manifest)]).formed Tryd.prog 35 = true := by kernel_rfl
  have h1 : ∀ (d : Nat) (z : Int), (Lit.int .i64 z).wf = true → Tryd.prog.keyLits (d + 1) 3 [.int .i64 z] = some [.int .i64 z] := fun d z hz => by
    simp [Program.keyLits, Tryd.underlying3, hz]
  have h2 : ∀ (d : Nat) (z : Bool), Tryd.prog.keyLits (d + 1) 4 [.bool z] = some [.bool z] := fun d z => by
    simp [Program.keyLits, Tryd.underlying4]
  have h3 : ∀ (d : Nat) (s : List UInt8), s.length ≤ maxLen → Tryd.prog.keyLits (d + 1) 9 [.string (BS s)] = some [.string s] := fun d s hs => by
    simp [Program.keyLits, Tryd.underlying9, BS_size, BS_list, hs]
  have hs : Tryd.prog.cellsOf 33 = 2 := by kernel_rfl
  have hi : Tryd.prog.cellsOf 3 = 1 := by kernel_rfl
  have hb : Tryd.prog.cellsOf 4 = 1 := by kernel_rfl
  have ht : Tryd.prog.cellsOf 9 = 1 := by kernel_rfl
  have hc : Tryd.prog.cellsOf 35 = 11 := by kernel_rfl
  have h4 : ∀ (d : Nat) (a b : Int), (Lit.int .i64 a).wf = true → (Lit.int .i64 b).wf = true → Tryd.prog.keyLits (d + 2) 33 [.int .i64 a, .int .i64 b] = some [.int .i64 a, .int .i64 b] := fun d a b ha hb => by
    rw [show d + 2 = (d + 1) + 1 from rfl]
    unfold Program.keyLits
    rw [Tryd.underlying33]
    simp [hs, hi, h1 d a ha, h1 d b hb]
  obtain ⟨⟨w0, w1⟩, w2, w3, ⟨w4, w5⟩, ⟨w6, w7⟩, w8, w9⟩ := hx
  have hl : Tryd.prog.keyLits (Tryd.prog.types.size + 1) 35 [.int .i64 x.stamp.count, .int .i64 x.stamp.who, .int .i64 x.seq, .int .i64 x.kind, .int .i64 x.node.count, .int .i64 x.node.who, .bool x.dir, .int .i64 x.parent.count, .int .i64 x.parent.who, .string (BS x.name), .string (BS x.manifest)] = some [.int .i64 x.stamp.count, .int .i64 x.stamp.who, .int .i64 x.seq, .int .i64 x.kind, .int .i64 x.node.count, .int .i64 x.node.who, .bool x.dir, .int .i64 x.parent.count, .int .i64 x.parent.who, .string x.name, .string x.manifest] := by
    rw [hm]
    unfold Program.keyLits
    rw [Tryd.underlying35]
    have g1 := h4 m _ _ w0 w1; have g2 := h4 m _ _ w4 w5; have g3 := h4 m _ _ w6 w7
    have g4 := h1 (m + 1) _ w2; have g5 := h1 (m + 1) _ w3; have g6 := h2 (m + 1) x.dir
    have g7 := h3 (m + 1) x.name (by unfold maxLen; omega); have g8 := h3 (m + 1) x.manifest (by unfold maxLen; omega)
    simp [hc, hs, hi, hb, ht, g1, g2, g3, g4, g5, g6, g7, g8]
  unfold keyOf
  rw [Tryd.underlying35]
  simp only [hkt, hf, Bool.and_self, if_true]
  show (Tryd.prog.keyLits (Tryd.prog.types.size + 1) 35 [.int .i64 x.stamp.count, .int .i64 x.stamp.who, .int .i64 x.seq, .int .i64 x.kind, .int .i64 x.node.count, .int .i64 x.node.who, .bool x.dir, .int .i64 x.parent.count, .int .i64 x.parent.who, .string (BS x.name), .string (BS x.manifest)]).map (fun ls => Lit.string (keyBytes ls)) = _
  rw [hl]
  rfl
theorem BS_same {a b : List UInt8} (h : BS a = BS b) : a = b := by
  have := congrArg (fun s : ByteArray => s.data.toList) h
  simpa [BS_list] using this
theorem kop_inj (x y : Opn) (hx : opWf x) (hy : opWf y) (h : kop x = kop y) : x = y := by
  have h1 := keyOf_op x hx
  have h2 := keyOf_op y hy
  rw [← h] at h2
  have h3 := law_op.inj h1 h2
  obtain ⟨⟨a, b⟩, c, d, ⟨e, f⟩, g, ⟨i, j⟩, k, l⟩ := x
  obtain ⟨⟨a', b'⟩, c', d', ⟨e', f'⟩, g', ⟨i', j'⟩, k', l'⟩ := y
  simp at h3
  obtain ⟨rfl, rfl, rfl, rfl, rfl, rfl, rfl, rfl, rfl, h10, h11⟩ := h3
  rw [BS_same h10, BS_same h11]

theorem plainBool_inv {v : Value} {z : DataW Unit × List MemPlace} (h : plainElem Tryd.prog 4 v = some z) : ∃ x, v = .bool x ∧ z = (.lit (.bool x), []) := by
  unfold plainElem at h
  rw [Tryd.underlying4] at h
  split at h
  · rename_i x _
    cases h
    exact ⟨_, rfl, rfl⟩
  · rename_i h1; cases h1
  · rename_i h1; cases h1
  · cases h
/-- Block b is a map in which just the operations of S are true. -/
def OpIs (w : World) (b n : Nat) (S : List Opn) : Prop :=
  ∃ D : DataW Unit, w.ownsMap Tryd.prog 35 (plainElem Tryd.prog 4) b n D ∧ IsMap D ∧ ∀ x, opWf x → D.atKey (.string (kop x)) (.lit (.bool false)) = .lit (.bool (decide (x ∈ S)))
theorem OpIs.made (w : World) : OpIs (w.alloc (.map #[] 0)) w.heap.size 0 [] :=
  ⟨.map [], World.ownsMap_made w _ _ _, isMap_empty, fun _ _ => rfl⟩
theorem OpIs.lt {w : World} {b n : Nat} {S : List Opn} (h : OpIs w b n S) : b < w.heap.size := let ⟨_, h1, _⟩ := h; h1.lt
theorem OpIs.at {w w' : World} {b n : Nat} {S : List Opn} (h : OpIs w b n S) (he : w'.heap[b]? = w.heap[b]?) : OpIs w' b n S := by
  obtain ⟨D, ⟨es, clock, hb, h1⟩, h2⟩ := h
  exact ⟨D, ⟨es, clock, he.trans hb, h1⟩, h2⟩
theorem OpIs.below {w w' : World} {b n : Nat} {S : List Opn} (h : OpIs w b n S) (hb : Below w.heap.size w w') : OpIs w' b n S := h.at (hb.block _ h.lt)
theorem OpIs.look {w : World} {b n : Nat} {S : List Opn} (h : OpIs w b n S) (x : Opn) (hx : opWf x) :
    (Instr.lookup 50 (.map (some b)) (.agg #[.int .i64 x.stamp.count, .int .i64 x.stamp.who, .int .i64 x.seq, .int .i64 x.kind, .int .i64 x.node.count, .int .i64 x.node.who, .bool x.dir, .int .i64 x.parent.count, .int .i64 x.parent.who, .string (BS x.name), .string (BS x.manifest)]) false).run Tryd.prog w = .ok (.bool (decide (x ∈ S))) w := by
  obtain ⟨D, h1, _, h2⟩ := h
  obtain ⟨v, ps, hrun, hv⟩ := h1.lookup (Keyed.of_law law_op) Tryd.underlying50 (Tryd.zeroValue4 w) (plainElem_bool Tryd.underlying4 false) (keyOf_op x hx)
  rw [h2 x hx] at hv
  obtain ⟨y, rfl, hy⟩ := plainBool_inv hv
  simp only [Prod.mk.injEq, DataW.lit.injEq, Lit.bool.injEq] at hy
  rw [hy.1]
  exact hrun
theorem wpList_op_put {w : World} {b n : Nat} {S : List Opn} {ops : Array Oper} {rest : List Oper} {o : Oper} {a : Act} {Q : Exit → Act → World → Prop} (h : OpIs w b n S)
    (hg : o.guard = none) (m k v : Operand) (hop : o.op = Op.mapUpdate 50 m k v) (hm : a.eval m = .map (some b)) (hn : n < maxLen) (x : Opn) (hx : opWf x) (hk : a.eval k = .agg #[.int .i64 x.stamp.count, .int .i64 x.stamp.who, .int .i64 x.seq, .int .i64 x.kind, .int .i64 x.node.count, .int .i64 x.node.who, .bool x.dir, .int .i64 x.parent.count, .int .i64 x.parent.who, .string (BS x.name), .string (BS x.manifest)]) (hv : a.eval v = .bool true)
    (hK : ∀ w', OpIs w' b (n + 1) (S ++ [x]) → w.grownBy w' (some b) → wpList Tryd.prog ops Q rest (a.put o.dst undef) w') : wpList Tryd.prog ops Q (o :: rest) a w := by
  obtain ⟨D, h1, hM, h2⟩ := h
  refine wpList_mapUpdate_own w hg m k v 50 hop 35 4 (Keyed.of_law law_op) Tryd.underlying50 _ b n D hm h1 hn _ _ _ hk hv (keyOf_op x hx) (.lit (.bool true)) [] (plainElem_bool Tryd.underlying4 true) ?_
  intro w' hown hgr
  refine hK w' ⟨_, hown, hM.put _ _, fun q hq => ?_⟩ hgr
  by_cases e : q = x
  · subst e
    rw [atKey_put_same hM (show WideAt.IsKeyLit (.string (kop q)) from trivial)]
    simp
  · rw [atKey_put_other (by intro h; injection h with h; exact e (kop_inj q x hq hx h)), h2 q hq]
    simp [e]
end Go.Proofs.YtjeijolblcodpaaDoor.W
