/- Parts of the proof that all the laws of this package share, in their order. Each says what is in it. -/
import Derived.Test.YtjeijolblcodpaaDoorMg5
import Derived.RangeFuncNested
import Derived.OrdersIn
import Derived.Deep.RegionHeld3
import Derived.Test.YtjeijolblcodpaaDoorMg9
import Derived.Test.YtjeijolblcodpaaDoorMg6
import Derived.Laws.IdiomCopy

/- Regions that draw their order, in a round of a range over a function: as outside of it, loads first. -/
section
namespace Arb
set_option maxRecDepth 20000
set_option linter.unusedVariables false
open Go Go.RowKit

theorem wpOpIn_of {P : Program} {ops : Array Oper} {Q : Exit → Act → World → Prop} {l n i : Nat} {K : Act → World → Prop} {a : Act} {w : World} (hQ : ¬ LetsOut Q) (hd : ∀ (i : Nat) (o : Oper), ops[i]? = some o → ∀ c, o.op ≠ .defer c)
    (h : wpOp P ops Q i K a w) : wpOpIn (Fence.wide.inRound l) n P ops Q i K a w := by
  unfold wpOp at h
  unfold wpOpIn
  cases ho : ops[i]? with
  | none => simpa [ho] using h
  | some o =>
    simp only [ho] at h ⊢
    split
    · rename_i hw
      simp only [hw, if_true] at h
      rcases h with h | h
      · refine ⟨fun f _ => trivial, ?_⟩
        rw [Oper.semAt_eq _ _ _ (hd i o ho)]
        unfold Oper.wp at h
        generalize (execOp a.eval o).run P w = r at h ⊢
        cases r with
        | ok x w' =>
          cases x <;> simp only [Oper.upon, Oper.uponIn] at h ⊢ <;> first | exact h | exact h.elim | exact ⟨fun h => (by cases h), CallsIn.inRound l (callsIn_wide.2 h)⟩ | exact ⟨fun h => (by cases h), fun c cs _ => let ⟨v, w', r, s⟩ := h c cs; ⟨v, w', r, stepsIn_wide.2 s⟩⟩
        | halt x w' => cases x <;> simp only [Oper.upon, Oper.uponIn] at h ⊢ <;> exact h
      · exact absurd h.2 hQ
    · rename_i hw
      simp only [hw] at h
      exact ⟨fun f _ => trivial, h⟩
theorem wpOpIn_mono8 {P : Program} {ops : Array Oper} {Q : Exit → Act → World → Prop} {F : Fence} {n i : Nat} {K K' : Act → World → Prop} {a : Act} {w : World} (h : ∀ a w, K a w → K' a w) (hh : wpOpIn F n P ops Q i K a w) : wpOpIn F n P ops Q i K' a w := wpOpIn_mono h hh
theorem wpAnyIn_of {P : Program} {ops : Array Oper} {Q : Exit → Act → World → Prop} {md : Region.Mode} {l n : Nat} (hQ : ¬ LetsOut Q) (hd : ∀ (i : Nat) (o : Oper), ops[i]? = some o → ∀ c, o.op ≠ .defer c) : ∀ (fuel : Nat) (listed : Array Bool) (a : Act) (w : World),
    wpAny P md ops Q fuel listed a w → wpAnyIn (Fence.wide.inRound l) n P md ops Q fuel listed a w
  | 0, _, _, _, h => h
  | fuel + 1, _, _, _, h => ⟨h.1, fun i hi => wpOpIn_mono (fun a' w' h' => wpAnyIn_of hQ hd fuel _ a' w' h') (wpOpIn_of hQ hd (h.2 i hi))⟩
def noDefer (o : Oper) : Bool := match o.op with | .defer _ => false | _ => true
theorem wpIn_region_heldR {P : Program} {ops : Array Oper} {Q : Exit → Act → World → Prop} {id l n : Nat} {a : Act} {w : World} {S : World → Prop} (hm : P.follows .mixedOrders = true) (hQ : ¬ LetsOut Q) (hd : ops.all noDefer = true) (hS : S w.drew)
    (h : S w.drew → wpAnyH P .any ops Q S ops.size (Array.replicate ops.size false) a w.drew) : (Code.region id ops true).wpIn (Fence.wide.inRound l) n P Q a w := by
  refine wpIn_region_any hm (wpAnyIn_of hQ (fun i o ho c hc => ?_) _ _ _ _ (wpAny_of_held _ _ _ _ (h hS)))
  obtain ⟨hi, he⟩ := Array.getElem?_eq_some_iff.1 ho
  have := Array.all_eq_true.1 hd i hi
  rw [he] at this
  unfold noDefer at this
  rw [hc] at this
  cases this
end Arb
end

/- The program's states: undo, walked. -/
section
namespace Go.Proofs.YtjeijolblcodpaaDoor.W
set_option maxRecDepth 100000
set_option linter.unusedVariables false
open Go.RowKit Go.Proofs Arb Go.Shelf
attribute [local go_sem] Oper.semAt_some

/-- Between two rounds of undo: the steps 'pre' were taken back. -/
def UnIn (w : World) (mb : Nat) (L : List Nod) (pre : List IStp) (W : World) : Prop :=
  Stay w.heap.size mb w W ∧ ∃ L' : List Nod, NdMap W mb L' ∧ L'.Perm (undoAll L (pre.map (·.1.2)))
theorem UnIn.own {w : World} {mb : Nat} {L : List Nod} (hm : mb < w.heap.size) : OwnFrom w.heap.size (UnIn w mb L) := fun s A B row ⟨hs, L', hM, hp⟩ hg hr =>
  ⟨hs.trans (Stay.grown hg hs.size fun r e => .inl (hr r e).1), L', hM.at (hg.block _ hM.lt fun e => by have := (hr _ e.symm).1; omega), hp⟩
theorem Stay.kept {n₀ mb : Nat} {w w2 W : World} (hb : Below w.heap.size w w2) (hs : Stay n₀ mb w2 W) (h : w.heap.size ≤ n₀) : Kept (fun q => q = mb) w W :=
  ⟨hs.os.trans hb.os, hs.tape.trans hb.tape, hs.output.trans hb.output, Nat.le_trans hb.size hs.size, fun k hk hm => (hs.block k (by omega) hm).trans (hb.block k hk)⟩
theorem use_one {P Q : Prop} (h : P ∧ True → Q) (hP : P) : Q := h ⟨hP, trivial⟩
theorem Stps.dropped {w : World} {g off n c i : Nat} {l : List Stp} (h : Stps w (.slice (some ⟨g, off, none⟩) n c) l) (hi : i ≤ n) : Stps w (.slice (some ⟨g, off + i * 19, none⟩) (n - i) (c - i)) (l.drop i) := by
  obtain ⟨A', n', c', he, hl, hc, hA, hr⟩ := h
  cases he
  refine ⟨_, _, _, rfl, by rw [List.length_drop]; omega, by omega, nofun, fun h0 => ?_⟩
  obtain ⟨b', off', he, hz⟩ := hr (by omega)
  cases he
  refine ⟨g, off + i * 19, rfl, fun j x hj => ?_⟩
  rw [List.getElem?_drop] at hj
  have := hz _ _ hj
  rw [show off + i * 19 + j * 19 = off + (i + j) * 19 by omega]
  exact this

set_option maxHeartbeats 8000000 in
theorem pundo_any (b : Nat) (v : Value) (mb : Nat) (k : Int) (L : List Nod) (ops : List Opn) (i : Nat) (w : World) (hS8 : S8 w b v mb k) (hR0 : Row w 0 58 19 v ops.length (stpsCells (stpsOf ops))) (hin : InSet (fun q => q < w.heap.size ∧ q ≠ mb) v) (hM : NdMap w mb L) (hL : L.Perm (foldOf ops)) (hi : i ≤ ops.length) (hl : ops.length ≤ 10000) (hw : ∀ s ∈ stpsOf ops, SpOk s) :
    Calls Tryd.prog 25 #[.pointer (some ⟨b, 0, none⟩), .int .i64 (i : Int)] w fun e w' => e = .returned (.tuple #[]) ∧ ∃ L', NdMap w' mb L' ∧ L'.Perm (foldOf (ops.take i)) ∧ Kept (fun q => q = mb) w w' := by
  refine (callsIn_wide (n := 9)).1 ?_
  have hG1 : Fence.wide.fn 39 := trivial
  have hG2 : Fence.wide.fn 52 := trivial
  have hro : Fence.wide.round = none := rfl
  have h1 : 1 ≤ 9 := by omega
  have hn : (stpsOf ops).length = ops.length := stpsOf_length ops
  have hR := Stps.of_row hR0
  obtain ⟨A, c, rfl, hnc⟩ := hR.len
  rw [hn] at hS8 hR hR0 hin hnc
  obtain ⟨n, hnn⟩ : ∃ n, ops.length = n := ⟨_, rfl⟩
  rw [hnn] at hS8 hR hR0 hin hnc hi hl
  have mbl := hM.lt
  have hb0 : Below w.heap.size w (w.alloc (.cells #[.pointer (some ⟨b, 0, none⟩)] 23)) := (Below.refl _ w).alloc (Nat.le_refl _) _
  have s0 := (hS8.below hb0).cells.1
  have m0 := (hS8.below hb0).cells.2.1
  by_cases hin' : i < n
  · obtain ⟨A', n', c', he, hlr, hcr, hAr, hrr⟩ := hR
    cases he
    obtain ⟨g, off, rfl, hz⟩ := hrr (by omega)
    have hR : Stps w (.slice (some ⟨g, off, none⟩) n c) (stpsOf ops) := ⟨_, _, _, rfl, hlr, hcr, nofun, fun _ => ⟨g, off, rfl, hz⟩⟩
    have hSS := hR.dropped (Nat.le_of_lt hin')
    have hSok : ∀ s ∈ (stpsOf ops).drop i, SpOk s := fun s hs => hw s (List.mem_of_mem_drop hs)
    have hSin : InSet (fun q => q < w.heap.size ∧ q ≠ mb) (.slice (some ⟨g, off + i * 19, none⟩) (n - i) (c - i)) := fun a' n' c' he => by
      cases he
      exact hin ⟨g, off, none⟩ n c rfl
    have e1 : ¬ c = i := by omega
    have e2 : (i : Int) ≤ (n : Int) := by omega
    have e3 : (n : Int) ≤ (c : Int) := by omega
    have e4 : i ≤ n := by omega
    have hlen2 : ((stpsOf ops).drop i).length ≤ 10000 := by rw [List.length_drop]; omega
    refine callsIn_of_wp_marks Tryd.func25 rfl trivial ?_ hro
    simp only [Tryd.ntmps25, List.size_toArray, List.length_cons, List.length_nil, Nat.reduceAdd, Nat.reduceSub, Array.replicate_succ, Array.replicate_zero, List.push_toArray, List.append_toArray, List.nil_append, List.cons_append]
    
    gi_wp2_with (gi_at_call 39; refine (pbwd_in Fence.wide 8 hG1 hro _ _ _ _).mono ?_; rintro e w' ⟨rfl, rfl⟩)
    have hb2 : Below w.heap.size w ((w.alloc (.cells #[.pointer (some ⟨b, 0, none⟩)] 23)).alloc (.cells #[.slice (some ⟨g, off + i * 19, none⟩) (n - i) (c - i)] 52)) := hb0.alloc hb0.size _
    have hs1 : (w.alloc (.cells #[.pointer (some ⟨b, 0, none⟩)] 23)).heap.size = w.heap.size + 1 := by simp
    have hs2 : ((w.alloc (.cells #[.pointer (some ⟨b, 0, none⟩)] 23)).alloc (.cells #[.slice (some ⟨g, off + i * 19, none⟩) (n - i) (c - i)] 52)).heap.size = w.heap.size + 2 := by simp
    have hbx : ((w.alloc (.cells #[.pointer (some ⟨b, 0, none⟩)] 23)).alloc (.cells #[.slice (some ⟨g, off + i * 19, none⟩) (n - i) (c - i)] 52)).heap[w.heap.size]? = some (.cells #[.pointer (some ⟨b, 0, none⟩)] 23 (0, 0)) := (Below.heap_alloc _ _ _ (by rw [hs1]; omega)).trans (heap_alloc_new w _)
    have hbs : ((w.alloc (.cells #[.pointer (some ⟨b, 0, none⟩)] 23)).alloc (.cells #[.slice (some ⟨g, off + i * 19, none⟩) (n - i) (c - i)] 52)).heap[w.heap.size + 1]? = some (.cells #[.slice (some ⟨g, off + i * 19, none⟩) (n - i) (c - i)] 52 (0, 0)) := by rw [← hs1]; exact heap_alloc_new _ _
    have cB : ((w.alloc (.cells #[.pointer (some ⟨b, 0, none⟩)] 23)).alloc (.cells #[.slice (some ⟨g, off + i * 19, none⟩) (n - i) (c - i)] 52)).cell? ⟨w.heap.size + 1, 0, none⟩ = some (.slice (some ⟨g, off + i * 19, none⟩) (n - i) (c - i)) := by rw [cell_of_row _ _ _ _ _ _ hbs]; rfl
    have hStp := hSS.below hb2
    have hM2 := hM.below hb2
    try rw [hs1]
    refine wpIn_rangeFunc_ownH hro h1 (gf := 52) (lb := #[.pointer (some ⟨w.heap.size + 1, 0, none⟩)]) rfl hG2 (enters_of Tryd.func52 (by kernel_rfl) rfl)
      (pbwd_stops Fence.wide 8 hG2 hro (by omega) (w.heap.size + 1) (w.heap.size + 2) mb _ ((stpsOf ops).drop i) hSok (by first | (simp; done) | (simp; omega)) ((w.alloc (.cells #[.pointer (some ⟨b, 0, none⟩)] 23)).alloc (.cells #[.slice (some ⟨g, off + i * 19, none⟩) (n - i) (c - i)] 52)) (by omega) (by omega) (by rw [hs2]; exact Nat.le_refl _) cB hStp (hSin.mono fun q hq => ⟨by omega, hq.2⟩)) Stay.trans (by rw [hs2]; exact fun W l o o' hl h h1 h2 => Stay.putObj (w := ((w.alloc (.cells #[.pointer (some ⟨b, 0, none⟩)] 23)).alloc (.cells #[.slice (some ⟨g, off + i * 19, none⟩) (n - i) (c - i)] 52))) (by rw [hs2]; exact Nat.le_refl _) W l o o' (by rw [hs2]; exact hl) h h1 h2) (Below.refl _ _) (fun _ => rfl)
      (UnIn ((w.alloc (.cells #[.pointer (some ⟨b, 0, none⟩)] 23)).alloc (.cells #[.slice (some ⟨g, off + i * 19, none⟩) (n - i) (c - i)] 52)) mb L) (fun _ _ _ => False) (UnIn.own hM2.lt) (fun _ _ _ _ _ hs _ _ => hs) ⟨Stay.refl _ _ _, L, hM2, List.Perm.refl _⟩
      (fun x a' W => ∃ Bx, w.heap.size + 2 ≤ Bx ∧ SpB W Bx x.1.2 ∧ a' = { tmps := #[.pointer (some ⟨b, 0, none⟩), .int .i64 (i : Int), .pointer (some ⟨w.heap.size, 0, none⟩), undef, undef, .pointer (some ⟨Bx, 0, none⟩), .pointer (some ⟨b, 0, none⟩), .pointer (some ⟨b, 0, none⟩), .pointer (some ⟨b, 0, none⟩), .slice (some ⟨g, off, none⟩) n c, .int .i64 (i : Int), .slice (some ⟨g, off + i * 19, none⟩) (n - i) (c - i), .func (.func 52) #[] #[.pointer (some ⟨w.heap.size + 1, 0, none⟩)], .int .i64 (x.1.1 : Int), stpVal x.1.2, undef, undef, undef, undef, undef, undef, undef, undef, undef, undef, undef, undef, undef, undef, undef, undef, undef, undef], defers := [] })
      ?hAx ?assign ?body ?done ?stop
    case hAx =>
      intro x a' s A B row ⟨Bx, h1, h2, h3⟩ hg hr
      refine ⟨Bx, h1, (hg.block Bx h2.lt fun e => ?_).trans h2, h3⟩
      obtain ⟨-, o, ho, hoc⟩ := hr Bx e.symm
      rw [show A.heap[Bx]? = _ from h2] at ho
      cases ho
      cases hoc
    case assign =>
      rintro l pre x W K hI hK
      obtain ⟨hst, L', hMW, hpW⟩ := hI
      gi_wp2_with (refine wpListIn_store_row rfl 58 _ _ rfl W.heap.size (stpArr x.1.2) rfl rfl 58 _ (heap_alloc_new W _) (size_stp.trans (by rfl)) rfl (stpArr_one _) ?_)
      obtain ⟨hg, hnw⟩ := new_row W _ (stpArr x.1.2) 58
      exact hK _ _ (KeepsFrom.of_grownBy hg (by simp)) (Stay.grown hg (by have := hst.size; rw [hs2] at this; exact this) (by simp)) ⟨hst.trans (Stay.grown hg hst.size (by simp)), L', hMW.at (hg.block _ hMW.lt (by simp)), hpW⟩ ⟨W.heap.size, (by have := hst.size; rw [hs2] at this; exact this), hnw, rfl⟩
    case body =>
      rintro l pre x a' W hlB - ⟨hst, L', hMW, hpW⟩ ⟨Bx, hBx, hSp, rfl⟩ hlen
      have hlen9 : pre.length < 10000 := by have := hlen; simp only [List.length_drop] at this; omega
      have cb : W.cell? ⟨w.heap.size, 0, none⟩ = some (.pointer (some ⟨b, 0, none⟩)) := hst.cell (p := ⟨w.heap.size, 0, none⟩) (by rw [cell_of_row _ _ _ _ _ _ hbx]; rfl) (by rw [hs2]; show w.heap.size < _; omega) (by show w.heap.size ≠ mb; omega)
      have cm : W.cell? ⟨b, 1, none⟩ = some (.map (some mb)) := hst.cell (p := ⟨b, 1, none⟩) (hS8.below hb2).cells.2.1 (by rw [hs2]; show b < _; have := hS8.lt; omega) (hS8.ne hM)
      obtain ⟨-, -, -, -, c4, c5, -⟩ := op_cells0 hSp.at.op
      obtain ⟨d0, d1, d2, d3, d4, d5, d6⟩ := nd_cells hSp.at.nd
      have c18 := hSp.at.there
      have hlp : L'.length ≤ 1000000 := by
        have e1 := hpW.length_eq
        have e2 := undoAll_length (pre.map (·.1.2)) L
        have e3 := hL.length_eq
        have e4 := foldOf_length ops
        rw [List.length_map] at e2
        omega
      obtain ⟨hox, hnx, hidx⟩ := x.2
      obtain ⟨th, hth⟩ : ∃ th, x.1.2.there = th := ⟨_, rfl⟩
      rw [hth] at c18 hidx
      have hpre : ∀ L6 : List Nod, L6.Perm (undoStep L' x.1.2) → L6.Perm (undoAll L ((pre ++ [x]).map (·.1.2))) := fun L6 h6 => by
        rw [List.map_append]
        show L6.Perm (List.foldl undoStep L _)
        rw [List.foldl_append]
        exact h6.trans (undoStep_perm hpW x.1.2)
      unfold undoStep at hpre
      rw [hth] at hpre
      have HPRE := Go.Lib.hid hpre; have HST := Go.Lib.hid hst; have HTH := Go.Lib.hid hth; have HM2 := Go.Lib.hid hM2; have HMW := Go.Lib.hid hMW
      have hmd := hMW.below ((Below.refl _ W).drew)
      have mixed : Tryd.prog.follows .mixedOrders = true := by kernel_rfl
      have hmbW : mb < ((w.alloc (.cells #[.pointer (some ⟨b, 0, none⟩)] 23)).alloc (.cells #[.slice (some ⟨g, off + i * 19, none⟩) (n - i) (c - i)] 52)).heap.size := hM2.lt
      cases th
      · obtain ⟨w6, hrun, hM6, hg6⟩ := hmd.del x.1.2.op.node hox.2.2.2.1 0
        have hg6 : W.grownBy w6 (some mb) := ⟨hg6.os, hg6.tape, hg6.output, hg6.size, hg6.block⟩
        have HM6 := Go.Lib.hid hM6; have HG6 := Go.Lib.hid hg6
        have hkg : Kept (fun q => q = mb) W w6 := (Kept.of_grown hg6)
        have hn1 : ¬ w.heap.size = mb := by omega
        have hn2 : ¬ b = mb := hS8.ne hM
        have hn3 : ¬ Bx = mb := by omega
        clear hpre hst hth hmd hM6 hg6 hM2 hMW hpW hidx hnx hox hSp hbx hbs cB hStp hSS hSok hSin hR hM hL hS8 hin hw s0 m0 hb0 hb2 hlr hcr hrr hz hAr
        gi_wp2
        refine wpIn_region_heldR (S := (fun W => W.cell? ⟨w.heap.size, 0, none⟩ = some (.pointer (some ⟨b, 0, none⟩)) ∧ W.cell? ⟨b, 1, none⟩ = some (.map (some mb)) ∧ W.cell? ⟨Bx, 4, none⟩ = some (.int .i64 x.1.2.op.node.count) ∧ W.cell? ⟨Bx, 5, none⟩ = some (.int .i64 x.1.2.op.node.who))) (by kernel_rfl) (by rintro ⟨a, w, h⟩; exact h) (by kernel_rfl) ?_ (fun hHeld => ?_)
        · exact ⟨cb, cm, c4, c5⟩
        refine wpAnyH_take (i := 0) (oi := ({ dst := some 26, op := Op.load 23 (Operand.tmp 2), type := 23, pos := "move.go:98", after := #[], guard := none } : Oper)) (v := ?_) rfl (by kernel_rfl) (by kernel_rfl) (by kernel_rfl) (fun _ _ _ h => h) (Or.inl ⟨by rfl, ?_⟩) (by assumption) ?_
        rotate_left; (· intro w hSw; (try dsimp only at hSw); go_simp; all_goals (with_reducible rfl))
        try simp only [Act.put, List.setIfInBounds_toArray, List.set_cons_zero, List.set_cons_succ]
        refine wpAnyH_take (i := 1) (oi := ({ dst := some 27, op := Op.nilCheck (Operand.tmp 26), type := 0, pos := "move.go:98", after := #[{ on := 0, ground := Ground.data }], guard := none } : Oper)) (v := ?_) rfl (by kernel_rfl) (by kernel_rfl) (by kernel_rfl) (fun _ _ _ h => h) (Or.inl ⟨by rfl, ?_⟩) (by assumption) ?_
        rotate_left; (· intro w hSw; (try dsimp only at hSw); go_simp; all_goals (with_reducible rfl))
        try simp only [Act.put, List.setIfInBounds_toArray, List.set_cons_zero, List.set_cons_succ]
        refine wpAnyH_take (i := 2) (oi := ({ dst := some 28, op := Op.fieldAddr 54 (Operand.tmp 27) 1, type := 0, pos := "move.go:98", after := #[{ on := 1, ground := Ground.data }], guard := none } : Oper)) (v := ?_) rfl (by kernel_rfl) (by kernel_rfl) (by kernel_rfl) (fun _ _ _ h => h) (Or.inl ⟨by rfl, ?_⟩) (by assumption) ?_
        rotate_left; (· intro w hSw; (try dsimp only at hSw); go_simp; all_goals (with_reducible rfl))
        try simp only [Act.put, List.setIfInBounds_toArray, List.set_cons_zero, List.set_cons_succ]
        refine wpAnyH_take (i := 3) (oi := ({ dst := some 29, op := Op.load 51 (Operand.tmp 28), type := 51, pos := "move.go:98", after := #[{ on := 2, ground := Ground.data }], guard := none } : Oper)) (v := ?_) rfl (by kernel_rfl) (by kernel_rfl) (by kernel_rfl) (fun _ _ _ h => h) (Or.inl ⟨by rfl, ?_⟩) (by assumption) ?_
        rotate_left; (· intro w hSw; (try dsimp only at hSw); go_simp; all_goals (with_reducible rfl))
        try simp only [Act.put, List.setIfInBounds_toArray, List.set_cons_zero, List.set_cons_succ]
        refine wpAnyH_take (i := 4) (oi := ({ dst := some 30, op := Op.fieldAddr 58 (Operand.tmp 5) 0, type := 0, pos := "move.go:98", after := #[], guard := none } : Oper)) (v := ?_) rfl (by kernel_rfl) (by kernel_rfl) (by kernel_rfl) (fun _ _ _ h => h) (Or.inl ⟨by rfl, ?_⟩) (by assumption) ?_
        rotate_left; (· intro w hSw; (try dsimp only at hSw); go_simp; all_goals (with_reducible rfl))
        try simp only [Act.put, List.setIfInBounds_toArray, List.set_cons_zero, List.set_cons_succ]
        refine wpAnyH_take (i := 5) (oi := ({ dst := some 31, op := Op.fieldAddr 35 (Operand.tmp 30) 3, type := 0, pos := "move.go:98", after := #[{ on := 4, ground := Ground.data }], guard := none } : Oper)) (v := ?_) rfl (by kernel_rfl) (by kernel_rfl) (by kernel_rfl) (fun _ _ _ h => h) (Or.inl ⟨by rfl, ?_⟩) (by assumption) ?_
        rotate_left; (· intro w hSw; (try dsimp only at hSw); go_simp; all_goals (with_reducible rfl))
        try simp only [Act.put, List.setIfInBounds_toArray, List.set_cons_zero, List.set_cons_succ]
        refine wpAnyH_take (i := 6) (oi := ({ dst := some 32, op := Op.load 33 (Operand.tmp 31), type := 33, pos := "move.go:98", after := #[{ on := 5, ground := Ground.data }], guard := none } : Oper)) (v := ?_) rfl (by kernel_rfl) (by kernel_rfl) (by kernel_rfl) (fun _ _ _ h => h) (Or.inl ⟨by rfl, ?_⟩) (by assumption) ?_
        rotate_left; (· intro w hSw; (try dsimp only at hSw); go_simp; all_goals (with_reducible rfl))
        try simp only [Act.put, List.setIfInBounds_toArray, List.set_cons_zero, List.set_cons_succ]
        refine wpAnyH_ready (rs := [7]) (by kernel_rfl) (by simp) ?_
        refine AllReadyH.cons (o := ({ dst := none, op := Op.call { callee := Callee.builtin Builtin.delete, args := #[Operand.tmp 29, Operand.tmp 32], argTypes := #[51, 33] }, type := 0, pos := "move.go:98", after := #[{ on := 3, ground := Ground.data }, { on := 6, ground := Ground.data }], guard := none } : Oper)) rfl (fun K hK => ?_) AllReadyH.nil
        go_simp
        refine hK.out _ _ ?_ (fun hHeld2 => ?_)
        · exact ⟨hkg.cell cb hn1, hkg.cell cm hn2, hkg.cell c4 hn3, hkg.cell c5 hn3⟩
        clear hK K
        try simp only [Act.put, List.setIfInBounds_toArray, List.set_cons_zero, List.set_cons_succ]
        refine wpAnyH_done (by kernel_rfl) ?_ _
        gi_wp2
        refine ⟨KeepsFrom.of_grownBy HG6.out (fun j e => by injection e with e; omega), Stay.grown (A := W) HG6.out (by have := HST.out.size; rw [hs2] at this; exact this) (fun r e => .inr (by injection e with e; exact e.symm)), HST.out.trans (Stay.grown (A := W) HG6.out HST.out.size (fun r e => .inr (by injection e with e; exact e.symm))), _, HM6.out, HPRE.out _ (List.Perm.refl _)⟩
      · obtain ⟨w6, L6, hrun, hM6, hp6, hg6⟩ := hmd.put hlp x.1.2.before hnx
        rw [hidx rfl] at hrun hp6
        unfold ndVal ndArr ndCells at hrun
        have hg6 : W.grownBy w6 (some mb) := ⟨hg6.os, hg6.tape, hg6.output, hg6.size, hg6.block⟩
        have HM6 := Go.Lib.hid hM6; have HG6 := Go.Lib.hid hg6; have HP6 := Go.Lib.hid hp6
        have hkg : Kept (fun q => q = mb) W w6 := (Kept.of_grown hg6)
        have hn1 : ¬ w.heap.size = mb := by omega
        have hn2 : ¬ b = mb := hS8.ne hM
        have hn3 : ¬ Bx = mb := by omega
        clear hpre hst hth hmd hM6 hg6 hp6 hM2 hMW hpW hidx hnx hox hSp hbx hbs cB hStp hSS hSok hSin hR hM hL hS8 hin hw s0 m0 hb0 hb2 hlr hcr hrr hz hAr
        gi_wp2
        refine wpIn_region_heldR (S := (fun W => W.cell? ⟨w.heap.size, 0, none⟩ = some (.pointer (some ⟨b, 0, none⟩)) ∧ W.cell? ⟨b, 1, none⟩ = some (.map (some mb)) ∧ W.cell? ⟨Bx, 4, none⟩ = some (.int .i64 x.1.2.op.node.count) ∧ W.cell? ⟨Bx, 5, none⟩ = some (.int .i64 x.1.2.op.node.who) ∧ W.cell? ⟨Bx, 11, none⟩ = some (.int .i64 x.1.2.before.id.count) ∧ W.cell? ⟨Bx, 11 + 1, none⟩ = some (.int .i64 x.1.2.before.id.who) ∧ W.cell? ⟨Bx, 11 + 2, none⟩ = some (.bool x.1.2.before.dir) ∧ W.cell? ⟨Bx, 11 + 3, none⟩ = some (.int .i64 x.1.2.before.parent.count) ∧ W.cell? ⟨Bx, 11 + 4, none⟩ = some (.int .i64 x.1.2.before.parent.who) ∧ W.cell? ⟨Bx, 11 + 5, none⟩ = some (.string (BS x.1.2.before.name)) ∧ W.cell? ⟨Bx, 11 + 6, none⟩ = some (.string (BS x.1.2.before.manifest)))) (by kernel_rfl) (by rintro ⟨a, w, h⟩; exact h) (by kernel_rfl) ?_ (fun hHeld => ?_)
        · exact ⟨cb, cm, c4, c5, d0, d1, d2, d3, d4, d5, d6⟩
        refine wpAnyH_take (i := 0) (oi := ({ dst := some 17, op := Op.load 23 (Operand.tmp 2), type := 23, pos := "move.go:96", after := #[], guard := none } : Oper)) (v := ?_) rfl (by kernel_rfl) (by kernel_rfl) (by kernel_rfl) (fun _ _ _ h => h) (Or.inl ⟨by rfl, ?_⟩) (by assumption) ?_
        rotate_left; (· intro w hSw; (try dsimp only at hSw); go_simp; all_goals (with_reducible rfl))
        try simp only [Act.put, List.setIfInBounds_toArray, List.set_cons_zero, List.set_cons_succ]
        refine wpAnyH_take (i := 1) (oi := ({ dst := some 18, op := Op.nilCheck (Operand.tmp 17), type := 0, pos := "move.go:96", after := #[{ on := 0, ground := Ground.data }], guard := none } : Oper)) (v := ?_) rfl (by kernel_rfl) (by kernel_rfl) (by kernel_rfl) (fun _ _ _ h => h) (Or.inl ⟨by rfl, ?_⟩) (by assumption) ?_
        rotate_left; (· intro w hSw; (try dsimp only at hSw); go_simp; all_goals (with_reducible rfl))
        try simp only [Act.put, List.setIfInBounds_toArray, List.set_cons_zero, List.set_cons_succ]
        refine wpAnyH_take (i := 2) (oi := ({ dst := some 19, op := Op.fieldAddr 54 (Operand.tmp 18) 1, type := 0, pos := "move.go:96", after := #[{ on := 1, ground := Ground.data }], guard := none } : Oper)) (v := ?_) rfl (by kernel_rfl) (by kernel_rfl) (by kernel_rfl) (fun _ _ _ h => h) (Or.inl ⟨by rfl, ?_⟩) (by assumption) ?_
        rotate_left; (· intro w hSw; (try dsimp only at hSw); go_simp; all_goals (with_reducible rfl))
        try simp only [Act.put, List.setIfInBounds_toArray, List.set_cons_zero, List.set_cons_succ]
        refine wpAnyH_take (i := 3) (oi := ({ dst := some 20, op := Op.load 51 (Operand.tmp 19), type := 51, pos := "move.go:96", after := #[{ on := 2, ground := Ground.data }], guard := none } : Oper)) (v := ?_) rfl (by kernel_rfl) (by kernel_rfl) (by kernel_rfl) (fun _ _ _ h => h) (Or.inl ⟨by rfl, ?_⟩) (by assumption) ?_
        rotate_left; (· intro w hSw; (try dsimp only at hSw); go_simp; all_goals (with_reducible rfl))
        try simp only [Act.put, List.setIfInBounds_toArray, List.set_cons_zero, List.set_cons_succ]
        refine wpAnyH_take (i := 4) (oi := ({ dst := some 21, op := Op.fieldAddr 58 (Operand.tmp 5) 0, type := 0, pos := "move.go:96", after := #[], guard := none } : Oper)) (v := ?_) rfl (by kernel_rfl) (by kernel_rfl) (by kernel_rfl) (fun _ _ _ h => h) (Or.inl ⟨by rfl, ?_⟩) (by assumption) ?_
        rotate_left; (· intro w hSw; (try dsimp only at hSw); go_simp; all_goals (with_reducible rfl))
        try simp only [Act.put, List.setIfInBounds_toArray, List.set_cons_zero, List.set_cons_succ]
        refine wpAnyH_take (i := 5) (oi := ({ dst := some 22, op := Op.fieldAddr 35 (Operand.tmp 21) 3, type := 0, pos := "move.go:96", after := #[{ on := 4, ground := Ground.data }], guard := none } : Oper)) (v := ?_) rfl (by kernel_rfl) (by kernel_rfl) (by kernel_rfl) (fun _ _ _ h => h) (Or.inl ⟨by rfl, ?_⟩) (by assumption) ?_
        rotate_left; (· intro w hSw; (try dsimp only at hSw); go_simp; all_goals (with_reducible rfl))
        try simp only [Act.put, List.setIfInBounds_toArray, List.set_cons_zero, List.set_cons_succ]
        refine wpAnyH_take (i := 6) (oi := ({ dst := some 23, op := Op.load 33 (Operand.tmp 22), type := 33, pos := "move.go:96", after := #[{ on := 5, ground := Ground.data }], guard := none } : Oper)) (v := ?_) rfl (by kernel_rfl) (by kernel_rfl) (by kernel_rfl) (fun _ _ _ h => h) (Or.inl ⟨by rfl, ?_⟩) (by assumption) ?_
        rotate_left; (· intro w hSw; (try dsimp only at hSw); go_simp; all_goals (with_reducible rfl))
        try simp only [Act.put, List.setIfInBounds_toArray, List.set_cons_zero, List.set_cons_succ]
        refine wpAnyH_take (i := 7) (oi := ({ dst := some 24, op := Op.fieldAddr 58 (Operand.tmp 5) 1, type := 0, pos := "move.go:96", after := #[], guard := none } : Oper)) (v := ?_) rfl (by kernel_rfl) (by kernel_rfl) (by kernel_rfl) (fun _ _ _ h => h) (Or.inl ⟨by rfl, ?_⟩) (by assumption) ?_
        rotate_left; (· intro w hSw; (try dsimp only at hSw); go_simp; all_goals (with_reducible rfl))
        try simp only [Act.put, List.setIfInBounds_toArray, List.set_cons_zero, List.set_cons_succ]
        refine wpAnyH_take (i := 8) (oi := ({ dst := some 25, op := Op.load 49 (Operand.tmp 24), type := 49, pos := "move.go:96", after := #[{ on := 7, ground := Ground.data }], guard := none } : Oper)) (v := ?_) rfl (by kernel_rfl) (by kernel_rfl) (by kernel_rfl) (fun _ _ _ h => h) (Or.inl ⟨by rfl, ?_⟩) (by assumption) ?_
        rotate_left; (· intro w hSw; (try dsimp only at hSw); go_simp; all_goals (with_reducible rfl))
        try simp only [Act.put, List.setIfInBounds_toArray, List.set_cons_zero, List.set_cons_succ]
        refine wpAnyH_ready (rs := [9]) (by kernel_rfl) (by simp) ?_
        refine AllReadyH.cons (o := ({ dst := none, op := Op.mapUpdate 51 (Operand.tmp 20) (Operand.tmp 23) (Operand.tmp 25), type := 0, pos := "move.go:96", after := #[{ on := 3, ground := Ground.data }, { on := 6, ground := Ground.data }, { on := 8, ground := Ground.data }, { on := 0, ground := Ground.phase }, { on := 1, ground := Ground.phase }, { on := 2, ground := Ground.phase }, { on := 3, ground := Ground.phase }, { on := 4, ground := Ground.phase }, { on := 5, ground := Ground.phase }, { on := 6, ground := Ground.phase }, { on := 7, ground := Ground.phase }, { on := 8, ground := Ground.phase }], guard := none } : Oper)) rfl (fun K hK => ?_) AllReadyH.nil
        go_simp
        refine hK.out _ _ ?_ (fun hHeld2 => ?_)
        · exact ⟨hkg.cell cb hn1, hkg.cell cm hn2, hkg.cell c4 hn3, hkg.cell c5 hn3, hkg.cell d0 hn3, hkg.cell d1 hn3, hkg.cell d2 hn3, hkg.cell d3 hn3, hkg.cell d4 hn3, hkg.cell d5 hn3, hkg.cell d6 hn3⟩
        clear hK K
        try simp only [Act.put, List.setIfInBounds_toArray, List.set_cons_zero, List.set_cons_succ]
        refine wpAnyH_done (by kernel_rfl) ?_ _
        gi_wp2
        refine ⟨KeepsFrom.of_grownBy HG6.out (fun j e => by injection e with e; omega), Stay.grown (A := W) HG6.out (by have := HST.out.size; rw [hs2] at this; exact this) (fun r e => .inr (by injection e with e; exact e.symm)), HST.out.trans (Stay.grown (A := W) HG6.out HST.out.size (fun r e => .inr (by injection e with e; exact e.symm))), _, HM6.out, HPRE.out _ HP6.out⟩
    case done =>
      rintro D ys W hD rfl ⟨hst, L', hMW, hpW⟩ hK
      rw [hs2] at hD
      have hpo : Stay (w.heap.size + 2) mb W (W.putObj D (.deferred none)) := Stay.grown (grownBy_putObj' W D _) (by have := hst.size; rw [hs2] at this; exact this) (fun r e => .inl (by injection e with e; omega))
      have hst' : Stay (w.heap.size + 2) mb ((w.alloc (.cells #[.pointer (some ⟨b, 0, none⟩)] 23)).alloc (.cells #[.slice (some ⟨g, off + i * 19, none⟩) (n - i) (c - i)] 52)) W := by rw [← hs2]; exact hst
      gi_wp2
      refine ⟨by simp, .inl ⟨_, _, rfl, run_takeDeferred hK, ?_⟩⟩
      refine ⟨_, results_none rfl _ _ _, rfl, L', hMW.at ((grownBy_putObj' W D _).block _ hMW.lt (fun e => by injection e with e; omega)), ?_, Stay.kept hb2 (hst'.trans hpo) (by omega)⟩
      rw [List.map_reverse, mkX_map] at hpW
      exact hpW.trans (undo_all ops i (by omega) L hL)
    case stop =>
      rintro D c pre W _ _ h _
      exact h.elim

  · obtain rfl : i = n := by omega
    have e2 : (i : Int) ≤ (i : Int) := Int.le_refl _
    have hSok : ∀ s ∈ ([] : List Stp), SpOk s := fun s hs => (by cases hs)
    have hlen2 : ([] : List Stp).length ≤ 10000 := by simp
    rcases hR0.2 with ⟨he, h0⟩ | ⟨g, cap, cur, fz, he, -, -, -, hncap, -⟩
    · cases he
      have hSS : Stps w (.slice none 0 0) [] := ⟨none, 0, 0, rfl, rfl, Nat.le_refl _, fun _ => rfl, fun h => by omega⟩
      have hSin : InSet (fun q => q < w.heap.size ∧ q ≠ mb) (.slice none 0 0) := InSet.nil _ _ _
      refine callsIn_of_wp_marks Tryd.func25 rfl trivial ?_ hro
      simp only [Tryd.ntmps25, List.size_toArray, List.length_cons, List.length_nil, Nat.reduceAdd, Nat.reduceSub, Array.replicate_succ, Array.replicate_zero, List.push_toArray, List.append_toArray, List.nil_append, List.cons_append]
      gi_wp2_with (gi_at_call 39; refine (pbwd_in Fence.wide 8 hG1 hro _ _ _ _).mono ?_; rintro e w' ⟨rfl, rfl⟩)
      have hb2 : Below w.heap.size w ((w.alloc (.cells #[.pointer (some ⟨b, 0, none⟩)] 23)).alloc (.cells #[.slice none 0 0] 52)) := hb0.alloc hb0.size _
      have hs1 : (w.alloc (.cells #[.pointer (some ⟨b, 0, none⟩)] 23)).heap.size = w.heap.size + 1 := by simp
      have hs2 : ((w.alloc (.cells #[.pointer (some ⟨b, 0, none⟩)] 23)).alloc (.cells #[.slice none 0 0] 52)).heap.size = w.heap.size + 2 := by simp
      have hbx : ((w.alloc (.cells #[.pointer (some ⟨b, 0, none⟩)] 23)).alloc (.cells #[.slice none 0 0] 52)).heap[w.heap.size]? = some (.cells #[.pointer (some ⟨b, 0, none⟩)] 23 (0, 0)) := (Below.heap_alloc _ _ _ (by rw [hs1]; omega)).trans (heap_alloc_new w _)
      have hbs : ((w.alloc (.cells #[.pointer (some ⟨b, 0, none⟩)] 23)).alloc (.cells #[.slice none 0 0] 52)).heap[w.heap.size + 1]? = some (.cells #[.slice none 0 0] 52 (0, 0)) := by rw [← hs1]; exact heap_alloc_new _ _
      have cB : ((w.alloc (.cells #[.pointer (some ⟨b, 0, none⟩)] 23)).alloc (.cells #[.slice none 0 0] 52)).cell? ⟨w.heap.size + 1, 0, none⟩ = some (.slice none 0 0) := by rw [cell_of_row _ _ _ _ _ _ hbs]; rfl
      have hStp := hSS.below hb2
      have hM2 := hM.below hb2
      try rw [hs1]
      refine wpIn_rangeFunc_ownH hro h1 (gf := 52) (lb := #[.pointer (some ⟨w.heap.size + 1, 0, none⟩)]) rfl hG2 (enters_of Tryd.func52 (by kernel_rfl) rfl)
        (pbwd_stops Fence.wide 8 hG2 hro (by omega) (w.heap.size + 1) (w.heap.size + 2) mb _ ([]) hSok (by first | (simp; done) | (simp; omega)) ((w.alloc (.cells #[.pointer (some ⟨b, 0, none⟩)] 23)).alloc (.cells #[.slice none 0 0] 52)) (by omega) (by omega) (by rw [hs2]; exact Nat.le_refl _) cB hStp (hSin.mono fun q hq => ⟨by omega, hq.2⟩)) Stay.trans (by rw [hs2]; exact fun W l o o' hl h h1 h2 => Stay.putObj (w := ((w.alloc (.cells #[.pointer (some ⟨b, 0, none⟩)] 23)).alloc (.cells #[.slice none 0 0] 52))) (by rw [hs2]; exact Nat.le_refl _) W l o o' (by rw [hs2]; exact hl) h h1 h2) (Below.refl _ _) (fun _ => rfl)
        (UnIn ((w.alloc (.cells #[.pointer (some ⟨b, 0, none⟩)] 23)).alloc (.cells #[.slice none 0 0] 52)) mb L) (fun _ _ _ => False) (UnIn.own hM2.lt) (fun _ _ _ _ _ hs _ _ => hs) ⟨Stay.refl _ _ _, L, hM2, List.Perm.refl _⟩
        (fun x a' W => ∃ Bx, w.heap.size + 2 ≤ Bx ∧ SpB W Bx x.1.2 ∧ a' = { tmps := #[.pointer (some ⟨b, 0, none⟩), .int .i64 0, .pointer (some ⟨w.heap.size, 0, none⟩), undef, undef, .pointer (some ⟨Bx, 0, none⟩), .pointer (some ⟨b, 0, none⟩), .pointer (some ⟨b, 0, none⟩), .pointer (some ⟨b, 0, none⟩), .slice none 0 0, .int .i64 0, .slice none 0 0, .func (.func 52) #[] #[.pointer (some ⟨w.heap.size + 1, 0, none⟩)], .int .i64 (x.1.1 : Int), stpVal x.1.2, undef, undef, undef, undef, undef, undef, undef, undef, undef, undef, undef, undef, undef, undef, undef, undef, undef, undef], defers := [] })
        ?hAx ?assign ?body ?done ?stop
      case hAx =>
        intro x a' s A B row ⟨Bx, h1, h2, h3⟩ hg hr
        refine ⟨Bx, h1, (hg.block Bx h2.lt fun e => ?_).trans h2, h3⟩
        obtain ⟨-, o, ho, hoc⟩ := hr Bx e.symm
        rw [show A.heap[Bx]? = _ from h2] at ho
        cases ho
        cases hoc
      case assign =>
        rintro l pre x W K hI hK
        obtain ⟨hst, L', hMW, hpW⟩ := hI
        gi_wp2_with (refine wpListIn_store_row rfl 58 _ _ rfl W.heap.size (stpArr x.1.2) rfl rfl 58 _ (heap_alloc_new W _) (size_stp.trans (by rfl)) rfl (stpArr_one _) ?_)
        obtain ⟨hg, hnw⟩ := new_row W _ (stpArr x.1.2) 58
        exact hK _ _ (KeepsFrom.of_grownBy hg (by simp)) (Stay.grown hg (by have := hst.size; rw [hs2] at this; exact this) (by simp)) ⟨hst.trans (Stay.grown hg hst.size (by simp)), L', hMW.at (hg.block _ hMW.lt (by simp)), hpW⟩ ⟨W.heap.size, (by have := hst.size; rw [hs2] at this; exact this), hnw, rfl⟩
      case body =>
        rintro l pre x a' W hlB - ⟨hst, L', hMW, hpW⟩ ⟨Bx, hBx, hSp, rfl⟩ hlen
        exact absurd hlen (by simp)
      case done =>
        rintro D ys W hD rfl ⟨hst, L', hMW, hpW⟩ hK
        rw [hs2] at hD
        have hpo : Stay (w.heap.size + 2) mb W (W.putObj D (.deferred none)) := Stay.grown (grownBy_putObj' W D _) (by have := hst.size; rw [hs2] at this; exact this) (fun r e => .inl (by injection e with e; omega))
        have hst' : Stay (w.heap.size + 2) mb ((w.alloc (.cells #[.pointer (some ⟨b, 0, none⟩)] 23)).alloc (.cells #[.slice none 0 0] 52)) W := by rw [← hs2]; exact hst
        gi_wp2
        refine ⟨by simp, .inl ⟨_, _, rfl, run_takeDeferred hK, ?_⟩⟩
        refine ⟨_, results_none rfl _ _ _, rfl, L', hMW.at ((grownBy_putObj' W D _).block _ hMW.lt (fun e => by injection e with e; omega)), ?_, Stay.kept hb2 (hst'.trans hpo) (by omega)⟩
        rw [List.map_reverse, mkX_map] at hpW
        exact (by rw [List.take_of_length_le (by omega)]; exact List.Perm.trans hpW hL)
      case stop =>
        rintro D c pre W _ _ h _
        exact h.elim
    · cases he
      have e3 : (i : Int) ≤ (c : Int) := by omega
      by_cases hci : c = i
      · obtain rfl : i = c := hci.symm
        have hSS : Stps w (.slice (some ⟨g, 0, none⟩) 0 0) [] := ⟨_, 0, 0, rfl, rfl, Nat.le_refl _, nofun, fun h => by omega⟩
        have hSin : InSet (fun q => q < w.heap.size ∧ q ≠ mb) (.slice (some ⟨g, 0, none⟩) 0 0) := fun a' n' c' he => by
          cases he
          exact hin ⟨g, 0, none⟩ _ _ rfl
        refine callsIn_of_wp_marks Tryd.func25 rfl trivial ?_ hro
        simp only [Tryd.ntmps25, List.size_toArray, List.length_cons, List.length_nil, Nat.reduceAdd, Nat.reduceSub, Array.replicate_succ, Array.replicate_zero, List.push_toArray, List.append_toArray, List.nil_append, List.cons_append]
        gi_wp2_with (gi_at_call 39; refine (pbwd_in Fence.wide 8 hG1 hro _ _ _ _).mono ?_; rintro e w' ⟨rfl, rfl⟩)
        have hb2 : Below w.heap.size w ((w.alloc (.cells #[.pointer (some ⟨b, 0, none⟩)] 23)).alloc (.cells #[.slice (some ⟨g, 0, none⟩) 0 0] 52)) := hb0.alloc hb0.size _
        have hs1 : (w.alloc (.cells #[.pointer (some ⟨b, 0, none⟩)] 23)).heap.size = w.heap.size + 1 := by simp
        have hs2 : ((w.alloc (.cells #[.pointer (some ⟨b, 0, none⟩)] 23)).alloc (.cells #[.slice (some ⟨g, 0, none⟩) 0 0] 52)).heap.size = w.heap.size + 2 := by simp
        have hbx : ((w.alloc (.cells #[.pointer (some ⟨b, 0, none⟩)] 23)).alloc (.cells #[.slice (some ⟨g, 0, none⟩) 0 0] 52)).heap[w.heap.size]? = some (.cells #[.pointer (some ⟨b, 0, none⟩)] 23 (0, 0)) := (Below.heap_alloc _ _ _ (by rw [hs1]; omega)).trans (heap_alloc_new w _)
        have hbs : ((w.alloc (.cells #[.pointer (some ⟨b, 0, none⟩)] 23)).alloc (.cells #[.slice (some ⟨g, 0, none⟩) 0 0] 52)).heap[w.heap.size + 1]? = some (.cells #[.slice (some ⟨g, 0, none⟩) 0 0] 52 (0, 0)) := by rw [← hs1]; exact heap_alloc_new _ _
        have cB : ((w.alloc (.cells #[.pointer (some ⟨b, 0, none⟩)] 23)).alloc (.cells #[.slice (some ⟨g, 0, none⟩) 0 0] 52)).cell? ⟨w.heap.size + 1, 0, none⟩ = some (.slice (some ⟨g, 0, none⟩) 0 0) := by rw [cell_of_row _ _ _ _ _ _ hbs]; rfl
        have hStp := hSS.below hb2
        have hM2 := hM.below hb2
        try rw [hs1]
        refine wpIn_rangeFunc_ownH hro h1 (gf := 52) (lb := #[.pointer (some ⟨w.heap.size + 1, 0, none⟩)]) rfl hG2 (enters_of Tryd.func52 (by kernel_rfl) rfl)
          (pbwd_stops Fence.wide 8 hG2 hro (by omega) (w.heap.size + 1) (w.heap.size + 2) mb _ ([]) hSok (by first | (simp; done) | (simp; omega)) ((w.alloc (.cells #[.pointer (some ⟨b, 0, none⟩)] 23)).alloc (.cells #[.slice (some ⟨g, 0, none⟩) 0 0] 52)) (by omega) (by omega) (by rw [hs2]; exact Nat.le_refl _) cB hStp (hSin.mono fun q hq => ⟨by omega, hq.2⟩)) Stay.trans (by rw [hs2]; exact fun W l o o' hl h h1 h2 => Stay.putObj (w := ((w.alloc (.cells #[.pointer (some ⟨b, 0, none⟩)] 23)).alloc (.cells #[.slice (some ⟨g, 0, none⟩) 0 0] 52))) (by rw [hs2]; exact Nat.le_refl _) W l o o' (by rw [hs2]; exact hl) h h1 h2) (Below.refl _ _) (fun _ => rfl)
          (UnIn ((w.alloc (.cells #[.pointer (some ⟨b, 0, none⟩)] 23)).alloc (.cells #[.slice (some ⟨g, 0, none⟩) 0 0] 52)) mb L) (fun _ _ _ => False) (UnIn.own hM2.lt) (fun _ _ _ _ _ hs _ _ => hs) ⟨Stay.refl _ _ _, L, hM2, List.Perm.refl _⟩
          (fun x a' W => ∃ Bx, w.heap.size + 2 ≤ Bx ∧ SpB W Bx x.1.2 ∧ a' = { tmps := #[.pointer (some ⟨b, 0, none⟩), .int .i64 (i : Int), .pointer (some ⟨w.heap.size, 0, none⟩), undef, undef, .pointer (some ⟨Bx, 0, none⟩), .pointer (some ⟨b, 0, none⟩), .pointer (some ⟨b, 0, none⟩), .pointer (some ⟨b, 0, none⟩), .slice (some ⟨g, 0, none⟩) i i, .int .i64 (i : Int), .slice (some ⟨g, 0, none⟩) 0 0, .func (.func 52) #[] #[.pointer (some ⟨w.heap.size + 1, 0, none⟩)], .int .i64 (x.1.1 : Int), stpVal x.1.2, undef, undef, undef, undef, undef, undef, undef, undef, undef, undef, undef, undef, undef, undef, undef, undef, undef, undef], defers := [] })
          ?hAx ?assign ?body ?done ?stop
        case hAx =>
          intro x a' s A B row ⟨Bx, h1, h2, h3⟩ hg hr
          refine ⟨Bx, h1, (hg.block Bx h2.lt fun e => ?_).trans h2, h3⟩
          obtain ⟨-, o, ho, hoc⟩ := hr Bx e.symm
          rw [show A.heap[Bx]? = _ from h2] at ho
          cases ho
          cases hoc
        case assign =>
          rintro l pre x W K hI hK
          obtain ⟨hst, L', hMW, hpW⟩ := hI
          gi_wp2_with (refine wpListIn_store_row rfl 58 _ _ rfl W.heap.size (stpArr x.1.2) rfl rfl 58 _ (heap_alloc_new W _) (size_stp.trans (by rfl)) rfl (stpArr_one _) ?_)
          obtain ⟨hg, hnw⟩ := new_row W _ (stpArr x.1.2) 58
          exact hK _ _ (KeepsFrom.of_grownBy hg (by simp)) (Stay.grown hg (by have := hst.size; rw [hs2] at this; exact this) (by simp)) ⟨hst.trans (Stay.grown hg hst.size (by simp)), L', hMW.at (hg.block _ hMW.lt (by simp)), hpW⟩ ⟨W.heap.size, (by have := hst.size; rw [hs2] at this; exact this), hnw, rfl⟩
        case body =>
          rintro l pre x a' W hlB - ⟨hst, L', hMW, hpW⟩ ⟨Bx, hBx, hSp, rfl⟩ hlen
          exact absurd hlen (by simp)
        case done =>
          rintro D ys W hD rfl ⟨hst, L', hMW, hpW⟩ hK
          rw [hs2] at hD
          have hpo : Stay (w.heap.size + 2) mb W (W.putObj D (.deferred none)) := Stay.grown (grownBy_putObj' W D _) (by have := hst.size; rw [hs2] at this; exact this) (fun r e => .inl (by injection e with e; omega))
          have hst' : Stay (w.heap.size + 2) mb ((w.alloc (.cells #[.pointer (some ⟨b, 0, none⟩)] 23)).alloc (.cells #[.slice (some ⟨g, 0, none⟩) 0 0] 52)) W := by rw [← hs2]; exact hst
          gi_wp2
          refine ⟨by simp, .inl ⟨_, _, rfl, run_takeDeferred hK, ?_⟩⟩
          refine ⟨_, results_none rfl _ _ _, rfl, L', hMW.at ((grownBy_putObj' W D _).block _ hMW.lt (fun e => by injection e with e; omega)), ?_, Stay.kept hb2 (hst'.trans hpo) (by omega)⟩
          rw [List.map_reverse, mkX_map] at hpW
          exact (by rw [List.take_of_length_le (by omega)]; exact List.Perm.trans hpW hL)
        case stop =>
          rintro D c pre W _ _ h _
          exact h.elim
      · have e1 : ¬ c = i := hci
        have hSS : Stps w (.slice (some ⟨g, i * 19, none⟩) 0 (c - i)) [] := ⟨_, 0, _, rfl, rfl, Nat.zero_le _, nofun, fun h => by omega⟩
        have hSin : InSet (fun q => q < w.heap.size ∧ q ≠ mb) (.slice (some ⟨g, i * 19, none⟩) 0 (c - i)) := fun a' n' c' he => by
          cases he
          exact hin ⟨g, 0, none⟩ _ _ rfl
        refine callsIn_of_wp_marks Tryd.func25 rfl trivial ?_ hro
        simp only [Tryd.ntmps25, List.size_toArray, List.length_cons, List.length_nil, Nat.reduceAdd, Nat.reduceSub, Array.replicate_succ, Array.replicate_zero, List.push_toArray, List.append_toArray, List.nil_append, List.cons_append]
        gi_wp2_with (gi_at_call 39; refine (pbwd_in Fence.wide 8 hG1 hro _ _ _ _).mono ?_; rintro e w' ⟨rfl, rfl⟩)
        have hb2 : Below w.heap.size w ((w.alloc (.cells #[.pointer (some ⟨b, 0, none⟩)] 23)).alloc (.cells #[.slice (some ⟨g, i * 19, none⟩) 0 (c - i)] 52)) := hb0.alloc hb0.size _
        have hs1 : (w.alloc (.cells #[.pointer (some ⟨b, 0, none⟩)] 23)).heap.size = w.heap.size + 1 := by simp
        have hs2 : ((w.alloc (.cells #[.pointer (some ⟨b, 0, none⟩)] 23)).alloc (.cells #[.slice (some ⟨g, i * 19, none⟩) 0 (c - i)] 52)).heap.size = w.heap.size + 2 := by simp
        have hbx : ((w.alloc (.cells #[.pointer (some ⟨b, 0, none⟩)] 23)).alloc (.cells #[.slice (some ⟨g, i * 19, none⟩) 0 (c - i)] 52)).heap[w.heap.size]? = some (.cells #[.pointer (some ⟨b, 0, none⟩)] 23 (0, 0)) := (Below.heap_alloc _ _ _ (by rw [hs1]; omega)).trans (heap_alloc_new w _)
        have hbs : ((w.alloc (.cells #[.pointer (some ⟨b, 0, none⟩)] 23)).alloc (.cells #[.slice (some ⟨g, i * 19, none⟩) 0 (c - i)] 52)).heap[w.heap.size + 1]? = some (.cells #[.slice (some ⟨g, i * 19, none⟩) 0 (c - i)] 52 (0, 0)) := by rw [← hs1]; exact heap_alloc_new _ _
        have cB : ((w.alloc (.cells #[.pointer (some ⟨b, 0, none⟩)] 23)).alloc (.cells #[.slice (some ⟨g, i * 19, none⟩) 0 (c - i)] 52)).cell? ⟨w.heap.size + 1, 0, none⟩ = some (.slice (some ⟨g, i * 19, none⟩) 0 (c - i)) := by rw [cell_of_row _ _ _ _ _ _ hbs]; rfl
        have hStp := hSS.below hb2
        have hM2 := hM.below hb2
        try rw [hs1]
        refine wpIn_rangeFunc_ownH hro h1 (gf := 52) (lb := #[.pointer (some ⟨w.heap.size + 1, 0, none⟩)]) rfl hG2 (enters_of Tryd.func52 (by kernel_rfl) rfl)
          (pbwd_stops Fence.wide 8 hG2 hro (by omega) (w.heap.size + 1) (w.heap.size + 2) mb _ ([]) hSok (by first | (simp; done) | (simp; omega)) ((w.alloc (.cells #[.pointer (some ⟨b, 0, none⟩)] 23)).alloc (.cells #[.slice (some ⟨g, i * 19, none⟩) 0 (c - i)] 52)) (by omega) (by omega) (by rw [hs2]; exact Nat.le_refl _) cB hStp (hSin.mono fun q hq => ⟨by omega, hq.2⟩)) Stay.trans (by rw [hs2]; exact fun W l o o' hl h h1 h2 => Stay.putObj (w := ((w.alloc (.cells #[.pointer (some ⟨b, 0, none⟩)] 23)).alloc (.cells #[.slice (some ⟨g, i * 19, none⟩) 0 (c - i)] 52))) (by rw [hs2]; exact Nat.le_refl _) W l o o' (by rw [hs2]; exact hl) h h1 h2) (Below.refl _ _) (fun _ => rfl)
          (UnIn ((w.alloc (.cells #[.pointer (some ⟨b, 0, none⟩)] 23)).alloc (.cells #[.slice (some ⟨g, i * 19, none⟩) 0 (c - i)] 52)) mb L) (fun _ _ _ => False) (UnIn.own hM2.lt) (fun _ _ _ _ _ hs _ _ => hs) ⟨Stay.refl _ _ _, L, hM2, List.Perm.refl _⟩
          (fun x a' W => ∃ Bx, w.heap.size + 2 ≤ Bx ∧ SpB W Bx x.1.2 ∧ a' = { tmps := #[.pointer (some ⟨b, 0, none⟩), .int .i64 (i : Int), .pointer (some ⟨w.heap.size, 0, none⟩), undef, undef, .pointer (some ⟨Bx, 0, none⟩), .pointer (some ⟨b, 0, none⟩), .pointer (some ⟨b, 0, none⟩), .pointer (some ⟨b, 0, none⟩), .slice (some ⟨g, 0, none⟩) i c, .int .i64 (i : Int), .slice (some ⟨g, i * 19, none⟩) 0 (c - i), .func (.func 52) #[] #[.pointer (some ⟨w.heap.size + 1, 0, none⟩)], .int .i64 (x.1.1 : Int), stpVal x.1.2, undef, undef, undef, undef, undef, undef, undef, undef, undef, undef, undef, undef, undef, undef, undef, undef, undef, undef], defers := [] })
          ?hAx ?assign ?body ?done ?stop
        case hAx =>
          intro x a' s A B row ⟨Bx, h1, h2, h3⟩ hg hr
          refine ⟨Bx, h1, (hg.block Bx h2.lt fun e => ?_).trans h2, h3⟩
          obtain ⟨-, o, ho, hoc⟩ := hr Bx e.symm
          rw [show A.heap[Bx]? = _ from h2] at ho
          cases ho
          cases hoc
        case assign =>
          rintro l pre x W K hI hK
          obtain ⟨hst, L', hMW, hpW⟩ := hI
          gi_wp2_with (refine wpListIn_store_row rfl 58 _ _ rfl W.heap.size (stpArr x.1.2) rfl rfl 58 _ (heap_alloc_new W _) (size_stp.trans (by rfl)) rfl (stpArr_one _) ?_)
          obtain ⟨hg, hnw⟩ := new_row W _ (stpArr x.1.2) 58
          exact hK _ _ (KeepsFrom.of_grownBy hg (by simp)) (Stay.grown hg (by have := hst.size; rw [hs2] at this; exact this) (by simp)) ⟨hst.trans (Stay.grown hg hst.size (by simp)), L', hMW.at (hg.block _ hMW.lt (by simp)), hpW⟩ ⟨W.heap.size, (by have := hst.size; rw [hs2] at this; exact this), hnw, rfl⟩
        case body =>
          rintro l pre x a' W hlB - ⟨hst, L', hMW, hpW⟩ ⟨Bx, hBx, hSp, rfl⟩ hlen
          exact absurd hlen (by simp)
        case done =>
          rintro D ys W hD rfl ⟨hst, L', hMW, hpW⟩ hK
          rw [hs2] at hD
          have hpo : Stay (w.heap.size + 2) mb W (W.putObj D (.deferred none)) := Stay.grown (grownBy_putObj' W D _) (by have := hst.size; rw [hs2] at this; exact this) (fun r e => .inl (by injection e with e; omega))
          have hst' : Stay (w.heap.size + 2) mb ((w.alloc (.cells #[.pointer (some ⟨b, 0, none⟩)] 23)).alloc (.cells #[.slice (some ⟨g, i * 19, none⟩) 0 (c - i)] 52)) W := by rw [← hs2]; exact hst
          gi_wp2
          refine ⟨by simp, .inl ⟨_, _, rfl, run_takeDeferred hK, ?_⟩⟩
          refine ⟨_, results_none rfl _ _ _, rfl, L', hMW.at ((grownBy_putObj' W D _).block _ hMW.lt (fun e => by injection e with e; omega)), ?_, Stay.kept hb2 (hst'.trans hpo) (by omega)⟩
          rw [List.map_reverse, mkX_map] at hpW
          exact (by rw [List.take_of_length_le (by omega)]; exact List.Perm.trans hpW hL)
        case stop =>
          rintro D c pre W _ _ h _
          exact h.elim
end Go.Proofs.YtjeijolblcodpaaDoor.W
end

/- copy of elements of whatever size; cells laid one behind the other in a block. -/
section
namespace Arb
set_option maxRecDepth 20000
open Go Go.RowKit
set_option linter.unusedVariables false

theorem run_copy_sized {P : Program} (w : World) (dT sT ty elem : TypeId) (size k b o dLen dCap : Nat) (a : Addr) (sLen sCap : Nat) (cs : List Value)
    (hu : P.underlying dT = some (.slice elem)) (hs : (P.info? elem).map (·.size) = some size) (hk : Nat.min sLen dLen = k) (hn : cs.length = k * size)
    (hsrc : ∀ j v, cs[j]? = some v → w.cell? (a.add j) = some v) (hc : ∀ j, j < cs.length → (w.cell? ⟨b, o + j, none⟩).isSome = true) (hf : ∀ j, j < cs.length → w.frozen? ⟨b, o + j, none⟩ = false) (h1 : ∀ v ∈ cs, v.oneCell' = true) :
    (Builtin.copy_ #[dT, sT] ty #[.slice (some ⟨b, o, none⟩) dLen dCap, .slice (some a) sLen sCap]).run P w = .ok (goInt k) (w.setCells b o cs) := by
  have hl := run_firstCells_some (P := P) (w := w) size k a sLen sCap cs hn hsrc
  have hst := run_storeCells_cells (P := P) b o cs 0 w (by simpa using hc) (by simpa using hf) h1
  cases hq : P.info? elem with
  | none => simp [hq] at hs
  | some i =>
    have hi : i.size = size := by simpa [hq] using hs
    simp [Builtin.copy_, run_underlying hu, Builtin.lenOf, Go.sizeOf, typeInfo, hq, hi, hk, hl, hst]

/-- Values laid in an array from a place on. -/
def layAt : Array Value → Nat → List Value → Array Value
  | cur, _, [] => cur
  | cur, o, v :: r => layAt (cur.setIfInBounds o v) (o + 1) r
theorem layAt_size : ∀ (vs : List Value) (cur : Array Value) (o : Nat), (layAt cur o vs).size = cur.size
  | [], _, _ => rfl
  | v :: r, cur, o => by rw [layAt, layAt_size r]; simp
theorem layAt_get : ∀ (vs : List Value) (cur : Array Value) (o j : Nat), (layAt cur o vs)[j]? = if o ≤ j ∧ j < o + vs.length ∧ j < cur.size then vs[j - o]? else cur[j]?
  | [], cur, o, j => by rw [layAt, if_neg (by simp; omega)]
  | v :: r, cur, o, j => by
    rw [layAt, layAt_get r, Array.size_setIfInBounds, Array.getElem?_setIfInBounds, List.length_cons]
    by_cases h1 : o = j
    · subst h1
      rw [if_neg (by omega), if_pos rfl]
      by_cases h2 : o < cur.size
      · rw [if_pos h2, if_pos (by omega), Nat.sub_self]; rfl
      · rw [if_neg h2, if_neg (by omega), Array.getElem?_eq_none (by omega)]
    · rw [if_neg h1]
      by_cases h2 : o + 1 ≤ j ∧ j < o + 1 + r.length ∧ j < cur.size
      · rw [if_pos h2, if_pos (by omega), show j - o = (j - (o + 1)) + 1 by omega]
        rfl
      · rw [if_neg h2, if_neg (by omega)]
theorem heap_setCells_same {g : Nat} {e : TypeId} {fz : Nat × Nat} : ∀ (vs : List Value) (o : Nat) (w : World) (cur : Array Value), w.heap[g]? = some (.cells cur e fz) → (w.setCells g o vs).heap[g]? = some (.cells (layAt cur o vs) e fz)
  | [], _, _, _, h => h
  | v :: r, o, w, cur, h => by
    rw [World.setCells, layAt]
    refine heap_setCells_same r (o + 1) _ _ ?_
    rw [setCell_eq_setRow w g o cur e fz v h]
    exact setRow_heap w g cur _ e fz h
theorem heap_setCells_other {g k : Nat} (hk : k ≠ g) : ∀ (vs : List Value) (o : Nat) (w : World), (w.setCells g o vs).heap[k]? = w.heap[k]?
  | [], _, _ => rfl
  | v :: r, o, w => by rw [World.setCells, heap_setCells_other hk r, heap_setCell_other _ _ _ _ hk]
theorem setCells_size (g : Nat) : ∀ (vs : List Value) (o : Nat) (w : World), (w.setCells g o vs).heap.size = w.heap.size
  | [], _, _ => rfl
  | v :: r, o, w => by rw [World.setCells, setCells_size g r]; simp
theorem below_setCells {B : Nat} {a : World} {g : Nat} (hg : B ≤ g) : ∀ (vs : List Value) (o : Nat) (w : World), Below B a w → Below B a (w.setCells g o vs)
  | [], _, _, h => h
  | v :: r, o, w, h => by rw [World.setCells]; exact below_setCells hg r _ _ (h.setCell (p := ⟨g, o, none⟩) hg v)

/-- What lies in an array into which q values were laid at place p, what stood from there on behind them. -/
theorem lay_splice {cur cur2 : Array Value} {xs ys : List Value} {p q m : Nat} (hq : ys.length = q) (hp : p ≤ xs.length) (hm : m = xs.length + q) (hsz : m ≤ cur.size) (hcur : ∀ j, j < p → cur[j]? = xs[j]?)
    (h2 : cur2 = layAt (layAt cur (p + q) (xs.drop p)) p ys ∨ cur2 = layAt (layAt cur p ys) (p + q) (xs.drop p)) : cur2.toList.take m = xs.take p ++ ys ++ xs.drop p ∧ cur2.size = cur.size := by
  have hs : cur2.size = cur.size := by rcases h2 with rfl | rfl <;> rw [layAt_size, layAt_size]
  refine ⟨List.ext_getElem? fun j => ?_, hs⟩
  rw [List.getElem?_take]
  have hdl : (xs.drop p).length = xs.length - p := List.length_drop
  have hval : ∀ j, j < m → cur2[j]? = if j < p then xs[j]? else if j < p + q then ys[j - p]? else xs[j - q]? := fun j hj => by
    rcases h2 with rfl | rfl
    · rw [layAt_get, layAt_get, layAt_size, hdl, hq]
      by_cases a : j < p
      · rw [if_neg (by omega), if_neg (by omega), if_pos a, hcur j a]
      · by_cases b : j < p + q
        · rw [if_pos (by omega), if_neg a, if_pos b]
        · rw [if_neg (by omega), if_pos (by omega), if_neg a, if_neg b, List.getElem?_drop, show p + (j - (p + q)) = j - q by omega]
    · rw [layAt_get, layAt_get, layAt_size, hdl, hq]
      by_cases a : j < p
      · rw [if_neg (by omega), if_neg (by omega), if_pos a, hcur j a]
      · by_cases b : j < p + q
        · rw [if_neg (by omega), if_pos (by omega), if_neg a, if_pos b]
        · rw [if_pos (by omega), if_neg a, if_neg b, List.getElem?_drop, show p + (j - (p + q)) = j - q by omega]
  have htl : (xs.take p).length = p := by rw [List.length_take]; omega
  by_cases hj : j < m
  · rw [if_pos hj, Array.getElem?_toList, hval j hj, List.append_assoc, List.getElem?_append, htl, List.getElem?_append, hq]
    by_cases a : j < p
    · rw [if_pos a, if_pos a, List.getElem?_take, if_pos a]
    · rw [if_neg a, if_neg a]
      by_cases b : j < p + q
      · rw [if_pos b, if_pos (by omega)]
      · rw [if_neg b, if_neg (by omega), List.getElem?_drop, show p + (j - p - q) = j - q by omega]
  · rw [if_neg hj, List.getElem?_eq_none (by simp [hq]; omega)]
end Arb
end
