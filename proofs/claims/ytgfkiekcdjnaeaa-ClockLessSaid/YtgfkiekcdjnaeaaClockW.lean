/- Vectors that are made; the chapter's examples of layer 4. -/
import Derived.Test.YtgfkiekcdjnaeaaClockP
namespace Go.Proofs.Ytgfkiekcdjnaeaa.W
set_option linter.unusedVariables false
open Go.RowKit Go.Proofs Arb

theorem below_drewN {B : Nat} {a w : World} (h : Below B a w) (n : Nat) : Below B a (w.drewN n) := ⟨h.os, h.tape, h.output, h.size, h.block⟩
theorem bstep {w b c : World} (h : Below w.heap.size w b) (k : Below b.heap.size b c) : Below w.heap.size w c := h.trans (k.mono h.size)
theorem Vecs.made {w : World} {e : TypeId} (vs : List Value) (ls : List (List Int)) (hl : vs.length = ls.length) (h : ∀ (j : Nat) v l, vs[j]? = some v → ls[j]? = some l → Ints w v l) :
    Vecs (w.alloc (.cells vs.toArray e)) (.slice (some ⟨w.heap.size, 0, none⟩) vs.length vs.length) ls := by
  have hn := heap_alloc_new w (.cells vs.toArray e)
  refine ⟨_, _, _, rfl, hl.symm, Nat.le_refl _, fun h0 => ⟨_, 0, rfl, fun j l hj => ?_⟩⟩
  have hjl : j < vs.length := by have := (List.getElem?_eq_some_iff.1 hj).1; omega
  refine ⟨vs[j], by rw [Nat.zero_add, cell_of_row _ _ _ _ _ _ hn]; simp [hjl], ?_⟩
  exact (h j _ l (List.getElem?_eq_getElem hjl) hj).below ((Below.refl _ _).alloc (Nat.le_refl _) _)

theorem vecs2 {w : World} {e : TypeId} {u v : Value} {a b : List Int} (hu : Ints w u a) (hv : Ints w v b) : Vecs (w.alloc (.cells #[u, v] e)) (.slice (some ⟨w.heap.size, 0, none⟩) 2 2) [a, b] :=
  Vecs.made (e := e) [u, v] [a, b] rfl (by
    intro j x l h1 h2
    match j with
    | 0 => simp at h1 h2; subst h1; subst h2; exact hu
    | 1 => simp at h1 h2; subst h1; subst h2; exact hv
    | j + 2 => simp at h1)
theorem vecs3 {w : World} {e : TypeId} {u v x : Value} {a b c : List Int} (hu : Ints w u a) (hv : Ints w v b) (hx : Ints w x c) : Vecs (w.alloc (.cells #[u, v, x] e)) (.slice (some ⟨w.heap.size, 0, none⟩) 3 3) [a, b, c] :=
  Vecs.made (e := e) [u, v, x] [a, b, c] rfl (by
    intro j y l h1 h2
    match j with
    | 0 => simp at h1 h2; subst h1; subst h2; exact hu
    | 1 => simp at h1 h2; subst h1; subst h2; exact hv
    | 2 => simp at h1 h2; subst h1; subst h2; exact hx
    | j + 3 => simp at h1)
theorem Ints.new (w : World) (e : TypeId) (zs : List Int) : Ints (w.alloc (.cells (zs.map fun z => Value.int .i64 z).toArray e)) (.slice (some ⟨w.heap.size, 0, none⟩) zs.length zs.length) zs := by
  refine ⟨_, _, _, rfl, rfl, Nat.le_refl _, fun _ => ⟨_, 0, rfl, fun j z hj => ?_⟩⟩
  rw [Nat.zero_add, cell_of_row _ _ _ _ _ _ (heap_alloc_new w _)]
  simp [hj]
theorem Ints.newAt (w : World) (e : TypeId) (zs : List Int) (cs : Array Value) (hc : cs = (zs.map fun z => Value.int .i64 z).toArray) (g n : Nat) (hn : n = zs.length) (hg : g = w.heap.size) : Ints (w.alloc (.cells cs e)) (.slice (some ⟨g, 0, none⟩) n n) zs := by
  subst hc; subst hg; subst hn; exact Ints.new w e zs
theorem pair_new (W : World) (e e2 : TypeId) (a b : List Int) (ca cb : Array Value) (ha : ca = (a.map fun z => Value.int .i64 z).toArray) (hb : cb = (b.map fun z => Value.int .i64 z).toArray) (g1 g2 g3 n1 n2 : Nat) (h1 : g1 = W.heap.size) (h2 : g2 = W.heap.size + 1) (h3 : g3 = W.heap.size + 2) (hn1 : n1 = a.length) (hn2 : n2 = b.length) :
    Vecs (((W.alloc (.cells ca e)).alloc (.cells cb e)).alloc (.cells #[.slice (some ⟨g1, 0, none⟩) n1 n1, .slice (some ⟨g2, 0, none⟩) n2 n2] e2)) (.slice (some ⟨g3, 0, none⟩) 2 2) [a, b] := by
  have k1 : Ints (W.alloc (.cells ca e)) (.slice (some ⟨g1, 0, none⟩) n1 n1) a := Ints.newAt W e a ca ha g1 n1 hn1 h1
  have k2 : Ints ((W.alloc (.cells ca e)).alloc (.cells cb e)) (.slice (some ⟨g2, 0, none⟩) n2 n2) b := Ints.newAt _ e b cb hb g2 n2 hn2 (by rw [h2, World.size_alloc])
  have k3 := vecs2 (e := e2) (k1.below ((Below.refl _ _).alloc (Nat.le_refl _) (.cells cb e))) k2
  rw [World.size_alloc, World.size_alloc] at k3
  rw [h3]
  exact k3
theorem stamps_new (w : World) (e : TypeId) (a b c d : Int) : Stamps (w.alloc (.cells #[.int .i64 a, .int .i64 b, .int .i64 c, .int .i64 d] e)) (.slice (some ⟨w.heap.size, 0, none⟩) 2 2) [⟨a, b⟩, ⟨c, d⟩] := by
  refine ⟨_, _, _, rfl, rfl, fun _ => ⟨_, 0, rfl, fun j s hj => ?_⟩⟩
  have hn := heap_alloc_new w (.cells #[.int .i64 a, .int .i64 b, .int .i64 c, .int .i64 d] e)
  match j with
  | 0 => simp at hj; subst hj; exact ⟨by rw [cell_of_row _ _ _ _ _ _ hn]; rfl, by rw [cell_of_row _ _ _ _ _ _ hn]; rfl⟩
  | 1 => simp at hj; subst hj; exact ⟨by rw [cell_of_row _ _ _ _ _ _ hn]; rfl, by rw [cell_of_row _ _ _ _ _ _ hn]; rfl⟩
  | j + 2 => simp at hj
theorem balloc {B : Nat} {w b : World} (h : Below w.heap.size w b) (o : Obj) : Below w.heap.size w (b.alloc o) := h.alloc h.size o

set_option maxRecDepth 20000 in
set_option maxHeartbeats 4000000 in
theorem awake_any (w : World) :
    Calls Try.prog 16 #[] w fun e w' => e = .returned (.bool true) ∧ Below w.heap.size w w' := by
  have hN : ∀ v w, Stamps w v [⟨7, 0⟩, ⟨3, 2⟩] → Calls Try.prog 17 #[.int .i64 2, v] w fun e w' => e = .returned (.tuple #[.agg #[.int .i64 8, .int .i64 2], .int .i64 0]) ∧ Below w.heap.size w w' := fun v w h => pnext_any 2 v _ w h (by simp)
  have hJ := fun v w h => pjoin_any v [[1, 5], [2]] w h (by simp) (by simp)
  have hM := fun v w h => pmeet_any v [[1, 5], [2]] w h (by simp) (by simp)
  rw [show joinOf [[1, 5], [2]] = [2, 5] by decide] at hJ
  rw [show meetOf [[1, 5], [2]] = [1] by decide] at hM
  have hC := fun u v w h1 h2 => pcovers_any u v [2, 5] [1, 0, 0] w h1 h2 (by simp) (by simp)
  rw [show coversOf [2, 5] [1, 0, 0] = true by decide] at hC
  have HN := Go.Lib.hid hN; have HJ := Go.Lib.hid hJ; have HM := Go.Lib.hid hM; have HC := Go.Lib.hid hC
  clear hN hJ hM hC
  go_enter Try.func16, Try.ntmps16
  go_wp2_with fail
  refine (HN.out _ _ (stamps_new w _ 7 0 3 2)).mono ?_; rintro e w1 ⟨rfl, hb1⟩
  have hb1 := bstep (balloc (B := 0) (Below.refl _ w) _) hb1
  have HB := Go.Lib.hid hb1; clear hb1
  go_wp2_with fail
  refine (HJ.out _ _ (pair_new _ _ _ [1, 5] [2] _ _ rfl rfl _ _ _ _ _ (by simp) (by simp) (by simp) rfl rfl)).mono ?_; rintro e w2 ⟨v2, rfl, hi2, hb2⟩
  have hb2 := bstep (balloc (B := 0) (balloc (B := 0) (balloc (B := 0) (balloc (B := 0) HB.out _) _) _) _) hb2
  have HI2 := Go.Lib.hid (hi2.below ((Below.refl _ _).alloc (Nat.le_refl _) (.cells #[.int .i64 2, .int .i64 5] 3)))
  have HB := Go.Lib.hid hb2; clear hb2 hi2
  go_wp2_with fail
  refine (rsame_any v2 _ [2, 5] [2, 5] _ HI2.out (Ints.newAt _ _ [2, 5] _ rfl _ _ rfl (by simp)) (by simp) (by simp)).mono ?_; rintro e w3 ⟨rfl, m3, rfl⟩
  have HB := Go.Lib.hid (below_drewN (balloc (B := 0) HB.out (.cells #[.int .i64 2, .int .i64 5] 3)) m3)
  rw [show decide (([2, 5] : List Int) = [2, 5]) = true by decide]
  go_wp2_with fail
  refine (HM.out _ _ (pair_new _ _ _ [1, 5] [2] _ _ rfl rfl _ _ _ _ _ (by simp) (by simp) (by simp) rfl rfl)).mono ?_; rintro e w4 ⟨v4, rfl, hi4, hb4⟩
  have hb4 := bstep (balloc (B := 0) (balloc (B := 0) (balloc (B := 0) HB.out _) _) _) hb4
  have HI4 := Go.Lib.hid (hi4.below ((Below.refl _ _).alloc (Nat.le_refl _) (.cells #[.int .i64 1] 3)))
  have HB := Go.Lib.hid hb4; clear hb4 hi4
  go_wp2_with fail
  refine (rsame_any v4 _ [1] [1] _ HI4.out (Ints.newAt _ _ [1] _ rfl _ _ rfl (by simp)) (by simp) (by simp)).mono ?_; rintro e w5 ⟨rfl, m5, rfl⟩
  have HB := Go.Lib.hid (below_drewN (balloc (B := 0) HB.out (.cells #[.int .i64 1] 3)) m5)
  rw [show decide (([1] : List Int) = [1]) = true by decide]
  go_wp2_with fail
  refine (HC.out _ _ _ ((Ints.newAt _ _ [2, 5] _ rfl _ _ rfl (by simp)).below ((Below.refl _ _).alloc (Nat.le_refl _) _)) (Ints.newAt _ _ [1, 0, 0] _ rfl _ _ rfl (by simp))).mono ?_; rintro e w6 ⟨rfl, hb6⟩
  have HB := Go.Lib.hid (bstep (balloc (B := 0) (balloc (B := 0) HB.out _) _) hb6); clear hb6
  go_wp2_with fail
  go_ret
  exact ⟨rfl, HB.out⟩
end Go.Proofs.Ytgfkiekcdjnaeaa.W
