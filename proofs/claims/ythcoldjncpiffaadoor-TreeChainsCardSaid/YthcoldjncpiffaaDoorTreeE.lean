/- The walks of layer 7's laws: TreeFind, TreeChildren. -/
import Derived.Test.YthcoldjncpiffaaDoorTreeD
namespace Go.Proofs.YthcoldjncpiffaaDoor.W
set_option linter.unusedVariables false
open Go.RowKit Go.Proofs Arb

theorem nod_new (w : World) (y : Nod) : NodAt (w.alloc (.cells #[.int .i64 y.id.count, .int .i64 y.id.who, .bool y.dir, .int .i64 y.parent.count, .int .i64 y.parent.who, .string (BS y.name), .string (BS y.manifest)] 37)) w.heap.size 0 y := NodAt.new w y _

set_option maxRecDepth 20000 in
set_option maxHeartbeats 8000000 in
theorem treeFind_go (v : Value) (l : List Nod) (s : St) (w : World) (h : Nods w v l) (hwf : ∀ x ∈ l, ndWf x) (hTM : TMet w) :
    Calls Tryd.prog 9 #[v, .agg #[.int .i64 s.count, .int .i64 s.who]] w fun e w' => e = .returned (.bool true) ∧ Below w.heap.size w w' := by
  have HTM := Go.Lib.hid hTM
  clear hTM
  have hb0 : Below w.heap.size w (w.alloc (.cells #[.int .i64 s.count, .int .i64 s.who] 30)) := (Below.refl _ _).alloc (Nat.le_refl _) _
  obtain ⟨W0, hW0⟩ : ∃ W, w.alloc (.cells #[.int .i64 s.count, .int .i64 s.who] 30) = W := ⟨_, rfl⟩
  have hst0' : StAt W0 w.heap.size 0 s := by rw [← hW0]; exact StAt.new w s _
  rw [hW0] at hb0
  have hv0 := h.below hb0
  have hF := some7_any v l W0 hv0 (ndWf_len hwf)
  obtain ⟨b, hb⟩ : ∃ b, some7 l = b := ⟨_, rfl⟩
  rw [hb] at hF
  have HF := Go.Lib.hid hF; have HV := Go.Lib.hid hv0; have HW0 := Go.Lib.hid hW0; have HB0 := Go.Lib.hid hb0; have HST := Go.Lib.hid hst0'
  clear hF hv0 hW0 hb0 hst0'
  cases b
  · clear hb h
    go_enter Tryd.func9, Tryd.ntmps9
    go_wp2_with fail
    rw [HW0.out]
    go_wp2_with (first
      | (go_at_call 16; with_reducible refine HF.out.mono ?_; rintro e w1 ⟨rfl, rfl⟩)
      | (go_at_call 15; with_reducible refine (awake_any _ (by first | exact HTM.out | exact HTM.out.far (by assumption))).mono ?_; rintro e w5 ⟨rfl, hb⟩; have HB5 := Go.Lib.hid (bstep HB0.out hb); clear hb))
    go_ret
    exact ⟨rfl, HB5.out⟩
  · have hln := (some7_true hb).1
    obtain ⟨y, fb, hy⟩ : ∃ y fb, foundOf l s = (y, fb) := ⟨_, _, rfl⟩
    have hP := fun w h => ptfind_out v l s w y fb hy h (by omega) hwf
    have hR := fun w h => rfind7_out v l s w y fb hy h (by omega)
    have hq := fun w => eq_nd' y y w
    rw [decide_eq_true rfl] at hq
    have hbb : (fb == fb) = true := by simp
    have HP := Go.Lib.hid hP; have HR := Go.Lib.hid hR
    clear hP hR hb h hy hwf
    obtain ⟨c0, c1⟩ := st_cells0 HST.out
    go_enter Tryd.func9, Tryd.ntmps9
    go_wp2_with fail
    rw [HW0.out]
    go_wp2_with (first
      | (go_at_call 16; with_reducible refine HF.out.mono ?_; rintro e w1 ⟨rfl, rfl⟩)
      | (go_at_call 19; with_reducible refine (HP.out _ HV.out).mono ?_; rintro e w2 ⟨rfl, hb⟩; have HV2 := Go.Lib.hid ((HV.out.below hb).below ((Below.refl w2.heap.size w2).alloc (Nat.le_refl _) (.cells #[.int .i64 y.id.count, .int .i64 y.id.who, .bool y.dir, .int .i64 y.parent.count, .int .i64 y.parent.who, .string (BS y.name), .string (BS y.manifest)] 37))); have HB2 := Go.Lib.hid ((bstep HB0.out hb).alloc (bstep HB0.out hb).size (.cells #[.int .i64 y.id.count, .int .i64 y.id.who, .bool y.dir, .int .i64 y.parent.count, .int .i64 y.parent.who, .string (BS y.name), .string (BS y.manifest)] 37)); have HY2 := Go.Lib.hid (nod_new w2 y); have hs2 := (HST.out.below hb).below ((Below.refl w2.heap.size w2).alloc (Nat.le_refl _) (.cells #[.int .i64 y.id.count, .int .i64 y.id.who, .bool y.dir, .int .i64 y.parent.count, .int .i64 y.parent.who, .string (BS y.name), .string (BS y.manifest)] 37)); obtain ⟨d0, d1⟩ := st_cells0 hs2; clear hb hs2)
      | (go_at_call 20; with_reducible refine (HR.out _ HV2.out).mono ?_; rintro e w3 ⟨rfl, hb⟩; have HB3 := Go.Lib.hid ((bstep HB2.out hb).alloc (bstep HB2.out hb).size (.cells #[.int .i64 y.id.count, .int .i64 y.id.who, .bool y.dir, .int .i64 y.parent.count, .int .i64 y.parent.who, .string (BS y.name), .string (BS y.manifest)] 37)); have hy3 := (HY2.out.below hb).below ((Below.refl w3.heap.size w3).alloc (Nat.le_refl _) (.cells #[.int .i64 y.id.count, .int .i64 y.id.who, .bool y.dir, .int .i64 y.parent.count, .int .i64 y.parent.who, .string (BS y.name), .string (BS y.manifest)] 37)); obtain ⟨e0, e1, e2, e3, e4, e5, e6⟩ := nd_cells0 hy3; clear hb hy3)
      | (go_at_call 15; with_reducible refine (awake_any _ (by first | exact HTM.out | exact HTM.out.far (by assumption))).mono ?_; rintro e w5 ⟨rfl, hb⟩; have HB5 := Go.Lib.hid (bstep HB3.out hb); clear hb))
    go_ret
    exact ⟨rfl, HB5.out⟩
theorem treeFind_walk (A : Option Addr) (n c : Nat) (l : List Nod) (w : World) (hs : Sl w 7 A n c (l.map ndCells)) (_ : c * 72 ≤ 140737488351232) (hl : ∀ y ∈ l, ndWf y) (_ : l.length = n) (s : St) (_ : stWf s) (hTM : TMet w) :
    Calls Tryd.prog 9 #[.slice A n c, .agg (stCells s).toArray] w fun e w' => e = .returned (.bool true) ∧ Below w.heap.size w w' :=
  treeFind_go _ l s w (Nods.of_sl hs) hl hTM
end Go.Proofs.YthcoldjncpiffaaDoor.W
