/- The program's trees: insert. -/
import Derived.Test.YtjeijolblcodpaaDoorTreePF
import Derived.Test.YtjeijolblcodpaaDoorTreePE
import Derived.Test.YtjeijolblcodpaaDoorMg3
namespace Go.Proofs.YtjeijolblcodpaaDoor.W
set_option maxRecDepth 20000
set_option linter.unusedVariables false
open Go.RowKit Go.Proofs Arb

/-- How many nodes stand ahead of the first with a greater stamp. -/
def fbOf (l : List Nod) (s : St) : Nat := (l.takeWhile (fun y => !s.less y.id)).length
theorem fb_unique (s : St) : ∀ (l : List Nod) (k : Nat), k ≤ l.length → (∀ (j : Nat) (y : Nod), j < k → l[j]? = some y → s.less y.id = false) → (∀ y, l[k]? = some y → s.less y.id = true) → k = fbOf l s
  | [], k, hk, _, _ => by have : k = 0 := by simpa using hk
                          subst this; rfl
  | a :: l, 0, _, _, h2 => by
    have := h2 a rfl
    unfold fbOf
    simp [this]
  | a :: l, k + 1, hk, h1, h2 => by
    have ha := h1 0 a (by omega) rfl
    have ih := fb_unique s l k (by simpa using hk) (fun j y hj hy => h1 (j + 1) y (by omega) (by simpa using hy)) (fun y hy => h2 y (by simpa using hy))
    unfold fbOf at ih ⊢
    simp [ha, ih]
theorem fb_ins (l : List Nod) (n : Nod) : fbOf l n.id ≤ l.length ∧ insNod l n = l.take (fbOf l n.id) ++ n :: l.drop (fbOf l n.id) := by
  have h : l.takeWhile (fun y => !n.id.less y.id) ++ l.dropWhile (fun y => !n.id.less y.id) = l := List.takeWhile_append_dropWhile
  have h1 : l.take (fbOf l n.id) = l.takeWhile (fun y => !n.id.less y.id) := by
    have := List.take_left (l₁ := l.takeWhile (fun y => !n.id.less y.id)) (l₂ := l.dropWhile (fun y => !n.id.less y.id))
    rw [h] at this
    exact this
  have h2 : l.drop (fbOf l n.id) = l.dropWhile (fun y => !n.id.less y.id) := by
    have := List.drop_left (l₁ := l.takeWhile (fun y => !n.id.less y.id)) (l₂ := l.dropWhile (fun y => !n.id.less y.id))
    rw [h] at this
    exact this
  refine ⟨?_, by rw [h1, h2]; rfl⟩
  have := congrArg List.length h
  rw [List.length_append] at this
  unfold fbOf
  omega
theorem pfirst_out (v : Value) (l : List Nod) (s : St) (w : World) (h : Nods w v l) (hl : l.length ≤ 1000000) :
    Calls Tryd.prog 74 #[v, .agg #[.int .i64 s.count, .int .i64 s.who]] w fun e w' => e = .returned (.int .i64 (fbOf l s : Int)) ∧ Below w.heap.size w w' :=
  (pfirst_any v l s w h hl).mono fun e w' ⟨k, he, hk, h1, h2, hb⟩ => by
    rw [← fb_unique s l k hk h1 h2]
    exact ⟨he, hb⟩

set_option maxRecDepth 20000 in
set_option maxHeartbeats 16000000 in
theorem pins_any (base : Nat) (v : Value) (l : List Nod) (x : Opn) (w : World) (h : Row w base 49 7 v l.length (ndsCells l)) (hl : l.length ≤ 1000) (hT : TMet w) (hbase : base ≤ w.heap.size) :
    Calls Tryd.prog 49 #[v, opVal x] w fun e w' => ∃ v', e = .returned v' ∧ Row w' base 49 7 v' (l.length + 1) (ndsCells (insNod l (madeOf l x))) ∧ Below base w w' := by
  have hmay := fun w h hT => pmayHold_any v l x.parent w h (by omega) hT
  obtain ⟨mb, hmb⟩ : ∃ b, mayOf l x.parent = b := ⟨_, rfl⟩
  obtain ⟨m, hmm⟩ : ∃ m, madeOf l x = m := ⟨_, rfl⟩
  have hmid : m.id = x.node := by rw [← hmm]; rfl
  have hm : m = ⟨x.node, x.dir, if mb = true then x.parent else St.trash, x.name, x.manifest⟩ := by rw [← hmm, ← hmb]; rfl
  rw [hmb] at hmay
  rw [hmm]
  obtain ⟨hkl, hins⟩ := fb_ins l m
  rw [hins]
  rw [hmid] at hkl ⊢
  have hfb := fun w h => pfirst_out v l x.node w h (by omega)
  obtain ⟨k, hk⟩ : ∃ k, fbOf l x.node = k := ⟨_, rfl⟩
  rw [hk] at hkl hfb ⊢
  have hin := fun vb w h hy hvb hbase => pinsert_any base v l k m vb w h (by omega) hkl hy hvb hbase
  have hown : ∀ b, v.ownBlock = some b → b < w.heap.size := fun b hb => (h.lt b hb).2
  -- the world with x in a block, and the one with the new node
  obtain ⟨W1, hW1⟩ : ∃ W, w.alloc (.cells (opArr x) 35) = W := ⟨_, rfl⟩
  obtain ⟨W2, hW2⟩ : ∃ W, W1.alloc (.cells (ndArr ⟨x.node, x.dir, St.trash, x.name, x.manifest⟩) 49) = W := ⟨_, rfl⟩
  have hb1 : Below w.heap.size w W1 := by rw [← hW1]; exact (Below.refl _ _).alloc (Nat.le_refl _) _
  have hs1 : W1.heap.size = w.heap.size + 1 := by rw [← hW1]; simp
  have hop1 : OpAt W1 w.heap.size 0 x := by rw [← hW1]; exact OpAt.new w x 35
  have hb12 : Below W1.heap.size W1 W2 := by rw [← hW2]; exact (Below.refl _ _).alloc (Nat.le_refl _) _
  have hb2 := bstep hb1 hb12
  have hop2 := hop1.below hb12
  have hrow2 := h.below hb2
  have hnd2 : NdB W2 (w.heap.size + 1) ⟨x.node, x.dir, St.trash, x.name, x.manifest⟩ := by rw [← hW2, ← hs1]; exact NdB.new W1 _
  have hT1 := hT.on hb1
  have hT2 := hT.on hb2
  have hs2 : W2.heap.size = w.heap.size + 2 := by rw [← hW2]; simp [hs1]
  obtain ⟨t0, t1, -, -⟩ := hT1
  unfold opVal
  unfold opArr opCells at hW1 ⊢
  unfold ndArr ndCells St.trash at hW2
  rw [← hW1] at t0 t1
  have HMAY := Go.Lib.hid hmay; have HFB := Go.Lib.hid hfb; have HIN := Go.Lib.hid hin; have HW1 := Go.Lib.hid hW1; have HW2 := Go.Lib.hid hW2; have HB2 := Go.Lib.hid hb2; have HOP2 := Go.Lib.hid hop2; have HROW2 := Go.Lib.hid hrow2; have HND2 := Go.Lib.hid hnd2; have HT2 := Go.Lib.hid hT2; have HS2 := Go.Lib.hid hs2; have HM := Go.Lib.hid hm; have HOWN := Go.Lib.hid hown; have HS1 := Go.Lib.hid hs1
  clear hmay hfb hin hW1 hW2 hb1 hb12 hb2 hop1 hop2 hrow2 hnd2 hT hT2 hs2 hm hown h hmm hmid hmb hins hk hs1
  go_enter Tryd.func49, Tryd.ntmps49
  go_wp2_with fail
  rw [HW1.out, HW2.out]
  obtain ⟨d0, d1, d2, d3, d4, d5, d6, d7, d8, d9, d10⟩ := op_cells0 HOP2.out
  go_wp2_with fail
  refine (HMAY.out _ (Nods.of_row HROW2.out) HT2.out).mono ?_; rintro e w3 ⟨rfl, hb3⟩
  have hop3 := HOP2.out.below hb3
  have hnd3 := HND2.out.below hb3
  have hrow3 := HROW2.out.below hb3
  have hbw3 := bstep HB2.out hb3
  have hs3 : w.heap.size + 2 ≤ w3.heap.size := by have h1 := hb3.size; have h2 := HS2.out; omega
  have HOP3 := Go.Lib.hid hop3; have HND3 := Go.Lib.hid hnd3; have HROW3 := Go.Lib.hid hrow3; have HB3 := Go.Lib.hid hbw3; have HS3 := Go.Lib.hid hs3
  clear hop3 hnd3 hrow3 hbw3 hs3 hb3 t0 t1 d0 d1 d2 d3 d4 d5 d6 d7 d8 d9 d10
  cases mb
  · have hm3 := HM.out
    rw [if_neg (by simp)] at hm3
    obtain ⟨V, hV⟩ : ∃ V, V = w3 := ⟨_, rfl⟩
    rw [← hm3, ← hV] at HND3
    rw [← hV] at HOP3 HROW3 HB3 HS3
    subst hV
    have HNDV := HND3; have HOPV := HOP3; have HROWV := HROW3; have HBV := HB3; have HSV := HS3
    clear hm3
    go_wp2_with fail

    have hvn : v.ownBlock ≠ some V.heap.size := fun e => by have h1 := HOWN.out _ e; have h2 := HSV.out; omega
    have hbv : base ≤ V.heap.size := by have := HSV.out; omega
    have hrd : Row V.drew base 49 7 v l.length (ndsCells l) := HROWV.out.heap rfl
    have hfb1 : Calls Tryd.prog 74 #[v, .agg #[.int .i64 x.node.count, .int .i64 x.node.who]] V.drew fun e w' => e = .returned (.int .i64 (k : Int)) ∧ Below V.heap.size V.drew w' := HFB.out V.drew (Nods.of_row hrd)
    have hrda : Row (V.alloc (.cells #[.int .i64 m.id.count, .int .i64 m.id.who, .bool m.dir, .int .i64 m.parent.count, .int .i64 m.parent.who, .string (BS m.name), .string (BS m.manifest)] 49)).drew base 49 7 v l.length (ndsCells l) := hrd.alloc _
    have hfb2 : Calls Tryd.prog 74 #[v, .agg #[.int .i64 x.node.count, .int .i64 x.node.who]] (V.alloc (.cells #[.int .i64 m.id.count, .int .i64 m.id.who, .bool m.dir, .int .i64 m.parent.count, .int .i64 m.parent.who, .string (BS m.name), .string (BS m.manifest)] 49)).drew fun e w' => e = .returned (.int .i64 (k : Int)) ∧ Below (V.heap.size + 1) (V.alloc (.cells #[.int .i64 m.id.count, .int .i64 m.id.who, .bool m.dir, .int .i64 m.parent.count, .int .i64 m.parent.who, .string (BS m.name), .string (BS m.manifest)] 49)).drew w' := (HFB.out (V.alloc (.cells #[.int .i64 m.id.count, .int .i64 m.id.who, .bool m.dir, .int .i64 m.parent.count, .int .i64 m.parent.who, .string (BS m.name), .string (BS m.manifest)] 49)).drew (Nods.of_row hrda)).mono fun e w' ⟨h1, h2⟩ => ⟨h1, h2.mono (by simp)⟩
    have hnda : NdB (V.alloc (.cells #[.int .i64 m.id.count, .int .i64 m.id.who, .bool m.dir, .int .i64 m.parent.count, .int .i64 m.parent.who, .string (BS m.name), .string (BS m.manifest)] 49)).drew V.heap.size m := NdB.new V.drew m
    have hndd : NdB V.drew (w.heap.size + 1) m := HNDV.out
    have hbd : Below base w V.drew := (HBV.out.mono hbase).drew
    have hbda : Below base w (V.alloc (.cells #[.int .i64 m.id.count, .int .i64 m.id.who, .bool m.dir, .int .i64 m.parent.count, .int .i64 m.parent.who, .string (BS m.name), .string (BS m.manifest)] 49)).drew := hbd.alloc hbv _
    have hin1 : ∀ w4, Below V.heap.size V.drew w4 → Calls Tryd.prog 73 #[v, .int .i64 (k : Int), .slice (some ⟨w4.heap.size, 0, none⟩) 1 1] (w4.alloc (.cells #[.int .i64 m.id.count, .int .i64 m.id.who, .bool m.dir, .int .i64 m.parent.count, .int .i64 m.parent.who, .string (BS m.name), .string (BS m.manifest)] 49)) fun e w' => ∃ v', e = .returned v' ∧ Row w' base 49 7 v' (l.length + 1) (ndsCells (l.take k ++ m :: l.drop k)) ∧ Below base (w4.alloc (.cells #[.int .i64 m.id.count, .int .i64 m.id.who, .bool m.dir, .int .i64 m.parent.count, .int .i64 m.parent.who, .string (BS m.name), .string (BS m.manifest)] 49)) w' := fun w4 h4 =>
      HIN.out w4.heap.size (w4.alloc (.cells (ndArr m) 49)) ((hrd.below h4).alloc _) (NdB.new w4 m) (fun e => by have h1 := HOWN.out _ e; have h2 := HSV.out; have h3 : V.heap.size ≤ w4.heap.size := h4.size; omega) (by have h3 : V.heap.size ≤ w4.heap.size := h4.size; simp; omega)
    have hin2 : ∀ w4, Below (V.heap.size + 1) (V.alloc (.cells #[.int .i64 m.id.count, .int .i64 m.id.who, .bool m.dir, .int .i64 m.parent.count, .int .i64 m.parent.who, .string (BS m.name), .string (BS m.manifest)] 49)).drew w4 → Calls Tryd.prog 73 #[v, .int .i64 (k : Int), .slice (some ⟨V.heap.size, 0, none⟩) 1 1] w4 fun e w' => ∃ v', e = .returned v' ∧ Row w' base 49 7 v' (l.length + 1) (ndsCells (l.take k ++ m :: l.drop k)) ∧ Below base w4 w' := fun w4 h4 =>
      HIN.out V.heap.size w4 (hrda.below (h4.mono (by simp))) (hnda.under (Nat.lt_succ_self _) h4) hvn (by have h3 := h4.size; simp at h3; omega)
    have hb41 : ∀ w4, Below V.heap.size V.drew w4 → Below base w (w4.alloc (.cells #[.int .i64 m.id.count, .int .i64 m.id.who, .bool m.dir, .int .i64 m.parent.count, .int .i64 m.parent.who, .string (BS m.name), .string (BS m.manifest)] 49)) := fun w4 h4 => (hbd.trans (h4.mono hbv)).alloc (Nat.le_trans hbv h4.size) _
    have hb42 : ∀ w4, Below (V.heap.size + 1) (V.alloc (.cells #[.int .i64 m.id.count, .int .i64 m.id.who, .bool m.dir, .int .i64 m.parent.count, .int .i64 m.parent.who, .string (BS m.name), .string (BS m.manifest)] 49)).drew w4 → Below base w w4 := fun w4 h4 => hbda.trans (h4.mono (by omega))
    have hn41 : ∀ w4, Below V.heap.size V.drew w4 → NodAt w4 (w.heap.size + 1) 0 m := fun w4 h4 => (hndd.below h4).at
    obtain ⟨-, -, -, -, c4, c5, -⟩ := op_cells0 HOPV.out
    have c4a := cell_more (o := .cells #[.int .i64 m.id.count, .int .i64 m.id.who, .bool m.dir, .int .i64 m.parent.count, .int .i64 m.parent.who, .string (BS m.name), .string (BS m.manifest)] 49) c4
    have c5a := cell_more (o := .cells #[.int .i64 m.id.count, .int .i64 m.id.who, .bool m.dir, .int .i64 m.parent.count, .int .i64 m.parent.who, .string (BS m.name), .string (BS m.manifest)] 49) c5
    obtain ⟨n0, n1, n2, n3, n4, n5, n6⟩ := nd_cells0 HNDV.out.at
    have HFB1 := Go.Lib.hid hfb1; have HFB2 := Go.Lib.hid hfb2; have HN41 := Go.Lib.hid hn41; have HB41 := Go.Lib.hid hb41; have HB42 := Go.Lib.hid hb42; have HIN1 := Go.Lib.hid hin1; have HIN2 := Go.Lib.hid hin2; have HBV2 := Go.Lib.hid hbv
    clear hvn hbv hrd hfb1 hrda hfb2 hnda hndd hbd hbda hin1 hin2 hb41 hb42 hn41
    first | (go_region_with (first
      | (go_at_call 74; first
        | (with_reducible refine HFB1.out.mono ?_; rintro e w4 ⟨rfl, hb4⟩; have HI4 := Go.Lib.hid (HIN1.out w4 hb4); have HB4 := Go.Lib.hid (HB41.out w4 hb4); clear c4 c5 c4a c5a n0 n1 n2 n3 n4 n5 n6; obtain ⟨n0, n1, n2, n3, n4, n5, n6⟩ := nd_cells0 (HN41.out w4 hb4); clear hb4)
        | (with_reducible refine HFB2.out.mono ?_; rintro e w4 ⟨rfl, hb4⟩; have HI4 := Go.Lib.hid (HIN2.out w4 hb4); have HB4 := Go.Lib.hid (HB42.out w4 hb4); clear c4 c5 c4a c5a n0 n1 n2 n3 n4 n5 n6 hb4))
      | (go_at_call 73; with_reducible refine HI4.out.mono ?_; rintro e w6 ⟨v6, rfl, hr6, hb6⟩; have HR6 := Go.Lib.hid hr6; have HBF := Go.Lib.hid (HB4.out.trans hb6); clear hr6 hb6))) | fail
    all_goals (
      go_wp2_with fail
      go_ret
      exact ⟨_, rfl, HR6.out, HBF.out⟩)
  · have hm3 := HM.out
    rw [if_pos rfl] at hm3
    obtain ⟨-, -, -, -, -, -, -, d7, d8, -, -⟩ := op_cells0 HOP3.out
    obtain ⟨-, e3, e4, -, -, f3, f4, -, -⟩ := HND3.out.cells
    obtain ⟨V, hV⟩ : ∃ V, (w3.setCell ⟨w.heap.size + 1, 3, none⟩ (.int .i64 x.parent.count)).setCell ⟨w.heap.size + 1, 4, none⟩ (.int .i64 x.parent.who) = V := ⟨_, rfl⟩
    have hndv : NdB V (w.heap.size + 1) m := by rw [← hV, hm3]; exact HND3.out.putParent x.parent
    have hub : Below (w.heap.size + 1) w3 V := by rw [← hV]; exact ((Below.refl _ w3).setCell (p := ⟨w.heap.size + 1, 3, none⟩) (Nat.le_refl _) _).setCell (p := ⟨w.heap.size + 1, 4, none⟩) (Nat.le_refl _) _
    have hopv : OpAt V w.heap.size 0 x := HOP3.out.under hub (Nat.lt_succ_self _)
    have hrowv : Row V base 49 7 v l.length (ndsCells l) := HROW3.out.kept (row := some (w.heap.size + 1)) ⟨hub.os, hub.tape, hub.output, hub.size, fun j hj hne => by
      rw [← hV, heap_setCell_other _ _ _ _ (fun e => hne (by rw [e])), heap_setCell_other _ _ _ _ (fun e => hne (by rw [e]))]⟩ (.inr (fun e => by have := HOWN.out _ e; omega))
    have hbv : Below w.heap.size w V := HB3.out.trans (hub.mono (Nat.le_succ _))
    have hsv : w.heap.size + 2 ≤ V.heap.size := Nat.le_trans HS3.out hub.size
    have HNDV := Go.Lib.hid hndv; have HOPV := Go.Lib.hid hopv; have HROWV := Go.Lib.hid hrowv; have HBV := Go.Lib.hid hbv; have HSV := Go.Lib.hid hsv; have HV := Go.Lib.hid hV
    clear hndv hub hopv hrowv hbv hsv hV hm3
    go_wp2_with fail
    rw [HV.out]
    clear d7 d8 e3 e4 f3 f4

    have hvn : v.ownBlock ≠ some V.heap.size := fun e => by have h1 := HOWN.out _ e; have h2 := HSV.out; omega
    have hbv : base ≤ V.heap.size := by have := HSV.out; omega
    have hrd : Row V.drew base 49 7 v l.length (ndsCells l) := HROWV.out.heap rfl
    have hfb1 : Calls Tryd.prog 74 #[v, .agg #[.int .i64 x.node.count, .int .i64 x.node.who]] V.drew fun e w' => e = .returned (.int .i64 (k : Int)) ∧ Below V.heap.size V.drew w' := HFB.out V.drew (Nods.of_row hrd)
    have hrda : Row (V.alloc (.cells #[.int .i64 m.id.count, .int .i64 m.id.who, .bool m.dir, .int .i64 m.parent.count, .int .i64 m.parent.who, .string (BS m.name), .string (BS m.manifest)] 49)).drew base 49 7 v l.length (ndsCells l) := hrd.alloc _
    have hfb2 : Calls Tryd.prog 74 #[v, .agg #[.int .i64 x.node.count, .int .i64 x.node.who]] (V.alloc (.cells #[.int .i64 m.id.count, .int .i64 m.id.who, .bool m.dir, .int .i64 m.parent.count, .int .i64 m.parent.who, .string (BS m.name), .string (BS m.manifest)] 49)).drew fun e w' => e = .returned (.int .i64 (k : Int)) ∧ Below (V.heap.size + 1) (V.alloc (.cells #[.int .i64 m.id.count, .int .i64 m.id.who, .bool m.dir, .int .i64 m.parent.count, .int .i64 m.parent.who, .string (BS m.name), .string (BS m.manifest)] 49)).drew w' := (HFB.out (V.alloc (.cells #[.int .i64 m.id.count, .int .i64 m.id.who, .bool m.dir, .int .i64 m.parent.count, .int .i64 m.parent.who, .string (BS m.name), .string (BS m.manifest)] 49)).drew (Nods.of_row hrda)).mono fun e w' ⟨h1, h2⟩ => ⟨h1, h2.mono (by simp)⟩
    have hnda : NdB (V.alloc (.cells #[.int .i64 m.id.count, .int .i64 m.id.who, .bool m.dir, .int .i64 m.parent.count, .int .i64 m.parent.who, .string (BS m.name), .string (BS m.manifest)] 49)).drew V.heap.size m := NdB.new V.drew m
    have hndd : NdB V.drew (w.heap.size + 1) m := HNDV.out
    have hbd : Below base w V.drew := (HBV.out.mono hbase).drew
    have hbda : Below base w (V.alloc (.cells #[.int .i64 m.id.count, .int .i64 m.id.who, .bool m.dir, .int .i64 m.parent.count, .int .i64 m.parent.who, .string (BS m.name), .string (BS m.manifest)] 49)).drew := hbd.alloc hbv _
    have hin1 : ∀ w4, Below V.heap.size V.drew w4 → Calls Tryd.prog 73 #[v, .int .i64 (k : Int), .slice (some ⟨w4.heap.size, 0, none⟩) 1 1] (w4.alloc (.cells #[.int .i64 m.id.count, .int .i64 m.id.who, .bool m.dir, .int .i64 m.parent.count, .int .i64 m.parent.who, .string (BS m.name), .string (BS m.manifest)] 49)) fun e w' => ∃ v', e = .returned v' ∧ Row w' base 49 7 v' (l.length + 1) (ndsCells (l.take k ++ m :: l.drop k)) ∧ Below base (w4.alloc (.cells #[.int .i64 m.id.count, .int .i64 m.id.who, .bool m.dir, .int .i64 m.parent.count, .int .i64 m.parent.who, .string (BS m.name), .string (BS m.manifest)] 49)) w' := fun w4 h4 =>
      HIN.out w4.heap.size (w4.alloc (.cells (ndArr m) 49)) ((hrd.below h4).alloc _) (NdB.new w4 m) (fun e => by have h1 := HOWN.out _ e; have h2 := HSV.out; have h3 : V.heap.size ≤ w4.heap.size := h4.size; omega) (by have h3 : V.heap.size ≤ w4.heap.size := h4.size; simp; omega)
    have hin2 : ∀ w4, Below (V.heap.size + 1) (V.alloc (.cells #[.int .i64 m.id.count, .int .i64 m.id.who, .bool m.dir, .int .i64 m.parent.count, .int .i64 m.parent.who, .string (BS m.name), .string (BS m.manifest)] 49)).drew w4 → Calls Tryd.prog 73 #[v, .int .i64 (k : Int), .slice (some ⟨V.heap.size, 0, none⟩) 1 1] w4 fun e w' => ∃ v', e = .returned v' ∧ Row w' base 49 7 v' (l.length + 1) (ndsCells (l.take k ++ m :: l.drop k)) ∧ Below base w4 w' := fun w4 h4 =>
      HIN.out V.heap.size w4 (hrda.below (h4.mono (by simp))) (hnda.under (Nat.lt_succ_self _) h4) hvn (by have h3 := h4.size; simp at h3; omega)
    have hb41 : ∀ w4, Below V.heap.size V.drew w4 → Below base w (w4.alloc (.cells #[.int .i64 m.id.count, .int .i64 m.id.who, .bool m.dir, .int .i64 m.parent.count, .int .i64 m.parent.who, .string (BS m.name), .string (BS m.manifest)] 49)) := fun w4 h4 => (hbd.trans (h4.mono hbv)).alloc (Nat.le_trans hbv h4.size) _
    have hb42 : ∀ w4, Below (V.heap.size + 1) (V.alloc (.cells #[.int .i64 m.id.count, .int .i64 m.id.who, .bool m.dir, .int .i64 m.parent.count, .int .i64 m.parent.who, .string (BS m.name), .string (BS m.manifest)] 49)).drew w4 → Below base w w4 := fun w4 h4 => hbda.trans (h4.mono (by omega))
    have hn41 : ∀ w4, Below V.heap.size V.drew w4 → NodAt w4 (w.heap.size + 1) 0 m := fun w4 h4 => (hndd.below h4).at
    obtain ⟨-, -, -, -, c4, c5, -⟩ := op_cells0 HOPV.out
    have c4a := cell_more (o := .cells #[.int .i64 m.id.count, .int .i64 m.id.who, .bool m.dir, .int .i64 m.parent.count, .int .i64 m.parent.who, .string (BS m.name), .string (BS m.manifest)] 49) c4
    have c5a := cell_more (o := .cells #[.int .i64 m.id.count, .int .i64 m.id.who, .bool m.dir, .int .i64 m.parent.count, .int .i64 m.parent.who, .string (BS m.name), .string (BS m.manifest)] 49) c5
    obtain ⟨n0, n1, n2, n3, n4, n5, n6⟩ := nd_cells0 HNDV.out.at
    have HFB1 := Go.Lib.hid hfb1; have HFB2 := Go.Lib.hid hfb2; have HN41 := Go.Lib.hid hn41; have HB41 := Go.Lib.hid hb41; have HB42 := Go.Lib.hid hb42; have HIN1 := Go.Lib.hid hin1; have HIN2 := Go.Lib.hid hin2; have HBV2 := Go.Lib.hid hbv
    clear hvn hbv hrd hfb1 hrda hfb2 hnda hndd hbd hbda hin1 hin2 hb41 hb42 hn41
    first | (go_region_with (first
      | (go_at_call 74; first
        | (with_reducible refine HFB1.out.mono ?_; rintro e w4 ⟨rfl, hb4⟩; have HI4 := Go.Lib.hid (HIN1.out w4 hb4); have HB4 := Go.Lib.hid (HB41.out w4 hb4); clear c4 c5 c4a c5a n0 n1 n2 n3 n4 n5 n6; obtain ⟨n0, n1, n2, n3, n4, n5, n6⟩ := nd_cells0 (HN41.out w4 hb4); clear hb4)
        | (with_reducible refine HFB2.out.mono ?_; rintro e w4 ⟨rfl, hb4⟩; have HI4 := Go.Lib.hid (HIN2.out w4 hb4); have HB4 := Go.Lib.hid (HB42.out w4 hb4); clear c4 c5 c4a c5a n0 n1 n2 n3 n4 n5 n6 hb4))
      | (go_at_call 73; with_reducible refine HI4.out.mono ?_; rintro e w6 ⟨v6, rfl, hr6, hb6⟩; have HR6 := Go.Lib.hid hr6; have HBF := Go.Lib.hid (HB4.out.trans hb6); clear hr6 hb6))) | fail
    all_goals (
      go_wp2_with fail
      go_ret
      exact ⟨_, rfl, HR6.out, HBF.out⟩)
end Go.Proofs.YtjeijolblcodpaaDoor.W
