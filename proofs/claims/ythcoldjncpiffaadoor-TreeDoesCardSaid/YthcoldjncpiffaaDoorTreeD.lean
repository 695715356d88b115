/- The walks of layer 7's laws: TreeFolds, TreeRight, TreeFind. -/
import Derived.Test.YthcoldjncpiffaaDoorTreeC
import Derived.Test.YthcoldjncpiffaaDoorTreeS2
import Derived.Test.YthcoldjncpiffaaDoorTreeWf
namespace Go.Proofs.YthcoldjncpiffaaDoor.W
set_option linter.unusedVariables false
open Go.RowKit Go.Proofs Arb

theorem opWf_len {l : List Opn} (h : ∀ x ∈ l, opWf x) : ∀ x ∈ l, x.name.length ≤ 140737488351232 ∧ x.manifest.length ≤ 140737488351232 := fun x hx => (h x hx).2.2.2.2.2
theorem ndWf_len {l : List Nod} (h : ∀ x ∈ l, ndWf x) : ∀ x ∈ l, x.name.length ≤ 140737488351232 ∧ x.manifest.length ≤ 140737488351232 := fun x hx => (h x hx).2.2
set_option maxRecDepth 20000 in
set_option maxHeartbeats 4000000 in
theorem treeFolds_go (v : Value) (l : List Opn) (w : World) (h : Opns w v l) (hwf : ∀ x ∈ l, opWf x) (hTM : TMet w) :
    Calls Tryd.prog 3 #[v] w fun e w' => e = .returned (.bool true) ∧ Below w.heap.size w w' := by
  have HTM := Go.Lib.hid hTM
  clear hTM
  have hF := fun w h => few7_any v l w h (opWf_len hwf)
  obtain ⟨b, hb⟩ : ∃ b, few7 l = b := ⟨_, rfl⟩
  rw [hb] at hF
  have HF := Go.Lib.hid (hF w h); have HV := Go.Lib.hid h
  cases b
  · clear hF hb h
    go_enter Tryd.func3, Tryd.ntmps3
    go_wp2_with (first
      | (go_at_call 11; with_reducible refine HF.out.mono ?_; rintro e w1 ⟨rfl, rfl⟩)
      | (go_at_call 15; with_reducible refine (awake_any _ (by first | exact HTM.out | exact HTM.out.far (by assumption))).mono ?_; rintro e w5 ⟨rfl, hb⟩; have HB5 := Go.Lib.hid hb; clear hb))
    go_ret
    exact ⟨rfl, HB5.out⟩
  · have hln := (few7_true hb).1
    have hP := ptfold_any v l w h (by omega) hwf HTM.out
    have hR := fun w h => rfold7_any v l w h (by omega)
    have hfl := foldOf_length l
    have hS := fun u v w hu hv => rsamends_any u v (foldOf l) (foldOf l) w hu hv (by omega) (by omega)
    rw [decide_eq_true rfl] at hS
    have HP := Go.Lib.hid hP; have HR := Go.Lib.hid hR; have HS := Go.Lib.hid hS
    clear hF hb h hP hR hS
    go_enter Tryd.func3, Tryd.ntmps3
    go_wp2_with (first
      | (go_at_call 11; with_reducible refine HF.out.mono ?_; rintro e w1 ⟨rfl, rfl⟩)
      | (go_at_call 13; with_reducible refine HP.out.mono ?_; rintro e w2 ⟨v2, rfl, hn2, hb⟩; have HN2 := Go.Lib.hid hn2; have HB2 := Go.Lib.hid hb; clear hb hn2)
      | (go_at_call 14; with_reducible refine (HR.out _ (HV.out.below HB2.out)).mono ?_; rintro e w3 ⟨v3, rfl, hn3, hb⟩; have HN3 := Go.Lib.hid hn3; have HN23 := Go.Lib.hid (HN2.out.below hb); have HB3 := Go.Lib.hid (bstep HB2.out hb); clear hb hn3)
      | (go_at_call 12; with_reducible refine (HS.out _ _ _ HN23.out HN3.out).mono ?_; rintro e w4 ⟨rfl, hb⟩; have HB4 := Go.Lib.hid (bstep HB3.out hb); clear hb)
      | (go_at_call 15; with_reducible refine (awake_any _ (by first | exact HTM.out | exact HTM.out.far (by assumption))).mono ?_; rintro e w5 ⟨rfl, hb⟩; have HB5 := Go.Lib.hid (bstep HB4.out hb); clear hb))
    go_ret
    exact ⟨rfl, HB5.out⟩
theorem treeFolds_walk (A : Option Addr) (n c : Nat) (l : List Opn) (w : World) (hs : Sl w 11 A n c (l.map opCells)) (_ : c * 104 ≤ 140737488351232) (hl : ∀ y ∈ l, opWf y) (_ : l.length = n) (hTM : TMet w) :
    Calls Tryd.prog 3 #[.slice A n c] w fun e w' => e = .returned (.bool true) ∧ Below w.heap.size w w' :=
  treeFolds_go _ l w (Opns.of_sl hs) hl hTM

/-- Behind each operation of a right node: a tree. -/
theorem fold_tree {l : List Opn} (h : ∀ x ∈ l, x.node.right = 0) : Tree (foldOf l) := by
  have key : ∀ (l : List Opn) (ns : List Nod), (∀ x ∈ l, x.node.right = 0) → Tree ns → Tree (l.foldl doOf ns) := by
    intro l
    induction l with
    | nil => intro ns _ h2; exact h2
    | cons x l ih =>
      intro ns h1 h2
      rw [List.foldl_cons]
      exact ih _ (fun y hy => h1 y (List.mem_cons_of_mem _ hy)) (h2.step x (h1 x (List.mem_cons_self ..)))
  exact key l [] h Tree.nil

set_option maxRecDepth 20000 in
set_option maxHeartbeats 8000000 in
theorem treeRight_go (v : Value) (l : List Opn) (w : World) (h : Opns w v l) (hwf : ∀ x ∈ l, opWf x) (hTM : TMet w) :
    Calls Tryd.prog 6 #[v] w fun e w' => e = .returned (.bool true) ∧ Below w.heap.size w w' := by
  have HTM := Go.Lib.hid hTM
  clear hTM
  have hF := fun w h => few7_any v l w h (opWf_len hwf)
  obtain ⟨b, hb⟩ : ∃ b, few7 l = b := ⟨_, rfl⟩
  obtain ⟨o, ho⟩ : ∃ b, ownOf l = b := ⟨_, rfl⟩
  rw [hb] at hF
  obtain ⟨A, c, rfl, hc⟩ := h.len
  obtain ⟨n, hnn⟩ : ∃ n, l.length = n := ⟨_, rfl⟩
  rw [hnn] at h hc hF
  rw [hnn]
  have HF := Go.Lib.hid (hF w h); have HV := Go.Lib.hid h
  clear hF
  cases b
  · clear hb h ho
    go_enter Tryd.func6, Tryd.ntmps6
    go_wp2_with (first
      | (go_at_call 11; with_reducible refine HF.out.mono ?_; rintro e w1 ⟨rfl, rfl⟩)
      | (go_at_call 15; with_reducible refine (awake_any _ (by first | exact HTM.out | exact HTM.out.far (by assumption))).mono ?_; rintro e w5 ⟨rfl, hb⟩; have HB5 := Go.Lib.hid hb; clear hb))
    go_ret
    exact ⟨rfl, HB5.out⟩
  by_cases h60 : 60 < n
  · have h60' : (60 : Int) < (n : Int) := by omega
    have hd60 : decide ((60 : Int) < (n : Int)) = true := decide_eq_true h60'
    clear hb h ho
    go_enter Tryd.func6, Tryd.ntmps6
    go_wp2_with (first
      | (go_at_call 11; with_reducible refine HF.out.mono ?_; rintro e w1 ⟨rfl, rfl⟩)
      | (go_at_call 15; with_reducible refine (awake_any _ (by first | exact HTM.out | exact HTM.out.far (by assumption))).mono ?_; rintro e w5 ⟨rfl, hb⟩; have HB5 := Go.Lib.hid hb; clear hb))
    go_ret
    exact ⟨rfl, HB5.out⟩
  have h60' : ¬ (60 : Int) < (n : Int) := by omega
  have hd60 : decide ((60 : Int) < (n : Int)) = false := decide_eq_false h60'
  have hO := rown_any _ l w h (by omega)
  rw [ho] at hO
  have HO := Go.Lib.hid hO; clear hO
  cases o
  · clear hb h ho
    go_enter Tryd.func6, Tryd.ntmps6
    go_wp2_with (first
      | (go_at_call 11; with_reducible refine HF.out.mono ?_; rintro e w1 ⟨rfl, rfl⟩)
      | (go_at_call 26; with_reducible refine HO.out.mono ?_; rintro e w2 ⟨rfl, hb⟩; have HB2 := Go.Lib.hid hb; clear hb)
      | (go_at_call 15; with_reducible refine (awake_any _ (by first | exact HTM.out | exact HTM.out.far (by assumption))).mono ?_; rintro e w5 ⟨rfl, hb⟩; have HB5 := Go.Lib.hid (bstep HB2.out hb); clear hb))
    go_ret
    exact ⟨rfl, HB5.out⟩
  · have hown := ownOf_true ho
    have htl : l.take n = l := List.take_of_length_le (by omega)
    have HOWN := Go.Lib.hid hown; have HWF := Go.Lib.hid hwf; have HTL := Go.Lib.hid htl; have HN := Go.Lib.hid hnn
    clear hb h ho hown hwf htl hnn
    go_enter Tryd.func6, Tryd.ntmps6
    go_wp2_with (first
      | (go_at_call 11; with_reducible refine HF.out.mono ?_; rintro e w1 ⟨rfl, rfl⟩)
      | (go_at_call 26; with_reducible refine HO.out.mono ?_; rintro e w2 ⟨rfl, hb⟩; have HB2 := Go.Lib.hid hb; clear hb))
    go_loopw [3, 4, 19, 20, 21, 22, 23, 24, 25, 26, 27, 28, 29, 30, 31, 32, 33] (fun vo i _ _ _ _ _ _ _ _ _ _ _ _ _ _ _ wr => ∃ k : Nat, k ≤ n ∧ i = .int .i64 (k : Int) ∧ Nods wr vo (foldOf (l.take k)) ∧ Below w.heap.size w wr) (fun _ i _ _ _ _ _ _ _ _ _ _ _ _ _ _ _ _ => n - (intOf i).toNat)
    case atStart => exact ⟨0, by omega, rfl, Nods.nil _, HB2.out⟩
    case round =>
      obtain ⟨k, hk, rfl, hnds, hbw⟩ := hrel
      have hfl := foldOf_length (l.take k)
      have htk : (l.take k).length ≤ n := by rw [List.length_take]; omega
      by_cases hkn : k < n
      · have hkn' : (k : Int) < (n : Int) := by omega
        obtain ⟨b1, o1, x, rfl, hg1, hx⟩ := (HV.out.below hbw).at k hkn
        obtain ⟨c0, c1, c2, c3, c4, c5, c6, c7, c8, c9, c10⟩ := op_cells hx
        have hxm := List.mem_of_getElem? hg1
        have hwfk : ∀ y ∈ l.take k, opWf y := fun y hy => HWF.out y (List.mem_of_mem_take hy)
        have hdo := ptdo_any u3 (foldOf (l.take k)) x wr hnds (by omega) (foldOf_wf hwfk) (HWF.out x hxm) (HTM.out.on hbw)
        have hft := foldOf_take l k x hg1
        rw [← hft] at hdo
        have hT : Tree (foldOf (l.take (k + 1))) := fold_tree (fun y hy => HOWN.out y (List.mem_of_mem_take hy))
        have hwf1 : ∀ y ∈ foldOf (l.take (k + 1)), ndWf y := foldOf_wf (fun y hy => HWF.out y (List.mem_of_mem_take hy))
        have hfl1 := foldOf_length (l.take (k + 1))
        have htk1 : (l.take (k + 1)).length ≤ n := by rw [List.length_take]; omega
        have hr := fun v w h => rright7_any v _ w h hT (by omega) hwf1
        unfold opVal at hdo
        unfold opArr opCells at hdo
        have HDO := Go.Lib.hid hdo; have HBW := Go.Lib.hid hbw; have HR := Go.Lib.hid hr
        clear hdo hbw hr hx hg1 hnds hxm hwfk hft hT hwf1 hfl hfl1
        go_wp2_with (first
          | (go_at_call 17; with_reducible refine HDO.out.mono ?_; rintro e w3 ⟨v3, rfl, hn3, hb⟩; have HN3 := Go.Lib.hid hn3; have HB3 := Go.Lib.hid (bstep HBW.out hb); clear hb hn3)
          | (go_at_call 27; with_reducible refine (HR.out _ _ HN3.out).mono ?_; rintro e w4 ⟨rfl, hb⟩; have HN4 := Go.Lib.hid (HN3.out.below hb); have HB4 := Go.Lib.hid (bstep HB3.out hb); clear hb))
        exact ⟨⟨k + 1, by omega, by simp, HN4.out, HB4.out⟩, by simp [intOf]; omega⟩
      · obtain rfl : k = n := by omega
        rw [HTL.out] at hnds hfl
        have hP := ptfold_any (.slice A k c) l wr (HV.out.below hbw) (by rw [HN.out]; omega) HWF.out (HTM.out.on hbw)
        have hll := HN.out
        have hS := fun u v w hu hv => rsamends_any u v (foldOf l) (foldOf l) w hu hv (by omega) (by omega)
        rw [decide_eq_true rfl] at hS
        have HP := Go.Lib.hid hP; have HS := Go.Lib.hid hS; have HNS := Go.Lib.hid hnds; have HBW := Go.Lib.hid hbw
        clear hP hS hnds hbw hfl hll
        go_wp2_with (first
          | (go_at_call 13; with_reducible refine HP.out.mono ?_; rintro e w3 ⟨v3, rfl, hn3, hb⟩; have HN3 := Go.Lib.hid hn3; have HNS3 := Go.Lib.hid (HNS.out.below hb); have HB3 := Go.Lib.hid (bstep HBW.out hb); clear hb hn3)
          | (go_at_call 12; with_reducible refine (HS.out _ _ _ HNS3.out HN3.out).mono ?_; rintro e w4 ⟨rfl, hb⟩; have HB4 := Go.Lib.hid (bstep HB3.out hb); clear hb)
          | (go_at_call 15; with_reducible refine (awake_any _ (by first | exact HTM.out | exact HTM.out.far (by assumption))).mono ?_; rintro e w5 ⟨rfl, hb⟩; have HB5 := Go.Lib.hid (bstep HB4.out hb); clear hb))
        go_ret
        exact ⟨rfl, HB5.out⟩
theorem treeRight_walk (A : Option Addr) (n c : Nat) (l : List Opn) (w : World) (hs : Sl w 11 A n c (l.map opCells)) (_ : c * 104 ≤ 140737488351232) (hl : ∀ y ∈ l, opWf y) (_ : l.length = n) (hTM : TMet w) :
    Calls Tryd.prog 6 #[.slice A n c] w fun e w' => e = .returned (.bool true) ∧ Below w.heap.size w w' :=
  treeRight_go _ l w (Opns.of_sl hs) hl hTM
end Go.Proofs.YthcoldjncpiffaaDoor.W
