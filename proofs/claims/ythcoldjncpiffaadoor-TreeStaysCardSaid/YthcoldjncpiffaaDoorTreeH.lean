/- The walks of layer 7's laws: TreeStays. -/
import Derived.Test.YthcoldjncpiffaaDoorTreeE
namespace Go.Proofs.YthcoldjncpiffaaDoor.W
set_option linter.unusedVariables false
open Go.RowKit Go.Proofs Arb

theorem fold_rises (l : List Opn) : Rises (foldOf l) := by
  have key : ∀ (l : List Opn) (ns : List Nod), Rises ns → Rises (l.foldl doOf ns) := by
    intro l
    induction l with
    | nil => intro ns h; exact h
    | cons x l ih =>
      intro ns h
      rw [List.foldl_cons]
      exact ih _ (h.step x)
  exact key l [] List.Pairwise.nil
theorem found_of {l : List Nod} {s : St} {m : Nod} (h : findOf l s = some m) : foundOf l s = (m, true) := by unfold foundOf; rw [h]

set_option maxRecDepth 20000 in
set_option maxHeartbeats 8000000 in
theorem treeStays_go (v : Value) (l : List Opn) (w : World) (h : Opns w v l) (hwf : ∀ x ∈ l, opWf x) (hTM : TMet w) :
    Calls Tryd.prog 7 #[v] w fun e w' => e = .returned (.bool true) ∧ Below w.heap.size w w' := by
  have HTM := Go.Lib.hid hTM
  clear hTM
  have hF := fun w h => few7_any v l w h (opWf_len hwf)
  obtain ⟨b, hb⟩ : ∃ b, few7 l = b := ⟨_, rfl⟩
  rw [hb] at hF
  obtain ⟨A, c, rfl, hc⟩ := h.len
  obtain ⟨n, hnn⟩ : ∃ n, l.length = n := ⟨_, rfl⟩
  rw [hnn] at h hc hF
  rw [hnn]
  have HF := Go.Lib.hid (hF w h); have HV := Go.Lib.hid h; have HWF := Go.Lib.hid hwf
  clear hF h hwf hb
  cases b
  · go_enter Tryd.func7, Tryd.ntmps7
    go_wp2_with (first
      | (go_at_call 11; with_reducible refine HF.out.mono ?_; rintro e w1 ⟨rfl, rfl⟩)
      | (go_at_call 15; with_reducible refine (awake_any _ (by first | exact HTM.out | exact HTM.out.far (by assumption))).mono ?_; rintro e w5 ⟨rfl, hb⟩; have HB5 := Go.Lib.hid hb; clear hb))
    go_ret
    exact ⟨rfl, HB5.out⟩
  by_cases h60 : 60 < n
  · have h60' : (60 : Int) < (n : Int) := by omega
    have hd60 : decide ((60 : Int) < (n : Int)) = true := decide_eq_true h60'
    go_enter Tryd.func7, Tryd.ntmps7
    go_wp2_with (first
      | (go_at_call 11; with_reducible refine HF.out.mono ?_; rintro e w1 ⟨rfl, rfl⟩)
      | (go_at_call 15; with_reducible refine (awake_any _ (by first | exact HTM.out | exact HTM.out.far (by assumption))).mono ?_; rintro e w5 ⟨rfl, hb⟩; have HB5 := Go.Lib.hid hb; clear hb))
    go_ret
    exact ⟨rfl, HB5.out⟩
  · have h60' : ¬ (60 : Int) < (n : Int) := by omega
    have hd60 : decide ((60 : Int) < (n : Int)) = false := decide_eq_false h60'
    have HN := Go.Lib.hid hnn
    clear hnn
    go_enter Tryd.func7, Tryd.ntmps7
    go_wp2_with (go_at_call 11; with_reducible refine HF.out.mono ?_; rintro e w1 ⟨rfl, rfl⟩)
    go_loopw [3, 4, 5, 6, 7, 8, 18, 19, 20, 21, 22, 23, 24, 25, 26, 27, 28, 29, 30, 31, 32, 33, 34, 35, 36, 37, 38, 39, 40, 41, 42, 43, 44, 45, 46, 47, 48, 49, 50, 51, 52, 53, 54, 55, 56, 57, 58, 59, 60, 61, 62, 63, 64, 65, 66, 67, 68, 69, 70, 71, 72, 73, 74, 75, 76, 77, 78, 79, 80, 81, 82, 83, 84, 85, 86, 87, 88, 89] (fun vo i _ _ _ _ _ _ _ _ _ _ _ _ _ _ _ _ _ _ _ _ _ _ _ _ _ _ _ _ _ _ _ _ _ _ _ _ _ _ _ _ _ _ _ _ _ _ _ _ _ _ _ _ _ _ _ _ _ _ _ _ _ _ _ _ _ _ _ _ _ _ _ _ _ _ _ _ wr => ∃ k : Nat, k ≤ n ∧ i = .int .i64 (k : Int) ∧ Nods wr vo (foldOf (l.take k)) ∧ Below w.heap.size w wr) (fun _ i _ _ _ _ _ _ _ _ _ _ _ _ _ _ _ _ _ _ _ _ _ _ _ _ _ _ _ _ _ _ _ _ _ _ _ _ _ _ _ _ _ _ _ _ _ _ _ _ _ _ _ _ _ _ _ _ _ _ _ _ _ _ _ _ _ _ _ _ _ _ _ _ _ _ _ _ _ => n - (intOf i).toNat)
    case atStart => exact ⟨0, by omega, rfl, Nods.nil _, Below.refl _ _⟩
    case round =>
      obtain ⟨k, hk, rfl, hnds, hbw⟩ := hrel
      have hfl := foldOf_length (l.take k)
      have htk : (l.take k).length ≤ n := by rw [List.length_take]; omega
      by_cases hkn : k < n
      · have hkn' : (k : Int) < (n : Int) := by omega
        obtain ⟨b1, o1, x, rfl, hg1, hx⟩ := (HV.out.below hbw).at k hkn
        have hxm := List.mem_of_getElem? hg1
        have hwfk : ∀ y ∈ l.take k, opWf y := fun y hy => HWF.out y (List.mem_of_mem_take hy)
        have hrise := fold_rises (l.take k)
        have hstays := fun y hy => hrise.stays x y hy
        have hwf1 := doOf_wf (foldOf_wf hwfk) (HWF.out x hxm)
        have hdl := doOf_length (foldOf (l.take k)) x
        have hdo := ptdo_any u3 (foldOf (l.take k)) x wr hnds (by omega) (foldOf_wf hwfk) (HWF.out x hxm) (HTM.out.on hbw)
        have hft := foldOf_take l k x hg1
        obtain ⟨ns, hns⟩ : ∃ ns, foldOf (l.take k) = ns := ⟨_, rfl⟩
        rw [hns] at hnds hfl hstays hwf1 hdl hdo hft
        obtain ⟨ns2, hns2⟩ : ∃ z, doOf ns x = z := ⟨_, rfl⟩
        rw [hns2] at hstays hwf1 hdl hdo hft
        obtain ⟨A3, c3, rfl, hc3⟩ := hnds.len
        obtain ⟨L1, hL1⟩ : ∃ L, ns.length = L := ⟨_, rfl⟩
        obtain ⟨L2, hL2⟩ : ∃ L, ns2.length = L := ⟨_, rfl⟩
        rw [hL1] at hnds hfl hdl hc3 hdo
        rw [hL1]
        rw [hL2] at hdl
        have hfind := fun v w s y hy h => ptfind_out v ns2 s w y true hy h (by omega) hwf1
        have e1 : ¬ (L2 : Int) < (L1 : Int) := by omega
        have e2 : decide ((L2 : Int) < (L1 : Int)) = false := decide_eq_false e1
        have e2n : decide (L2 < L1) = false := decide_eq_false (by omega)
        have e4n : decide (L1 + 1 < L2) = false := decide_eq_false (by omega)
        have e3 : ¬ (L1 : Int) + 1 < (L2 : Int) := by omega
        have e4 : decide ((L1 : Int) + 1 < (L2 : Int)) = false := decide_eq_false e3
        have e5 : IntKind.i64.wrap ((L1 : Int) + 1) = (L1 : Int) + 1 := by rw [IntKind.wrap_i64]; omega
        obtain ⟨c0, c1, c2, c3', c4, c5, c6, c7, c8, c9, c10⟩ := op_cells hx
        unfold opVal at hdo
        unfold opArr opCells at hdo
        have HDO := Go.Lib.hid hdo; have HBW := Go.Lib.hid hbw; have HFT := Go.Lib.hid hft; have HST := Go.Lib.hid hstays; have HFI := Go.Lib.hid hfind; have HNDS := Go.Lib.hid hnds; have HL2 := Go.Lib.hid hL2; have HL1 := Go.Lib.hid hL1; have HX := Go.Lib.hid hx
        clear hdo hbw hft hstays hfind hnds hL2 hL1 hns hns2 hwfk hrise hwf1 hg1 hxm hx
        go_wp2_with (go_at_call 17; with_reducible refine HDO.out.mono ?_; rintro e w3 ⟨v3, rfl, hn3, hb⟩; have HB3 := Go.Lib.hid (bstep HBW.out hb); have HNDS3 := Go.Lib.hid (HNDS.out.below hb); have HX3 := Go.Lib.hid (HX.out.below hb); obtain ⟨A4, c4', rfl, hc4⟩ := hn3.len; rw [HL2.out] at hn3 hc4; rw [HL2.out]; have HN3 := Go.Lib.hid hn3; clear hb hn3 c0 c1 c2 c3' c4 c5 c6 c7 c8 c9 c10)
        obtain ⟨w0, hw0⟩ : ∃ u, u = w3 := ⟨_, rfl⟩
        subst hw0
        go_loopw [6, 7, 8, 43, 44, 45, 46, 47, 48, 49, 50, 51, 52, 53, 54, 55, 56, 57, 58, 59, 60, 61, 62, 63, 64, 65, 66, 67, 68, 69, 70, 71, 72, 73, 74, 75, 76, 77, 78, 79, 80, 81, 82, 83, 84, 85, 86, 87, 88] (fun j _ _ _ _ _ _ _ _ _ _ _ _ _ _ _ _ _ _ _ _ _ _ _ _ _ _ _ _ _ _ _ _ _ _ _ _ _ _ _ _ _ _ _ _ _ _ _ _ wz => ∃ q : Nat, q ≤ L1 ∧ j = .int .i64 (q : Int) ∧ Below w0.heap.size w0 wz) (fun j _ _ _ _ _ _ _ _ _ _ _ _ _ _ _ _ _ _ _ _ _ _ _ _ _ _ _ _ _ _ _ _ _ _ _ _ _ _ _ _ _ _ _ _ _ _ _ _ _ => L1 - (intOf j).toNat)
        case atStart => exact ⟨0, by omega, rfl, Below.refl _ _⟩
        case round =>
          obtain ⟨q, hq, rfl, hbz⟩ := hrel
          by_cases hqn : q < L1
          · have hqn' : (q : Int) < (L1 : Int) := by omega
            have hnz := HNDS3.out.below hbz
            obtain ⟨b3, o3, y, rfl, hgy, hy⟩ := hnz.at q hqn
            obtain ⟨m, hfm, hmd, hmi⟩ := HST.out y (List.mem_of_getElem? hgy)
            have hfi := HFI.out (.slice A4 L2 c4') wr y.id m (found_of hfm) (HN3.out.below hbz)
            have hxz := HX3.out.below hbz
            obtain ⟨d0, d1, d2, d3, d4, d5, d6⟩ := nd_cells hy
            have HFI2 := Go.Lib.hid hfi; have HY := Go.Lib.hid hy; have HXZ := Go.Lib.hid hxz; have HBZ := Go.Lib.hid hbz; have HMD := Go.Lib.hid hmd; have HMI := Go.Lib.hid hmi
            clear hfi hy hxz hbz hgy hfm hnz hmd hmi
            go_wp2_with (go_at_call 19; with_reducible refine HFI2.out.mono ?_; rintro e w4 ⟨rfl, hb⟩; have HB4 := Go.Lib.hid (bstep HBZ.out hb); have HY4 := Go.Lib.hid (HY.out.below hb); have HX4 := Go.Lib.hid (HXZ.out.below hb); clear hb d0 d1 d2 d3 d4 d5 d6)
            obtain ⟨W5, hW5⟩ : ∃ W, w4.alloc (.cells #[.int .i64 m.id.count, .int .i64 m.id.who, .bool m.dir, .int .i64 m.parent.count, .int .i64 m.parent.who, .string (BS m.name), .string (BS m.manifest)] 37) = W := ⟨_, rfl⟩
            have hm5 : NodAt W5 w4.heap.size 0 m := by rw [← hW5]; exact nod_new w4 m
            have hb5 : Below w4.heap.size w4 W5 := by rw [← hW5]; exact (Below.refl _ _).alloc (Nat.le_refl _) _
            have hB5 := bstep HB4.out hb5
            rw [hW5]
            obtain ⟨m0, m1, m2, m3, m4, m5, m6⟩ := nd_cells0 hm5
            obtain ⟨d0, d1, d2, d3, d4, d5, d6⟩ := nd_cells (HY4.out.below hb5)
            obtain ⟨c0, c1, c2, c3', c4, c5, c6, c7, c8, c9, c10⟩ := op_cells (HX4.out.below hb5)
            have HB5 := Go.Lib.hid hB5
            clear hW5 hm5 hb5 hB5
            have hne := fun w => ne_nd' m y w
            obtain ⟨md, hmd1⟩ : ∃ d, m.dir = d := ⟨_, rfl⟩
            have hyd : y.dir = md := by rw [← HMD.out]; exact hmd1
            rw [hmd1] at m2
            rw [hyd] at d2
            simp only [hmd1, hyd] at hne
            clear hmd1 hyd
            by_cases hmy : m = y
            · rw [decide_eq_true hmy] at hne
              clear hmy
              go_quiet (fail)
              have hbq := below_drewN HB5.out nq
              have HBQ := Go.Lib.hid hbq; clear hbq
              go_wp2_with fail
              exact ⟨⟨q + 1, by omega, by simp, HBQ.out⟩, by simp [intOf]; omega⟩
            · rw [decide_eq_false hmy] at hne
              have hmi2 : m.id = x.node := HMI.out.resolve_left hmy
              have hns := fun w => ne_st m.id x.node w
              rw [decide_eq_true hmi2] at hns
              clear hmy hmi2
              go_quiet (fail)
              have hbq := below_drewN HB5.out nq
              have HBQ := Go.Lib.hid hbq; clear hbq
              go_wp2_with fail
              exact ⟨⟨q + 1, by omega, by simp, HBQ.out⟩, by simp [intOf]; omega⟩
          · obtain rfl : q = L1 := by omega
            have HBZ := Go.Lib.hid hbz; have HN3Z := Go.Lib.hid (HN3.out.below hbz)
            clear hbz
            go_wp2_with fail
            exact ⟨⟨k + 1, by omega, by simp, by rw [HFT.out]; exact HN3Z.out, bstep HB3.out HBZ.out⟩, by simp [intOf]; omega⟩
      · obtain rfl : k = n := by omega
        have HBW := Go.Lib.hid hbw; clear hbw hnds
        go_wp2_with (go_at_call 15; with_reducible refine (awake_any _ (by first | exact HTM.out | exact HTM.out.far (by assumption))).mono ?_; rintro e w5 ⟨rfl, hb⟩; have HB5 := Go.Lib.hid (bstep HBW.out hb); clear hb)
        go_ret
        exact ⟨rfl, HB5.out⟩
theorem treeStays_walk (A : Option Addr) (n c : Nat) (l : List Opn) (w : World) (hs : Sl w 11 A n c (l.map opCells)) (_ : c * 104 ≤ 140737488351232) (hl : ∀ y ∈ l, opWf y) (_ : l.length = n) (hTM : TMet w) :
    Calls Tryd.prog 7 #[.slice A n c] w fun e w' => e = .returned (.bool true) ∧ Below w.heap.size w w' :=
  treeStays_go _ l w (Opns.of_sl hs) hl hTM
end Go.Proofs.YthcoldjncpiffaaDoor.W
