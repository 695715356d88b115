/- The walks of layer 6's laws: Adds, Since, Vector. -/
import Derived.Test.YtmkmahjboocoaaaOpsL
namespace Go.Proofs.Ytmkmahjboocoaaa.W
set_option linter.unusedVariables false
open Go.RowKit Go.Proofs Arb

theorem insAt_length (set : List Opn) (x : Opn) : (insAt set x).length = set.length + 1 := by
  unfold insAt
  have := congrArg List.length (List.takeWhile_append_dropWhile (p := fun y : Opn => !x.stamp.less y.stamp) (l := set))
  rw [List.length_append] at this
  rw [List.length_append, List.length_cons]
  omega
theorem addOf_length (set : List Opn) (x : Opn) : (addOf set x).1.length ≤ set.length + 1 := by
  unfold addOf
  split
  · simp
  · split
    · simp
    · split
      · simp
      · split
        · simp
        · split
          · simp
          · split
            · simp
            · rw [insAt_length]
              exact Nat.le_refl _
theorem same_self (v u : Value) (l : List Opn) (w : World) (hv : Opns w v l) (hu : Opns w u l) (hl : l.length ≤ 1000000) : Calls Try.prog 22 #[v, u] w fun e w' => e = .returned (.bool true) ∧ Below w.heap.size w w' := by
  have h := rsameops_any v u l l w hv hu hl hl
  rw [decide_eq_true (rfl : l = l)] at h
  exact h
theorem ops_wf {l : List Opn} (h : ∀ x ∈ l, opWf x) : ∀ x ∈ l, x.name.length ≤ 140737488351232 ∧ x.manifest.length ≤ 140737488351232 := fun x hx => (h x hx).2.2.2.2.2

set_option maxRecDepth 20000 in
set_option maxHeartbeats 8000000 in
theorem opsAdds_go (A : Option Addr) (n c : Nat) (l : List Opn) (x : Opn) (w : World) (hv : Opns w (.slice A n c) l) (hl : ∀ y ∈ l, opWf y) (hwf : opWf x) :
    Calls Try.prog 6 #[.slice A n c, .agg (opCells x).toArray] w fun e w' => e = .returned (.bool true) ∧ Below w.heap.size w w' := by
  have hF := fun w v h => fewops_any v l w h (ops_wf hl)
  have hF1 := fun w v h => fewone_any v x hwf w h
  have hlen : l.length = n := by obtain ⟨A', n', c', he, h, _⟩ := hv; cases he; exact h
  have hb0 : Below w.heap.size w (w.alloc (.cells #[.int .i64 x.stamp.count, .int .i64 x.stamp.who, .int .i64 x.seq, .int .i64 x.kind, .int .i64 x.node.count, .int .i64 x.node.who, .bool x.dir, .int .i64 x.parent.count, .int .i64 x.parent.who, .string (BS x.name), .string (BS x.manifest)] 25)) := (Below.refl _ _).alloc (Nat.le_refl _) (.cells (opArr x) 25)
  have hb1 : Below (w.alloc (.cells #[.int .i64 x.stamp.count, .int .i64 x.stamp.who, .int .i64 x.seq, .int .i64 x.kind, .int .i64 x.node.count, .int .i64 x.node.who, .bool x.dir, .int .i64 x.parent.count, .int .i64 x.parent.who, .string (BS x.name), .string (BS x.manifest)] 25)).heap.size (w.alloc (.cells #[.int .i64 x.stamp.count, .int .i64 x.stamp.who, .int .i64 x.seq, .int .i64 x.kind, .int .i64 x.node.count, .int .i64 x.node.who, .bool x.dir, .int .i64 x.parent.count, .int .i64 x.parent.who, .string (BS x.name), .string (BS x.manifest)] 25)) ((w.alloc (.cells #[.int .i64 x.stamp.count, .int .i64 x.stamp.who, .int .i64 x.seq, .int .i64 x.kind, .int .i64 x.node.count, .int .i64 x.node.who, .bool x.dir, .int .i64 x.parent.count, .int .i64 x.parent.who, .string (BS x.name), .string (BS x.manifest)] 25)).alloc (.cells #[.int .i64 x.stamp.count, .int .i64 x.stamp.who, .int .i64 x.seq, .int .i64 x.kind, .int .i64 x.node.count, .int .i64 x.node.who, .bool x.dir, .int .i64 x.parent.count, .int .i64 x.parent.who, .string (BS x.name), .string (BS x.manifest)] 25)) := (Below.refl _ _).alloc (Nat.le_refl _) (.cells (opArr x) 25)
  have hone : Opns ((w.alloc (.cells #[.int .i64 x.stamp.count, .int .i64 x.stamp.who, .int .i64 x.seq, .int .i64 x.kind, .int .i64 x.node.count, .int .i64 x.node.who, .bool x.dir, .int .i64 x.parent.count, .int .i64 x.parent.who, .string (BS x.name), .string (BS x.manifest)] 25)).alloc (.cells #[.int .i64 x.stamp.count, .int .i64 x.stamp.who, .int .i64 x.seq, .int .i64 x.kind, .int .i64 x.node.count, .int .i64 x.node.who, .bool x.dir, .int .i64 x.parent.count, .int .i64 x.parent.who, .string (BS x.name), .string (BS x.manifest)] 25)) (.slice (some ⟨w.heap.size + 1, 0, none⟩) 1 1) [x] := by
    have h := Opns.one (heap_alloc_new (w.alloc (.cells (opArr x) 25)) (.cells (opArr x) 25))
    rw [World.size_alloc] at h
    exact h
  have hop : OpAt ((w.alloc (.cells #[.int .i64 x.stamp.count, .int .i64 x.stamp.who, .int .i64 x.seq, .int .i64 x.kind, .int .i64 x.node.count, .int .i64 x.node.who, .bool x.dir, .int .i64 x.parent.count, .int .i64 x.parent.who, .string (BS x.name), .string (BS x.manifest)] 25)).alloc (.cells #[.int .i64 x.stamp.count, .int .i64 x.stamp.who, .int .i64 x.seq, .int .i64 x.kind, .int .i64 x.node.count, .int .i64 x.node.who, .bool x.dir, .int .i64 x.parent.count, .int .i64 x.parent.who, .string (BS x.name), .string (BS x.manifest)] 25)) w.heap.size 0 x := (OpAt.new w x 25).below hb1
  have hv0 := hv.below hb0
  have hbw := bstep hb0 hb1
  have hv1 := hv.below hbw
  obtain ⟨b, hb⟩ : ∃ b, fewOps l = b := ⟨_, rfl⟩
  obtain ⟨b2, hb2⟩ : ∃ b, fewOps [x] = b := ⟨_, rfl⟩
  rw [hb] at hF
  rw [hb2] at hF1
  unfold opCells
  have HF := Go.Lib.hid hF; have HF1 := Go.Lib.hid hF1
  have HV0 := Go.Lib.hid hv0; have HV1 := Go.Lib.hid hv1; have HONE := Go.Lib.hid hone; have HOP := Go.Lib.hid hop; have HB0 := Go.Lib.hid hb0; have HB := Go.Lib.hid hbw
  have HL := Go.Lib.hid hl; have HV := Go.Lib.hid hv
  clear hF hF1 hv0 hv1 hone hop hb0 hb1 hbw hl hv
  cases b
  · go_enter Try.func6, Try.ntmps6
    go_wp2_with fail
    refine (HF.out _ _ HV0.out).mono ?_; rintro e w2 ⟨rfl, rfl⟩
    go_wp2_with fail
    refine (awake_any _).mono ?_; rintro e w3 ⟨rfl, hb⟩
    go_wp2_with fail
    go_ret
    exact ⟨rfl, bstep HB0.out hb⟩
  · cases b2
    · go_enter Try.func6, Try.ntmps6
      go_wp2_with fail
      refine (HF.out _ _ HV0.out).mono ?_; rintro e w2 ⟨rfl, rfl⟩
      go_wp2_with fail
      refine (HF1.out _ _ HONE.out).mono ?_; rintro e w2 ⟨rfl, rfl⟩
      go_wp2_with fail
      refine (awake_any _).mono ?_; rintro e w3 ⟨rfl, hb⟩
      go_wp2_with fail
      go_ret
      exact ⟨rfl, bstep HB.out hb⟩
    · obtain ⟨hxn, hxm⟩ := few_one hb2
      obtain ⟨hl450, -⟩ := fewOps_true hb
      rw [hlen] at hl450
      have hal := addOf_length l x
      have hp := fun w v h => padd_any v l x w h (by omega) HL.out hwf (by omega) (by omega)
      have hr := fun w v h => radd_any v l x w h (by omega) (by omega) (by omega)
      obtain ⟨a, ha⟩ : ∃ a, (addOf l x).1 = a := ⟨_, rfl⟩
      obtain ⟨ev, hev⟩ : ∃ r, (addOf l x).2 = r := ⟨_, rfl⟩
      rw [ha] at hal
      rw [ha, hev] at hp hr
      unfold opVal at hp hr
      unfold opArr opCells at hp hr
      have hs1 := fun w u v hu hv => same_self u v a w hu hv (by omega)
      have hs2 := fun w u v hu hv => same_self u v l w hu hv (by omega)
      have h2 : (ev == ev) = true := by simp
      have HP := Go.Lib.hid hp; have HRR := Go.Lib.hid hr; have HS1 := Go.Lib.hid hs1; have HS2 := Go.Lib.hid hs2
      have hrd : ∀ W, Below w.heap.size w W → Rd W 11 (.slice A n c) n (opsCells l) := fun W hW => by
        have := (HV.out.below hW).rdTake n (Nat.le_refl _)
        rwa [List.take_of_length_le (by omega)] at this
      have HRD := Go.Lib.hid hrd
      clear hb hb2 hp hr hs1 hs2 ha hev hrd
      go_enter Try.func6, Try.ntmps6
      go_wp2_with fail
      refine (HF.out _ _ HV0.out).mono ?_; rintro e w2 ⟨rfl, rfl⟩
      go_wp2_with fail
      refine (HF1.out _ _ HONE.out).mono ?_; rintro e w2 ⟨rfl, rfl⟩
      obtain ⟨W, hW⟩ : ∃ W, ((w.alloc (.cells #[.int .i64 x.stamp.count, .int .i64 x.stamp.who, .int .i64 x.seq, .int .i64 x.kind, .int .i64 x.node.count, .int .i64 x.node.who, .bool x.dir, .int .i64 x.parent.count, .int .i64 x.parent.who, .string (BS x.name), .string (BS x.manifest)] 25)).alloc (.cells #[.int .i64 x.stamp.count, .int .i64 x.stamp.who, .int .i64 x.seq, .int .i64 x.kind, .int .i64 x.node.count, .int .i64 x.node.who, .bool x.dir, .int .i64 x.parent.count, .int .i64 x.parent.who, .string (BS x.name), .string (BS x.manifest)] 25)) = W := ⟨_, rfl⟩
      have hB := HB.out; have hop := HOP.out
      rw [hW] at hB hop
      rw [hW]
      clear hW HB HOP HONE HV1 HV0 HB0
      have hba : Below W.heap.size W (W.alloc (.cells #[] 25)) := (Below.refl _ _).alloc (Nat.le_refl _) _
      have HBA := Go.Lib.hid hba; clear hba
      have HB := Go.Lib.hid hB; have HOP := Go.Lib.hid hop; clear hB hop
      go_wp2_with (at_builtin; refine wpList_append_ops rfl (.tmp 20) (.tmp 21) rfl W.heap.size (.slice (some ⟨W.heap.size, 0, none⟩) 0 0) 0 [] rfl (Row.made W #[] 25 0 11 (Nat.le_refl _) (by unfold maxLen; omega) rfl) (.slice A n c) n l rfl (HRD.out _ (bstep HB.out HBA.out)) (by omega) (by omega) (by simp) ?_; intro v6 V6 hr6 hb6; have hb7 := HBA.out.trans hb6; have hown := Opns.of_row hr6; obtain ⟨c0, c1, c2, c3, c4, c5, c6, c7, c8, c9, c10⟩ := op_cells0 (HOP.out.below hb7); have HOWN := Go.Lib.hid hown; have HOP6 := Go.Lib.hid (HOP.out.below hb7); have HB6 := Go.Lib.hid (bstep HB.out hb7); clear hr6 hb6 hb7 hown)
      refine (HP.out _ _ HOWN.out).mono ?_; rintro e w3 ⟨v3, rfl, hO3, hb⟩
      have hop7 := HOP6.out.below hb
      clear c0 c1 c2 c3 c4 c5 c6 c7 c8 c9 c10
      obtain ⟨c0, c1, c2, c3, c4, c5, c6, c7, c8, c9, c10⟩ := op_cells0 hop7
      have HOWN := Go.Lib.hid (HOWN.out.below hb); have HB7 := Go.Lib.hid (bstep HB6.out hb); have HO3 := Go.Lib.hid hO3; clear hb hO3 hop7
      go_wp2_with fail
      refine (HRR.out _ _ (HV.out.below HB7.out)).mono ?_; rintro e w4 ⟨v4, rfl, hO4, hb⟩
      have HOWN := Go.Lib.hid (HOWN.out.below hb); have HB8 := Go.Lib.hid (bstep HB7.out hb); have HO3 := Go.Lib.hid (HO3.out.below hb); have HO4 := Go.Lib.hid hO4; clear hb hO4 c0 c1 c2 c3 c4 c5 c6 c7 c8 c9 c10
      go_wp2_with fail
      refine (HS1.out _ _ _ HO3.out HO4.out).mono ?_; rintro e w5 ⟨rfl, hb⟩
      have HOWN := Go.Lib.hid (HOWN.out.below hb); have HB9 := Go.Lib.hid (bstep HB8.out hb); clear hb
      go_wp2_with fail
      refine (HS2.out _ _ _ HOWN.out (HV.out.below HB9.out)).mono ?_; rintro e w6 ⟨rfl, hb⟩
      have HB10 := Go.Lib.hid (bstep HB9.out hb); clear hb
      go_wp2_with fail
      refine (awake_any _).mono ?_; rintro e w7 ⟨rfl, hb⟩
      go_wp2_with fail
      go_ret
      exact ⟨rfl, bstep HB10.out hb⟩

theorem vectorOf_length (l : List Opn) : (vectorOf l).length ≤ 15 := by
  unfold vectorOf
  rw [List.length_map, List.length_range]
  have := topWho_le l
  omega
theorem sameint_self (v u : Value) (l : List Int) (w : World) (hv : Ints w v l) (hu : Ints w u l) (hl : l.length ≤ 1000000) : Calls Try.prog 23 #[v, u] w fun e w' => e = .returned (.bool true) ∧ Below w.heap.size w w' := by
  have h := rsame_any v u l l w hv hu hl hl
  rw [decide_eq_true (rfl : l = l)] at h
  refine h.mono ?_
  rintro e w' ⟨he, m, rfl⟩
  exact ⟨he, below_drewN (Below.refl _ _) _⟩

set_option maxRecDepth 20000 in
set_option maxHeartbeats 8000000 in
theorem opsVector_go (A : Option Addr) (n c : Nat) (l : List Opn) (w : World) (hv : Opns w (.slice A n c) l) (hl : ∀ y ∈ l, opWf y) :
    Calls Try.prog 11 #[.slice A n c] w fun e w' => e = .returned (.bool true) ∧ Below w.heap.size w w' := by
  have hF := fun w v h => fewops_any v l w h (ops_wf hl)
  have hlen : l.length = n := by obtain ⟨A', n', c', he, h, _⟩ := hv; cases he; exact h
  obtain ⟨b, hb⟩ : ∃ b, fewOps l = b := ⟨_, rfl⟩
  rw [hb] at hF
  have HF := Go.Lib.hid hF; have HL := Go.Lib.hid hl; have HV := Go.Lib.hid hv
  clear hF hl hv
  cases b
  · go_enter Try.func11, Try.ntmps11
    go_wp2_with fail
    refine (HF.out _ _ HV.out).mono ?_; rintro e w2 ⟨rfl, rfl⟩
    go_wp2_with fail
    refine (awake_any _).mono ?_; rintro e w3 ⟨rfl, hb⟩
    go_wp2_with fail
    go_ret
    exact ⟨rfl, hb⟩
  · obtain ⟨hl450, -⟩ := fewOps_true hb
    have hp := fun w v h => pvector_any v l w h (by omega) HL.out
    have hr := fun w v h => rvector_any v l w h (by omega) HL.out
    have hvl := vectorOf_length l
    obtain ⟨zs, hzs⟩ : ∃ z, vectorOf l = z := ⟨_, rfl⟩
    rw [hzs] at hp hr hvl
    have hs := fun w u v hu hv => sameint_self u v zs w hu hv (by omega)
    have HP := Go.Lib.hid hp; have HRR := Go.Lib.hid hr; have HS := Go.Lib.hid hs
    clear hb hp hr hs hzs
    go_enter Try.func11, Try.ntmps11
    go_wp2_with fail
    refine (HF.out _ _ HV.out).mono ?_; rintro e w2 ⟨rfl, rfl⟩
    go_wp2_with fail
    refine (HP.out _ _ HV.out).mono ?_; rintro e w3 ⟨v3, rfl, hi3, hb⟩
    have HB := Go.Lib.hid hb; have HI3 := Go.Lib.hid hi3; clear hb hi3
    go_wp2_with fail
    refine (HRR.out _ _ (HV.out.below HB.out)).mono ?_; rintro e w4 ⟨v4, rfl, hi4, hb⟩
    have HB := Go.Lib.hid (bstep HB.out hb); have HI3 := Go.Lib.hid (HI3.out.below hb); have HI4 := Go.Lib.hid hi4; clear hb hi4
    go_wp2_with fail
    refine (HS.out _ _ _ HI3.out HI4.out).mono ?_; rintro e w5 ⟨rfl, hb⟩
    have HB := Go.Lib.hid (bstep HB.out hb); clear hb
    go_wp2_with fail
    refine (awake_any _).mono ?_; rintro e w7 ⟨rfl, hb⟩
    go_wp2_with fail
    go_ret
    exact ⟨rfl, bstep HB.out hb⟩

set_option maxRecDepth 20000 in
set_option maxHeartbeats 8000000 in
theorem opsSince_go (A : Option Addr) (n c : Nat) (l : List Opn) (A2 : Option Addr) (n2 c2 : Nat) (ys : List Int) (w : World) (hv : Opns w (.slice A n c) l) (hl : ∀ y ∈ l, opWf y) (hu : Ints w (.slice A2 n2 c2) ys) :
    Calls Try.prog 7 #[.slice A n c, .slice A2 n2 c2] w fun e w' => e = .returned (.bool true) ∧ Below w.heap.size w w' := by
  have hF := fun w v h => fewops_any v l w h (ops_wf hl)
  have hlen : l.length = n := by obtain ⟨A', n', c', he, h, _⟩ := hv; cases he; exact h
  have hlen2 : ys.length = n2 := by obtain ⟨A', n', c', he, h, _⟩ := hu; cases he; exact h
  obtain ⟨b, hb⟩ : ∃ b, fewOps l = b := ⟨_, rfl⟩
  rw [hb] at hF
  have HF := Go.Lib.hid hF; have HL := Go.Lib.hid hl; have HV := Go.Lib.hid hv; have HU := Go.Lib.hid hu
  clear hF hl hv hu
  cases b
  · go_enter Try.func7, Try.ntmps7
    go_wp2_with fail
    refine (HF.out _ _ HV.out).mono ?_; rintro e w2 ⟨rfl, rfl⟩
    go_wp2_with fail
    refine (awake_any _).mono ?_; rintro e w3 ⟨rfl, hb⟩
    go_wp2_with fail
    go_ret
    exact ⟨rfl, hb⟩
  · by_cases h1000 : 1000 < n2
    · have h1' : (1000 : Int) < (n2 : Int) := by omega
      clear hb
      go_enter Try.func7, Try.ntmps7
      go_wp2_with fail
      refine (HF.out _ _ HV.out).mono ?_; rintro e w2 ⟨rfl, rfl⟩
      go_wp2_with fail
      refine (awake_any _).mono ?_; rintro e w3 ⟨rfl, hb⟩
      go_wp2_with fail
      go_ret
      exact ⟨rfl, hb⟩
    · have h1' : ¬ (1000 : Int) < (n2 : Int) := by omega
      obtain ⟨hl450, -⟩ := fewOps_true hb
      have hp := fun w v h => pvector_any v l w h (by omega) HL.out
      have hr := fun w v h => rvector_any v l w h (by omega) HL.out
      have hp2 := fun w v u h hu => psince_any v u l ys w h hu (by omega) (by omega) HL.out
      have hr2 := fun w v u h hu => rsince_any v u l ys w h hu (by omega) (by omega)
      have hvl := vectorOf_length l
      have hsl := since_length l ys
      obtain ⟨zs, hzs⟩ : ∃ z, vectorOf l = z := ⟨_, rfl⟩
      obtain ⟨so, hso⟩ : ∃ z, sinceOf l ys = z := ⟨_, rfl⟩
      rw [hzs] at hp hr hvl
      rw [hso] at hp2 hr2 hsl
      have hs := fun w u v hu hv => sameint_self u v zs w hu hv (by omega)
      have hs2 := fun w u v hu hv => same_self u v so w hu hv (by omega)
      have HP := Go.Lib.hid hp; have HRR := Go.Lib.hid hr; have HS := Go.Lib.hid hs
      have HP2 := Go.Lib.hid hp2; have HR2 := Go.Lib.hid hr2; have HS2 := Go.Lib.hid hs2
      clear hb hp hr hs hzs hp2 hr2 hs2 hso
      go_enter Try.func7, Try.ntmps7
      go_wp2_with fail
      refine (HF.out _ _ HV.out).mono ?_; rintro e w2 ⟨rfl, rfl⟩
      go_wp2_with fail
      refine (HP.out _ _ HV.out).mono ?_; rintro e w3 ⟨v3, rfl, hi3, hb⟩
      have HB := Go.Lib.hid hb; have HI3 := Go.Lib.hid hi3; clear hb hi3
      go_wp2_with fail
      refine (HRR.out _ _ (HV.out.below HB.out)).mono ?_; rintro e w4 ⟨v4, rfl, hi4, hb⟩
      have HB := Go.Lib.hid (bstep HB.out hb); have HI3 := Go.Lib.hid (HI3.out.below hb); have HI4 := Go.Lib.hid hi4; clear hb hi4
      go_wp2_with fail
      refine (HS.out _ _ _ HI3.out HI4.out).mono ?_; rintro e w5 ⟨rfl, hb⟩
      have HB := Go.Lib.hid (bstep HB.out hb); clear hb
      go_wp2_with fail
      refine (HP2.out _ _ _ (HV.out.below HB.out) (HU.out.below HB.out)).mono ?_; rintro e w6 ⟨v6, rfl, ho6, hb⟩
      have HB := Go.Lib.hid (bstep HB.out hb); have HO6 := Go.Lib.hid ho6; clear hb ho6
      go_wp2_with fail
      refine (HR2.out _ _ _ (HV.out.below HB.out) (HU.out.below HB.out)).mono ?_; rintro e w8 ⟨v8, rfl, ho8, hb⟩
      have HB := Go.Lib.hid (bstep HB.out hb); have HO6 := Go.Lib.hid (HO6.out.below hb); have HO8 := Go.Lib.hid ho8; clear hb ho8
      go_wp2_with fail
      refine (HS2.out _ _ _ HO6.out HO8.out).mono ?_; rintro e w9 ⟨rfl, hb⟩
      have HB := Go.Lib.hid (bstep HB.out hb); clear hb
      go_wp2_with fail
      refine (awake_any _).mono ?_; rintro e w7 ⟨rfl, hb⟩
      go_wp2_with fail
      go_ret
      exact ⟨rfl, bstep HB.out hb⟩

theorem opsAdds_walk (A : Option Addr) (n c : Nat) (l : List Opn) (w : World) (hs : Sl w 11 A n c (l.map opCells)) (_ : c * 104 ≤ 140737488351232) (hl : ∀ y ∈ l, opWf y) (_ : l.length = n) (x : Opn) (hwf : opWf x) :
    Calls Try.prog 6 #[.slice A n c, .agg (opCells x).toArray] w fun e w' => e = .returned (.bool true) ∧ Below w.heap.size w w' :=
  opsAdds_go A n c l x w (Opns.of_sl hs) hl hwf
theorem opsVector_walk (A : Option Addr) (n c : Nat) (l : List Opn) (w : World) (hs : Sl w 11 A n c (l.map opCells)) (_ : c * 104 ≤ 140737488351232) (hl : ∀ y ∈ l, opWf y) (_ : l.length = n) :
    Calls Try.prog 11 #[.slice A n c] w fun e w' => e = .returned (.bool true) ∧ Below w.heap.size w w' :=
  opsVector_go A n c l w (Opns.of_sl hs) hl
theorem opsSince_walk (A : Option Addr) (n c : Nat) (l : List Opn) (w : World) (hs : Sl w 11 A n c (l.map opCells)) (_ : c * 104 ≤ 140737488351232) (hl : ∀ y ∈ l, opWf y) (_ : l.length = n) (A2 : Option Addr) (n2 c2 : Nat) (ys : List Int)
    (hs2 : Sl w 1 A2 n2 c2 (ys.map fun z => [.int .i64 z])) (_ : c2 * 8 ≤ 140737488351232) (_ : ∀ z ∈ ys, (Lit.int .i64 z).wf = true) (_ : ys.length = n2) :
    Calls Try.prog 7 #[.slice A n c, .slice A2 n2 c2] w fun e w' => e = .returned (.bool true) ∧ Below w.heap.size w w' :=
  opsSince_go A n c l A2 n2 c2 ys w (Opns.of_sl hs) hl (Ints.of_sl hs2)
end Go.Proofs.Ytmkmahjboocoaaa.W
