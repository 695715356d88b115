/- The program's operations: Add. -/
import Derived.Test.YtmkmahjboocoaaaOpsPD
import Derived.Test.YtmkmahjboocoaaaOpsPF
import Derived.Deep.RegionWith
namespace Go.Proofs.Ytmkmahjboocoaaa.W
set_option linter.unusedVariables false
open Go.RowKit Go.Proofs Arb

theorem rd_further {w w' : World} {size m : Nat} {v : Value} {xs : List Value} (h : Rd w size v m xs) (hb : Below w.heap.size w w') : Rd w' size v m xs := by
  refine ⟨h.1, ?_⟩
  rcases h.2 with h2 | ⟨ad, c, rfl, hc⟩
  · exact .inl h2
  · exact .inr ⟨ad, c, rfl, fun j u hu => (hb.cell (World.block_lt_of_cell? w _ (hc j u hu))).trans (hc j u hu)⟩

set_option maxRecDepth 20000 in
set_option maxHeartbeats 2000000 in
theorem pconcat_any (w : World) (g : Nat) (fr : Nat × Nat) (A1 A2 A3 : Option Addr) (n1 n2 n3 c1 c2 c3 : Nat) (l1 l2 l3 : List Opn)
    (hg : w.heap[g]? = some (.cells #[.slice A1 n1 c1, .slice A2 n2 c2, .slice A3 n3 c3] 27 fr))
    (h1 : Rd w 11 (.slice A1 n1 c1) n1 (opsCells l1)) (h2 : Rd w 11 (.slice A2 n2 c2) n2 (opsCells l2)) (h3 : Rd w 11 (.slice A3 n3 c3) n3 (opsCells l3))
    (b1 : n1 ≤ 100000) (b2 : n2 ≤ 100000) (b3 : n3 ≤ 100000) (h0 : 0 < n2) :
    Calls Try.prog 53 #[.slice (some ⟨g, 0, none⟩) 3 3] w fun e w' => ∃ v', e = .returned v' ∧ Row w' w.heap.size 25 11 v' (n1 + n2 + n3) (opsCells (l1 ++ l2 ++ l3)) ∧ Below w.heap.size w w' := by
  have hgr := fun w => pgrow_any (n1 + n2 + n3) w (by omega) (by omega)
  rw [show ((n1 + n2 + n3 : Nat) : Int) = (n1 : Int) + (n2 : Int) + (n3 : Int) by omega] at hgr
  have hlt : g < w.heap.size := (Array.getElem?_eq_some_iff.1 hg).1
  have hx : ∀ w', Below w.heap.size w w' → w'.cell? ⟨g, 0, none⟩ = some (.slice A1 n1 c1) ∧ w'.cell? ⟨g, 1, none⟩ = some (.slice A2 n2 c2) ∧ w'.cell? ⟨g, 2, none⟩ = some (.slice A3 n3 c3) := fun w' hb => by
    have := (hb.block g hlt).trans hg
    exact ⟨by rw [cell_of_row _ _ _ _ _ _ this]; rfl, by rw [cell_of_row _ _ _ _ _ _ this]; rfl, by rw [cell_of_row _ _ _ _ _ _ this]; rfl⟩
  have r1 : ∀ w', Below w.heap.size w w' → Rd w' 11 (.slice A1 n1 c1) n1 (opsCells l1) := fun w' hb => rd_further h1 hb
  have r2 : ∀ w', Below w.heap.size w w' → Rd w' 11 (.slice A2 n2 c2) n2 (opsCells l2) := fun w' hb => rd_further h2 hb
  have r3 : ∀ w', Below w.heap.size w w' → Rd w' 11 (.slice A3 n3 c3) n3 (opsCells l3) := fun w' hb => rd_further h3 hb
  have R1 := Go.Lib.hid r1; have R2 := Go.Lib.hid r2; have R3 := Go.Lib.hid r3; have HX := Go.Lib.hid hx; have HG := Go.Lib.hid hgr
  have p1 : ¬ ((n1 : Int) < 0) := by omega
  have p2 : ¬ ((n1 : Int) + (n2 : Int) < 0) := by omega
  have p3 : ¬ ((n1 : Int) + (n2 : Int) + (n3 : Int) < 0) := by omega
  have u2 : IntKind.i64.wrap ((n1 : Int) + (n2 : Int)) = (n1 : Int) + (n2 : Int) := by rw [IntKind.wrap_i64]; omega
  have u3 : IntKind.i64.wrap ((n1 : Int) + (n2 : Int) + (n3 : Int)) = (n1 : Int) + (n2 : Int) + (n3 : Int) := by rw [IntKind.wrap_i64]; omega
  obtain ⟨d0, d1, d2⟩ := hx w (Below.refl _ _)
  clear r1 r2 r3 h1 h2 h3 hx hgr hg
  go_enter Try.func53, Try.ntmps53
  go_wp2_with fail
  go_loopw [3, 5, 11, 12, 13, 14, 15, 16, 17, 18, 19, 20, 21, 22] (fun sz _ i _ _ _ _ _ _ _ _ _ _ _ wr => wr = w ∧ ((i = .int .i64 0 ∧ sz = .int .i64 0) ∨ (i = .int .i64 1 ∧ sz = .int .i64 (n1 : Int)) ∨ (i = .int .i64 2 ∧ sz = .int .i64 ((n1 : Int) + (n2 : Int))) ∨ (i = .int .i64 3 ∧ sz = .int .i64 ((n1 : Int) + (n2 : Int) + (n3 : Int))))) (fun _ _ i _ _ _ _ _ _ _ _ _ _ _ _ => 3 - (intOf i).toNat)
  case atStart => exact ⟨rfl, .inl ⟨rfl, rfl⟩⟩
  case round =>
    obtain ⟨rfl, hcase⟩ := hrel
    rcases hcase with ⟨rfl, rfl⟩ | ⟨rfl, rfl⟩ | ⟨rfl, rfl⟩ | ⟨rfl, rfl⟩
    · go_wp2_with fail
      exact ⟨⟨by first | rfl | trivial, .inr (.inl ⟨rfl, rfl⟩)⟩, by simp [intOf]⟩
    · go_wp2_with fail
      exact ⟨⟨by first | rfl | trivial, .inr (.inr (.inl ⟨rfl, rfl⟩))⟩, by simp [intOf]⟩
    · go_wp2_with fail
      exact ⟨⟨by first | rfl | trivial, .inr (.inr (.inr ⟨rfl, rfl⟩))⟩, by simp [intOf]⟩
    · go_wp2_with (go_at_call 71; with_reducible refine (HG.out _).mono ?_; rintro e W ⟨c, rfl, hrow, hb⟩; have HROW := Go.Lib.hid hrow; have HB := Go.Lib.hid hb; clear hrow hb)
      clear d0 d1 d2
      obtain ⟨v0, hv0⟩ : ∃ v : Value, v = .slice (some ⟨wr.heap.size, 0, none⟩) 0 c := ⟨_, rfl⟩
      rw [← hv0] at HROW
      rw [← hv0]
      clear hv0
      obtain ⟨w0, rfl⟩ : ∃ u, u = wr := ⟨_, rfl⟩
      go_loopw [6, 8, 27, 28, 29, 30, 31, 32, 33, 34] (fun ns _ i _ _ _ _ _ _ _ wr => Below w0.heap.size w0 wr ∧ ((i = .int .i64 0 ∧ Row wr w0.heap.size 25 11 ns 0 (opsCells [])) ∨ (i = .int .i64 1 ∧ Row wr w0.heap.size 25 11 ns n1 (opsCells l1)) ∨ (i = .int .i64 2 ∧ Row wr w0.heap.size 25 11 ns (n1 + n2) (opsCells (l1 ++ l2))) ∨ (i = .int .i64 3 ∧ Row wr w0.heap.size 25 11 ns (n1 + n2 + n3) (opsCells (l1 ++ l2 ++ l3))))) (fun _ _ i _ _ _ _ _ _ _ _ => 3 - (intOf i).toNat)
      case atStart => exact ⟨HB.out, .inl ⟨rfl, HROW.out⟩⟩
      case round =>
        obtain ⟨hb, hcase⟩ := hrel
        have HB2 := Go.Lib.hid hb; clear hb
        obtain ⟨d0, d1, d2⟩ := HX.out _ HB2.out
        rcases hcase with ⟨rfl, hrow⟩ | ⟨rfl, hrow⟩ | ⟨rfl, hrow⟩ | ⟨rfl, hrow⟩
        · have HR := Go.Lib.hid hrow; clear hrow
          go_wp2_with (at_builtin; refine wpList_append_ops rfl (.tmp 31) (.tmp 32) rfl w0.heap.size _ 0 [] rfl HR.out _ n1 l1 rfl (R1.out _ HB2.out) (by omega) (by omega) HB2.out.size ?_; intro v4 W4 hr4 hb4; have HR4 := Go.Lib.hid hr4; have HB4 := Go.Lib.hid (HB2.out.trans hb4); clear hr4 hb4)
          have hr4 := HR4.out
          rw [Nat.zero_add, List.nil_append] at hr4
          exact ⟨⟨HB4.out, .inr (.inl ⟨rfl, hr4⟩)⟩, by simp [intOf]⟩
        · have HR := Go.Lib.hid hrow; clear hrow
          go_wp2_with (at_builtin; refine wpList_append_ops rfl (.tmp 31) (.tmp 32) rfl w0.heap.size _ n1 l1 rfl HR.out _ n2 l2 rfl (R2.out _ HB2.out) (by omega) (by omega) HB2.out.size ?_; intro v4 W4 hr4 hb4; have HR4 := Go.Lib.hid hr4; have HB4 := Go.Lib.hid (HB2.out.trans hb4); clear hr4 hb4)
          exact ⟨⟨HB4.out, .inr (.inr (.inl ⟨rfl, HR4.out⟩))⟩, by simp [intOf]⟩
        · have HR := Go.Lib.hid hrow; clear hrow
          go_wp2_with (at_builtin; refine wpList_append_ops rfl (.tmp 31) (.tmp 32) rfl w0.heap.size _ (n1 + n2) (l1 ++ l2) rfl HR.out _ n3 l3 rfl (R3.out _ HB2.out) (by omega) (by omega) HB2.out.size ?_; intro v4 W4 hr4 hb4; have HR4 := Go.Lib.hid hr4; have HB4 := Go.Lib.hid (HB2.out.trans hb4); clear hr4 hb4)
          exact ⟨⟨HB4.out, .inr (.inr (.inr ⟨rfl, HR4.out⟩))⟩, by simp [intOf]⟩
        · have HR := Go.Lib.hid hrow; clear hrow
          go_wp2_with fail
          go_ret
          exact ⟨_, rfl, HR.out, HB2.out⟩

theorem rd_zero (w : World) (a : Addr) (c : Nat) : Rd w 11 (.slice (some a) 0 c) 0 (opsCells []) := ⟨rfl, .inr ⟨a, c, rfl, fun j u hu => by cases hu⟩⟩
/-- slices.Concat of what is ahead of an operation, of it, and of what is behind it. -/
theorem pjoin_any (W : World) (x : Opn) (A1 A3 : Option Addr) (k m c1 c3 : Nat) (l1 l3 : List Opn) (h1 : Rd W 11 (.slice A1 k c1) k (opsCells l1)) (h3 : Rd W 11 (.slice A3 m c3) m (opsCells l3)) (b1 : k ≤ 100000) (b3 : m ≤ 100000) :
    Calls Try.prog 53 #[.slice (some ⟨W.heap.size + 1, 0, none⟩) 3 3] ((W.alloc (.cells (opArr x) 25)).alloc (.cells #[.slice A1 k c1, .slice (some ⟨W.heap.size, 0, none⟩) 1 1, .slice A3 m c3] 27)).drew
      fun e w' => ∃ v', e = .returned v' ∧ Row w' W.heap.size 25 11 v' (l1 ++ [x] ++ l3).length (opsCells (l1 ++ [x] ++ l3)) ∧ Below W.heap.size W w' := by
  obtain ⟨V1, hV1⟩ : ∃ V, W.alloc (.cells (opArr x) 25) = V := ⟨_, rfl⟩
  have hb1 : Below W.heap.size W V1 := by rw [← hV1]; exact (Below.refl _ _).alloc (Nat.le_refl _) _
  have hz : V1.heap.size = W.heap.size + 1 := by rw [← hV1]; simp
  have h2 : Rd V1 11 (.slice (some ⟨W.heap.size, 0, none⟩) 1 1) 1 (opsCells [x]) := by
    rw [← hV1, opsCells_one]
    have := Rd.new W (opArr x) 25 1 1 11 rfl
    simpa [opArr] using this
  rw [hV1]
  obtain ⟨V, hV⟩ : ∃ V, (V1.alloc (.cells #[.slice A1 k c1, .slice (some ⟨W.heap.size, 0, none⟩) 1 1, .slice A3 m c3] 27)).drew = V := ⟨_, rfl⟩
  have hb2 : Below V1.heap.size V1 V := by rw [← hV]; exact ((Below.refl _ _).alloc (Nat.le_refl _) _).drew
  have hg : V.heap[W.heap.size + 1]? = some (.cells #[.slice A1 k c1, .slice (some ⟨W.heap.size, 0, none⟩) 1 1, .slice A3 m c3] 27 (0, 0)) := by
    rw [← hV, ← hz]; exact heap_alloc_new V1 _
  rw [hV]
  have hl1 : l1.length = k := by have := h1.1; rw [opsCells_length] at this; omega
  have hl3 : l3.length = m := by have := h3.1; rw [opsCells_length] at this; omega
  refine (pconcat_any V (W.heap.size + 1) (0, 0) A1 (some ⟨W.heap.size, 0, none⟩) A3 k 1 m c1 1 c3 l1 [x] l3 hg (rd_further (rd_further h1 hb1) hb2) (rd_further h2 hb2) (rd_further (rd_further h3 hb1) hb2) b1 (by omega) b3 (by omega)).mono ?_
  rintro e w' ⟨v', rfl, hr, hb⟩
  have hbb := bstep hb1 hb2
  refine ⟨v', rfl, ?_, bstep hbb hb⟩
  have hlen : (l1 ++ [x] ++ l3).length = k + 1 + m := by rw [List.length_append, List.length_append, hl1, hl3]; rfl
  rw [hlen]
  exact hr.weaken hbb.size

theorem add_eq (set : List Opn) (x : Opn) (h : x.right = 0) (hx : ¬ x ∈ set) : addOf set x = if mayRes set x ≠ 0 then ([], mayRes set x) else (insAt set x, 0) := by
  unfold addOf mayRes
  rw [if_neg (by simp [h]), if_neg hx]
  cases twiceOf set x
  · cases aheadOf set x
    · simp
    · cases lateOf set x
      · by_cases h4 : 400 ≤ set.length
        · simp [h4]
        · simp [h4]
      · simp
  · simp
theorem right_seq {x : Opn} (h : x.right = 0) : 1 ≤ x.seq := by
  unfold Opn.right at h
  by_cases hh : x.stamp.right ≠ 0 ∨ x.seq < 1 ∨ 1099511627776 < x.seq
  · rw [if_pos hh] at h; omega
  · omega

set_option maxRecDepth 20000 in
set_option maxHeartbeats 8000000 in
theorem padd_any (v : Value) (set : List Opn) (x : Opn) (w : World) (h : Opns w v set) (hn : set.length ≤ 100000) (hs : ∀ y ∈ set, opWf y) (hwf : opWf x) (hxn : x.name.length ≤ 1000000) (hxm : x.manifest.length ≤ 1000000) :
    Calls Try.prog 20 #[v, opVal x] w fun e w' => ∃ v', e = .returned (.tuple #[v', .int .i64 (addOf set x).2]) ∧ Opns w' v' (addOf set x).1 ∧ Below w.heap.size w w' := by
  have hB : Below w.heap.size w (w.alloc (.cells (opArr x) 25)) := (Below.refl _ _).alloc (Nat.le_refl _) _
  have hop := OpAt.new w x 25
  have hv := h.below hB
  have hc1 := fun w => popright_any x w hwf hxn hxm
  obtain ⟨r, hr⟩ : ∃ r, addOf set x = r := ⟨_, rfl⟩
  rw [hr]
  by_cases h0 : x.right = 0
  · have hc2 : ∀ w, Opns w v set → Calls Try.prog 48 #[v, opVal x] w fun e w' => e = .returned (.bool (decide (x ∈ set))) ∧ Below w.heap.size w w' := fun w hv => phas_any v set x w hv hn
    have hc3 : ∀ w, Opns w v set → Calls Try.prog 51 #[v, opVal x] w fun e w' => e = .returned (.int .i64 (mayRes set x)) ∧ Below w.heap.size w w' := fun w hv => pmay_any v set x w hv hn hwf (right_seq h0)
    rw [h0] at hc1
    unfold opVal at hc1 hc2 hc3 ⊢
    unfold opArr opCells at hB hop hc1 hc2 hc3 hv ⊢
    have HC1 := Go.Lib.hid hc1; have HB := Go.Lib.hid hB; have HOP := Go.Lib.hid hop; have HV := Go.Lib.hid hv
    clear hc1 hB hop hv
    by_cases hin : x ∈ set
    · have hrr : r = (set, 0) := by rw [← hr]; unfold addOf; rw [if_neg (by simp [h0]), if_pos hin]
      subst hrr
      rw [decide_eq_true hin] at hc2
      have HC2 := Go.Lib.hid hc2
      clear hr h0 hin hc2 hc3
      go_enter Try.func20, Try.ntmps20
      go_wp2_with (first
        | (go_at_call 13; with_reducible refine (HC1.out _).mono ?_; rintro e w1 ⟨rfl, hb⟩; have hop1 := HOP.out.below hb; obtain ⟨c0, c1, c2, c3, c4, c5, c6, c7, c8, c9, c10⟩ := op_cells0 hop1; have HV1 := Go.Lib.hid (HV.out.below hb); have HB1 := Go.Lib.hid (bstep HB.out hb); have HOP1 := Go.Lib.hid hop1; clear hop1 hb)
        | (go_at_call 48; with_reducible refine (HC2.out _ HV1.out).mono ?_; rintro e w2 ⟨rfl, hb⟩; have HV2 := Go.Lib.hid (HV1.out.below hb); have HB2 := Go.Lib.hid (bstep HB1.out hb); clear hb)
        | (go_at_call 50; with_reducible refine (pclone_any _ set _ HV2.out hn).mono ?_; rintro e w3 ⟨v3, rfl, hr3, hb⟩; have HR3 := Go.Lib.hid hr3; have HB3 := Go.Lib.hid (bstep HB2.out hb); clear hr3 hb)
        | (go_at_call 49; with_reducible refine (pfresh_any _ _ set _ HR3.out (by omega) hs).mono ?_; rintro e w4 ⟨rfl, hb⟩; have HO4 := Go.Lib.hid ((Opns.of_row HR3.out).below hb); have HB4 := Go.Lib.hid (bstep HB3.out hb); clear hb))
      go_ret2
      exact ⟨_, rfl, HO4.out, HB4.out⟩
    · rw [decide_eq_false hin] at hc2
      have hadd := add_eq set x h0 hin
      rw [hr] at hadd
      obtain ⟨m, hm⟩ : ∃ m, mayRes set x = m := ⟨_, rfl⟩
      rw [hm] at hadd hc3
      have HC2 := Go.Lib.hid hc2; have HC3 := Go.Lib.hid hc3
      clear hr h0 hin hc2 hc3 hm
      by_cases hm0 : m = 0
      · rw [if_neg (by simp [hm0])] at hadd
        subst hm0
        subst hadd
        have hfb : ∀ w, Opns w v set → Calls Try.prog 52 #[v, .agg #[.int .i64 x.stamp.count, .int .i64 x.stamp.who]] w fun e w' => ∃ k : Nat, e = .returned (.int .i64 (k : Int)) ∧ k ≤ set.length ∧ insAt set x = set.take k ++ x :: set.drop k ∧ Below w.heap.size w w' := fun w hv => pbehind_any v set x w hv hn
        obtain ⟨A, c, hvv, hc⟩ := h.len
        obtain ⟨A', n', c', he, hl', hc', hA0, hr0⟩ := h
        rw [hvv] at he
        cases he
        clear hr0 hl' hc'
        obtain ⟨n, hnn⟩ : ∃ n, set.length = n := ⟨_, rfl⟩
        rw [hnn] at hvv hc hfb
        have HFB := Go.Lib.hid hfb; have HWF := Go.Lib.hid hs; have HXW := Go.Lib.hid hwf; have HN := Go.Lib.hid hnn
        clear hfb hs hwf
        rw [hnn] at hn
        subst hvv
        clear hnn
        go_enter Try.func20, Try.ntmps20
        go_wp2_with (first
          | (go_at_call 13; with_reducible refine (HC1.out _).mono ?_; rintro e w1 ⟨rfl, hb⟩; have hop1 := HOP.out.below hb; obtain ⟨c0, c1, c2, c3, c4, c5, c6, c7, c8, c9, c10⟩ := op_cells0 hop1; have HV1 := Go.Lib.hid (HV.out.below hb); have HB1 := Go.Lib.hid (bstep HB.out hb); have HOP1 := Go.Lib.hid hop1; clear hop1 hb)
          | (go_at_call 48; with_reducible refine (HC2.out _ HV1.out).mono ?_; rintro e w2 ⟨rfl, hb⟩; have hop2 := HOP1.out.below hb; obtain ⟨d0, d1, d2, d3, d4, d5, d6, d7, d8, d9, d10⟩ := op_cells0 hop2; have HV2 := Go.Lib.hid (HV1.out.below hb); have HB2 := Go.Lib.hid (bstep HB1.out hb); have HOP2 := Go.Lib.hid hop2; clear hop2 hb c0 c1 c2 c3 c4 c5 c6 c7 c8 c9 c10)
          | (go_at_call 51; with_reducible refine (HC3.out _ HV2.out).mono ?_; rintro e w3 ⟨rfl, hb⟩; have hop3 := HOP2.out.below hb; obtain ⟨c0, c1, c2, c3, c4, c5, c6, c7, c8, c9, c10⟩ := op_cells0 hop3; have HV3 := Go.Lib.hid (HV2.out.below hb); have HB3 := Go.Lib.hid (bstep HB2.out hb); have HOP3 := Go.Lib.hid hop3; clear hop3 hb d0 d1 d2 d3 d4 d5 d6 d7 d8 d9 d10)
          | (go_at_call 52; with_reducible refine (HFB.out _ HV3.out).mono ?_; rintro e W ⟨k, rfl, hk, hins, hb⟩; have hop4 := HOP3.out.below hb; have HV4 := Go.Lib.hid (HV3.out.below hb); have HB4 := Go.Lib.hid (bstep HB3.out hb); have HOP4 := Go.Lib.hid hop4; have HI := Go.Lib.hid hins; clear hop4 hb hins c0 c1 c2 c3 c4 c5 c6 c7 c8 c9 c10))
        obtain ⟨c0, c1, c2, c3, c4, c5, c6, c7, c8, c9, c10⟩ := op_cells0 HOP4.out
        have hins : insAt set x = set.take k ++ [x] ++ set.drop k := by rw [HI.out]; simp
        have hln : (set.take k ++ [x] ++ set.drop k).length ≤ 200000 := by
          have := HN.out
          simp; omega
        have hlw : ∀ z ∈ set.take k ++ [x] ++ set.drop k, opWf z := fun z hz => by
          rcases List.mem_append.1 hz with h1 | h1
          · rcases List.mem_append.1 h1 with h2 | h2
            · exact HWF.out z (List.mem_of_mem_take h2)
            · rw [List.mem_singleton.1 h2]; exact HXW.out
          · exact HWF.out z (List.mem_of_mem_drop h1)
        have HLN := Go.Lib.hid hln; have HLW := Go.Lib.hid hlw; have HINS := Go.Lib.hid hins
        clear hln hlw hins HI
        have hkc : k ≤ c := by omega
        by_cases hkn : k < n
        · obtain ⟨b1, o1, y, rfl, -, -⟩ := HV4.out.at k hkn
          clear hA0
          have hck : ¬ c = k := by omega
          have hj := pjoin_any W x (some ⟨b1, o1, none⟩) (some ⟨b1, o1 + k * 11, none⟩) k (n - k) c (c - k) (set.take k) (set.drop k) (HV4.out.rdTake k hk) (HV4.out.rdDrop k hk _ (fun _ => rfl) _ rfl _) (by omega) (by omega)
          unfold opArr opCells at hj
          have HJ := Go.Lib.hid hj; clear hj
          go_region_with (first
            | (go_at_call 53; with_reducible refine HJ.out.mono ?_; rintro e w5 ⟨v5, rfl, hr5, hb⟩; have HR5 := Go.Lib.hid hr5; have HB5 := Go.Lib.hid (bstep HB4.out hb); clear hr5 hb)
            | (go_at_call 49; with_reducible refine (pfresh_any _ _ _ _ HR5.out HLN.out HLW.out).mono ?_; rintro e w6 ⟨rfl, hb⟩; have HO6 := Go.Lib.hid ((Opns.of_row HR5.out).below hb); have HB6 := Go.Lib.hid (bstep HB5.out hb); clear hb))
          all_goals (
            go_wp2_with fail
            go_ret2
            exact ⟨_, rfl, by rw [HINS.out]; exact HO6.out, HB6.out⟩)
        · obtain rfl : k = n := by omega
          have hd0 : set.drop k = [] := List.drop_eq_nil_of_le (by rw [HN.out]; exact Nat.le_refl _)
          cases A with
          | none =>
            obtain rfl : c = 0 := hA0 rfl
            obtain rfl : k = 0 := by omega
            clear hA0
            have hj := pjoin_any W x none none 0 0 0 0 (set.take 0) (set.drop 0) (HV4.out.rdTake 0 hk) (by rw [hd0]; exact Rd.nil W 11) (by omega) (by omega)
            unfold opArr opCells at hj
            have HJ := Go.Lib.hid hj; clear hj
            go_region_with (first
              | (go_at_call 53; with_reducible refine HJ.out.mono ?_; rintro e w5 ⟨v5, rfl, hr5, hb⟩; have HR5 := Go.Lib.hid hr5; have HB5 := Go.Lib.hid (bstep HB4.out hb); clear hr5 hb)
              | (go_at_call 49; with_reducible refine (pfresh_any _ _ _ _ HR5.out HLN.out HLW.out).mono ?_; rintro e w6 ⟨rfl, hb⟩; have HO6 := Go.Lib.hid ((Opns.of_row HR5.out).below hb); have HB6 := Go.Lib.hid (bstep HB5.out hb); clear hb))
            all_goals (
              go_wp2_with fail
              go_ret2
              exact ⟨_, rfl, by rw [HINS.out]; exact HO6.out, HB6.out⟩)
          | some a =>
            clear hA0
            by_cases hck : c = k
            · have hj := pjoin_any W x (some a) (some a) k 0 c 0 (set.take k) (set.drop k) (HV4.out.rdTake k hk) (by rw [hd0]; exact rd_zero W a 0) (by omega) (by omega)
              unfold opArr opCells at hj
              have HJ := Go.Lib.hid hj; clear hj
              subst hck
              go_region_with (first
                | (go_at_call 53; with_reducible refine HJ.out.mono ?_; rintro e w5 ⟨v5, rfl, hr5, hb⟩; have HR5 := Go.Lib.hid hr5; have HB5 := Go.Lib.hid (bstep HB4.out hb); clear hr5 hb)
                | (go_at_call 49; with_reducible refine (pfresh_any _ _ _ _ HR5.out HLN.out HLW.out).mono ?_; rintro e w6 ⟨rfl, hb⟩; have HO6 := Go.Lib.hid ((Opns.of_row HR5.out).below hb); have HB6 := Go.Lib.hid (bstep HB5.out hb); clear hb))
              all_goals (
                go_wp2_with fail
                go_ret2
                exact ⟨_, rfl, by rw [HINS.out]; exact HO6.out, HB6.out⟩)
            · have hj := pjoin_any W x (some a) (some (a.add (k * 11))) k 0 c (c - k) (set.take k) (set.drop k) (HV4.out.rdTake k hk) (by rw [hd0]; exact rd_zero W _ _) (by omega) (by omega)
              unfold opArr opCells at hj
              have HJ := Go.Lib.hid hj; clear hj
              go_region_with (first
                | (go_at_call 53; with_reducible refine HJ.out.mono ?_; rintro e w5 ⟨v5, rfl, hr5, hb⟩; have HR5 := Go.Lib.hid hr5; have HB5 := Go.Lib.hid (bstep HB4.out hb); clear hr5 hb)
                | (go_at_call 49; with_reducible refine (pfresh_any _ _ _ _ HR5.out HLN.out HLW.out).mono ?_; rintro e w6 ⟨rfl, hb⟩; have HO6 := Go.Lib.hid ((Opns.of_row HR5.out).below hb); have HB6 := Go.Lib.hid (bstep HB5.out hb); clear hb))
              all_goals (
                go_wp2_with fail
                go_ret2
                exact ⟨_, rfl, by rw [HINS.out]; exact HO6.out, HB6.out⟩)
      · rw [if_pos hm0] at hadd
        subst hadd
        have hne : (m != 0) = true := by simp [hm0]
        clear hm0
        go_enter Try.func20, Try.ntmps20
        go_wp2_with (first
          | (go_at_call 13; with_reducible refine (HC1.out _).mono ?_; rintro e w1 ⟨rfl, hb⟩; have hop1 := HOP.out.below hb; obtain ⟨c0, c1, c2, c3, c4, c5, c6, c7, c8, c9, c10⟩ := op_cells0 hop1; have HV1 := Go.Lib.hid (HV.out.below hb); have HB1 := Go.Lib.hid (bstep HB.out hb); have HOP1 := Go.Lib.hid hop1; clear hop1 hb)
          | (go_at_call 48; with_reducible refine (HC2.out _ HV1.out).mono ?_; rintro e w2 ⟨rfl, hb⟩; have hop2 := HOP1.out.below hb; obtain ⟨d0, d1, d2, d3, d4, d5, d6, d7, d8, d9, d10⟩ := op_cells0 hop2; have HV2 := Go.Lib.hid (HV1.out.below hb); have HB2 := Go.Lib.hid (bstep HB1.out hb); have HOP2 := Go.Lib.hid hop2; clear hop2 hb c0 c1 c2 c3 c4 c5 c6 c7 c8 c9 c10)
          | (go_at_call 51; with_reducible refine (HC3.out _ HV2.out).mono ?_; rintro e w3 ⟨rfl, hb⟩; have HB3 := Go.Lib.hid (bstep HB2.out hb); clear hb))
        go_ret2
        exact ⟨_, rfl, Opns.nil _, HB3.out⟩
  · have hrr : r = ([], x.right) := by rw [← hr]; unfold addOf; rw [if_pos h0]
    subst hrr
    obtain ⟨u, hu⟩ : ∃ u, x.right = u := ⟨_, rfl⟩
    rw [hu] at h0 hc1
    show Calls Try.prog 20 #[v, opVal x] w fun e w' => ∃ v', e = .returned (.tuple #[v', .int .i64 x.right]) ∧ Opns w' v' [] ∧ Below w.heap.size w w'
    rw [hu]
    have hne : (u != 0) = true := by simp [h0]
    unfold opVal at hc1 ⊢
    unfold opArr opCells at hB hc1 ⊢
    have HC1 := Go.Lib.hid hc1; have HB := Go.Lib.hid hB
    clear h0 hr hc1 hB hu hop hv
    go_enter Try.func20, Try.ntmps20
    go_wp2_with (go_at_call 13; with_reducible refine (HC1.out _).mono ?_; rintro e w1 ⟨rfl, hb⟩; have HB1 := Go.Lib.hid (bstep HB.out hb); clear hb)
    go_ret2
    exact ⟨_, rfl, Opns.nil _, HB1.out⟩
end Go.Proofs.Ytmkmahjboocoaaa.W
