/- The reference of replicated trees: Insert. -/
import Derived.Test.YtjeijolblcodpaaDoorMg4
import Derived.Test.YtjeijolblcodpaaDoorClockR
import Derived.Test.YtjeijolblcodpaaDoorMg3
import Derived.Test.YtjeijolblcodpaaDoorMg6
import Derived.Test.YtjeijolblcodpaaDoorMg2
namespace Go.Proofs.YtjeijolblcodpaaDoor.W
set_option maxRecDepth 20000
set_option linter.unusedVariables false
open Go.RowKit Go.Proofs Arb

/-- Block b is the reference's state: the list v, the number n. -/
def R8 (w : World) (b : Nat) (v : Value) (n : Int) : Prop := w.heap[b]? = some (.cells #[v, .int .i64 n] 29 (0, 0))
section
variable {w w' : World} {b : Nat} {v : Value} {n : Int}
theorem R8.lt (h : R8 w b v n) : b < w.heap.size := (Array.getElem?_eq_some_iff.1 h).1
theorem R8.under (h : R8 w b v n) {B : Nat} (hb : Below B w w') (hl : b < B) : R8 w' b v n := (hb.block b hl).trans h
theorem R8.below (h : R8 w b v n) (hb : Below w.heap.size w w') : R8 w' b v n := h.under hb h.lt
theorem R8.cells (h : R8 w b v n) : w.cell? ⟨b, 0, none⟩ = some v ∧ w.cell? ⟨b, 1, none⟩ = some (.int .i64 n) ∧ w.frozen? ⟨b, 0, none⟩ = false ∧ w.frozen? ⟨b, 1, none⟩ = false :=
  ⟨by rw [cell_of_row _ _ _ _ _ _ h]; rfl, by rw [cell_of_row _ _ _ _ _ _ h]; rfl, frozen_of_row _ _ _ _ _ h, frozen_of_row _ _ _ _ _ h⟩
theorem R8.putN (h : R8 w b v n) (m : Int) : R8 (w.setCell ⟨b, 1, none⟩ (.int .i64 m)) b v m := heap_setCell_same w b 1 _ _ (.int .i64 m) h
theorem R8.putL (h : R8 w b v n) (u : Value) : R8 (w.setCell ⟨b, 0, none⟩ u) b u n := heap_setCell_same w b 0 _ _ u h
end
theorem row_slice {w : World} {base : Nat} {e : TypeId} {size : Nat} {v : Value} {n : Nat} {xs : List Value} (h : Row w base e size v n xs) : ∃ A k c, v = .slice A k c := by
  rcases h.2 with ⟨h, _⟩ | ⟨g, cap, _, _, h, _⟩
  · exact ⟨_, _, _, h⟩
  · exact ⟨_, _, _, h⟩
theorem rdo (w : World) (A : Option Addr) (c : Nat) (h : A = none → c = 0) : Rd w 11 (.slice A 0 c) 0 (opsCells []) := by
  cases A with
  | none => rw [h rfl]; exact Rd.nil w 11
  | some a => exact ⟨rfl, .inr ⟨a, c, rfl, fun j u hu => by cases hu⟩⟩
theorem rising_lt {l : List Opn} (h : Rising l) {j k : Nat} {x y : Opn} (hx : l[j]? = some x) (hy : l[k]? = some y) (hjk : j < k) : x.stamp.less y.stamp = true := by
  obtain ⟨h1, rfl⟩ := List.getElem?_eq_some_iff.1 hx
  obtain ⟨h2, rfl⟩ := List.getElem?_eq_some_iff.1 hy
  exact List.pairwise_iff_getElem.1 h j k h1 h2 hjk

set_option maxRecDepth 20000 in
set_option maxHeartbeats 16000000 in
theorem rinsert8_any (b : Nat) (v : Value) (l : List Opn) (n0 : Int) (x : Opn) (w : World) (hst : R8 w b v n0) (h : Opns w v l) (hin : InSet (fun k => k ≠ b) v) (hr : Rising l) (hl : l.length ≤ 10000) :
    Calls Tryd.prog 13 #[.pointer (some ⟨b, 0, none⟩), opVal x] w fun e w' => e = .returned (.int .i64 (mvErr l x)) ∧
      ∃ v', R8 w' b v' (mvRedo l x n0) ∧ Opns w' v' (mvAdd l x) ∧ (v' = v ∨ InSet (fun k => w.heap.size ≤ k ∧ k < w'.heap.size) v') ∧ Kept (fun k => k = b) w w' := by
  have hB : Below w.heap.size w (w.alloc (.cells (opArr x) 35)) := (Below.refl _ _).alloc (Nat.le_refl _) _
  have hop := OpAt.new w x 35
  have hbl := hst.lt
  have hvs : ∀ w', Below w.heap.size w w' → Opns w' v l := fun w' hb => h.below hb
  have hc1 := fun w => rright_any x.stamp w
  simp only [stCells] at hc1
  obtain ⟨sv, hsv⟩ : ∃ s, x.stamp.right = s := ⟨_, rfl⟩
  rw [hsv] at hc1
  obtain ⟨W0, hW0⟩ : ∃ W, w.alloc (.cells (opArr x) 35) = W := ⟨_, rfl⟩
  rw [hW0] at hB hop
  unfold opVal
  unfold opArr opCells at hW0 ⊢
  have hst0 := hst.under hB hbl
  have HC1 := Go.Lib.hid hc1; have HB := Go.Lib.hid hB; have HOP := Go.Lib.hid hop; have HW0 := Go.Lib.hid hW0; have HST := Go.Lib.hid hst0; have HVS0 := Go.Lib.hid hvs; have HRI := Go.Lib.hid hr; have HIN := Go.Lib.hid hin
  clear hc1 hB hop hW0 hst0 hvs hr hin
  obtain ⟨c0, c1, c2, c3, c4, c5, c6, c7, c8, c9, c10⟩ := op_cells0 HOP.out
  by_cases h0 : sv = 0
  · subst h0
    obtain ⟨A, c, rfl, hc⟩ := h.len
    obtain ⟨n, hnn⟩ : ∃ n, l.length = n := ⟨_, rfl⟩
    have HN := Go.Lib.hid hnn
    rw [hnn] at h hc hl HST HVS0 hst HIN
    rw [hnn]
    have HSV := Go.Lib.hid hsv; have HS0 := Go.Lib.hid hst; have HH := Go.Lib.hid h
    clear hnn hsv h hst
    go_enter Tryd.func13, Tryd.ntmps13
    go_wp2_with fail
    rw [HW0.out]
    go_wp2_with (go_at_call 29; with_reducible refine (HC1.out _).mono ?_; rintro e w1 ⟨rfl, hb⟩; have HOP1 := Go.Lib.hid (HOP.out.below hb); have HST1 := Go.Lib.hid (HST.out.below hb); have HB1 := Go.Lib.hid (bstep HB.out hb); clear hb c0 c1 c2 c3 c4 c5 c6 c7 c8 c9 c10)
    go_loopw [5, 6, 12, 13, 14, 15, 16, 17, 18, 19, 20, 21, 22, 23, 24, 25, 26, 27, 28, 29, 30, 31, 32, 33, 34, 35, 36, 37, 38, 39, 40, 41, 42, 43, 44] (fun at_ i _ _ _ _ _ _ _ _ _ _ _ _ _ _ _ _ _ _ _ _ _ _ _ _ _ _ _ _ _ _ _ _ _ wr => ∃ k p : Nat, k ≤ n ∧ p ≤ k ∧ i = .int .i64 (k : Int) ∧ at_ = .int .i64 (p : Int) ∧ (∀ (j : Nat) (y : Opn), j < p → l[j]? = some y → y.stamp.less x.stamp = true) ∧ (∀ (j : Nat) (y : Opn), p ≤ j → j < k → l[j]? = some y → y.stamp.less x.stamp = false) ∧ (∀ y ∈ l.take k, y.stamp ≠ x.stamp) ∧ Below w1.heap.size w1 wr) (fun _ i _ _ _ _ _ _ _ _ _ _ _ _ _ _ _ _ _ _ _ _ _ _ _ _ _ _ _ _ _ _ _ _ _ _ => n - (intOf i).toNat)
    case atStart => exact ⟨0, 0, by omega, by omega, rfl, rfl, fun j y h => by omega, fun j y h1 h2 => by omega, by simp, Below.refl _ _⟩
    case round =>
      obtain ⟨k, p, hk, hp, rfl, rfl, hlo, hhi, hne, hbw⟩ := hrel
      have HLO := Go.Lib.hid hlo; have HHI := Go.Lib.hid hhi; have HNE := Go.Lib.hid hne; have HBW := Go.Lib.hid hbw
      clear hlo hhi hne hbw
      have HOPr := Go.Lib.hid (HOP1.out.below HBW.out); have HSTr := Go.Lib.hid (HST1.out.below HBW.out); have HBr := Go.Lib.hid (bstep HB1.out HBW.out)
      have HVr := Go.Lib.hid (HVS0.out _ HBr.out)
      obtain ⟨s0, s1, s2, s3⟩ := HSTr.out.cells
      by_cases hkn : k < n
      · have hkn' : (k : Int) < (n : Int) := by omega
        obtain ⟨b1, o1, y, rfl, hg1, hy⟩ := HVr.out.at k hkn
        obtain ⟨e0, e1, -⟩ := op_cells hy
        obtain ⟨d0, d1, -⟩ := op_cells0 HOPr.out
        have hlc := hy.lt
        have hld := HOPr.out.lt
        have hls := HSTr.out.lt
        have hq := fun w => eq_st y.stamp x.stamp w
        obtain ⟨q, hqe⟩ : ∃ q, decide (y.stamp = x.stamp) = q := ⟨_, rfl⟩
        rw [hqe] at hq
        have hl2 := fun w => rless_any y.stamp x.stamp w
        simp only [stCells] at hl2
        obtain ⟨z, hz⟩ : ∃ z, y.stamp.less x.stamp = z := ⟨_, rfl⟩
        rw [hz] at hl2
        have HL2 := Go.Lib.hid hl2; have HG := Go.Lib.hid hg1; have HQ := Go.Lib.hid hqe; have HZ := Go.Lib.hid hz; have HY := Go.Lib.hid hy
        clear hl2 hg1 hqe hz hy
        cases q
        · obtain ⟨Vr, hVr⟩ : ∃ V, V = wr := ⟨_, rfl⟩
          subst hVr
          go_wp2_with fail
          go_quiet (fail)
          obtain ⟨Vq, hVq⟩ : ∃ V, Vr.drewN nq = V := ⟨_, rfl⟩
          have hbq : Below Vr.heap.size Vr Vq := by rw [← hVq]; exact below_drewN (Below.refl _ _) _
          rw [hVq]
          have t0 := (hbq.cell (p := ⟨b, 0, none⟩) hls).trans s0
          have t1 := (hbq.cell (p := ⟨b1, _, none⟩) hlc).trans e0
          have t2 := (hbq.cell (p := ⟨b1, _, none⟩) hlc).trans e1
          have t3 := (hbq.cell (p := ⟨w.heap.size, 0, none⟩) hld).trans d0
          have t4 := (hbq.cell (p := ⟨w.heap.size, 1, none⟩) hld).trans d1
          have hlc2 := Nat.lt_of_lt_of_le hlc hbq.size
          have hld2 := Nat.lt_of_lt_of_le hld hbq.size
          have hls2 := Nat.lt_of_lt_of_le hls hbq.size
          have HBQ := Go.Lib.hid (bstep HBW.out hbq)
          clear hVq hbq s0 s1 s2 s3 e0 e1 d0 d1 hlc hld hls
          have hne := BW.ne Vq.heap.size Vq
          have q0 := fun z : BW Vq.heap.size Vq => z.cell t0 hls2
          have q1 := fun z : BW Vq.heap.size Vq => z.cell t1 hlc2
          have q2 := fun z : BW Vq.heap.size Vq => z.cell t2 hlc2
          have q3 := fun z : BW Vq.heap.size Vq => z.cell t3 hld2
          have q4 := fun z : BW Vq.heap.size Vq => z.cell t4 hld2
          have hnx : ∀ u ∈ l.take (k + 1), u.stamp ≠ x.stamp := fun u hu => by
            rw [List.take_add_one, HG.out] at hu
            rcases List.mem_append.1 hu with h1 | h1
            · exact HNE.out u h1
            · simp at h1
              rw [h1]; exact of_decide_eq_false HQ.out
          have HNX := Go.Lib.hid hnx; clear hnx
          cases z
          · go_wp2_with fail
            refine wp_region_calm Vq.heap.size Vq (Below.refl _ _) (by kernel_rfl) (by kernel_rfl) ?_
            repeat (go_big_quiet_step ((go_at_call 30; with_reducible exact bw_of (Nat.le_refl _) (HL2.out _))))
            refine wpQuiet_nil ?_
            intro _ hw'
            obtain ⟨zz, rfl⟩ := hw'
            go_wp2_with fail
            refine ⟨⟨k + 1, p, by omega, by omega, by simp, rfl, HLO.out, fun j u h1 h2 hu => ?_, HNX.out, bstep HBQ.out zz.2⟩, by simp [intOf]; omega⟩
            rcases Nat.lt_or_ge j k with h3 | h3
            · exact HHI.out j u h1 h3 hu
            · obtain rfl : j = k := by omega
              rw [HG.out] at hu
              injection hu with hu
              rw [← hu]; exact HZ.out
          · go_wp2_with fail
            refine wp_region_calm Vq.heap.size Vq (Below.refl _ _) (by kernel_rfl) (by kernel_rfl) ?_
            repeat (go_big_quiet_step ((go_at_call 30; with_reducible exact bw_of (Nat.le_refl _) (HL2.out _))))
            refine wpQuiet_nil ?_
            intro _ hw'
            obtain ⟨zz, rfl⟩ := hw'
            go_wp2_with fail
            refine ⟨⟨k + 1, k + 1, by omega, by omega, by simp, by simp, fun j u h1 hu => ?_, fun j u h1 h2 hu => by omega, HNX.out, bstep HBQ.out zz.2⟩, by simp [intOf]; omega⟩
            rcases Nat.lt_or_ge j k with h3 | h3
            · exact St.less_trans (rising_lt HRI.out hu HG.out h3) HZ.out
            · obtain rfl : j = k := by omega
              rw [HG.out] at hu
              injection hu with hu
              rw [← hu]; exact HZ.out
        · have htw : mvErr l x = 24 := by
            unfold mvErr
            rw [if_neg (by rw [HSV.out]; simp), if_pos]
            unfold mvTwice
            rw [List.any_eq_true]
            exact ⟨y, List.mem_of_getElem? HG.out, HQ.out⟩
          have HTW := Go.Lib.hid htw; clear htw
          go_wp2_with fail
          go_quiet (fail)
          go_wp2_with fail
          go_ret
          refine ⟨by rw [HTW.out]; rfl, _, ?_, ?_, .inl rfl, .of_new (below_drewN HBr.out _)⟩
          · unfold mvRedo
            rw [if_neg (by rw [HTW.out]; decide)]
            exact HSTr.out
          · unfold mvAdd
            rw [if_neg (by rw [HTW.out]; decide)]
            exact HVS0.out _ (below_drewN HBr.out _)
      · obtain rfl : k = n := by omega
        have hall := HNE.out
        rw [List.take_of_length_le (by rw [HN.out]; exact Nat.le_refl _)] at hall
        by_cases h4 : 400 ≤ k
        · have he : mvErr l x = 40 := by
            unfold mvErr
            rw [if_neg (by rw [HSV.out]; simp), if_neg, if_pos (by rw [HN.out]; exact h4)]
            intro hh
            unfold mvTwice at hh
            rw [List.any_eq_true] at hh
            obtain ⟨y, hy, hyy⟩ := hh
            exact hall y hy (by simpa using hyy)
          have h4' : (400 : Int) ≤ (k : Int) := by omega
          have HE := Go.Lib.hid he; clear he hall
          go_wp2_with fail
          go_ret
          refine ⟨by rw [HE.out]; rfl, _, ?_, ?_, .inl rfl, .of_new HBr.out⟩
          · unfold mvRedo
            rw [if_neg (by rw [HE.out]; decide)]
            exact HSTr.out
          · unfold mvAdd
            rw [if_neg (by rw [HE.out]; decide)]
            exact HVr.out
        have h4' : ¬ (400 : Int) ≤ (k : Int) := by omega
        have he : mvErr l x = 0 := mvErr_of HSV.out hall (by rw [HN.out]; omega)
        have hins := insOp_at l x p (by rw [HN.out]; exact hp) (fun j y hj hy => St.less_asymm (HLO.out j y hj hy)) (fun y hy => by
          have h1 := HHI.out p y (Nat.le_refl _) (by have := (List.getElem?_eq_some_iff.1 hy).1; rw [HN.out] at this; exact this) hy
          rcases St.less_total (hall y (List.mem_of_getElem? hy)) with h2 | h2
          · rw [h1] at h2; cases h2
          · exact h2)
        have hred : mvRedo l x n0 = (k : Int) - (p : Int) := by
          unfold mvRedo
          rw [if_pos he, hins.2, HN.out]
          omega
        have hadd : mvAdd l x = insAt l x := if_pos he
        have hwr : IntKind.i64.wrap ((k : Int) - (p : Int)) = (k : Int) - (p : Int) := by rw [IntKind.wrap_i64]; omega
        obtain ⟨Va, hVa⟩ : ∃ V, wr.setCell ⟨b, 1, none⟩ (.int .i64 ((k : Int) - (p : Int))) = V := ⟨_, rfl⟩
        have hka : Kept (fun k => k = b) wr Va := by rw [← hVa]; exact Kept.setCell (F := fun k => k = b) (Kept.refl _ _) rfl _
        have hsta : R8 Va b (.slice A k c) ((k : Int) - (p : Int)) := by rw [← hVa]; exact HSTr.out.putN _
        have hxa : OpAt Va w.heap.size 0 x := fun j u hu => hka.cell (p := ⟨w.heap.size, _, none⟩) (HOPr.out j u hu) (by simp; omega)
        have hva : Opns Va (.slice A k c) l := HVr.out.kept hka HIN.out
        have hkw : Kept (fun k => k = b) w Va := (Kept.of_new HBr.out).trans hka fun _ _ h => h
        have hsB : w.heap.size < Va.heap.size := hxa.lt
        obtain ⟨B, hBB⟩ : ∃ B, Va.heap.size = B := ⟨_, rfl⟩
        rw [hBB] at hsB
        have hvs : ∀ w', Below B Va w' → Opns w' (.slice A k c) l := fun w' hb => hva.below (by rw [hBB]; exact hb)
        have hbB : b < B := by omega
        obtain ⟨c0, c1, c2, c3, c4, c5, c6, c7, c8, c9, c10⟩ := op_cells0 hxa
        obtain ⟨y0, y1, y2, y3⟩ := hsta.cells
        have HADD := Go.Lib.hid hadd; have HE := Go.Lib.hid he; have HINS := Go.Lib.hid hins.1; have HRED := Go.Lib.hid hred; have HKA := Go.Lib.hid hkw; have HSTa := Go.Lib.hid hsta; have HXa := Go.Lib.hid hxa; have HVa := Go.Lib.hid hva; have HVS := Go.Lib.hid hvs; have HSZ := Go.Lib.hid hBB; have HBa := Go.Lib.hid (show B ≤ Va.heap.size by rw [hBB]; exact Nat.le_refl _)
        clear he hins hred hadd hka hsta hxa hva hkw hvs hall h4 hBB
        cases A with
        | none =>
          obtain ⟨A', n', c', hee, -, -, hA0, -⟩ := HH.out
          cases hee
          obtain rfl : c = 0 := hA0 rfl
          obtain rfl : k = 0 := by omega
          obtain rfl : p = 0 := by omega
          have hl0 : l = [] := List.eq_nil_of_length_eq_zero HN.out
          have HL0 := Go.Lib.hid hl0; clear hl0 hA0
          rw [Int.sub_self] at hVa
          go_wp2_with (first
            | (at_builtin; refine wpList_append_ops rfl (.tmp 61) (.tmp 67) rfl B (.slice none 0 0) 0 [] rfl (Row.nil _ _ _ _) _ 0 (l.take 0) rfl (HVa.out.rdTake 0 (by omega)) (by omega) (by omega) HBa.out ?_; intro v6 V6 hr6 hb6; have HX6 := Go.Lib.hid (HXa.out.under hb6 (by omega)); have HST6 := Go.Lib.hid (HSTa.out.under hb6 (by omega)); obtain ⟨m0, m1, m2, m3, m4, m5, m6, m7, m8, m9, m10⟩ := op_cells0 HX6.out; obtain ⟨s0, s1, s2, s3⟩ := HST6.out.cells; have HR6 := Go.Lib.hid hr6; have HB6 := Go.Lib.hid hb6; have HZ6 := Go.Lib.hid (Nat.le_trans HBa.out hb6.size); clear hr6 hb6)
            | (at_builtin; refine wpList_append_op rfl (.tmp 69) (.tmp 71) rfl B v6 (0 + 0) ([] ++ l.take 0) rfl HR6.out x _ rfl rfl (by omega) HZ6.out ?_; intro v7 V7 hr7 hb7; have HR7 := Go.Lib.hid hr7; have HB7 := Go.Lib.hid (HB6.out.trans hb7); have HZ7 := Go.Lib.hid (Nat.le_trans HZ6.out hb7.size); have HST7 := Go.Lib.hid (HST6.out.under hb7 (by omega)); have HV7 := Go.Lib.hid (HVS.out _ (HB6.out.trans hb7)); clear s0 s1 s2 s3; obtain ⟨s0, s1, s2, s3⟩ := HST7.out.cells; clear hr7 hb7)
            | (at_builtin; refine wpList_append_ops rfl (.tmp 74) (.tmp 80) rfl B v7 (0 + 0 + 1) ([] ++ l.take 0 ++ [x]) rfl HR7.out _ _ (l.drop 0) rfl (by rw [HL0.out]; exact rdo _ _ _ (fun _ => rfl)) (by omega) (by omega) HZ7.out ?_; intro v8 V8 hr8 hb8; obtain ⟨A8, n8, c8, hv8⟩ := row_slice hr8; subst hv8; have HR8 := Go.Lib.hid hr8; have HB8 := Go.Lib.hid (HB7.out.trans hb8); have HST8 := Go.Lib.hid (HST7.out.under hb8 (by omega)); clear s0 s1 s2 s3; obtain ⟨s0, s1, s2, s3⟩ := HST8.out.cells; clear hr8 hb8))
          all_goals (
            go_ret
            have hrow := HR8.out
            have hops := Opns.of_row hrow
            rw [List.nil_append, List.append_assoc, List.singleton_append, ← HINS.out, ← HADD.out] at hops
            have hk9 : Kept (fun k => k = b) V8 (V8.setCell ⟨b, 0, none⟩ (.slice A8 n8 c8)) := Kept.setCell (F := fun k => k = b) (Kept.refl _ _) rfl _
            refine ⟨by rw [HE.out]; rfl, .slice A8 n8 c8, ?_, hops.kept hk9 (hrow.inSet.mono fun k hk => by omega), .inr (hrow.inSet.mono fun k hk => ⟨by omega, by have := hk.2; simpa using this⟩), ?_⟩
            · rw [HRED.out]
              exact HST8.out.putL (.slice A8 n8 c8)
            · exact (HKA.out.trans ((Kept.of_new (F := fun k => k = b) (by rw [HSZ.out]; exact HB8.out)).trans hk9 fun _ _ h => h) fun _ _ h => h))
        | some a =>
          by_cases hpk : p < k
          · obtain ⟨b1, o1, y, hae, -, -⟩ := HVa.out.at p hpk
            cases hae
            have hck : ¬ c = p := by omega
            have hpc : p ≤ c := by omega
            go_wp2_with (first
              | (at_builtin; refine wpList_append_ops rfl (.tmp 61) (.tmp 67) rfl B (.slice none 0 0) 0 [] rfl (Row.nil _ _ _ _) _ p (l.take p) rfl (HVa.out.rdTake p (by omega)) (by omega) (by omega) HBa.out ?_; intro v6 V6 hr6 hb6; have HX6 := Go.Lib.hid (HXa.out.under hb6 (by omega)); have HST6 := Go.Lib.hid (HSTa.out.under hb6 (by omega)); obtain ⟨m0, m1, m2, m3, m4, m5, m6, m7, m8, m9, m10⟩ := op_cells0 HX6.out; obtain ⟨s0, s1, s2, s3⟩ := HST6.out.cells; have HR6 := Go.Lib.hid hr6; have HB6 := Go.Lib.hid hb6; have HZ6 := Go.Lib.hid (Nat.le_trans HBa.out hb6.size); clear hr6 hb6)
              | (at_builtin; refine wpList_append_op rfl (.tmp 69) (.tmp 71) rfl B v6 (0 + p) ([] ++ l.take p) rfl HR6.out x _ rfl rfl (by omega) HZ6.out ?_; intro v7 V7 hr7 hb7; have HR7 := Go.Lib.hid hr7; have HB7 := Go.Lib.hid (HB6.out.trans hb7); have HZ7 := Go.Lib.hid (Nat.le_trans HZ6.out hb7.size); have HST7 := Go.Lib.hid (HST6.out.under hb7 (by omega)); have HV7 := Go.Lib.hid (HVS.out _ (HB6.out.trans hb7)); clear s0 s1 s2 s3; obtain ⟨s0, s1, s2, s3⟩ := HST7.out.cells; clear hr7 hb7)
              | (at_builtin; refine wpList_append_ops rfl (.tmp 74) (.tmp 80) rfl B v7 (0 + p + 1) ([] ++ l.take p ++ [x]) rfl HR7.out _ _ (l.drop p) rfl (HV7.out.rdDrop p (by omega) _ (by intro h9; omega) _ (by omega) _) (by omega) (by omega) HZ7.out ?_; intro v8 V8 hr8 hb8; obtain ⟨A8, n8, c8, hv8⟩ := row_slice hr8; subst hv8; have HR8 := Go.Lib.hid hr8; have HB8 := Go.Lib.hid (HB7.out.trans hb8); have HST8 := Go.Lib.hid (HST7.out.under hb8 (by omega)); clear s0 s1 s2 s3; obtain ⟨s0, s1, s2, s3⟩ := HST8.out.cells; clear hr8 hb8))
            all_goals (
              go_ret
              have hrow := HR8.out
              have hops := Opns.of_row hrow
              rw [List.nil_append, List.append_assoc, List.singleton_append, ← HINS.out, ← HADD.out] at hops
              have hk9 : Kept (fun k => k = b) V8 (V8.setCell ⟨b, 0, none⟩ (.slice A8 n8 c8)) := Kept.setCell (F := fun k => k = b) (Kept.refl _ _) rfl _
              refine ⟨by rw [HE.out]; rfl, .slice A8 n8 c8, ?_, hops.kept hk9 (hrow.inSet.mono fun k hk => by omega), .inr (hrow.inSet.mono fun k hk => ⟨by omega, by have := hk.2; simpa using this⟩), ?_⟩
              · rw [HRED.out]
                exact HST8.out.putL (.slice A8 n8 c8)
              · exact (HKA.out.trans ((Kept.of_new (F := fun k => k = b) (by rw [HSZ.out]; exact HB8.out)).trans hk9 fun _ _ h => h) fun _ _ h => h))
          · obtain rfl : p = k := by omega
            have hd0 : l.drop p = [] := List.drop_eq_nil_of_le (by rw [HN.out]; exact Nat.le_refl _)
            have HD0 := Go.Lib.hid hd0; clear hd0
            rw [Int.sub_self] at hVa
            by_cases hck : c = p
            · subst hck
              go_wp2_with (first
                | (at_builtin; refine wpList_append_ops rfl (.tmp 61) (.tmp 67) rfl B (.slice none 0 0) 0 [] rfl (Row.nil _ _ _ _) _ c (l.take c) rfl (HVa.out.rdTake c (by omega)) (by omega) (by omega) HBa.out ?_; intro v6 V6 hr6 hb6; have HX6 := Go.Lib.hid (HXa.out.under hb6 (by omega)); have HST6 := Go.Lib.hid (HSTa.out.under hb6 (by omega)); obtain ⟨m0, m1, m2, m3, m4, m5, m6, m7, m8, m9, m10⟩ := op_cells0 HX6.out; obtain ⟨s0, s1, s2, s3⟩ := HST6.out.cells; have HR6 := Go.Lib.hid hr6; have HB6 := Go.Lib.hid hb6; have HZ6 := Go.Lib.hid (Nat.le_trans HBa.out hb6.size); clear hr6 hb6)
                | (at_builtin; refine wpList_append_op rfl (.tmp 69) (.tmp 71) rfl B v6 (0 + c) ([] ++ l.take c) rfl HR6.out x _ rfl rfl (by omega) HZ6.out ?_; intro v7 V7 hr7 hb7; have HR7 := Go.Lib.hid hr7; have HB7 := Go.Lib.hid (HB6.out.trans hb7); have HZ7 := Go.Lib.hid (Nat.le_trans HZ6.out hb7.size); have HST7 := Go.Lib.hid (HST6.out.under hb7 (by omega)); have HV7 := Go.Lib.hid (HVS.out _ (HB6.out.trans hb7)); clear s0 s1 s2 s3; obtain ⟨s0, s1, s2, s3⟩ := HST7.out.cells; clear hr7 hb7)
                | (at_builtin; refine wpList_append_ops rfl (.tmp 74) (.tmp 80) rfl B v7 (0 + c + 1) ([] ++ l.take c ++ [x]) rfl HR7.out _ _ (l.drop c) rfl (by rw [HD0.out]; exact rdo _ _ _ (fun h => by cases h)) (by omega) (by omega) HZ7.out ?_; intro v8 V8 hr8 hb8; obtain ⟨A8, n8, c8, hv8⟩ := row_slice hr8; subst hv8; have HR8 := Go.Lib.hid hr8; have HB8 := Go.Lib.hid (HB7.out.trans hb8); have HST8 := Go.Lib.hid (HST7.out.under hb8 (by omega)); clear s0 s1 s2 s3; obtain ⟨s0, s1, s2, s3⟩ := HST8.out.cells; clear hr8 hb8))
              all_goals (
                go_ret
                have hrow := HR8.out
                have hops := Opns.of_row hrow
                rw [List.nil_append, List.append_assoc, List.singleton_append, ← HINS.out, ← HADD.out] at hops
                have hk9 : Kept (fun k => k = b) V8 (V8.setCell ⟨b, 0, none⟩ (.slice A8 n8 c8)) := Kept.setCell (F := fun k => k = b) (Kept.refl _ _) rfl _
                refine ⟨by rw [HE.out]; rfl, .slice A8 n8 c8, ?_, hops.kept hk9 (hrow.inSet.mono fun k hk => by omega), .inr (hrow.inSet.mono fun k hk => ⟨by omega, by have := hk.2; simpa using this⟩), ?_⟩
                · rw [HRED.out]
                  exact HST8.out.putL (.slice A8 n8 c8)
                · exact (HKA.out.trans ((Kept.of_new (F := fun k => k = b) (by rw [HSZ.out]; exact HB8.out)).trans hk9 fun _ _ h => h) fun _ _ h => h))
            · have hpc : p ≤ c := by omega
              go_wp2_with (first
                | (at_builtin; refine wpList_append_ops rfl (.tmp 61) (.tmp 67) rfl B (.slice none 0 0) 0 [] rfl (Row.nil _ _ _ _) _ p (l.take p) rfl (HVa.out.rdTake p (by omega)) (by omega) (by omega) HBa.out ?_; intro v6 V6 hr6 hb6; have HX6 := Go.Lib.hid (HXa.out.under hb6 (by omega)); have HST6 := Go.Lib.hid (HSTa.out.under hb6 (by omega)); obtain ⟨m0, m1, m2, m3, m4, m5, m6, m7, m8, m9, m10⟩ := op_cells0 HX6.out; obtain ⟨s0, s1, s2, s3⟩ := HST6.out.cells; have HR6 := Go.Lib.hid hr6; have HB6 := Go.Lib.hid hb6; have HZ6 := Go.Lib.hid (Nat.le_trans HBa.out hb6.size); clear hr6 hb6)
                | (at_builtin; refine wpList_append_op rfl (.tmp 69) (.tmp 71) rfl B v6 (0 + p) ([] ++ l.take p) rfl HR6.out x _ rfl rfl (by omega) HZ6.out ?_; intro v7 V7 hr7 hb7; have HR7 := Go.Lib.hid hr7; have HB7 := Go.Lib.hid (HB6.out.trans hb7); have HZ7 := Go.Lib.hid (Nat.le_trans HZ6.out hb7.size); have HST7 := Go.Lib.hid (HST6.out.under hb7 (by omega)); have HV7 := Go.Lib.hid (HVS.out _ (HB6.out.trans hb7)); clear s0 s1 s2 s3; obtain ⟨s0, s1, s2, s3⟩ := HST7.out.cells; clear hr7 hb7)
                | (at_builtin; refine wpList_append_ops rfl (.tmp 74) (.tmp 80) rfl B v7 (0 + p + 1) ([] ++ l.take p ++ [x]) rfl HR7.out _ _ (l.drop p) rfl (by rw [HD0.out]; exact rdo _ _ _ (fun h => by cases h)) (by omega) (by omega) HZ7.out ?_; intro v8 V8 hr8 hb8; obtain ⟨A8, n8, c8, hv8⟩ := row_slice hr8; subst hv8; have HR8 := Go.Lib.hid hr8; have HB8 := Go.Lib.hid (HB7.out.trans hb8); have HST8 := Go.Lib.hid (HST7.out.under hb8 (by omega)); clear s0 s1 s2 s3; obtain ⟨s0, s1, s2, s3⟩ := HST8.out.cells; clear hr8 hb8))
              all_goals (
                go_ret
                have hrow := HR8.out
                have hops := Opns.of_row hrow
                rw [List.nil_append, List.append_assoc, List.singleton_append, ← HINS.out, ← HADD.out] at hops
                have hk9 : Kept (fun k => k = b) V8 (V8.setCell ⟨b, 0, none⟩ (.slice A8 n8 c8)) := Kept.setCell (F := fun k => k = b) (Kept.refl _ _) rfl _
                refine ⟨by rw [HE.out]; rfl, .slice A8 n8 c8, ?_, hops.kept hk9 (hrow.inSet.mono fun k hk => by omega), .inr (hrow.inSet.mono fun k hk => ⟨by omega, by have := hk.2; simpa using this⟩), ?_⟩
                · rw [HRED.out]
                  exact HST8.out.putL (.slice A8 n8 c8)
                · exact (HKA.out.trans ((Kept.of_new (F := fun k => k = b) (by rw [HSZ.out]; exact HB8.out)).trans hk9 fun _ _ h => h) fun _ _ h => h))
  · have he : mvErr l x = 20 := by unfold mvErr; rw [if_pos (by rw [hsv]; exact h0)]
    have hne : (sv != 0) = true := by simp [h0]
    have HE := Go.Lib.hid he
    clear he h0 hsv hst h
    go_enter Tryd.func13, Tryd.ntmps13
    go_wp2_with fail
    rw [HW0.out]
    go_wp2_with (go_at_call 29; with_reducible refine (HC1.out _).mono ?_; rintro e w1 ⟨rfl, hb⟩; have HST1 := Go.Lib.hid (HST.out.below hb); have HB1 := Go.Lib.hid (bstep HB.out hb); clear hb c0 c1 c2 c3 c4 c5 c6 c7 c8 c9 c10)
    go_ret
    refine ⟨by rw [HE.out]; rfl, _, ?_, ?_, .inl rfl, .of_new HB1.out⟩
    · unfold mvRedo
      rw [if_neg (by rw [HE.out]; decide)]
      exact HST1.out
    · unfold mvAdd
      rw [if_neg (by rw [HE.out]; decide)]
      exact HVS0.out _ HB1.out
end Go.Proofs.YtjeijolblcodpaaDoor.W
