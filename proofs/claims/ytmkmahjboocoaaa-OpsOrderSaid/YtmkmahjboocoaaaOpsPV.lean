/- The program's operations: Since, Vector. -/
import Derived.Test.YtmkmahjboocoaaaOpsPF
import Derived.Test.YtmkmahjboocoaaaOpsW
import Derived.Test.YtmkmahjboocoaaaOpsV
namespace Go.Proofs.Ytmkmahjboocoaaa.W
set_option linter.unusedVariables false
open Go.RowKit Go.Proofs Arb

set_option maxHeartbeats 1000000 in
theorem pnumberof_any (v : Value) (zs : List Int) (k : Int) (w : World) (h : Ints w v zs) (hl : zs.length ≤ 100000) :
    Calls Try.prog 55 #[v, .int .i64 k] w fun e w' => e = .returned (.int .i64 (iAt zs k)) ∧ w' = w := by
  obtain ⟨A, n, c, rfl, hln, hc, hr⟩ := h
  by_cases h0 : k < 0
  · have hv : iAt zs k = 0 := if_pos h0
    have HV := Go.Lib.hid hv; clear hv hr
    go_enter Try.func55, Try.ntmps55
    go_wp2_with fail
    go_ret
    rw [HV.out]
    exact ⟨rfl, rfl⟩
  · by_cases hkn : k < (n : Int)
    · obtain ⟨j, rfl⟩ : ∃ j : Nat, k = (j : Int) := ⟨k.toNat, by omega⟩
      obtain ⟨b, off, rfl, hz⟩ := hr (by omega)
      have hjl : j < zs.length := by omega
      have hcell := hz j _ (List.getElem?_eq_getElem hjl)
      have hv : iAt zs (j : Int) = max zs[j] 0 := by unfold iAt; rw [if_neg h0, Int.toNat_natCast]; unfold vAt; rw [List.getD_eq_getElem?_getD, List.getElem?_eq_getElem hjl]; rfl
      obtain ⟨x, hx⟩ : ∃ x, zs[j] = x := ⟨_, rfl⟩
      rw [hx] at hcell hv
      have hkd : decide ((n : Int) ≤ (j : Int)) = false := by simp; omega
      clear hr hz hx
      have HV := Go.Lib.hid hv; clear hv
      go_enter Try.func55, Try.ntmps55
      go_wp2_with fail
      go_ret
      rw [HV.out]
      exact ⟨rfl, rfl⟩
    · have hv : iAt zs k = 0 := by unfold iAt; rw [if_neg h0]; unfold vAt; rw [List.getD_eq_getElem?_getD, List.getElem?_eq_none (by omega)]; rfl
      have HV := Go.Lib.hid hv; clear hv hr
      have hkd : decide ((n : Int) ≤ k) = true := by simp; omega
      go_enter Try.func55, Try.ntmps55
      go_wp2_with fail
      go_ret
      rw [HV.out]
      exact ⟨rfl, rfl⟩

set_option maxRecDepth 20000 in
set_option maxHeartbeats 4000000 in
theorem psince_any (v u : Value) (set : List Opn) (zs : List Int) (w : World) (h : Opns w v set) (hu : Ints w u zs) (hn : set.length ≤ 100000) (hz : zs.length ≤ 100000) (hwf : ∀ x ∈ set, opWf x) :
    Calls Try.prog 26 #[v, u] w fun e w' => ∃ v', e = .returned v' ∧ Opns w' v' (sinceOf set zs) ∧ Below w.heap.size w w' := by
  obtain ⟨r, hr⟩ : ∃ r, sinceOf set zs = r := ⟨_, rfl⟩
  have hrl : r.length ≤ 100000 := by rw [← hr]; have := since_length set zs; omega
  have hrw : ∀ y ∈ r, opWf y := fun y hy => by
    rw [← hr] at hy
    exact hwf y (List.mem_filter.1 hy).1
  rw [hr]
  obtain ⟨A, c, rfl, hc⟩ := h.len
  obtain ⟨n, hnn⟩ : ∃ n, set.length = n := ⟨_, rfl⟩
  rw [hnn] at h hc hn
  rw [hnn]
  have hu' : ∃ A2 n2 c2, u = .slice A2 n2 c2 := by obtain ⟨A2, n2, c2, h, _⟩ := hu; exact ⟨A2, n2, c2, h⟩
  have HV := Go.Lib.hid h; have HU := Go.Lib.hid hu; have HR := Go.Lib.hid hr; have HN := Go.Lib.hid hnn; have HRL := Go.Lib.hid hrl; have HRW := Go.Lib.hid hrw
  clear h hu hr hnn hrl hrw hwf
  go_enter Try.func26, Try.ntmps26
  go_wp2_with fail
  go_loopw [5, 7, 10, 11, 12, 13, 14, 15, 16, 17, 18, 19, 20, 21, 22, 23, 24, 25, 26] (fun vo _ i _ _ _ _ _ _ _ _ _ _ _ _ _ _ _ _ wr => ∃ k : Nat, k ≤ n ∧ i = .int .i64 (k : Int) ∧ Row wr w.heap.size 25 11 vo (sinceOf (set.take k) zs).length (opsCells (sinceOf (set.take k) zs)) ∧ Below w.heap.size w wr) (fun _ _ i _ _ _ _ _ _ _ _ _ _ _ _ _ _ _ _ _ => n - (intOf i).toNat)
  case atStart => exact ⟨0, by omega, rfl, Row.nil _ _ _ _, Below.refl _ _⟩
  case round =>
    obtain ⟨k, hk, rfl, hrow, hb⟩ := hrel
    by_cases hkn : k < n
    · have hkn' : (k : Int) < (n : Int) := by omega
      obtain ⟨b1, o1, x, rfl, hg1, hx⟩ := (HV.out.below hb).at k hkn
      obtain ⟨c0, c1, c2, c3, c4, c5, c6, c7, c8, c9, c10⟩ := op_cells hx
      have hat : ∀ W, Ints W u zs → Calls Try.prog 55 #[u, .int .i64 x.stamp.who] W fun e w' => e = .returned (.int .i64 (iAt zs x.stamp.who)) ∧ w' = W := fun W hW => pnumberof_any u zs x.stamp.who W hW hz
      have hnx := since_take set zs k x hg1
      have hsl := since_length (set.take k) zs
      have htl : (set.take k).length ≤ n := by rw [List.length_take]; omega
      obtain ⟨y, hy⟩ : ∃ y, iAt zs x.stamp.who = y := ⟨_, rfl⟩
      rw [hy] at hat hnx
      obtain ⟨sk, hsk⟩ : ∃ s, sinceOf (set.take k) zs = s := ⟨_, rfl⟩
      rw [hsk] at hrow hsl hnx
      obtain ⟨m, hm⟩ : ∃ m, sk.length = m := ⟨_, rfl⟩
      rw [hm] at hrow hsl
      obtain ⟨W, hW⟩ : ∃ W, wr.alloc (.cells (opArr x) 25) = W := ⟨_, rfl⟩
      have hb2 : Below w.heap.size w W := by rw [← hW]; exact hb.alloc hb.size _
      have hb3 : Below wr.heap.size wr W := by rw [← hW]; exact (Below.refl _ _).alloc (Nat.le_refl _) _
      have hnew : OpAt W wr.heap.size 0 x := by rw [← hW]; exact OpAt.new wr x _
      have hrow2 := hrow.below hb3
      unfold opArr opCells at hW
      have HAT := Go.Lib.hid hat; have HROW := Go.Lib.hid hrow2; have HB := Go.Lib.hid hb2; have HM := Go.Lib.hid hm; have HNEW := Go.Lib.hid hnew; have HW := Go.Lib.hid hW
      clear hat hrow hrow2 hb hb2 hb3 hm hx hy hsk hg1 hnew hW
      by_cases hlt : y < x.seq
      · rw [if_pos hlt] at hnx
        have HNX := Go.Lib.hid hnx; clear hnx
        go_wp2_with fail
        rw [HW.out]
        clear c0 c1 c2 c3 c4 c5 c6 c7 c8 c9 c10
        obtain ⟨c0, c1, c2, c3, c4, c5, c6, c7, c8, c9, c10⟩ := op_cells0 HNEW.out
        go_quiet ((go_at_call 55; exact Calls.quiet_of_same (HAT.out _ (HU.out.below (below_drewN HB.out _)))))
        have hrq : Row (W.drewN nq) w.heap.size 25 11 u5 m (opsCells sk) := HROW.out.heap rfl
        have hbq := below_drewN HB.out nq
        have hxq : OpAt (W.drewN nq) wr.heap.size 0 x := HNEW.out
        obtain ⟨Wq, hWq⟩ : ∃ V, W.drewN nq = V := ⟨_, rfl⟩
        rw [hWq] at hrq hbq hxq
        rw [hWq]
        clear c0 c1 c2 c3 c4 c5 c6 c7 c8 c9 c10
        obtain ⟨c0, c1, c2, c3, c4, c5, c6, c7, c8, c9, c10⟩ := op_cells0 hxq
        have hBq := hbq.size
        have HRQ := Go.Lib.hid hrq; have HBQ := Go.Lib.hid hbq
        clear hrq hbq hxq hWq
        go_wp2_with (at_builtin; refine wpList_append_op rfl (.tmp 22) (.tmp 24) rfl w.heap.size u5 m sk rfl HRQ.out x _ rfl rfl (by omega) hBq ?_; intro v4 W4 hr4 hb4)
        exact ⟨⟨k + 1, by omega, by simp, by rw [HNX.out, List.length_append, HM.out]; exact hr4, HBQ.out.trans hb4⟩, by simp [intOf]; omega⟩
      · rw [if_neg hlt] at hnx
        have HNX := Go.Lib.hid hnx; clear hnx
        go_wp2_with fail
        rw [HW.out]
        clear c0 c1 c2 c3 c4 c5 c6 c7 c8 c9 c10
        obtain ⟨c0, c1, c2, c3, c4, c5, c6, c7, c8, c9, c10⟩ := op_cells0 HNEW.out
        go_quiet ((go_at_call 55; exact Calls.quiet_of_same (HAT.out _ (HU.out.below (below_drewN HB.out _)))))
        have hrq : Row (W.drewN nq) w.heap.size 25 11 u5 m (opsCells sk) := HROW.out.heap rfl
        have hbq := below_drewN HB.out nq
        have HRQ := Go.Lib.hid hrq; have HBQ := Go.Lib.hid hbq
        clear hrq hbq
        go_wp2_with fail
        exact ⟨⟨k + 1, by omega, by simp, by rw [HNX.out, HM.out]; exact HRQ.out, HBQ.out⟩, by simp [intOf]; omega⟩
    · obtain rfl : k = n := by omega
      rw [List.take_of_length_le (by rw [HN.out]; omega), HR.out] at hrow
      have HROW := Go.Lib.hid hrow; have HB := Go.Lib.hid hb; clear hrow hb
      go_wp2_with (go_at_call 49; with_reducible refine (pfresh_any _ _ r _ HROW.out (by have := HRL.out; omega) HRW.out).mono ?_; rintro e w4 ⟨rfl, hb⟩; have HO4 := Go.Lib.hid ((Opns.of_row HROW.out).below hb); have HB4 := Go.Lib.hid (bstep HB.out hb); clear hb)
      go_ret
      exact ⟨_, rfl, HO4.out, HB4.out⟩

theorem topWho_mem (set : List Opn) (y : Opn) (hy : y ∈ set) (h15 : y.stamp.who < 15) : y.stamp.who + 1 ≤ topWho set := by
  have key : ∀ (l : List Opn) (n : Int), n ≤ l.foldl (fun n y => if y.stamp.who < 15 then max n (y.stamp.who + 1) else n) n ∧ (y ∈ l → y.stamp.who + 1 ≤ l.foldl (fun n y => if y.stamp.who < 15 then max n (y.stamp.who + 1) else n) n) := by
    intro l
    induction l with
    | nil => intro n; exact ⟨Int.le_refl _, fun h => by cases h⟩
    | cons x l ih =>
      intro n
      rw [List.foldl_cons]
      obtain ⟨a, b⟩ := ih (if x.stamp.who < 15 then max n (x.stamp.who + 1) else n)
      refine ⟨?_, fun h => ?_⟩
      · refine Int.le_trans ?_ a
        split <;> omega
      · rcases List.mem_cons.1 h with rfl | h
        · refine Int.le_trans ?_ a
          rw [if_pos h15]; omega
        · exact b h
  exact (key set 0).2 hy
theorem num_zero (set : List Opn) (j : Nat) (h : topWho set ≤ (j : Int)) (h15 : j < 15) : numOf set j = 0 := by
  unfold numOf
  rw [List.countP_eq_zero.2]
  · rfl
  · intro y hy
    rw [decide_eq_true_eq]
    intro he
    have := topWho_mem set y hy (by omega)
    omega
theorem num_row_more (set : List Opn) (M : Nat) (h : topWho set ≤ (M : Int)) (h15 : M < 15) : (List.range (M + 1)).map (numOf set) = (List.range M).map (numOf set) ++ [0] := by
  rw [List.range_succ, List.map_append, List.map_singleton, num_zero set M h h15]
def lenOfV : Value → Nat
  | .slice _ n _ => n
  | _ => 0
theorem row_form {w : World} {base : Nat} {e : TypeId} {size : Nat} {v : Value} {n : Nat} {xs : List Value} (h : Row w base e size v n xs) : ∃ A c, v = .slice A n c := by
  rcases h.2 with ⟨rfl, rfl⟩ | ⟨g, cap, cur, fz, rfl, _⟩
  · exact ⟨_, _, rfl⟩
  · exact ⟨_, _, rfl⟩
abbrev numRow (w : World) (base : Nat) (v : Value) (m : Nat) (set : List Opn) : Prop := Row w base 3 1 v m (((List.range m).map (numOf set)).map fun z => .int .i64 z)

set_option maxRecDepth 20000 in
set_option maxHeartbeats 4000000 in
theorem pvector_any (v : Value) (set : List Opn) (w : World) (h : Opns w v set) (hn : set.length ≤ 100000) (hwf : ∀ x ∈ set, opWf x) :
    Calls Try.prog 24 #[v] w fun e w' => ∃ v', e = .returned v' ∧ Ints w' v' (vectorOf set) ∧ Below w.heap.size w w' := by
  obtain ⟨i0, hi, hz0, hz1, hz2⟩ := info_parts info_int'
  obtain ⟨r, hr⟩ : ∃ r, vectorOf set = r := ⟨_, rfl⟩
  rw [hr]
  unfold vectorOf at hr
  obtain ⟨A, c, rfl, hc⟩ := h.len
  obtain ⟨n, hnn⟩ : ∃ n, set.length = n := ⟨_, rfl⟩
  rw [hnn] at h hc hn
  rw [hnn]
  have htl : set.take n = set := List.take_of_length_le (by omega)
  have HV := Go.Lib.hid h; have HR := Go.Lib.hid hr; have HN := Go.Lib.hid hnn; have HTL := Go.Lib.hid htl
  clear h hr hnn htl hwf
  go_enter Try.func24, Try.ntmps24
  go_wp2_with fail
  go_loopw [3, 5, 6, 9, 10, 11, 12, 13, 14, 15, 16, 17, 18, 19, 20, 21, 22, 23, 24, 25, 26, 27, 28, 29, 30, 31, 32, 33, 34, 35] (fun vo _ _ i _ _ _ _ _ _ _ _ _ _ _ _ _ _ _ _ _ _ _ _ _ _ _ _ _ _ wr => ∃ (k m : Nat), k ≤ n ∧ i = .int .i64 (k : Int) ∧ (m : Int) = topWho (set.take k) ∧ numRow wr w.heap.size vo m (set.take k) ∧ Below w.heap.size w wr) (fun _ _ _ i _ _ _ _ _ _ _ _ _ _ _ _ _ _ _ _ _ _ _ _ _ _ _ _ _ _ _ => n - (intOf i).toNat)
  case atStart => exact ⟨0, 0, by omega, rfl, rfl, Row.nil _ _ _ _, Below.refl _ _⟩
  case round =>
    obtain ⟨k, m, hk, rfl, hm, hrow, hb⟩ := hrel
    obtain ⟨A2, c2, rfl⟩ := row_form hrow
    by_cases hkn : k < n
    · have hkn' : (k : Int) < (n : Int) := by omega
      obtain ⟨b1, o1, x, rfl, hg1, hx⟩ := (HV.out.below hb).at k hkn
      obtain ⟨c0, c1, d2, d3, d4, d5, d6, d7, d8, d9, d10⟩ := op_cells hx
      have htw := topWho_take set k x hg1
      rw [← hm] at htw
      obtain ⟨t0, t15⟩ := topWho_le (set.take k)
      have hskip := fun hh => num_row_skip set k m x hg1 hh
      have hset := fun N j hj => num_row_set set k N j x hg1 hj
      obtain ⟨q, hq⟩ : ∃ q, x.stamp.who = q := ⟨_, rfl⟩
      obtain ⟨W, hW⟩ : ∃ W, wr.alloc (.cells (opArr x) 25) = W := ⟨_, rfl⟩
      have hb2 : Below w.heap.size w W := by rw [← hW]; exact hb.alloc hb.size _
      have hb3 : Below wr.heap.size wr W := by rw [← hW]; exact (Below.refl _ _).alloc (Nat.le_refl _) _
      have hnew : OpAt W wr.heap.size 0 x := by rw [← hW]; exact OpAt.new wr x _
      have hrow2 : numRow W w.heap.size (.slice A2 m c2) m (set.take k) := hrow.below hb3
      unfold opArr opCells at hW
      rw [hq] at c1 htw hskip hset hW
      have HROW := Go.Lib.hid hrow2; have HB := Go.Lib.hid hb2; have HW := Go.Lib.hid hW; have HSK := Go.Lib.hid hskip; have HSET := Go.Lib.hid hset; have HTW := Go.Lib.hid htw
      clear hrow hrow2 hb hb2 hb3 hx hg1 hnew hW hskip hset htw hq
      by_cases hq0 : q < 0
      · have hskip := HSK.out (fun w hw h => by omega)
        have htw := HTW.out
        rw [if_pos (by omega), show max (m : Int) (q + 1) = (m : Int) by omega] at htw
        have HS2 := Go.Lib.hid hskip; have HT2 := Go.Lib.hid htw
        clear hskip htw
        go_wp2_with fail
        rw [HW.out]
        exact ⟨⟨k + 1, m, by omega, by simp, HT2.out.symm, by unfold numRow; rw [HS2.out]; exact HROW.out, HB.out⟩, by simp [intOf]; omega⟩
      by_cases hq15 : 15 ≤ q
      · have hskip := HSK.out (fun w hw h => by omega)
        have htw := HTW.out
        rw [if_neg (by omega)] at htw
        have HS2 := Go.Lib.hid hskip; have HT2 := Go.Lib.hid htw
        clear hskip htw
        go_wp2_with fail
        rw [HW.out]
        exact ⟨⟨k + 1, m, by omega, by simp, HT2.out.symm, by unfold numRow; rw [HS2.out]; exact HROW.out, HB.out⟩, by simp [intOf]; omega⟩
      · obtain ⟨j, rfl⟩ : ∃ j : Nat, q = (j : Int) := ⟨q.toNat, by omega⟩
        have htw := HTW.out
        rw [if_pos (by omega)] at htw
        have HT2 := Go.Lib.hid htw
        clear htw
        go_wp2_with fail
        rw [HW.out]
        go_loopw [3, 22, 23, 24, 25, 26, 27, 28] (fun vo _ _ _ _ _ _ _ wz => ∃ M : Nat, m ≤ M ∧ (M = m ∨ M ≤ j + 1) ∧ numRow wz w.heap.size vo M (set.take k) ∧ Below w.heap.size w wz) (fun vo _ _ _ _ _ _ _ _ => 16 - lenOfV vo)
        case atStart => exact ⟨m, Nat.le_refl _, .inl rfl, HROW.out, HB.out⟩
        case round =>
          obtain ⟨M, hmM, hMj, hrow3, hb3⟩ := hrel
          obtain ⟨A3, c3, rfl⟩ := row_form hrow3
          have hBs := hb3.size
          have hMd : M = m ∨ M ≤ j + 1 := hMj
          clear hMj
          by_cases hMq : M ≤ j
          · have hMq' : (M : Int) ≤ (j : Int) := by omega
            have hmore := num_row_more (set.take k) M (by omega) (by omega)
            have hm2 : (((List.range (M + 1)).map (numOf (set.take k))).map fun z => Value.int .i64 z) = (((List.range M).map (numOf (set.take k))).map fun z => Value.int .i64 z) ++ [.int .i64 0] := by rw [hmore]; simp
            have HM2 := Go.Lib.hid hm2; have HR3 := Go.Lib.hid hrow3; have HB3 := Go.Lib.hid hb3
            clear hmore hm2 hrow3 hb3
            go_wp2_with (at_builtin; refine wpList_append_row1 rfl (.tmp 26) (.tmp 27) _ rfl w.heap.size 3 i0 (.int .i64 0) 8 Try.underlying41 hi hz0 hz1 hz2 rfl (.slice A3 M c3) M _ rfl HR3.out (.int .i64 0) 3 rfl rfl (by unfold maxLen; omega) (by omega) hBs ?_; intro v4 W4 hr4 hb4)
            rw [← HM2.out] at hr4
            have hr5 : numRow W4 w.heap.size v4 (M + 1) (set.take k) := hr4
            have hb5 := HB3.out.trans hb4
            obtain ⟨A4, c4, hv4⟩ := row_form hr5
            exact ⟨⟨M + 1, by omega, .inr (by omega), hr5, hb5⟩, by rw [hv4]; simp only [lenOfV]; omega⟩
          · have hMq' : ¬ (M : Int) ≤ (j : Int) := by omega
            have hMx : (M : Int) = max (m : Int) ((j : Int) + 1) := by omega
            obtain ⟨g, cap, he, hcap, hbg, _, hcell, hfr⟩ := hrow3.open (by omega)
            cases he
            have hcj := hcell j (.int .i64 (numOf (set.take k) j)) (by rw [List.getElem?_map, List.getElem?_map, List.getElem?_range (by omega)]; rfl)
            have hfj := hfr j (by omega)
            obtain ⟨p1, p2⟩ := numOf_le (set.take k) j
            have hnr := hrow3.set g c3 j rfl (.int .i64 (numOf (set.take k) j + 1))
            rw [ints_set j _ _ _ (HSET.out M j rfl)] at hnr
            have hbn := hb3.setCell (p := ⟨g, j, none⟩) hbg (.int .i64 (numOf (set.take k) j + 1))
            have hql : (set.take k).length ≤ 1000000 := by rw [List.length_take]; omega
            obtain ⟨z, hz⟩ : ∃ z, numOf (set.take k) j = z := ⟨_, rfl⟩
            rw [hz] at hcj hnr hbn p1 p2
            have hwr : IntKind.i64.wrap (z + 1) = z + 1 := by rw [IntKind.wrap_i64]; omega
            have HNR := Go.Lib.hid hnr; have HBN := Go.Lib.hid hbn
            clear hcell hfr hrow3 hb3 hz hnr hbn
            go_wp2_with fail
            exact ⟨⟨k + 1, M, by omega, by simp, by rw [HT2.out]; exact hMx, HNR.out, HBN.out⟩, by simp [intOf]; omega⟩
    · obtain rfl : k = n := by omega
      have hrow2 : numRow wr w.heap.size (.slice A2 m c2) m (set.take k) := hrow
      unfold numRow at hrow2
      rw [HTL.out] at hrow2 hm
      have hr2 := HR.out
      rw [show (topWho set).toNat = m by omega] at hr2
      rw [hr2] at hrow2
      have HI := Go.Lib.hid (Ints.of_row hrow2); have HB := Go.Lib.hid hb
      clear hrow hrow2 hb hr2
      go_wp2_with fail
      go_ret
      exact ⟨_, rfl, HI.out, HB.out⟩
end Go.Proofs.Ytmkmahjboocoaaa.W
