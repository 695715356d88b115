/- The reference of operations: how many there are of each device. -/
import Derived.Test.YtmkmahjboocoaaaOpsS
import Derived.Laws.OwnMore
import Derived.Laws.MakeOwn
namespace Go.Proofs.Ytmkmahjboocoaaa.W
set_option linter.unusedVariables false
open Go.RowKit Go.Proofs Arb

theorem info_int' : (Try.prog.info? 3).map (fun i => (i.zero, i.size, i.bytes)) = some (some (.int .i64 0), 1, 8) := by kernel_rfl
theorem who_wf {x : Opn} (h : opWf x) : -9223372036854775808 ≤ x.stamp.who ∧ x.stamp.who ≤ 9223372036854775807 := by
  have := h.1.2
  simp only [Lit.wf, Bool.and_eq_true, decide_eq_true_eq] at this
  have h1 : IntKind.i64.min = -9223372036854775808 := rfl
  have h2 : IntKind.i64.max = 9223372036854775807 := rfl
  omega
theorem topWho_take (set : List Opn) (k : Nat) (x : Opn) (h : set[k]? = some x) : topWho (set.take (k + 1)) = if x.stamp.who < 15 then max (topWho (set.take k)) (x.stamp.who + 1) else topWho (set.take k) := by
  unfold topWho
  rw [List.take_add_one, h, List.foldl_append]
  rfl
theorem topWho_le (set : List Opn) : 0 ≤ topWho set ∧ topWho set ≤ 15 := by
  have : ∀ (l : List Opn) (n : Int), 0 ≤ n → n ≤ 15 → 0 ≤ l.foldl (fun n y => if y.stamp.who < 15 then max n (y.stamp.who + 1) else n) n ∧ l.foldl (fun n y => if y.stamp.who < 15 then max n (y.stamp.who + 1) else n) n ≤ 15 := by
    intro l
    induction l with
    | nil => intro n h1 h2; exact ⟨h1, h2⟩
    | cons x l ih =>
      intro n h1 h2
      rw [List.foldl_cons]
      split
      · exact ih _ (by omega) (by omega)
      · exact ih _ h1 h2
  exact this set 0 (by omega) (by omega)
theorem numOf_take (set : List Opn) (k : Nat) (x : Opn) (h : set[k]? = some x) (w : Nat) : numOf (set.take (k + 1)) w = numOf (set.take k) w + if x.stamp.who = (w : Int) then 1 else 0 := by
  unfold numOf
  rw [List.take_add_one, h, List.countP_append]
  simp only [Option.toList_some, List.countP_cons, List.countP_nil, Nat.zero_add, decide_eq_true_eq]
  split <;> simp
theorem numOf_le (set : List Opn) (w : Nat) : 0 ≤ numOf set w ∧ numOf set w ≤ set.length := by
  unfold numOf
  have := List.countP_le_length (p := fun y : Opn => decide (y.stamp.who = (w : Int))) (l := set)
  omega
theorem num_row_skip (set : List Opn) (k N : Nat) (x : Opn) (h : set[k]? = some x) (hx : ∀ w, w < N → x.stamp.who ≠ (w : Int)) :
    (List.range N).map (numOf (set.take (k + 1))) = (List.range N).map (numOf (set.take k)) := by
  apply List.map_congr_left
  intro w hw
  rw [numOf_take set k x h w, if_neg (hx w (List.mem_range.1 hw)), Int.add_zero]
theorem num_row_set (set : List Opn) (k N j : Nat) (x : Opn) (h : set[k]? = some x) (hx : x.stamp.who = (j : Int)) :
    ((List.range N).map (numOf (set.take k))).set j (numOf (set.take k) j + 1) = (List.range N).map (numOf (set.take (k + 1))) := by
  apply List.ext_getElem?
  intro i
  rw [List.getElem?_set, List.length_map, List.length_range, List.getElem?_map, List.getElem?_map]
  by_cases hij : j = i
  · subst hij
    rw [if_pos rfl]
    by_cases hjn : j < N
    · rw [if_pos hjn, List.getElem?_range hjn]
      simp only [Option.map_some]
      rw [numOf_take set k x h j, if_pos hx]
    · rw [if_neg hjn, List.getElem?_eq_none (by simpa using hjn)]
      rfl
  · rw [if_neg hij]
    cases hr : (List.range N)[i]? with
    | none => rfl
    | some w =>
      simp only [Option.map_some]
      have hw : w = i := by
        rcases Nat.lt_or_ge i N with h1 | h1
        · rw [List.getElem?_range h1] at hr; injection hr with hr; exact hr.symm
        · rw [List.getElem?_eq_none (by simpa using h1)] at hr; cases hr
      rw [numOf_take set k x h w, if_neg (by omega), Int.add_zero]

set_option maxRecDepth 20000 in
set_option maxHeartbeats 4000000 in
theorem rvector_any (v : Value) (set : List Opn) (w : World) (h : Opns w v set) (hn : set.length ≤ 1000000) (hwf : ∀ x ∈ set, opWf x) :
    Calls Try.prog 25 #[v] w fun e w' => ∃ v', e = .returned v' ∧ Ints w' v' (vectorOf set) ∧ Below w.heap.size w w' := by
  obtain ⟨i0, hi, hz0, hz1, hz2⟩ := info_parts info_int'
  obtain ⟨r, hr⟩ : ∃ r, vectorOf set = r := ⟨_, rfl⟩
  rw [hr]
  unfold vectorOf at hr
  obtain ⟨A, c, rfl, hc⟩ := h.len
  obtain ⟨n, hnn⟩ : ∃ n, set.length = n := ⟨_, rfl⟩
  rw [hnn] at h hc hn
  rw [hnn]
  have htl : set.take n = set := List.take_of_length_le (by omega)
  obtain ⟨t0, t15⟩ := topWho_le set
  obtain ⟨N, hN⟩ : ∃ N, (topWho set).toNat = N := ⟨_, rfl⟩
  have hNt : topWho set = (N : Int) := by omega
  have hN15 : N ≤ 15 := by omega
  rw [hN] at hr
  obtain ⟨M, hM⟩ : ∃ M, madeCells (Value.int .i64 0).cells ((N : Int).toNat * i0.size) = M := ⟨_, rfl⟩
  have hml : M.toList = List.replicate N (.int .i64 0) := by
    rw [← hM, hz1, Nat.mul_one, Int.toNat_natCast]
    exact toList_madeCells_one _ _
  have hms : M.size = N * 1 := by rw [← Array.length_toList, hml, List.length_replicate]; omega
  have hmk : ∀ W : World, (Instr.makeSlice 41 (.int .i64 (N : Int)) (.int .i64 (N : Int))).run Try.prog W = .ok (.slice (some ⟨W.heap.size, 0, none⟩) N N) (W.alloc (.cells M 3)) := fun W => by
    have h := run_make (P := Try.prog) W 41 3 i0 (.int .i64 0) Try.underlying41 hi hz0 .i64 .i64 (N : Int) (N : Int) (by omega) (by omega) (by rw [hz2]; omega) (by omega)
    rw [hM] at h
    rw [h]
    simp
  have HV := Go.Lib.hid h; clear h
  have HR := Go.Lib.hid hr; clear hr
  have HN := Go.Lib.hid hnn; clear hnn
  have HWF := Go.Lib.hid hwf; clear hwf
  have HTL := Go.Lib.hid htl; clear htl
  have HNT := Go.Lib.hid hNt; clear hNt
  have HML := Go.Lib.hid hml; have HMS := Go.Lib.hid hms
  clear t0 t15 hN hM hml hms
  go_enter Try.func25, Try.ntmps25
  go_wp2_with fail
  go_loop [3, 4, 8, 9, 10, 11, 12, 13, 14, 15, 16, 17, 18, 19, 20, 21, 22, 23, 24, 25, 26, 27, 28, 29] (fun x i _ _ _ _ _ _ _ _ _ _ _ _ _ _ _ _ _ _ _ _ _ _ => ∃ k : Nat, k ≤ n ∧ i = .int .i64 (k : Int) ∧ x = .int .i64 (topWho (set.take k))) (fun _ i _ _ _ _ _ _ _ _ _ _ _ _ _ _ _ _ _ _ _ _ _ _ => n - (intOf i).toNat)
  case atStart => exact ⟨0, by omega, rfl, rfl⟩
  case round =>
    obtain ⟨k, hk, rfl, rfl⟩ := hrel
    by_cases hkn : k < n
    · have hkn' : (k : Int) < (n : Int) := by omega
      obtain ⟨b1, o1, x, rfl, hg1, hx⟩ := HV.out.at k hkn
      obtain ⟨w1, w2⟩ := who_wf (HWF.out x (List.mem_of_getElem? hg1))
      obtain ⟨c0, c1, c2, c3, c4, c5, c6, c7, c8, c9, c10⟩ := op_cells hx
      have hnx := topWho_take set k x hg1
      obtain ⟨p1, p2⟩ := topWho_le (set.take k)
      obtain ⟨tw, htw⟩ : ∃ t, topWho (set.take k) = t := ⟨_, rfl⟩
      obtain ⟨y, hy⟩ : ∃ y, x.stamp.who = y := ⟨_, rfl⟩
      rw [hy] at c1 w1 w2
      rw [htw, hy] at hnx
      rw [htw] at p1 p2
      rw [htw]
      clear hx c0 c2 c3 c4 c5 c6 c7 c8 c9 c10 hg1 htw hy
      by_cases h15 : y < 15
      · rw [if_pos h15] at hnx
        have hwr : IntKind.i64.wrap (y + 1) = y + 1 := by rw [IntKind.wrap_i64]; omega
        by_cases hm : tw < y + 1
        · rw [show max tw (y + 1) = y + 1 by omega] at hnx
          have HNX := Go.Lib.hid hnx; clear hnx
          go_wp2_with fail
          exact ⟨⟨k + 1, by omega, by simp, by rw [HNX.out]⟩, by simp [intOf]; omega⟩
        · rw [show max tw (y + 1) = tw by omega] at hnx
          have HNX := Go.Lib.hid hnx; clear hnx
          go_wp2_with fail
          exact ⟨⟨k + 1, by omega, by simp, by rw [HNX.out]⟩, by simp [intOf]; omega⟩
      · rw [if_neg h15] at hnx
        have HNX := Go.Lib.hid hnx; clear hnx
        go_wp2_with fail
        exact ⟨⟨k + 1, by omega, by simp, by rw [HNX.out]⟩, by simp [intOf]; omega⟩
    · obtain rfl : k = n := by omega
      rw [HTL.out, HNT.out]
      go_wp2_with fail
      have hrow0 : Row (w.alloc (.cells M 3)) w.heap.size 3 1 (.slice (some ⟨w.heap.size, 0, none⟩) N N) N (((List.range N).map (numOf (set.take 0))).map fun z => .int .i64 z) := by
        have h1 := Row.made (base := w.heap.size) w M 3 N 1 (Nat.le_refl _) (by unfold maxLen; omega) HMS.out
        rw [HML.out] at h1
        have h2 : List.replicate N (Value.int .i64 0) = ((List.range N).map (numOf (set.take 0))).map fun z => Value.int .i64 z := by
          rw [List.map_map]
          apply List.ext_getElem?
          intro j
          rw [List.getElem?_map, List.getElem?_replicate]
          by_cases hj : j < N
          · rw [if_pos hj, List.getElem?_range hj]; rfl
          · rw [if_neg hj, List.getElem?_eq_none (by simpa using hj)]; rfl
        rw [h2] at h1
        exact h1
      have hb0 : Below w.heap.size w (w.alloc (.cells M 3)) := (Below.refl _ _).alloc (Nat.le_refl _) _
      have HROW := Go.Lib.hid hrow0; clear hrow0
      have HB0 := Go.Lib.hid hb0; clear hb0
      go_loopw [6, 7, 32, 33, 34, 35, 36, 37, 38, 39, 40, 41, 42, 43, 44, 45, 46, 47, 48, 49, 50, 51, 52, 53, 54, 55, 56, 57, 58] (fun i _ _ _ _ _ _ _ _ _ _ _ _ _ _ _ _ _ _ _ _ _ _ _ _ _ _ _ _ wr => ∃ q : Nat, q ≤ k ∧ i = .int .i64 (q : Int) ∧ Row wr w.heap.size 3 1 (.slice (some ⟨w.heap.size, 0, none⟩) N N) N (((List.range N).map (numOf (set.take q))).map fun z => .int .i64 z) ∧ Below w.heap.size w wr) (fun i _ _ _ _ _ _ _ _ _ _ _ _ _ _ _ _ _ _ _ _ _ _ _ _ _ _ _ _ _ => k - (intOf i).toNat)
      case atStart => exact ⟨0, by omega, rfl, HROW.out, HB0.out⟩
      case round =>
        obtain ⟨q, hq, rfl, hrow, hb⟩ := hrel
        by_cases hqk : q < k
        · have hqk' : (q : Int) < (k : Int) := by omega
          obtain ⟨b1, o1, x, rfl, hg1, hx⟩ := (HV.out.below hb).at q hqk
          obtain ⟨c0, c1, c2, c3, c4, c5, c6, c7, c8, c9, c10⟩ := op_cells hx
          obtain ⟨y, hy⟩ : ∃ y, x.stamp.who = y := ⟨_, rfl⟩
          rw [hy] at c1
          clear hx c0 c2 c3 c4 c5 c6 c7 c8 c9 c10
          by_cases hin : 0 ≤ y ∧ y < (N : Int)
          · obtain ⟨h0, h1⟩ := hin
            obtain ⟨j, rfl⟩ : ∃ j : Nat, y = (j : Int) := ⟨y.toNat, by omega⟩
            have hjN : j < N := by omega
            obtain ⟨g', cap', he, _, hbg, _, hcell, hfr⟩ := hrow.open (by omega)
            cases he
            obtain ⟨p1, p2⟩ := numOf_le (set.take q) j
            have hset := num_row_set set q N j x hg1 hy
            have hcj := hcell j (.int .i64 (numOf (set.take q) j)) (by rw [List.getElem?_map, List.getElem?_map, List.getElem?_range hjN]; rfl)
            have hfj := hfr j (by omega)
            have hnr := hrow.set w.heap.size N j rfl (.int .i64 (numOf (set.take q) j + 1))
            rw [ints_set j _ _ _ hset] at hnr
            have hbn := hb.setCell (p := ⟨w.heap.size, j, none⟩) (Nat.le_refl _) (.int .i64 (numOf (set.take q) j + 1))
            have hql : (set.take q).length ≤ 1000000 := by rw [List.length_take]; omega
            obtain ⟨z, hz⟩ : ∃ z, numOf (set.take q) j = z := ⟨_, rfl⟩
            rw [hz] at hcj hnr hbn p1 p2
            have hwr : IntKind.i64.wrap (z + 1) = z + 1 := by rw [IntKind.wrap_i64]; omega
            have HNR := Go.Lib.hid hnr; clear hnr
            have HBN := Go.Lib.hid hbn; clear hbn
            clear hcell hfr hset hrow hb hz hg1 hy
            go_wp2_with fail
            exact ⟨⟨q + 1, by omega, by simp, HNR.out, HBN.out⟩, by simp [intOf]; omega⟩
          · have hskip := num_row_skip set q N x hg1 (fun w hw h => hin (by omega))
            rw [← hskip] at hrow
            have HROW2 := Go.Lib.hid hrow; clear hrow
            have HB2 := Go.Lib.hid hb; clear hb
            clear hskip hg1 hy
            by_cases h0 : 0 ≤ y
            · have h1 : ¬ y < (N : Int) := fun h => hin ⟨h0, h⟩
              clear hin
              go_wp2_with fail
              exact ⟨⟨q + 1, by omega, by simp, HROW2.out, HB2.out⟩, by simp [intOf]; omega⟩
            · clear hin
              go_wp2_with fail
              exact ⟨⟨q + 1, by omega, by simp, HROW2.out, HB2.out⟩, by simp [intOf]; omega⟩
        · obtain rfl : q = k := by omega
          rw [HTL.out, HR.out] at hrow
          have hints := Ints.of_row hrow
          have HI := Go.Lib.hid hints; clear hints hrow
          have HB2 := Go.Lib.hid hb; clear hb
          go_wp2_with fail
          go_ret
          exact ⟨_, rfl, HI.out, HB2.out⟩
end Go.Proofs.Ytmkmahjboocoaaa.W
