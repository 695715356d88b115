/- The reference of filters: Print; the law's few. -/
import Derived.Test.YthjdccocfmicdaaDoorGlobR3
namespace Go.Proofs.YthjdccocfmicdaaDoor.W
set_option maxRecDepth 20000
set_option linter.unusedVariables false
open Go.RowKit Go.Proofs Arb

theorem bs_append (a b : List UInt8) : BS a ++ BS b = BS (a ++ b) := ByteArray.mk_append_mk _ _
def few9 (l : List Rul) : Bool := decide (l.length ≤ 100) && l.all fun x => decide (x.text.length ≤ 1000)

set_option maxHeartbeats 2000000 in
theorem few9_any (v : Value) (l : List Rul) (w : World) (h : Ruls w v l) (hw : ∀ x ∈ l, rlWf x) :
    Calls Tryd.prog 15 #[v] w fun e w' => e = .returned (.bool (few9 l)) ∧ w' = w := by
  obtain ⟨r, hr⟩ : ∃ r, few9 l = r := ⟨_, rfl⟩
  rw [hr]
  have h' := h
  obtain ⟨A, n, c, rfl, hn, hc, -⟩ := h'
  unfold few9 at hr
  rw [hn] at hr
  have HL := Go.Lib.hid h; have HN := Go.Lib.hid hn; have HW := Go.Lib.hid hw
  clear h hn hw
  by_cases h100 : n ≤ 100
  · have h100' : ¬ ((100 : Int) < (n : Int)) := by omega
    rw [decide_eq_true h100, Bool.true_and] at hr
    have HR := Go.Lib.hid hr; clear hr
    go_enter Tryd.func15, Tryd.ntmps15
    go_wp2_with fail
    go_loopw [3, 7, 8, 9, 10, 11, 12, 13, 14, 15, 16, 17, 18, 19] (fun i _ _ _ _ _ _ _ _ _ _ _ _ _ wr => ∃ k : Nat, k ≤ n ∧ i = .int .i64 (k : Int) ∧ (∀ x ∈ l.take k, decide (x.text.length ≤ 1000) = true) ∧ w = wr) (fun i _ _ _ _ _ _ _ _ _ _ _ _ _ _ => n - (intOf i).toNat)
    case atStart => exact ⟨0, by omega, rfl, by simp, rfl⟩
    case round =>
      obtain ⟨k, hk, rfl, hall, rfl⟩ := hrel
      by_cases hkn : k < n
      · have hki : (k : Int) < (n : Int) := by omega
        obtain ⟨g, o, x, rfl, hx, hx1⟩ := HL.out.at k hkn
        obtain ⟨p0, p1⟩ := rl_cells hx1
        have hsz : (BS x.text).size = x.text.length := BS_size _
        have hwx := (HW.out x (List.mem_of_getElem? hx)).2
        by_cases ht : x.text.length ≤ 1000
        · have ht' : ¬ ((1000 : Int) < (x.text.length : Int)) := by omega
          have hnext : ∀ y ∈ l.take (k + 1), decide (y.text.length ≤ 1000) = true := fun y hy => by
            rw [List.take_add_one, hx] at hy
            rcases List.mem_append.1 hy with hy | hy
            · exact hall y hy
            · simp at hy; rw [hy]; exact decide_eq_true ht
          have HNX := Go.Lib.hid hnext
          clear hnext hall hx hx1
          go_wp2_with fail
          exact ⟨⟨k + 1, by omega, by simp, HNX.out, (by first | trivial | rfl)⟩, by simp [intOf]; omega⟩
        · have ht' : (1000 : Int) < (x.text.length : Int) := by omega
          have hres : r = false := by
            rw [← HR.out, List.all_eq_false]
            exact ⟨x, List.mem_of_getElem? hx, by simpa using ht⟩
          subst hres
          clear hall hx hx1
          go_wp2_with fail
          go_ret
          exact ⟨rfl, rfl⟩
      · obtain rfl : k = n := by omega
        have hres : r = true := by
          rw [← HR.out, List.all_eq_true]
          intro y hy
          refine hall y ?_
          rwa [List.take_of_length_le (by have := HN.out; omega)]
        subst hres
        clear hall
        go_wp2_with fail
        go_ret
        exact ⟨rfl, rfl⟩
  · have h100' : (100 : Int) < (n : Int) := by omega
    rw [decide_eq_false h100, Bool.false_and] at hr
    subst hr
    go_enter Tryd.func15, Tryd.ntmps15
    go_wp2_with fail
    go_ret
    exact ⟨rfl, rfl⟩

theorem lines_snoc (l : List Rul) (x : Rul) : linesOf (l ++ [x]) = linesOf l ++ wordOf x.kind ++ x.text ++ [10] := by simp [linesOf, lineOf]
theorem word_len (k : Int) : (wordOf k).length ≤ 8 := by
  unfold wordOf
  repeat' split
  all_goals decide
theorem lines_len (l : List Rul) (h : ∀ x ∈ l, x.text.length ≤ 100000) : (linesOf l).length ≤ l.length * 100009 := by
  induction l with
  | nil => simp [linesOf]
  | cons x l ih =>
    have h1 := ih fun y hy => h y (List.mem_cons_of_mem _ hy)
    have h2 := h x (List.mem_cons_self ..)
    have h3 := word_len x.kind
    unfold linesOf at h1 ⊢
    rw [List.map_cons, List.flatten_cons, List.length_append, List.length_cons]
    have e : (lineOf x ++ [10]).length = (wordOf x.kind).length + x.text.length + 1 := by simp [lineOf]; omega
    show (lineOf x ++ [10]).length + _ ≤ _
    rw [e]
    omega

set_option maxHeartbeats 4000000 in
theorem rprint_any (v : Value) (l : List Rul) (w : World) (h : Ruls w v l) (ht : ∀ x ∈ l, x.text.length ≤ 100000) :
    Calls Tryd.prog 17 #[v] w fun e w' => e = .returned (.tuple #[.string (BS (printOf l).1), .int .i64 (printOf l).2]) ∧ Below w.heap.size w w' := by
  obtain ⟨r, hr⟩ : ∃ r, printOf l = r := ⟨_, rfl⟩
  rw [hr]
  have h' := h
  obtain ⟨A, n, c, rfl, hn, hc, -⟩ := h'
  unfold printOf at hr
  rw [hn] at hr
  have HL := Go.Lib.hid h; have HN := Go.Lib.hid hn; have HT := Go.Lib.hid ht
  clear h hn ht
  by_cases h16 : 16 < n
  · have h16' : (16 : Int) < (n : Int) := by omega
    rw [if_pos h16] at hr
    subst hr
    go_enter Tryd.func17, Tryd.ntmps17
    go_wp2_with fail
    go_ret2
    exact ⟨rfl, Below.refl _ _⟩
  · have h16' : ¬ ((16 : Int) < (n : Int)) := by omega
    rw [if_neg h16] at hr
    have HR := Go.Lib.hid hr; clear hr
    go_enter Tryd.func17, Tryd.ntmps17
    go_wp2_with fail
    go_loopw [4, 5, 9, 10, 11, 12, 13, 14, 15, 16, 17, 18, 19, 20, 21, 22, 23, 24, 25, 26, 27, 28, 29, 30, 31, 32, 33, 34, 35] (fun o i _ _ _ _ _ _ _ _ _ _ _ _ _ _ _ _ _ _ _ _ _ _ _ _ _ _ _ wr => ∃ k : Nat, k ≤ n ∧ o = .string (BS (linesOf (l.take k))) ∧ i = .int .i64 (k : Int) ∧ (∀ x ∈ l.take k, ruleOk x = true) ∧ Below w.heap.size w wr) (fun _ i _ _ _ _ _ _ _ _ _ _ _ _ _ _ _ _ _ _ _ _ _ _ _ _ _ _ _ _ => n - (intOf i).toNat)
    case atStart => exact ⟨0, by omega, rfl, rfl, by simp, Below.refl _ _⟩
    case round =>
      obtain ⟨k, hk, rfl, rfl, hall, hbw⟩ := hrel
      by_cases hkn : k < n
      · have hki : (k : Int) < (n : Int) := by omega
        obtain ⟨g, o, x, rfl, hx, hx1⟩ := (HL.out.below hbw).at k hkn
        obtain ⟨p0, p1⟩ := rl_cells hx1
        have hxm := List.mem_of_getElem? hx
        have hrt := fun W => rright9_any x W (HT.out x hxm)
        obtain ⟨d, hd⟩ : ∃ d, ruleOk x = d := ⟨_, rfl⟩
        rw [hd] at hrt
        cases d with
        | false =>
          have hres : r = ([], 30) := by
            rw [← HR.out, if_neg]
            rw [List.all_eq_true]
            intro hh
            rw [hh x hxm] at hd; cases hd
          subst hres
          have HRT := Go.Lib.hid hrt; have HBW := Go.Lib.hid hbw
          clear hrt hbw hx hxm hall hx1 hd
          go_wp2_with fail
          refine (HRT.out _).mono ?_; rintro e w2 ⟨rfl, hb2⟩
          have HB2 := Go.Lib.hid (bstep HBW.out hb2); clear hb2
          go_wp2_with fail
          go_ret2
          exact ⟨rfl, HB2.out⟩
        | true =>
          have hnext : ∀ y ∈ l.take (k + 1), ruleOk y = true := fun y hy => by
            rw [List.take_add_one, hx] at hy
            rcases List.mem_append.1 hy with hy | hy
            · exact hall y hy
            · simp at hy; rw [hy]; exact hd
          have hsn : linesOf (l.take (k + 1)) = linesOf (l.take k) ++ wordOf x.kind ++ x.text ++ [10] := by
            rw [← lines_snoc, List.take_add_one, hx]; rfl
          have hol : (linesOf (l.take k)).length ≤ 1600144 := by
            have h1 := lines_len (l.take k) fun y hy => HT.out y (List.mem_of_mem_take hy)
            have h2 : (l.take k).length ≤ 16 := by rw [List.length_take]; omega
            omega
          have hwl := word_len x.kind
          have hxl := HT.out x hxm
          have hwd := fun W => rword_any x.kind W
          obtain ⟨O, hO⟩ : ∃ O, linesOf (l.take k) = O := ⟨_, rfl⟩
          obtain ⟨WD, hWD⟩ : ∃ O, wordOf x.kind = O := ⟨_, rfl⟩
          rw [hO] at hol
          rw [hO, hWD] at hsn
          rw [hWD] at hwd hwl
          have e1 : BS O ++ BS WD = BS (O ++ WD) := bs_append _ _
          have e2 : BS (O ++ WD) ++ BS x.text = BS (O ++ WD ++ x.text) := bs_append _ _
          have e3 : BS (O ++ WD ++ x.text) ++ ({ data := #[10] } : ByteArray) = BS (O ++ WD ++ x.text ++ [10]) := bs_append _ [10]
          obtain ⟨P1, hP1⟩ : ∃ P, O ++ WD = P := ⟨_, rfl⟩
          rw [hP1] at e1 e2 e3 hsn
          obtain ⟨P2, hP2⟩ : ∃ P, P1 ++ x.text = P := ⟨_, rfl⟩
          rw [hP2] at e2 e3 hsn
          obtain ⟨P3, hP3⟩ : ∃ P, P2 ++ [10] = P := ⟨_, rfl⟩
          rw [hP3] at e3 hsn
          have l1 : P1.length = O.length + WD.length := by rw [← hP1]; simp
          have l2 : P2.length = P1.length + x.text.length := by rw [← hP2]; simp
          have z0 : (BS O).size = O.length := BS_size _
          have z1 : (BS WD).size = WD.length := BS_size _
          have z2 : (BS P1).size = P1.length := BS_size _
          have z3 : (BS P2).size = P2.length := BS_size _
          have z4 : (BS x.text).size = x.text.length := BS_size _
          have b1 : ¬ 9223372036854775807 < O.length + WD.length := by omega
          have b2 : ¬ 9223372036854775807 < P1.length + x.text.length := by omega
          have b3 : ¬ 9223372036854775807 < P2.length + 1 := by omega
          rw [hO]
          have HRT := Go.Lib.hid hrt; have HBW := Go.Lib.hid hbw; have HNX := Go.Lib.hid hnext; have HSN := Go.Lib.hid hsn; have HWD := Go.Lib.hid hwd; have HX := Go.Lib.hid hx1
          clear hrt hbw hx hxm hall hx1 hd hnext hsn hwd hO hWD hP1 hP2 hP3 l1 l2
          go_wp2_with fail
          refine (HRT.out _).mono ?_; rintro e w2 ⟨rfl, hb2⟩
          have hx2 := HX.out.below hb2
          obtain ⟨q0, q1⟩ := rl_cells hx2
          have hg2 := hx2.lt
          have HB2 := Go.Lib.hid (bstep HBW.out hb2); clear hb2 hx2 p0 p1
          have hne := BW.ne w2.heap.size w2
          go_wp2_with fail
          have s0 := fun z : BW w2.heap.size w2 => z.cell q0 hg2
          have s1 := fun z : BW w2.heap.size w2 => z.cell q1 hg2
          refine wp_region_calm w2.heap.size w2 (Below.refl _ _) (by kernel_rfl) (by kernel_rfl) ?_
          repeat (go_big_quiet_step ((go_at_call 29; with_reducible exact bw_of (Nat.le_refl _) (HWD.out _))))
          refine wpQuiet_nil ?_
          intro _ hw'
          obtain ⟨z, rfl⟩ := hw'
          go_wp2_with fail
          exact ⟨⟨k + 1, by omega, by rw [HSN.out], by simp, HNX.out, bstep HB2.out z.2⟩, by simp [intOf]; omega⟩
      · obtain rfl : k = n := by omega
        have htk : l.take k = l := List.take_of_length_le (by have := HN.out; omega)
        rw [htk] at hall ⊢
        have hres : r = (linesOf l, 0) := by rw [← HR.out, if_pos (List.all_eq_true.2 hall)]
        subst hres
        have HBW := Go.Lib.hid hbw
        clear hall hbw htk
        go_wp2_with fail
        go_ret2
        exact ⟨rfl, HBW.out⟩
end Go.Proofs.YthjdccocfmicdaaDoor.W
