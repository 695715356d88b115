/- The program's filters: Print. -/
import Derived.Test.YtkohcibhefejfaaDoorGlobPE
import Derived.Test.YtkohcibhefejfaaDoorGlobU
namespace Go.Proofs.YtkohcibhefejfaaDoor.W
set_option maxRecDepth 20000
set_option linter.unusedVariables false
open Go.RowKit Go.Proofs Arb

set_option maxHeartbeats 8000000 in
theorem gprint_any (v : Value) (l : List Rul) (w : World) (h : Ruls w v l) (ht : ∀ x ∈ l, x.text.length ≤ 100000) (hn : l.length ≤ 100000) :
    Calls Tryd.prog 11 #[v] w fun e w' => e = .returned (.tuple #[.string (BS (printOf l).1), .int .i64 (printOf l).2]) ∧ Below w.heap.size w w' := by
  obtain ⟨r, hr⟩ : ∃ r, printOf l = r := ⟨_, rfl⟩
  rw [hr]
  unfold printOf at hr
  have h' := h
  obtain ⟨A, n, c, rfl, hnn, hc, -⟩ := h'
  rw [hnn] at hr hn
  have HL := Go.Lib.hid h; have HN := Go.Lib.hid hnn; have HT := Go.Lib.hid ht
  clear h hnn ht
  by_cases h16 : 16 < n
  · have h16' : (16 : Int) < (n : Int) := by omega
    rw [if_pos h16] at hr
    subst hr
    go_enter Tryd.func11, Tryd.ntmps11
    go_wp2_with fail
    go_ret2
    exact ⟨rfl, Below.refl _ _⟩
  · have h16' : ¬ ((16 : Int) < (n : Int)) := by omega
    rw [if_neg h16] at hr
    have HR := Go.Lib.hid hr; clear hr
    go_enter Tryd.func11, Tryd.ntmps11
    go_wp2_with fail
    go_loopw [4, 6, 12, 13, 14, 15, 16, 17, 18, 19, 20, 21, 22, 23, 24, 25, 26, 27, 28, 29] (fun o _ i _ _ _ _ _ _ _ _ _ _ _ _ _ _ _ _ _ wr => ∃ k : Nat, k ≤ n ∧ o = .string (BS (linesOf (l.take k))) ∧ i = .int .i64 (k : Int) ∧ (∀ x ∈ l.take k, ruleOk x = true) ∧ Below w.heap.size w wr) (fun _ _ i _ _ _ _ _ _ _ _ _ _ _ _ _ _ _ _ _ _ => n - (intOf i).toNat)
    case atStart => exact ⟨0, by omega, rfl, rfl, by simp, Below.refl _ _⟩
    case round =>
      obtain ⟨k, hk, rfl, rfl, hall, hbw⟩ := hrel
      by_cases hkn : k < n
      · have hki : (k : Int) < (n : Int) := by omega
        obtain ⟨g, o, x, rfl, hx, hx1⟩ := (HL.out.below hbw).at k hkn
        obtain ⟨p0, p1⟩ := rl_cells hx1
        have hxm := List.mem_of_getElem? hx
        have hrt := fun W => pvalid_any x W (HT.out x hxm)
        obtain ⟨W2, hW2⟩ : ∃ W, wr.alloc (.cells #[.int .i64 x.kind, .string (BS x.text)] 29) = W := ⟨_, rfl⟩
        have hbW2 : Below w.heap.size w W2 := by rw [← hW2]; exact hbw.alloc hbw.size _
        have hxW2 : RulAt W2 wr.heap.size 0 x := by rw [← hW2]; exact RulAt.new _ _ _
        have HW2 := Go.Lib.hid hW2; have HX2 := Go.Lib.hid hxW2; have HBW := Go.Lib.hid hbW2
        clear hW2 hxW2 hbW2 hbw
        obtain ⟨d, hd⟩ : ∃ d, ruleOk x = d := ⟨_, rfl⟩
        rw [hd] at hrt
        cases d with
        | false =>
          have hres : r = ([], 30) := by
            rw [← HR.out, if_neg]
            rw [List.all_eq_true]
            intro hh
            rw [hh x hxm] at hd; cases hd
          subst hres
          have HRT := Go.Lib.hid hrt
          clear hrt hx hxm hall hx1 hd
          go_wp2_with fail
          rw [HW2.out]
          obtain ⟨d0, d1⟩ := rl_cells0 HX2.out
          clear p0 p1
          go_wp2_with fail
          refine (HRT.out _).mono ?_; rintro e w2 ⟨rfl, hb2⟩
          have HB2 := Go.Lib.hid (bstep HBW.out hb2); clear hb2
          go_wp2_with fail
          go_ret2
          exact ⟨rfl, HB2.out⟩
        | true =>
          have hnext : ∀ y ∈ l.take (k + 1), ruleOk y = true := fun y hy => by
            rw [List.take_add_one, hx] at hy
            rcases List.mem_append.1 hy with hy | hy
            · exact hall y hy
            · simp at hy; rw [hy]; exact hd
          have hsn : linesOf (l.take (k + 1)) = linesOf (l.take k) ++ (wordP x.kind ++ [32] ++ x.text ++ [10]) := by
            have : linesOf (l.take (k + 1)) = linesOf (l.take k) ++ wordOf x.kind ++ x.text ++ [10] := by
              rw [← lines_snoc, List.take_add_one, hx]; rfl
            rw [this, wordP_line]
            simp
          have hol : (linesOf (l.take k)).length ≤ 1600144 := by
            have h1 := lines_len (l.take k) fun y hy => HT.out y (List.mem_of_mem_take hy)
            have h2 : (l.take k).length ≤ 16 := by rw [List.length_take]; omega
            omega
          have hwl := wordP_len x.kind
          have hxl := HT.out x hxm
          have hwd := fun W => (pword_any x.kind W).mono fun e w' (h : e = .returned (.string (BS (wordP x.kind))) ∧ w' = W) => (show e = .returned (.string (BS (wordP x.kind))) ∧ Below W.heap.size W w' from ⟨h.1, by rw [h.2]; exact Below.refl _ _⟩)
          obtain ⟨O, hO⟩ : ∃ O, linesOf (l.take k) = O := ⟨_, rfl⟩
          obtain ⟨WD, hWD⟩ : ∃ O, wordP x.kind = O := ⟨_, rfl⟩
          rw [hO] at hol
          rw [hO, hWD] at hsn
          rw [hWD] at hwd hwl
          have e1 : BS WD ++ ({ data := #[32] } : ByteArray) = BS (WD ++ [32]) := bs_append _ [32]
          have e2 : BS (WD ++ [32]) ++ BS x.text = BS (WD ++ [32] ++ x.text) := bs_append _ _
          have e3 : BS (WD ++ [32] ++ x.text) ++ ({ data := #[10] } : ByteArray) = BS (WD ++ [32] ++ x.text ++ [10]) := bs_append _ [10]
          have e4 : BS O ++ BS (WD ++ [32] ++ x.text ++ [10]) = BS (O ++ (WD ++ [32] ++ x.text ++ [10])) := bs_append _ _
          obtain ⟨P1, hP1⟩ : ∃ P, WD ++ [32] = P := ⟨_, rfl⟩
          rw [hP1] at e1 e2 e3 e4 hsn
          obtain ⟨P2, hP2⟩ : ∃ P, P1 ++ x.text = P := ⟨_, rfl⟩
          rw [hP2] at e2 e3 e4 hsn
          obtain ⟨P3, hP3⟩ : ∃ P, P2 ++ [10] = P := ⟨_, rfl⟩
          rw [hP3] at e3 e4 hsn
          obtain ⟨P4, hP4⟩ : ∃ P, O ++ P3 = P := ⟨_, rfl⟩
          rw [hP4] at e4 hsn
          have l1 : P1.length = WD.length + 1 := by rw [← hP1]; simp
          have l2 : P2.length = P1.length + x.text.length := by rw [← hP2]; simp
          have l3 : P3.length = P2.length + 1 := by rw [← hP3]; simp
          have z0 : (BS O).size = O.length := BS_size _
          have z1 : (BS WD).size = WD.length := BS_size _
          have z2 : (BS P1).size = P1.length := BS_size _
          have z3 : (BS P2).size = P2.length := BS_size _
          have z5 : (BS P3).size = P3.length := BS_size _
          have z4 : (BS x.text).size = x.text.length := BS_size _
          have b1 : ¬ 9223372036854775807 < WD.length + 1 := by omega
          have b2 : ¬ 9223372036854775807 < P1.length + x.text.length := by omega
          have b3 : ¬ 9223372036854775807 < P2.length + 1 := by omega
          have b4 : ¬ 9223372036854775807 < O.length + P3.length := by omega
          rw [hO]
          have HRT := Go.Lib.hid hrt; have HNX := Go.Lib.hid hnext; have HSN := Go.Lib.hid hsn; have HWD := Go.Lib.hid hwd
          clear hrt hx hxm hall hx1 hd hnext hsn hwd hO hWD hP1 hP2 hP3 hP4 l1 l2 l3
          go_wp2_with fail
          rw [HW2.out]
          obtain ⟨d0, d1⟩ := rl_cells0 HX2.out
          clear p0 p1
          go_wp2_with fail
          refine (HRT.out _).mono ?_; rintro e w2 ⟨rfl, hb2⟩
          have hx2 := HX2.out.below hb2
          obtain ⟨q0, q1⟩ := rl_cells0 hx2
          have hg2 := hx2.lt
          have HB2 := Go.Lib.hid (bstep HBW.out hb2); clear hb2 hx2 d0 d1
          have hne := BW.ne w2.heap.size w2
          go_wp2_with fail
          have s0 := fun z : BW w2.heap.size w2 => z.cell q0 hg2
          have s1 := fun z : BW w2.heap.size w2 => z.cell q1 hg2
          refine wp_region_calm w2.heap.size w2 (Below.refl _ _) (by kernel_rfl) (by kernel_rfl) ?_
          repeat (go_big_quiet_step ((go_at_call 23; with_reducible exact bw_of (Nat.le_refl _) (HWD.out _))))
          refine wpQuiet_nil ?_
          intro _ hw'
          obtain ⟨z, rfl⟩ := hw'
          go_wp2_with fail
          exact ⟨⟨k + 1, by omega, by rw [HSN.out], by simp, HNX.out, bstep HB2.out z.2⟩, by simp [intOf]; omega⟩
      · obtain rfl : k = n := by omega
        have htk : l.take k = l := List.take_of_length_le (by have := HN.out; omega)
        rw [htk] at hall ⊢
        have hres : r = (linesOf l, 0) := by rw [← HR.out, if_pos (List.all_eq_true.2 hall)]
        subst hres
        have HBW := Go.Lib.hid hbw
        clear hall hbw htk
        go_wp2_with fail
        go_ret2
        exact ⟨rfl, HBW.out⟩
end Go.Proofs.YtkohcibhefejfaaDoor.W
