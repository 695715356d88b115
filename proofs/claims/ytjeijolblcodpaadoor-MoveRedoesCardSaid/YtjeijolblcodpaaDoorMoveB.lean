/- The walks of layer 8's laws: MoveNil, MoveRedoes. -/
import Derived.Test.YtjeijolblcodpaaDoorMg13
namespace Go.Proofs.YtjeijolblcodpaaDoor.W
set_option maxRecDepth 20000
set_option linter.unusedVariables false
open Go.RowKit Go.Proofs Arb

theorem small_wf (z : Int) (h0 : 0 ≤ z) (h1 : z ≤ 1000000) : (Lit.int .i64 z).wf = true := by
  simp only [Lit.wf, Bool.and_eq_true, decide_eq_true_eq]
  exact ⟨by show (-9223372036854775808 : Int) ≤ z; omega, by show z ≤ (9223372036854775807 : Int); omega⟩

theorem wf_small {z : Int} (h : (Lit.int .i64 z).wf = true) : -9223372036854775808 ≤ z ∧ z ≤ 9223372036854775807 := by
  simp only [Lit.wf, Bool.and_eq_true, decide_eq_true_eq] at h
  have h1 : (-9223372036854775808 : Int) ≤ z := h.1
  have h2 : z ≤ (9223372036854775807 : Int) := h.2
  exact ⟨h1, h2⟩

set_option maxRecDepth 20000 in
set_option maxHeartbeats 4000000 in
theorem moveNil_walk (z : Int) (hzw : (Lit.int .i64 z).wf = true) (w : World) (hTM : Met w) :
    Calls Tryd.prog 7 #[.int .i64 z] w fun e w' => e = .returned (.bool true) ∧ Below w.heap.size w w' := by
  have hz := wf_small hzw; clear hzw
  have hi : ∀ w, Met w → Calls Tryd.prog 12 #[.pointer none, .agg #[.int .i64 z, .int .i64 0, .int .i64 0, .int .i64 0, .int .i64 0, .int .i64 0, .bool false, .int .i64 0, .int .i64 0, .string ⟨#[]⟩, .string ⟨#[]⟩]] w fun e w' => e = .returned (.int .i64 2) ∧ Below w.heap.size w w' := fun w hT => pinsert_nil w ⟨⟨z, 0⟩, 0, 0, ⟨0, 0⟩, false, ⟨0, 0⟩, [], []⟩ hT
  have HI := Go.Lib.hid (hi w hTM); have HTM := Go.Lib.hid hTM
  clear hi hTM
  go_enter Tryd.func7, Tryd.ntmps7
  go_wp2_with fail
  refine HI.out.mono ?_; rintro e w1 ⟨rfl, hb⟩
  have HB1 := Go.Lib.hid hb; clear hb
  go_wp2_with fail
  refine (pnodes_nil _).mono ?_; rintro e w2 ⟨rfl, hb⟩
  have HB2 := Go.Lib.hid (bstep HB1.out hb); clear hb
  go_wp2_with fail
  refine (pops_nil _).mono ?_; rintro e w3 ⟨rfl, hb⟩
  have HB3 := Go.Lib.hid (bstep HB2.out hb); clear hb
  go_wp2_with fail
  refine (predone_nil _).mono ?_; rintro e w4 ⟨rfl, hb⟩
  have HB4 := Go.Lib.hid (bstep HB3.out hb); clear hb
  go_wp2_with fail
  refine (awake8_any _ (HTM.out.on HB4.out)).mono ?_; rintro e w5 ⟨rfl, hb⟩
  have HB5 := Go.Lib.hid (bstep HB4.out hb); clear hb
  go_wp2_with fail
  go_ret
  exact ⟨rfl, HB5.out⟩

set_option maxRecDepth 20000 in
set_option maxHeartbeats 8000000 in
theorem moveRedoes_walk (z : Int) (hzw : (Lit.int .i64 z).wf = true) (w : World) (hTM : Met w) :
    Calls Tryd.prog 5 #[.int .i64 z] w fun e w' => e = .returned (.bool true) ∧ Below w.heap.size w w' := by
  have hz := wf_small hzw; clear hzw
  have HTM := Go.Lib.hid hTM
  by_cases h0 : z < 0 ∨ 100 < z
  · rcases h0 with h0 | h0
    · clear hTM
      go_enter Tryd.func5, Tryd.ntmps5
      go_wp2_with fail
      refine (awake8_any _ HTM.out).mono ?_; rintro e w5 ⟨rfl, hb⟩
      have HB5 := Go.Lib.hid hb; clear hb
      go_wp2_with fail
      go_ret
      exact ⟨rfl, HB5.out⟩
    · have h1 : ¬ z < 0 := by omega
      clear hTM
      go_enter Tryd.func5, Tryd.ntmps5
      go_wp2_with fail
      refine (awake8_any _ HTM.out).mono ?_; rintro e w5 ⟨rfl, hb⟩
      have HB5 := Go.Lib.hid hb; clear hb
      go_wp2_with fail
      go_ret
      exact ⟨rfl, HB5.out⟩
  · obtain ⟨n, rfl⟩ : ∃ n : Nat, z = (n : Int) := ⟨z.toNat, by omega⟩
    have hn : n ≤ 100 := by omega
    have h1 : ¬ (n : Int) < 0 := by omega
    have h2 : ¬ (100 : Int) < (n : Int) := by omega
    have hwf : ∀ c : Int, (Lit.int .i64 c).wf = true → opWf (mk8 c) := fun c hc => ⟨⟨hc, rfl⟩, rfl, rfl, ⟨hc, rfl⟩, ⟨rfl, rfl⟩, by simp [mk8], by simp [mk8]⟩
    have hlit : ∀ k : Nat, k ≤ 100 → (Lit.int .i64 ((k : Int) + 2)).wf = true := fun k hk => small_wf _ (by omega) (by omega)
    have hins : ∀ k V b F, k < 100 → Mine w V b F (mks k) 0 → Calls Tryd.prog 12 #[.pointer (some ⟨b, 0, none⟩), .agg #[.int .i64 ((k : Int) + 2), .int .i64 0, .int .i64 0, .int .i64 1, .int .i64 ((k : Int) + 2), .int .i64 0, .bool true, .int .i64 0, .int .i64 0, .string ⟨#[97]⟩, .string ⟨#[]⟩]] V fun e w' => e = .returned (.int .i64 0) ∧ ∃ F', Mine w w' b F' (mks (k + 1)) 0 := fun k V b F hk h => by
      have := mine_insert h (mk8 ((k : Int) + 2)) (hwf _ (hlit k (by omega))) HTM.out
      obtain ⟨e1, e2, e3⟩ := mks_step k hk
      rw [e1, e2, e3] at this
      exact this
    obtain ⟨l1, l2, l3, l4⟩ := mks_last n hn
    have hinl : ∀ V b F, Mine w V b F (mks n) 0 → Calls Tryd.prog 12 #[.pointer (some ⟨b, 0, none⟩), .agg #[.int .i64 1, .int .i64 0, .int .i64 0, .int .i64 1, .int .i64 1, .int .i64 0, .bool true, .int .i64 0, .int .i64 0, .string ⟨#[97]⟩, .string ⟨#[]⟩]] V fun e w' => e = .returned (.int .i64 0) ∧ ∃ F', Mine w w' b F' (mk8 1 :: mks n) (n : Int) := fun V b F h => by
      have := mine_insert h (mk8 1) (hwf 1 rfl) HTM.out
      rw [l1, l2, l3] at this
      exact this
    have hnod : ∀ V b F, Mine w V b F (mk8 1 :: mks n) (n : Int) → Calls Tryd.prog 18 #[.pointer (some ⟨b, 0, none⟩)] V fun e w' => ∃ A c, e = .returned (.slice A (n + 1) c) ∧ Below w.heap.size w w' := fun V b F h =>
      (mine_nodes h HTM.out).mono fun e w' ⟨v, F', he, hnd, hm, _, _⟩ => by
        obtain ⟨A, c, rfl, _⟩ := hnd.len
        rw [l4] at he
        exact ⟨A, c, he, hm.bel⟩
    have HINS := Go.Lib.hid hins; have HINL := Go.Lib.hid hinl; have HNOD := Go.Lib.hid hnod
    clear hins hinl hnod l1 l2 l3 l4 hwf hlit hTM h0
    go_enter Tryd.func5, Tryd.ntmps5
    go_wp2_with fail
    refine (mine_new HTM.out).mono ?_; rintro e V1 ⟨b, F1, rfl, hm1⟩
    have HM1 := Go.Lib.hid hm1; clear hm1
    go_wp2_with fail
    refine (predone_st _ _ _ _ _ HM1.out.st).mono ?_; rintro e V2 ⟨rfl, hb⟩
    have HM2 := Go.Lib.hid (HM1.out.more hb); clear hb
    go_wp2_with fail
    go_loopw [4, 5, 22, 23, 24, 25, 26, 27, 28, 29, 30, 31, 32, 33, 34, 35, 36, 37, 38, 39, 40] (fun i _ _ _ _ _ _ _ _ _ _ _ _ _ _ _ _ _ _ _ _ wr => ∃ (k : Nat) (F : Nat → Prop), k ≤ n ∧ i = .int .i64 (k : Int) ∧ Mine w wr b F (mks k) 0) (fun i _ _ _ _ _ _ _ _ _ _ _ _ _ _ _ _ _ _ _ _ _ => n - (intOf i).toNat)
    case atStart => exact ⟨0, F1, by omega, rfl, HM2.out⟩
    case round =>
      obtain ⟨k, F, hk, rfl, hm⟩ := hrel
      have HM := Go.Lib.hid hm; clear hm
      by_cases hkn : k < n
      · have hkn' : (k : Int) < (n : Int) := by omega
        have hw2 : IntKind.i64.wrap ((k : Int) + 2) = (k : Int) + 2 := by rw [IntKind.wrap_i64]; omega
        have hcc : (wr.alloc (.cells #[.int .i64 ((k : Int) + 2), .int .i64 0] 33)).heap[wr.heap.size]? = some (.cells #[.int .i64 ((k : Int) + 2), .int .i64 0] 33 (0, 0)) := heap_alloc_new wr _
        have c0 : (wr.alloc (.cells #[.int .i64 ((k : Int) + 2), .int .i64 0] 33)).cell? ⟨wr.heap.size, 0, none⟩ = some (.int .i64 ((k : Int) + 2)) := by rw [cell_of_row _ _ _ _ _ _ hcc]; rfl
        have c1 : (wr.alloc (.cells #[.int .i64 ((k : Int) + 2), .int .i64 0] 33)).cell? ⟨wr.heap.size, 1, none⟩ = some (.int .i64 0) := by rw [cell_of_row _ _ _ _ _ _ hcc]; rfl
        have hma := HM.out.more ((Below.refl wr.heap.size wr).alloc (Nat.le_refl _) (.cells #[.int .i64 ((k : Int) + 2), .int .i64 0] 33))
        have HMA := Go.Lib.hid hma
        clear hma hcc
        go_wp2_with fail
        refine (HINS.out k _ _ _ (by omega) HMA.out).mono ?_; rintro e V4 ⟨rfl, F4, hm4⟩
        have HM4 := Go.Lib.hid hm4; clear hm4 c0 c1
        go_wp2_with fail
        refine (predone_st _ _ _ _ _ HM4.out.st).mono ?_; rintro e V5 ⟨rfl, hb⟩
        have HM5 := Go.Lib.hid (HM4.out.more hb); clear hb
        go_wp2_with fail
        exact ⟨⟨k + 1, F4, by omega, by simp, HM5.out⟩, by simp [intOf]; omega⟩
      · obtain rfl : k = n := by omega
        have hcc : (wr.alloc (.cells #[.int .i64 1, .int .i64 0] 33)).heap[wr.heap.size]? = some (.cells #[.int .i64 1, .int .i64 0] 33 (0, 0)) := heap_alloc_new wr _
        have c0 : (wr.alloc (.cells #[.int .i64 1, .int .i64 0] 33)).cell? ⟨wr.heap.size, 0, none⟩ = some (.int .i64 1) := by rw [cell_of_row _ _ _ _ _ _ hcc]; rfl
        have c1 : (wr.alloc (.cells #[.int .i64 1, .int .i64 0] 33)).cell? ⟨wr.heap.size, 1, none⟩ = some (.int .i64 0) := by rw [cell_of_row _ _ _ _ _ _ hcc]; rfl
        have HMA := Go.Lib.hid (HM.out.more ((Below.refl wr.heap.size wr).alloc (Nat.le_refl _) (.cells #[.int .i64 1, .int .i64 0] 33)))
        clear hcc
        go_wp2_with fail
        refine (HINL.out _ _ _ HMA.out).mono ?_; rintro e V4 ⟨rfl, F4, hm4⟩
        have HM4 := Go.Lib.hid hm4; clear hm4 c0 c1
        go_wp2_with fail
        refine (predone_st _ _ _ _ _ HM4.out.st).mono ?_; rintro e V5 ⟨rfl, hb⟩
        have HM5 := Go.Lib.hid (HM4.out.more hb); clear hb
        go_wp2_with fail
        refine (HNOD.out _ _ _ HM5.out).mono ?_; rintro e V6 ⟨A6, c6, rfl, hb⟩
        have HB6 := Go.Lib.hid hb; clear hb
        go_wp2_with fail
        refine (awake8_any _ (HTM.out.on HB6.out)).mono ?_; rintro e w7 ⟨rfl, hb⟩
        have HB7 := Go.Lib.hid (bstep HB6.out hb); clear hb
        go_wp2_with fail
        go_ret
        exact ⟨rfl, HB7.out⟩
end Go.Proofs.YtjeijolblcodpaaDoor.W
