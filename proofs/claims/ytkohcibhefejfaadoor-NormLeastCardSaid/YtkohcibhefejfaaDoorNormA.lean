/- The laws of forms: few, rule, awake. -/
import Derived.Test.YtkohcibhefejfaaDoorNormZ
import Derived.Laws.Rows
import Derived.Laws.Tables
namespace Go.Proofs.YtkohcibhefejfaaDoor.W
set_option maxRecDepth 20000
set_option linter.unusedVariables false
open Go.RowKit Go.Proofs Arb

def few10 (l : List Rul) : Bool := decide (l.length ≤ 60) && l.all fun x => decide (x.text.length ≤ 500)
theorem few10_texts {l : List Rul} (h : few10 l = true) : l.length ≤ 60 ∧ ∀ x ∈ l, x.text.length ≤ 500 := by
  unfold few10 at h
  rw [Bool.and_eq_true, decide_eq_true_eq, List.all_eq_true] at h
  exact ⟨h.1, fun x hx => by simpa using h.2 x hx⟩
set_option maxHeartbeats 2000000 in
theorem few10_any (v : Value) (l : List Rul) (w : World) (h : Ruls w v l) (hw : ∀ x ∈ l, rlWf x) :
    Calls Tryd.prog 5 #[v] w fun e w' => e = .returned (.bool (few10 l)) ∧ w' = w := by
  obtain ⟨r, hr⟩ : ∃ r, few10 l = r := ⟨_, rfl⟩
  rw [hr]
  have h' := h
  obtain ⟨A, n, c, rfl, hn, hc, -⟩ := h'
  unfold few10 at hr
  rw [hn] at hr
  have HL := Go.Lib.hid h; have HN := Go.Lib.hid hn; have HW := Go.Lib.hid hw
  clear h hn hw
  by_cases h100 : n ≤ 60
  · have h100' : ¬ ((60 : Int) < (n : Int)) := by omega
    rw [decide_eq_true h100, Bool.true_and] at hr
    have HR := Go.Lib.hid hr; clear hr
    go_enter Tryd.func5, Tryd.ntmps5
    go_wp2_with fail
    go_loopw [3, 7, 8, 9, 10, 11, 12, 13, 14, 15, 16, 17, 18, 19] (fun i _ _ _ _ _ _ _ _ _ _ _ _ _ wr => ∃ k : Nat, k ≤ n ∧ i = .int .i64 (k : Int) ∧ (∀ x ∈ l.take k, decide (x.text.length ≤ 500) = true) ∧ w = wr) (fun i _ _ _ _ _ _ _ _ _ _ _ _ _ _ => n - (intOf i).toNat)
    case atStart => exact ⟨0, by omega, rfl, by simp, rfl⟩
    case round =>
      obtain ⟨k, hk, rfl, hall, rfl⟩ := hrel
      by_cases hkn : k < n
      · have hki : (k : Int) < (n : Int) := by omega
        obtain ⟨g, o, x, rfl, hx, hx1⟩ := HL.out.at k hkn
        obtain ⟨p0, p1⟩ := rl_cells hx1
        have hsz : (BS x.text).size = x.text.length := BS_size _
        have hwx := (HW.out x (List.mem_of_getElem? hx)).2
        by_cases ht : x.text.length ≤ 500
        · have ht' : ¬ ((500 : Int) < (x.text.length : Int)) := by omega
          have hnext : ∀ y ∈ l.take (k + 1), decide (y.text.length ≤ 500) = true := fun y hy => by
            rw [List.take_add_one, hx] at hy
            rcases List.mem_append.1 hy with hy | hy
            · exact hall y hy
            · simp at hy; rw [hy]; exact decide_eq_true ht
          have HNX := Go.Lib.hid hnext
          clear hnext hall hx hx1
          go_wp2_with fail
          exact ⟨⟨k + 1, by omega, by simp, HNX.out, (by first | trivial | rfl)⟩, by simp [intOf]; omega⟩
        · have ht' : (500 : Int) < (x.text.length : Int) := by omega
          have hres : r = false := by
            rw [← HR.out, List.all_eq_false]
            exact ⟨x, List.mem_of_getElem? hx, by simpa using ht⟩
          subst hres
          clear hall hx hx1
          go_wp2_with fail
          go_ret
          exact ⟨rfl, rfl⟩
      · obtain rfl : k = n := by omega
        have hres : r = true := by
          rw [← HR.out, List.all_eq_true]
          intro y hy
          refine hall y ?_
          rwa [List.take_of_length_le (by have := HN.out; omega)]
        subst hres
        clear hall
        go_wp2_with fail
        go_ret
        exact ⟨rfl, rfl⟩
  · have h100' : (60 : Int) < (n : Int) := by omega
    rw [decide_eq_false h100, Bool.false_and] at hr
    subst hr
    go_enter Tryd.func5, Tryd.ntmps5
    go_wp2_with fail
    go_ret
    exact ⟨rfl, rfl⟩

theorem rule10_any (k : Int) (t : List UInt8) (w : World) : Calls Tryd.prog 15 #[.int .i64 k, .string (BS t)] w fun e w' => e = .returned (.agg #[.int .i64 k, .string (BS t)]) ∧ Below w.heap.size w w' := by
  go_enter Tryd.func15, Tryd.ntmps15
  go_wp2_with fail
  exact bodyPost_ret (v := .agg #[.int .i64 k, .string (BS t)]) (results_cell_row (p := 4) rfl _ _ w.heap.size 29 #[.int .i64 k, .string (BS t)] (0, 0) _ rfl (heap_alloc_new w _) Tryd.underlying29 rfl (size_rl.trans (by rfl))) rfl ⟨rfl, (Below.refl _ w).alloc (Nat.le_refl _) _⟩
theorem Ruls.lit (w : World) (l : List Rul) (t : TypeId) (cs : Array Value) (h : cs = (rlsCells l).toArray) (g n : Nat) (hg : g = w.heap.size) (hn : n = l.length) : Ruls (w.alloc (.cells cs t)) (.slice (some ⟨g, 0, none⟩) n n) l := by
  subst h
  subst hg
  subst hn
  refine ⟨_, _, _, rfl, rfl, Nat.le_refl _, nofun, fun _ => ⟨w.heap.size, 0, rfl, fun j x hj i v hv => ?_⟩⟩
  rw [cell_of_row _ _ _ _ _ _ (heap_alloc_new w _), Nat.zero_add]
  simpa using rlsCells_at l j x hj i v hv

theorem aw_norm : normOf [⟨1, [97]⟩, ⟨1, [97, 47, 98]⟩, ⟨2, [99]⟩] = [⟨1, [97]⟩] ∧ normOf [⟨1, [97]⟩, ⟨2, [97]⟩] = [] := by decide +kernel
set_option maxHeartbeats 8000000 in
theorem awake10_any (w : World) : Calls Tryd.prog 8 #[] w fun e w' => e = .returned (.bool true) ∧ Below w.heap.size w w' := by
  have r1 := fun W => rule10_any 1 [97] W
  have r2 := fun W => rule10_any 1 [97, 47, 98] W
  have r3 := fun W => rule10_any 2 [99] W
  have r4 := fun W => rule10_any 2 [97] W
  have n1 := fun v W (h : Ruls W v [⟨1, [97]⟩, ⟨1, [97, 47, 98]⟩, ⟨2, [99]⟩]) => pnorm_any v _ W h (by intro x hx; simp at hx; rcases hx with rfl | rfl | rfl <;> decide) (by decide)
  have n2 := fun v W (h : Ruls W v [⟨1, [97]⟩, ⟨2, [97]⟩]) => pnorm_any v _ W h (by intro x hx; simp at hx; rcases hx with rfl | rfl <;> decide) (by decide)
  have s1 := fun u v W (hu : Ruls W u [⟨1, [97]⟩]) (hv : Ruls W v [⟨1, [97]⟩]) => rsame9_any u v [⟨1, [97]⟩] [⟨1, [97]⟩] W hu hv (by decide) (by decide)
  rw [aw_norm.1] at n1
  rw [aw_norm.2] at n2
  rw [decide_eq_true rfl] at s1
  have R1 := Go.Lib.hid (show ∀ W, Calls Tryd.prog 15 #[.int .i64 1, .string ⟨#[97]⟩] W fun e w' => e = .returned (.agg #[.int .i64 1, .string ⟨#[97]⟩]) ∧ Below W.heap.size W w' from r1)
  have R2 := Go.Lib.hid (show ∀ W, Calls Tryd.prog 15 #[.int .i64 1, .string ⟨#[97, 47, 98]⟩] W fun e w' => e = .returned (.agg #[.int .i64 1, .string ⟨#[97, 47, 98]⟩]) ∧ Below W.heap.size W w' from r2)
  have R3 := Go.Lib.hid (show ∀ W, Calls Tryd.prog 15 #[.int .i64 2, .string ⟨#[99]⟩] W fun e w' => e = .returned (.agg #[.int .i64 2, .string ⟨#[99]⟩]) ∧ Below W.heap.size W w' from r3)
  have R4 := Go.Lib.hid (show ∀ W, Calls Tryd.prog 15 #[.int .i64 2, .string ⟨#[97]⟩] W fun e w' => e = .returned (.agg #[.int .i64 2, .string ⟨#[97]⟩]) ∧ Below W.heap.size W w' from r4)
  have N1 := Go.Lib.hid n1; have N2 := Go.Lib.hid n2; have S1 := Go.Lib.hid s1
  clear r1 r2 r3 r4 n1 n2 s1
  go_enter Tryd.func8, Tryd.ntmps8
  go_wp2_with fail
  refine (R1.out _).mono ?_; rintro e w1 ⟨rfl, hb⟩
  have HB1 := Go.Lib.hid hb; clear hb
  go_wp2_with fail
  refine (R2.out _).mono ?_; rintro e w2 ⟨rfl, hb⟩
  have HB2 := Go.Lib.hid (bstep HB1.out hb); clear hb
  go_wp2_with fail
  refine (R3.out _).mono ?_; rintro e w3 ⟨rfl, hb⟩
  have HB3 := Go.Lib.hid (bstep HB2.out hb); clear hb
  go_wp2_with fail
  refine Calls.mono (N1.out _ _ (Ruls.lit w3 _ _ _ rfl _ _ rfl rfl)) ?_; rintro e w4 ⟨v4, rfl, hr, hb⟩
  have HB4 := Go.Lib.hid (bstep (HB3.out.alloc HB3.out.size _) hb); have HR4 := Go.Lib.hid hr; clear hb hr
  go_wp2_with fail
  refine (R1.out _).mono ?_; rintro e w5 ⟨rfl, hb⟩
  have HB5 := Go.Lib.hid (bstep HB4.out hb); have HR5 := Go.Lib.hid (HR4.out.below hb); clear hb
  go_wp2_with fail
  refine Calls.mono (S1.out _ _ _ (HR5.out.below ((Below.refl _ w5).alloc (Nat.le_refl _) _)) (Ruls.lit w5 _ _ _ rfl _ _ rfl rfl)) ?_; rintro e w6 ⟨rfl, hb⟩
  have HB6 := Go.Lib.hid (bstep (HB5.out.alloc HB5.out.size _) hb); clear hb
  go_wp2_with fail
  refine (R1.out _).mono ?_; rintro e w7 ⟨rfl, hb⟩
  have HB7 := Go.Lib.hid (bstep HB6.out hb); clear hb
  go_wp2_with fail
  refine (R4.out _).mono ?_; rintro e w8 ⟨rfl, hb⟩
  have HB8 := Go.Lib.hid (bstep HB7.out hb); clear hb
  go_wp2_with fail
  refine Calls.mono (N2.out _ _ (Ruls.lit w8 _ _ _ rfl _ _ rfl rfl)) ?_; rintro e w9 ⟨v9, rfl, hr, hb⟩
  obtain ⟨A9, c9, rfl, _⟩ := hr.len
  have HB9 := Go.Lib.hid (bstep (HB8.out.alloc HB8.out.size _) hb); clear hb hr
  go_wp2_with fail
  go_ret
  exact ⟨rfl, HB9.out⟩
end Go.Proofs.YtkohcibhefejfaaDoor.W
