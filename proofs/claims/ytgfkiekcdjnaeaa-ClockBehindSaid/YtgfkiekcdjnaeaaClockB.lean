/- The walk of the law that a next stamp is behind all that were seen. -/
import Derived.Test.YtgfkiekcdjnaeaaClockX
import Derived.Test.YtgfkiekcdjnaeaaCalm
namespace Go.Proofs.Ytgfkiekcdjnaeaa.W
set_option linter.unusedVariables false
open Go.RowKit Go.Proofs Arb

theorem topCount_ge (l : List St) : ∀ m : Int, m ≤ l.foldl (fun n s => max n s.count) m ∧ ∀ s ∈ l, s.count ≤ l.foldl (fun n s => max n s.count) m := by
  induction l with
  | nil => intro m; simp
  | cons a l ih =>
    intro m
    obtain ⟨h1, h2⟩ := ih (max m a.count)
    simp only [List.foldl_cons]
    refine ⟨by omega, fun s hs => ?_⟩
    rcases List.mem_cons.1 hs with rfl | hs
    · omega
    · exact h2 s hs
theorem next_cases (p : Int) (l : List St) : (nextSt p l = (⟨0, 0⟩, 1)) ∨ (nextSt p l = (⟨0, 0⟩, 21)) ∨
    (∃ t, nextSt p l = (⟨t, p⟩, 0) ∧ (⟨t, p⟩ : St).right = 0 ∧ ∀ s ∈ l, s.less ⟨t, p⟩ = true) := by
  unfold nextSt
  split
  · exact .inl rfl
  · split
    · exact .inr (.inl rfl)
    · obtain ⟨h0, h1⟩ := topCount_ge l 0
      refine .inr (.inr ⟨topCount l + 1, rfl, ?_, fun s hs => ?_⟩)
      · unfold St.right topCount at *
        rw [if_neg]
        simp only
        omega
      · have := h1 s hs
        unfold topCount
        simp only [St.less, decide_eq_true_eq]
        omega

set_option maxRecDepth 20000 in
set_option maxHeartbeats 2000000 in
theorem clockBehind_walk (p : Int) (_ : (Lit.int .i64 p).wf = true) (A : Option Addr) (n c : Nat) (ls : List St) (w : World) (hs : Sl w 2 A n c (ls.map stCells)) (_ : c * 16 ≤ 140737488351232) (_ : ∀ s ∈ ls, stWf s) (hn : ls.length = n) :
    Calls Try.prog 8 #[.int .i64 p, .slice A n c] w fun e w' => e = .returned (.bool true) ∧ Below w.heap.size w w' := by
  have hv := Stamps.of_sl hs
  have HS := Go.Lib.hid hs
  have HV := Go.Lib.hid hv; clear hv hs
  by_cases h1000 : 1000 < n
  · clear hn
    go_enter Try.func8, Try.ntmps8
    go_wp2_with fail
    refine (awake_any _).mono ?_; rintro e w1 ⟨rfl, hb1⟩
    have HB1 := Go.Lib.hid hb1; clear hb1
    go_wp2_with fail
    go_ret
    exact ⟨rfl, HB1.out⟩
  · have h1 := fun w h => pnext_any p (.slice A n c) ls w h (by omega)
    rcases next_cases p ls with hr | hr | ⟨t, hr, hright, hless⟩
    all_goals rw [hr] at h1
    case inr.inr =>
      have h1' : ∀ w, Stamps w (.slice A n c) ls → Calls Try.prog 17 #[.int .i64 p, .slice A n c] w fun e w' => e = .returned (.tuple #[.agg #[.int .i64 t, .int .i64 p], .int .i64 0]) ∧ Below w.heap.size w w' := h1
      have H1 := Go.Lib.hid h1'; clear h1 h1' hr
      have hright' := fun w => pright_any ⟨t, p⟩ w
      rw [hright] at hright'
      have hright'' : ∀ w, Calls Try.prog 12 #[.agg #[.int .i64 t, .int .i64 p]] w fun e w' => e = .returned (.int .i64 0) ∧ Below w.heap.size w w' := hright'
      have HR := Go.Lib.hid hright''; have HL := Go.Lib.hid hless; have HN := Go.Lib.hid hn
      clear hright' hright'' hless hright hn
      go_enter Try.func8, Try.ntmps8
      go_wp2_with fail
      refine (H1.out _ HV.out).mono ?_; rintro e w1 ⟨rfl, hb1⟩
      have HB1 := Go.Lib.hid hb1; clear hb1
      go_wp2_with fail
      obtain ⟨W2, hW2⟩ : ∃ W2, w1.alloc (.cells #[.int .i64 t, .int .i64 p] 23) = W2 := ⟨_, rfl⟩
      have hB2 : Below w.heap.size w W2 := by rw [← hW2]; exact HB1.out.alloc HB1.out.size _
      have e1 := heap_alloc_new w1 (.cells #[.int .i64 t, .int .i64 p] 23)
      have c0 : W2.cell? ⟨w1.heap.size, 0, none⟩ = some (.int .i64 t) := by rw [← hW2, cell_of_row _ _ _ _ _ _ e1]; rfl
      have c1 : W2.cell? ⟨w1.heap.size, 1, none⟩ = some (.int .i64 p) := by rw [← hW2, cell_of_row _ _ _ _ _ _ e1]; rfl
      have hl0 := World.block_lt_of_cell? W2 _ c0
      have hl1 := World.block_lt_of_cell? W2 _ c1
      rw [hW2]
      have HB2 := Go.Lib.hid hB2; clear hB2 e1 hW2
      have q0 := fun x : BW W2.heap.size W2 => x.cell c0 hl0
      have q1 := fun x : BW W2.heap.size W2 => x.cell c1 hl1
      have hne := BW.ne W2.heap.size W2
      go_loopw [7] (fun i wr => ∃ k : Nat, k ≤ n ∧ i = .int .i64 (k : Int) ∧ ∃ x : BW W2.heap.size W2, wr = x.w) (fun i _ => n - (intOf i).toNat)
      case atStart => exact ⟨0, by omega, rfl, ⟨W2, Below.refl _ _⟩, rfl⟩
      case round =>
        obtain ⟨k, hk, rfl, x, rfl⟩ := hrel
        by_cases hkn : k < n
        · have hsl := (HS.out.below HB2.out).2.2.2 (by omega)
          obtain ⟨b, off, rfl, hrow⟩ := hsl
          have hkl : k < ls.length := by have := HN.out; omega
          obtain ⟨⟨s1, s2⟩, hsk⟩ : ∃ s, ls[k] = s := ⟨_, rfl⟩
          have hles := HL.out ls[k] (List.getElem_mem hkl)
          rw [hsk] at hles
          have hpl := fun w => pless_any ⟨s1, s2⟩ ⟨t, p⟩ w
          rw [hles] at hpl
          have hpl' : ∀ w, Calls Try.prog 14 #[.agg #[.int .i64 s1, .int .i64 s2], .agg #[.int .i64 t, .int .i64 p]] w fun e w' => e = .returned (.bool true) ∧ Below w.heap.size w w' := hpl
          have hrk := (hrow k (stCells ⟨s1, s2⟩) (by rw [List.getElem?_map, List.getElem?_eq_getElem hkl, hsk]; rfl)).2
          have d0 : W2.cell? ⟨b, off + k * 2, none⟩ = some (.int .i64 s1) := hrk 0 _ rfl
          have d1 : W2.cell? ⟨b, off + k * 2 + 1, none⟩ = some (.int .i64 s2) := hrk 1 _ rfl
          have m0 := World.block_lt_of_cell? W2 _ d0
          have m1 := World.block_lt_of_cell? W2 _ d1
          have r0 := fun x : BW W2.heap.size W2 => x.cell d0 m0
          have r1 := fun x : BW W2.heap.size W2 => x.cell d1 m1
          have HPL := Go.Lib.hid hpl'
          clear hpl hpl' hles hrow hrk d0 d1
          have hkn' : (k : Int) < (n : Int) := by omega
          go_wp2_with fail
          refine wp_region_calm W2.heap.size W2 x.2 (by kernel_rfl) (by kernel_rfl) ?_
          repeat (go_big_quiet_step ((go_at_call 14; exact bw_of (Nat.le_refl _) (HPL.out _))))
          refine wpQuiet_nil ?_
          intro _ hw'
          obtain ⟨y, rfl⟩ := hw'
          go_wp2_with fail
          exact ⟨⟨k + 1, by omega, by simp, y, rfl⟩, by simp [intOf]; omega⟩
        · obtain rfl : k = n := by omega
          go_wp2_with (first | (go_at_call 12; refine (bw_of (Nat.le_refl _) (HR.out _)).mono ?_; rintro e _ ⟨rfl, x, rfl⟩) | (go_at_call 16; refine (bw_of (Nat.le_refl _) (awake_any _)).mono ?_; rintro e _ ⟨rfl, x, rfl⟩))
          go_ret
          exact ⟨rfl, bstep HB2.out x.2⟩
    case inl =>
      have h1' : ∀ w, Stamps w (.slice A n c) ls → Calls Try.prog 17 #[.int .i64 p, .slice A n c] w fun e w' => e = .returned (.tuple #[.agg #[.int .i64 0, .int .i64 0], .int .i64 1]) ∧ Below w.heap.size w w' := h1
      have H1 := Go.Lib.hid h1'; clear h1 h1' hr hn
      go_enter Try.func8, Try.ntmps8
      go_wp2_with fail
      refine (H1.out _ HV.out).mono ?_; rintro e w1 ⟨rfl, hb1⟩
      have HB1 := Go.Lib.hid hb1; clear hb1
      go_wp2_with fail
      refine (awake_any _).mono ?_; rintro e w3 ⟨rfl, hb3⟩
      have HB3 := Go.Lib.hid hb3; clear hb3
      go_wp2_with fail
      go_ret
      exact ⟨rfl, bstep (HB1.out.alloc HB1.out.size _) HB3.out⟩
    case inr.inl =>
      have h1' : ∀ w, Stamps w (.slice A n c) ls → Calls Try.prog 17 #[.int .i64 p, .slice A n c] w fun e w' => e = .returned (.tuple #[.agg #[.int .i64 0, .int .i64 0], .int .i64 21]) ∧ Below w.heap.size w w' := h1
      have H1 := Go.Lib.hid h1'; clear h1 h1' hr hn
      go_enter Try.func8, Try.ntmps8
      go_wp2_with fail
      refine (H1.out _ HV.out).mono ?_; rintro e w1 ⟨rfl, hb1⟩
      have HB1 := Go.Lib.hid hb1; clear hb1
      go_wp2_with fail
      refine (awake_any _).mono ?_; rintro e w3 ⟨rfl, hb3⟩
      have HB3 := Go.Lib.hid hb3; clear hb3
      go_wp2_with fail
      go_ret
      exact ⟨rfl, bstep (HB1.out.alloc HB1.out.size _) HB3.out⟩
end Go.Proofs.Ytgfkiekcdjnaeaa.W
