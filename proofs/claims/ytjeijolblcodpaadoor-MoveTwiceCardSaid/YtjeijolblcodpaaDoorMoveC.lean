/- The walk of MoveTwice. -/
import Derived.Test.YtjeijolblcodpaaDoorMg13
import Derived.Test.YtjeijolblcodpaaDoorMg11
namespace Go.Proofs.YtjeijolblcodpaaDoor.W
set_option maxRecDepth 20000
set_option linter.unusedVariables false
open Go.RowKit Go.Proofs Arb

/-- The blocks of a law's four stamps. -/
structure Four8 (V : World) (g : Nat) (a b : St) : Prop where
  a : V.heap[g]? = some (.cells #[.int .i64 a.count, .int .i64 a.who] 33 (0, 0))
  b : V.heap[g + 1]? = some (.cells #[.int .i64 b.count, .int .i64 b.who] 33 (0, 0))
theorem Four8.below {V V' : World} {g : Nat} {a b : St} (h : Four8 V g a b) (hb : Below V.heap.size V V') : Four8 V' g a b :=
  ⟨(hb.block _ (Array.getElem?_eq_some_iff.1 h.a).1).trans h.a, (hb.block _ (Array.getElem?_eq_some_iff.1 h.b).1).trans h.b⟩
theorem Four8.cells {V : World} {g : Nat} {a b : St} (h : Four8 V g a b) : V.cell? ⟨g, 0, none⟩ = some (.int .i64 a.count) ∧ V.cell? ⟨g, 1, none⟩ = some (.int .i64 a.who) ∧ V.cell? ⟨g + 1, 0, none⟩ = some (.int .i64 b.count) ∧ V.cell? ⟨g + 1, 1, none⟩ = some (.int .i64 b.who) :=
  ⟨by rw [cell_of_row _ _ _ _ _ _ h.a]; rfl, by rw [cell_of_row _ _ _ _ _ _ h.a]; rfl, by rw [cell_of_row _ _ _ _ _ _ h.b]; rfl, by rw [cell_of_row _ _ _ _ _ _ h.b]; rfl⟩
theorem Four8.below' {V V' : World} {g : Nat} {a b : St} (h : Four8 V g a b) (hb : Below V.heap.size V V') : Four8 V' g a b := h.below hb
theorem Four8.new (w : World) (a b : St) : Four8 ((w.alloc (.cells #[.int .i64 a.count, .int .i64 a.who] 33)).alloc (.cells #[.int .i64 b.count, .int .i64 b.who] 33)) w.heap.size a b := by
  have h1 := heap_alloc_new w (.cells #[.int .i64 a.count, .int .i64 a.who] 33)
  refine ⟨(Below.heap_alloc _ _ _ (Array.getElem?_eq_some_iff.1 h1).1).trans h1, ?_⟩
  have := heap_alloc_new (w.alloc (.cells #[.int .i64 a.count, .int .i64 a.who] 33)) (.cells #[.int .i64 b.count, .int .i64 b.who] 33)
  simpa using this

set_option maxRecDepth 20000 in
set_option maxHeartbeats 16000000 in
theorem moveTwice_walk (a : St) (wa : stWf a) (b : St) (wb : stWf b) (w : World) (hTM : Met w) :
    Calls Tryd.prog 6 #[.agg (stCells a).toArray, .agg (stCells b).toArray] w fun e w' => e = .returned (.bool true) ∧ Below w.heap.size w w' := by
  show Calls Tryd.prog 6 #[.agg #[.int .i64 a.count, .int .i64 a.who], .agg #[.int .i64 b.count, .int .i64 b.who]] w _
  have HTM := Go.Lib.hid hTM; clear hTM
  obtain ⟨W2, hW2⟩ : ∃ W, ((w.alloc (.cells #[.int .i64 a.count, .int .i64 a.who] 33)).alloc (.cells #[.int .i64 b.count, .int .i64 b.who] 33)) = W := ⟨_, rfl⟩
  have hb2 : Below w.heap.size w W2 := by rw [← hW2]; exact ((Below.refl _ _).alloc (Nat.le_refl _) _).alloc (by simp) _
  have hf2 : Four8 W2 w.heap.size a b := by rw [← hW2]; exact Four8.new w a b
  have hra := fun w => pright_any a w
  have hrb := fun w => pright_any b w
  simp only [stCells] at hra hrb
  obtain ⟨ra, hrae⟩ : ∃ r, a.right = r := ⟨_, rfl⟩
  obtain ⟨rb, hrbe⟩ : ∃ r, b.right = r := ⟨_, rfl⟩
  rw [hrae] at hra; rw [hrbe] at hrb
  have hq := fun w => eq_st a b w
  have HW2 := Go.Lib.hid hW2; have HB2 := Go.Lib.hid hb2; have HF2 := Go.Lib.hid hf2; have HRA := Go.Lib.hid hra; have HRB := Go.Lib.hid hrb
  clear hW2 hb2 hf2 hra hrb
  by_cases h1 : ra = 0
  · have hb1 : (ra != 0) = false := by simp [h1]
    by_cases h2 : rb = 0
    · have hb2 : (rb != 0) = false := by simp [h2]
      by_cases h3 : a = b
      · rw [decide_eq_true h3] at hq
        have H3 := Go.Lib.hid h3; clear h3 h1 h2 hrae hrbe
        go_enter Tryd.func6, Tryd.ntmps6
        go_wp2_with fail
        rw [HW2.out]
        obtain ⟨c0, c1, c2, c3⟩ := HF2.out.cells
        go_wp2_with fail
        refine (HRA.out _).mono ?_; rintro e w3 ⟨rfl, hbb⟩
        have HB3 := Go.Lib.hid (bstep HB2.out hbb); have HF3 := Go.Lib.hid (HF2.out.below hbb)
        clear c0 c1 c2 c3 hbb
        obtain ⟨c0, c1, c2, c3⟩ := HF3.out.cells
        go_wp2_with fail
        refine (HRB.out _).mono ?_; rintro e w4 ⟨rfl, hbb⟩
        have HB4 := Go.Lib.hid (bstep HB3.out hbb); have HF4 := Go.Lib.hid (HF3.out.below hbb)
        clear c0 c1 c2 c3 hbb
        obtain ⟨c0, c1, c2, c3⟩ := HF4.out.cells
        go_wp2_with fail
        refine (awake8_any _ (HTM.out.on HB4.out)).mono ?_; rintro e w5 ⟨rfl, hbb⟩
        have HB5 := Go.Lib.hid (bstep HB4.out hbb); clear hbb
        go_wp2_with fail
        go_ret
        exact ⟨rfl, HB5.out⟩
      · rw [decide_eq_false h3] at hq
        by_cases h4 : a.count < 3
        · have HX := Go.Lib.hid h3; clear h3 h1 h2 hrae hrbe
          go_enter Tryd.func6, Tryd.ntmps6
          go_wp2_with fail
          rw [HW2.out]
          obtain ⟨c0, c1, c2, c3⟩ := HF2.out.cells
          go_wp2_with fail
          refine (HRA.out _).mono ?_; rintro e w3 ⟨rfl, hbb⟩
          have HB3 := Go.Lib.hid (bstep HB2.out hbb); have HF3 := Go.Lib.hid (HF2.out.below hbb)
          clear c0 c1 c2 c3 hbb
          obtain ⟨c0, c1, c2, c3⟩ := HF3.out.cells
          go_wp2_with fail
          refine (HRB.out _).mono ?_; rintro e w4 ⟨rfl, hbb⟩
          have HB4 := Go.Lib.hid (bstep HB3.out hbb); have HF4 := Go.Lib.hid (HF3.out.below hbb)
          clear c0 c1 c2 c3 hbb
          obtain ⟨c0, c1, c2, c3⟩ := HF4.out.cells
          go_wp2_with fail
          refine (awake8_any _ (HTM.out.on HB4.out)).mono ?_; rintro e w5 ⟨rfl, hbb⟩
          have HB5 := Go.Lib.hid (bstep HB4.out hbb); clear hbb
          go_wp2_with fail
          go_ret
          exact ⟨rfl, HB5.out⟩
        · by_cases h5 : b.count < 3
          · have HX := Go.Lib.hid h3; clear h3 h1 h2 hrae hrbe
            go_enter Tryd.func6, Tryd.ntmps6
            go_wp2_with fail
            rw [HW2.out]
            obtain ⟨c0, c1, c2, c3⟩ := HF2.out.cells
            go_wp2_with fail
            refine (HRA.out _).mono ?_; rintro e w3 ⟨rfl, hbb⟩
            have HB3 := Go.Lib.hid (bstep HB2.out hbb); have HF3 := Go.Lib.hid (HF2.out.below hbb)
            clear c0 c1 c2 c3 hbb
            obtain ⟨c0, c1, c2, c3⟩ := HF3.out.cells
            go_wp2_with fail
            refine (HRB.out _).mono ?_; rintro e w4 ⟨rfl, hbb⟩
            have HB4 := Go.Lib.hid (bstep HB3.out hbb); have HF4 := Go.Lib.hid (HF3.out.below hbb)
            clear c0 c1 c2 c3 hbb
            obtain ⟨c0, c1, c2, c3⟩ := HF4.out.cells
            go_wp2_with fail
            refine (awake8_any _ (HTM.out.on HB4.out)).mono ?_; rintro e w5 ⟨rfl, hbb⟩
            have HB5 := Go.Lib.hid (bstep HB4.out hbb); clear hbb
            go_wp2_with fail
            go_ret
            exact ⟨rfl, HB5.out⟩
          · have hnod := tw_nodes a b (by rw [hrae, h1]) (by rw [hrbe, h2]) h3 (by omega) (by omega)
            have hl2 := fun w => pless_any a b w
            simp only [stCells] at hl2
            obtain ⟨ls, hls⟩ : ∃ r, a.less b = r := ⟨_, rfl⟩
            rw [hls] at hnod hl2
            have hwx : opWf twx := ⟨⟨rfl, rfl⟩, rfl, rfl, ⟨rfl, rfl⟩, ⟨rfl, rfl⟩, by decide, by decide⟩
            have hwy : opWf twy := ⟨⟨rfl, rfl⟩, rfl, rfl, ⟨rfl, rfl⟩, ⟨rfl, rfl⟩, by decide, by decide⟩
            have hw1 : opWf (tw1 a) := ⟨wa, rfl, rfl, ⟨rfl, rfl⟩, ⟨rfl, rfl⟩, by simp [tw1], by simp [tw1]⟩
            have hw2 : opWf (tw2 b) := ⟨wb, rfl, rfl, ⟨rfl, rfl⟩, ⟨rfl, rfl⟩, by simp [tw2], by simp [tw2]⟩
            have i1 : ∀ W V g F l n, Met W → Mine W V g F l n → Calls Tryd.prog 12 #[.pointer (some ⟨g, 0, none⟩), .agg #[.int .i64 a.count, .int .i64 a.who, .int .i64 0, .int .i64 2, .int .i64 1, .int .i64 0, .bool false, .int .i64 2, .int .i64 0, .string ⟨#[120]⟩, .string ⟨#[]⟩]] V fun e w' => e = .returned (.int .i64 (mvErr l (tw1 a))) ∧ ∃ F', Mine W w' g F' (mvAdd l (tw1 a)) (mvRedo l (tw1 a) n) := fun W V g F l n hT h => mine_insert h (tw1 a) hw1 hT
            have i2 : ∀ W V g F l n, Met W → Mine W V g F l n → Calls Tryd.prog 12 #[.pointer (some ⟨g, 0, none⟩), .agg #[.int .i64 b.count, .int .i64 b.who, .int .i64 0, .int .i64 2, .int .i64 2, .int .i64 0, .bool false, .int .i64 1, .int .i64 0, .string ⟨#[121]⟩, .string ⟨#[]⟩]] V fun e w' => e = .returned (.int .i64 (mvErr l (tw2 b))) ∧ ∃ F', Mine W w' g F' (mvAdd l (tw2 b)) (mvRedo l (tw2 b) n) := fun W V g F l n hT h => mine_insert h (tw2 b) hw2 hT
            have i3 : ∀ W V g F l n, Met W → Mine W V g F l n → Calls Tryd.prog 12 #[.pointer (some ⟨g, 0, none⟩), .agg #[.int .i64 1, .int .i64 0, .int .i64 0, .int .i64 1, .int .i64 1, .int .i64 0, .bool true, .int .i64 0, .int .i64 0, .string ⟨#[120]⟩, .string ⟨#[]⟩]] V fun e w' => e = .returned (.int .i64 (mvErr l twx)) ∧ ∃ F', Mine W w' g F' (mvAdd l twx) (mvRedo l twx n) := fun W V g F l n hT h => mine_insert h twx hwx hT
            have i4 : ∀ W V g F l n, Met W → Mine W V g F l n → Calls Tryd.prog 12 #[.pointer (some ⟨g, 0, none⟩), .agg #[.int .i64 2, .int .i64 0, .int .i64 0, .int .i64 1, .int .i64 2, .int .i64 0, .bool true, .int .i64 0, .int .i64 0, .string ⟨#[121]⟩, .string ⟨#[]⟩]] V fun e w' => e = .returned (.int .i64 (mvErr l twy)) ∧ ∃ F', Mine W w' g F' (mvAdd l twy) (mvRedo l twy n) := fun W V g F l n hT h => mine_insert h twy hwy hT
            have hno : ∀ W V g F n, Met W → Mine W V g F (mvAdd (mvAdd (mvAdd (mvAdd [] (tw1 a)) (tw2 b)) twx) twy) n → Calls Tryd.prog 18 #[.pointer (some ⟨g, 0, none⟩)] V fun e w' => ∃ h off c, e = .returned (.slice (some ⟨h, off, none⟩) 2 c) ∧ 2 ≤ c ∧ w'.cell? ⟨h, off + 3, none⟩ = some (.int .i64 (if ls = true then 2 else 0)) ∧ w'.cell? ⟨h, off + 4, none⟩ = some (.int .i64 0) ∧ w'.cell? ⟨h, off + 7 + 3, none⟩ = some (.int .i64 (if ls = true then 0 else 1)) ∧ w'.cell? ⟨h, off + 7 + 4, none⟩ = some (.int .i64 0) ∧ Below W.heap.size W w' := fun W V g F n hT hm =>
              (mine_nodes hm hT).mono fun e w' ⟨v, F', he, hn, hs, _, _⟩ => by
                rw [hnod] at hn
                cases ls
                · obtain ⟨h, off, c, rfl, hc, hat⟩ := hn.form (by decide)
                  have b1 := hat 0 _ rfl
                  have b2 := hat 1 _ rfl
                  exact ⟨h, off, c, he, hc, (nd_cells b1).2.2.2.1, (nd_cells b1).2.2.2.2.1, (nd_cells b2).2.2.2.1, (nd_cells b2).2.2.2.2.1, hs.bel⟩
                · obtain ⟨h, off, c, rfl, hc, hat⟩ := hn.form (by decide)
                  have b1 := hat 0 _ rfl
                  have b2 := hat 1 _ rfl
                  exact ⟨h, off, c, he, hc, (nd_cells b1).2.2.2.1, (nd_cells b1).2.2.2.2.1, (nd_cells b2).2.2.2.1, (nd_cells b2).2.2.2.2.1, hs.bel⟩
            have I1 := Go.Lib.hid i1; have I2 := Go.Lib.hid i2; have I3 := Go.Lib.hid i3; have I4 := Go.Lib.hid i4; have HNO := Go.Lib.hid hno; have HL2 := Go.Lib.hid hl2
            have HX := Go.Lib.hid h3
            have q1 := fun w => eq_st ⟨2, 0⟩ ⟨2, 0⟩ w
            have q2 := fun w => eq_st ⟨0, 0⟩ ⟨0, 0⟩ w
            have q3 := fun w => eq_st ⟨1, 0⟩ ⟨1, 0⟩ w
            rw [decide_eq_true rfl] at q1 q2 q3
            clear i1 i2 i3 i4 hno hl2 hnod hls hwx hwy hw1 hw2 h3 h1 h2 hrae hrbe
            go_enter Tryd.func6, Tryd.ntmps6
            go_wp2_with fail
            rw [HW2.out]
            obtain ⟨c0, c1, c2, c3⟩ := HF2.out.cells
            go_wp2_with fail
            refine (HRA.out _).mono ?_; rintro e w3 ⟨rfl, hbb⟩
            have HB3 := Go.Lib.hid (bstep HB2.out hbb); have HF3 := Go.Lib.hid (HF2.out.below hbb)
            clear c0 c1 c2 c3 hbb
            obtain ⟨c0, c1, c2, c3⟩ := HF3.out.cells
            go_wp2_with fail
            refine (HRB.out _).mono ?_; rintro e w4 ⟨rfl, hbb⟩
            have HB4 := Go.Lib.hid (bstep HB3.out hbb); have HF4 := Go.Lib.hid (HF3.out.below hbb)
            clear c0 c1 c2 c3 hbb
            obtain ⟨c0, c1, c2, c3⟩ := HF4.out.cells
            -- the two blocks of the law's own stamps
            obtain ⟨W5, hW5⟩ : ∃ W, ((w4.alloc (.cells #[.int .i64 1, .int .i64 0] 33)).alloc (.cells #[.int .i64 2, .int .i64 0] 33)) = W := ⟨_, rfl⟩
            have hb45 : Below w4.heap.size w4 W5 := by rw [← hW5]; exact ((Below.refl _ _).alloc (Nat.le_refl _) _).alloc (by simp) _
            have hg5 : Four8 W5 w4.heap.size ⟨1, 0⟩ ⟨2, 0⟩ := by rw [← hW5]; exact Four8.new w4 ⟨1, 0⟩ ⟨2, 0⟩
            have hf5 := HF4.out.below hb45
            have hb5 := bstep HB4.out hb45
            have hT5 := HTM.out.on hb5
            obtain ⟨g5, hg5e⟩ : ∃ g, w4.heap.size = g := ⟨_, rfl⟩
            rw [hg5e] at hg5
            have HW5 := Go.Lib.hid hW5; have HF5 := Go.Lib.hid hf5; have HG5 := Go.Lib.hid hg5; have HB5 := Go.Lib.hid hb5; have HT5 := Go.Lib.hid hT5
            clear hW5 hb45 hg5 hf5 hb5 hT5
            go_wp2_with fail
            rw [HW5.out]
            try rw [hg5e]
            refine (mine_new HT5.out).mono ?_; rintro e V1 ⟨g, F1, rfl, hm⟩
            have HM1 := Go.Lib.hid hm; have hfx := HF5.out.below' hm.bel; have hgx := HG5.out.below' hm.bel
            clear c0 c1 c2 c3 hm
            obtain ⟨c0, c1, c2, c3⟩ := hfx.cells
            obtain ⟨d0, d1, d2, d3⟩ := hgx.cells
            clear hfx hgx
            go_wp2_with fail
            refine (I1.out _ _ _ _ _ _ HT5.out HM1.out).mono ?_; rintro e V2 ⟨rfl, F2, hm⟩
            have HM2 := Go.Lib.hid hm; have hfx := HF5.out.below' hm.bel; have hgx := HG5.out.below' hm.bel
            clear c0 c1 c2 c3 d0 d1 d2 d3 hm
            obtain ⟨c0, c1, c2, c3⟩ := hfx.cells
            obtain ⟨d0, d1, d2, d3⟩ := hgx.cells
            clear hfx hgx
            go_wp2_with fail
            refine (I2.out _ _ _ _ _ _ HT5.out HM2.out).mono ?_; rintro e V3 ⟨rfl, F3, hm⟩
            have HM3 := Go.Lib.hid hm; have hfx := HF5.out.below' hm.bel; have hgx := HG5.out.below' hm.bel
            clear c0 c1 c2 c3 d0 d1 d2 d3 hm
            obtain ⟨c0, c1, c2, c3⟩ := hfx.cells
            obtain ⟨d0, d1, d2, d3⟩ := hgx.cells
            clear hfx hgx
            go_wp2_with fail
            refine (I3.out _ _ _ _ _ _ HT5.out HM3.out).mono ?_; rintro e V4 ⟨rfl, F4, hm⟩
            have HM4 := Go.Lib.hid hm; have hfx := HF5.out.below' hm.bel; have hgx := HG5.out.below' hm.bel
            clear c0 c1 c2 c3 d0 d1 d2 d3 hm
            obtain ⟨c0, c1, c2, c3⟩ := hfx.cells
            obtain ⟨d0, d1, d2, d3⟩ := hgx.cells
            clear hfx hgx
            go_wp2_with fail
            refine (I4.out _ _ _ _ _ _ HT5.out HM4.out).mono ?_; rintro e V5 ⟨rfl, F5, hm⟩
            have HM5 := Go.Lib.hid hm; have hfx := HF5.out.below' hm.bel; have hgx := HG5.out.below' hm.bel
            clear c0 c1 c2 c3 d0 d1 d2 d3 hm
            obtain ⟨c0, c1, c2, c3⟩ := hfx.cells
            obtain ⟨d0, d1, d2, d3⟩ := hgx.cells
            clear hfx hgx
            go_wp2_with fail
            refine (HNO.out _ _ _ _ _ HT5.out HM5.out).mono ?_; rintro e V6 ⟨hh, off, cc, rfl, hcc, n3, n4, m3, m4, hbb⟩
            have HB6 := Go.Lib.hid hbb; have hfx := HF5.out.below' hbb; have hgx := HG5.out.below' hbb
            clear c0 c1 c2 c3 d0 d1 d2 d3 hbb
            obtain ⟨c0, c1, c2, c3⟩ := hfx.cells
            obtain ⟨d0, d1, d2, d3⟩ := hgx.cells
            have HGX := Go.Lib.hid hgx
            clear hfx hgx
            go_wp2_with fail
            refine (HL2.out _).mono ?_; rintro e V7 ⟨rfl, hbb⟩
            have l3 := World.block_lt_of_cell? V6 _ n3
            have n3' := (hbb.cell (p := ⟨hh, off + 3, none⟩) l3).trans n3
            have n4' := (hbb.cell (p := ⟨hh, off + 4, none⟩) l3).trans n4
            have m3' := (hbb.cell (p := ⟨hh, off + 7 + 3, none⟩) l3).trans m3
            have m4' := (hbb.cell (p := ⟨hh, off + 7 + 4, none⟩) l3).trans m4
            have l3' := World.block_lt_of_cell? V7 _ n3'
            have HB7 := Go.Lib.hid (bstep HB5.out (bstep HB6.out hbb))
            have hgx := HGX.out.below hbb
            have lg := (Array.getElem?_eq_some_iff.1 hgx.a).1
            have lg1 := (Array.getElem?_eq_some_iff.1 hgx.b).1
            clear c0 c1 c2 c3 d0 d1 d2 d3 n3 n4 m3 m4 hbb l3
            obtain ⟨d0, d1, d2, d3⟩ := hgx.cells
            clear hgx
            have hne := BW.ne V7.heap.size V7
            have p0 := fun z : BW V7.heap.size V7 => z.cell n3' l3'
            have p1 := fun z : BW V7.heap.size V7 => z.cell n4' l3'
            have p2 := fun z : BW V7.heap.size V7 => z.cell m3' l3'
            have p3 := fun z : BW V7.heap.size V7 => z.cell m4' l3'
            have p4 := fun z : BW V7.heap.size V7 => z.cell d0 lg
            have p5 := fun z : BW V7.heap.size V7 => z.cell d1 lg
            have p6 := fun z : BW V7.heap.size V7 => z.cell d2 lg1
            have p7 := fun z : BW V7.heap.size V7 => z.cell d3 lg1
            have haw : ∀ z : BW V7.heap.size V7, Calls Tryd.prog 11 #[] z.w fun e w' => e = .returned (.bool true) ∧ Below z.w.heap.size z.w w' := fun z => awake8_any z.w (HTM.out.on (bstep HB7.out z.2))
            have HAW := Go.Lib.hid haw; clear haw
            cases ls
            · simp only [if_neg (show ¬ (false = true) from nofun)] at p0 p2 n3' m3'
              go_wp2_with fail
              refine wp_region_calm V7.heap.size V7 (Below.refl _ _) (by kernel_rfl) (by kernel_rfl) ?_
              repeat (go_big_quiet_step ((go_at_call 11; with_reducible exact bw_of (Nat.le_refl _) (HAW.out _))))
              refine wpQuiet_nil ?_
              intro _ hw'
              obtain ⟨z, rfl⟩ := hw'
              go_wp2_with fail
              go_ret
              exact ⟨rfl, bstep HB7.out z.2⟩
            · simp only at p0 p2 n3' m3'
              go_wp2_with fail
              refine wp_region_calm V7.heap.size V7 (Below.refl _ _) (by kernel_rfl) (by kernel_rfl) ?_
              repeat (go_big_quiet_step ((go_at_call 11; with_reducible exact bw_of (Nat.le_refl _) (HAW.out _))))
              refine wpQuiet_nil ?_
              intro _ hw'
              obtain ⟨z, rfl⟩ := hw'
              go_wp2_with fail
              go_ret
              exact ⟨rfl, bstep HB7.out z.2⟩
    · have hb2 : (rb != 0) = true := by simp [h2]
      clear h1 h2 hrae hrbe hq
      go_enter Tryd.func6, Tryd.ntmps6
      go_wp2_with fail
      rw [HW2.out]
      obtain ⟨c0, c1, c2, c3⟩ := HF2.out.cells
      go_wp2_with fail
      refine (HRA.out _).mono ?_; rintro e w3 ⟨rfl, hbb⟩
      have HB3 := Go.Lib.hid (bstep HB2.out hbb); have HF3 := Go.Lib.hid (HF2.out.below hbb)
      clear c0 c1 c2 c3 hbb
      obtain ⟨c0, c1, c2, c3⟩ := HF3.out.cells
      go_wp2_with fail
      refine (HRB.out _).mono ?_; rintro e w4 ⟨rfl, hbb⟩
      have HB4 := Go.Lib.hid (bstep HB3.out hbb); have HF4 := Go.Lib.hid (HF3.out.below hbb)
      clear c0 c1 c2 c3 hbb
      obtain ⟨c0, c1, c2, c3⟩ := HF4.out.cells
      go_wp2_with fail
      refine (awake8_any _ (HTM.out.on HB4.out)).mono ?_; rintro e w5 ⟨rfl, hbb⟩
      have HB5 := Go.Lib.hid (bstep HB4.out hbb); clear hbb
      go_wp2_with fail
      go_ret
      exact ⟨rfl, HB5.out⟩
  · have hb1 : (ra != 0) = true := by simp [h1]
    clear h1 hrae hrbe hq
    go_enter Tryd.func6, Tryd.ntmps6
    go_wp2_with fail
    rw [HW2.out]
    obtain ⟨c0, c1, c2, c3⟩ := HF2.out.cells
    go_wp2_with fail
    refine (HRA.out _).mono ?_; rintro e w3 ⟨rfl, hbb⟩
    have HB3 := Go.Lib.hid (bstep HB2.out hbb); have HF3 := Go.Lib.hid (HF2.out.below hbb)
    clear c0 c1 c2 c3 hbb
    obtain ⟨c0, c1, c2, c3⟩ := HF3.out.cells
    go_wp2_with fail
    refine (awake8_any _ (HTM.out.on HB3.out)).mono ?_; rintro e w5 ⟨rfl, hbb⟩
    have HB5 := Go.Lib.hid (bstep HB3.out hbb); clear hbb
    go_wp2_with fail
    go_ret
    exact ⟨rfl, HB5.out⟩
end Go.Proofs.YtjeijolblcodpaaDoor.W
