/- The program's filters: Parse, where it goes through the lines. -/
import Derived.Test.YthjdccocfmicdaaDoorGlobPI
namespace Go.Proofs.YthjdccocfmicdaaDoor.W
set_option maxRecDepth 100000
set_option linter.unusedVariables false
open Go.RowKit Go.Proofs Arb Go.Shelf
attribute [local go_sem] Oper.semAt_some

theorem row_cells {w : World} {base : Nat} {e : TypeId} {size : Nat} {v : Value} {n : Nat} {xs : List Value} (h : Row w base e size v n xs) : ∀ j, v.ownBlock = some j → ∃ cs t fr, w.heap[j]? = some (.cells cs t fr) := by
  rcases h.2 with ⟨rfl, _⟩ | ⟨g, cap, cur, fz, rfl, h1, h2, _⟩
  · intro j e; cases e
  · intro j e
    have : g = j := Option.some.inj e
    subst this
    exact ⟨_, _, _, h2⟩
theorem keeps_cells {b : Nat} {A B : World} {row : Option Nat} (hg : A.grownBy B row) (hr : ∀ j, row = some j → ∃ cs t fr, A.heap[j]? = some (.cells cs t fr)) : KeepsFrom b A B :=
  ⟨hg.size, fun k o _ hk ho => (hg.block k (Array.getElem?_eq_some_iff.1 hk).1 fun e => by
    obtain ⟨cs, t, fr, h⟩ := hr k e.symm
    rw [h] at hk
    cases hk
    cases ho).trans hk⟩
theorem row_slice {w : World} {base : Nat} {e : TypeId} {size : Nat} {v : Value} {n : Nat} {xs : List Value} (h : Row w base e size v n xs) : ∃ A k c, v = .slice A k c := by
  rcases h.2 with ⟨h, _⟩ | ⟨g, cap, _, _, h, _⟩
  · exact ⟨_, _, _, h⟩
  · exact ⟨_, _, _, h⟩

set_option maxHeartbeats 8000000 in
theorem pparse_lines (t : List UInt8) (w : World) (hl : t.length ≤ 100000) (hne : t ≠ []) (h0 : t = [] ∨ t.getLast? = some 10) (h16 : ¬ 16 < t.count 10) :
    Calls Tryd.prog 12 #[.string (BS t)] w fun e w' => ∃ v, e = .returned (.tuple #[v, .int .i64 (parseOf t).2]) ∧ Ruls w' v (parseOf t).1 ∧ Below w.heap.size w w' := by
  have hres := parse_lns t
  have hq0 := BS_beq t []
  rw [decide_eq_false hne] at hq0
  have hs := fun W => callsIn_wide (n := 8) |>.2 (psuffix_any t W hl)
  rw [decide_eq_true (h0.resolve_left hne)] at hs
  have HS := Go.Lib.hid hs
  clear hs
  rw [if_neg (by rintro ⟨a, b⟩; rcases h0 with h | h; exact a h; exact b h), if_neg h16] at hres
  have hc := fun W => callsIn_wide (n := 8) |>.2 (pcount_any 10 t W)
  have hli := fun W => callsIn_wide (n := 8) |>.2 (plines_any t W)
  have hlc := lns_count h0
  obtain ⟨n, hn⟩ : ∃ n, (t : List UInt8).count 10 = n := ⟨_, rfl⟩
  rw [hn] at hc h16 hlc
  have h16' : decide ((16 : Int) < (n : Int)) = false := decide_eq_false (by omega)
  obtain ⟨r, hr⟩ : ∃ r, parseOf t = r := ⟨_, rfl⟩
  rw [hr] at hres ⊢
  have HC := Go.Lib.hid hc; have HLI := Go.Lib.hid hli; have HRES := Go.Lib.hid hres; have HLC := Go.Lib.hid hlc; have H0 := Go.Lib.hid h0
  clear hc hli hres hr hn hlc h0
  have hG2 : Fence.wide.fn 45 := trivial
  have hro : Fence.wide.round = none := rfl
  have h1 : 1 ≤ 9 := by omega
  refine (callsIn_wide (n := 9)).1 ?_
  refine callsIn_of_wp_marks Tryd.func12 rfl trivial ?_ hro
  simp only [Tryd.ntmps12, List.size_toArray, List.length_cons, List.length_nil, Nat.reduceAdd, Nat.reduceSub, Array.replicate_succ, Array.replicate_zero, List.push_toArray, List.append_toArray, List.nil_append, List.cons_append]
  gi_wp2
  refine ⟨trivial, (HS.out _).mono ?_⟩; rintro e w1 ⟨rfl, hw1⟩
  rw [hw1]
  clear hw1 w1
  gi_wp2
  refine ⟨trivial, (HC.out _).mono ?_⟩; rintro e w1 ⟨rfl, hw1⟩
  rw [hw1]
  clear hw1 w1
  gi_wp2
  refine ⟨trivial, (HLI.out _).mono ?_⟩; rintro e w1 ⟨rfl, hw1⟩
  have hhr : w1.heap[w.heap.size]? = some (.cells #[.slice none 0 0] 23 (0, 0)) := by rw [hw1]; exact (Below.heap_alloc _ _ _ (by simp; omega)).trans ((Below.heap_alloc _ _ _ (by simp; omega)).trans ((Below.heap_alloc _ _ _ (by simp)).trans (heap_alloc_new w _)))
  have hhe : w1.heap[w.heap.size + 1]? = some (.cells #[.int .i64 0] 24 (0, 0)) := by
    rw [hw1]
    have h2 := heap_alloc_new (w.alloc (.cells #[.slice none 0 0] 23)) (.cells #[.int .i64 0] 24)
    rw [World.size_alloc] at h2
    exact (Below.heap_alloc _ _ _ (by simp)).trans ((Below.heap_alloc _ _ _ (by simp)).trans h2)
  have hhv : w1.heap[w.heap.size + 2]? = some (.cells #[.slice none 0 0] 23 (0, 0)) := by
    rw [hw1]
    have h2 := heap_alloc_new ((w.alloc (.cells #[.slice none 0 0] 23)).alloc (.cells #[.int .i64 0] 24)) (.cells #[.slice none 0 0] 23)
    rw [World.size_alloc, World.size_alloc] at h2
    exact (Below.heap_alloc _ _ _ (by simp)).trans h2
  have hht : w1.heap[w.heap.size + 3]? = some (.cells #[.string (BS t)] 9 (0, 0)) := by
    rw [hw1]
    have h2 := heap_alloc_new (((w.alloc (.cells #[.slice none 0 0] 23)).alloc (.cells #[.int .i64 0] 24)).alloc (.cells #[.slice none 0 0] 23)) (.cells #[.string (BS t)] 9)
    rw [World.size_alloc, World.size_alloc, World.size_alloc] at h2
    exact h2
  have hb1 : Below w.heap.size w w1 := by rw [hw1]; exact ((((Below.refl _ w).alloc (Nat.le_refl _) _).alloc (by simp) _).alloc (by simp; omega) _).alloc (by simp; omega) _
  have hs1 : w1.heap.size = w.heap.size + 4 := by rw [hw1]; simp
  have hsz : (w.alloc (.cells #[.slice none 0 0] 23)).heap.size = w.heap.size + 1 := by simp
  have hsz2 : ((w.alloc (.cells #[.slice none 0 0] 23)).alloc (.cells #[.int .i64 0] 24)).heap.size = w.heap.size + 2 := by simp
  have hsz3 : (((w.alloc (.cells #[.slice none 0 0] 23)).alloc (.cells #[.int .i64 0] 24)).alloc (.cells #[.slice none 0 0] 23)).heap.size = w.heap.size + 3 := by simp
  have cT : w1.cell? ⟨w.heap.size + 3, 0, none⟩ = some (.string (BS t)) := (one_cell hht).1
  have hI0 : ParIn w [] w1 := ⟨hb1, hhr, hhe, .slice none 0 0, [], hhv, Row.nil _ _ _ _, rfl⟩
  clear hw1 hhr hhe hhv hht
  gi_wp2
  refine wpIn_rangeFunc_ownH hro h1 (gf := 45) (lb := #[.pointer (some ⟨w.heap.size + 3, 0, none⟩)]) (by first | rfl | simp) hG2 (enters_of Tryd.func45 (by kernel_rfl) rfl)
    (plines_stops (w.heap.size + 3) t H0.out hl w1 (by omega) cT) (fun _ _ => trivial) (fun _ _ _ _ _ _ _ _ => trivial) (Below.refl _ _) (fun _ => rfl)
    (ParIn w) (ParOut w) (ParIn.own w _ (by omega)) (fun c => ParOut.own w _ (by omega) c) hI0
    (fun x a' W => a' = { tmps := #[.string (BS t), undef, .pointer (some ⟨w.heap.size, 0, none⟩), .pointer (some ⟨w.heap.size + 1, 0, none⟩), .pointer (some ⟨w.heap.size + 2, 0, none⟩), .string (BS x.1), undef, undef, .string (BS t), .bool true, .bool true, .string (BS t), .bool true, .bool false, .bool false, .string (BS t), .int .i64 (n : Int), .bool false, .string (BS t), .func (.func 45) #[] #[.pointer (some ⟨w.heap.size + 3, 0, none⟩)], .string (BS x.1), undef, undef, undef, undef, undef, undef, undef, undef, undef, undef, undef, undef], defers := [] })
    ?hAx ?assign ?body ?done ?stop
  case hAx => exact fun x a' s A B row hs _ _ => hs
  case assign =>
    rintro l pre x W K hI hK
    gi_wp2
    exact hK _ _ (KeepsFrom.refl _ _) trivial hI (by first | rfl | simp)
  case body =>
    rintro l pre x a' W hlB hlo hI rfl hlen
    obtain ⟨hbW, hR, hE, v, rl, hV, hrow, hrl⟩ := hI
    obtain ⟨A5, n5, c5, rfl⟩ := row_slice hrow
    have hli := fun W => pline_any x.1 W x.2
    have hsn := rulesAt_snoc9 hrl x.1
    have hlr : rl.length ≤ 16 := by
      have e1 := rulesAt_len hrl
      have e2 := HLC.out
      rw [List.length_map] at e1
      omega
    have hlr2 : lineRes x.1 = (match ruleAt x.1 with | none => (⟨0, []⟩, false) | some y => (y, true)) := rfl
    cases hra : ruleAt x.1 with
    | none =>
      rw [hra] at hsn hlr2
      rw [hlr2] at hli
      have hli2 : ∀ W, Calls Tryd.prog 27 #[.string (BS x.1)] W fun e w' => e = .returned (.tuple #[.agg #[.int .i64 0, .string ⟨#[]⟩], .bool false]) ∧ Below W.heap.size W w' := hli
      have HLN := Go.Lib.hid hli2; have HSN := Go.Lib.hid hsn
      clear hli hli2 hsn hra hrow
      gi_wp2
      refine ⟨trivial, (CallsIn.inRound l (callsIn_wide (n := 6) |>.2 (HLN.out _))).mono ?_⟩; rintro e w3 ⟨rfl, hb3⟩
      have hR3 := (hb3.block _ (Array.getElem?_eq_some_iff.1 hR).1).trans hR
      have hE3 := (hb3.block _ (Array.getElem?_eq_some_iff.1 hE).1).trans hE
      have hbw3 := hbW.trans (hb3.mono hbW.size)
      have hs0 : w3.setCell ⟨w.heap.size, 0, none⟩ (.slice none 0 0) = w3 := setCell_same hR3 rfl
      obtain ⟨cR, fR⟩ := one_cell ((Below.heap_alloc w3 (.cells #[.int .i64 0, .string ⟨#[]⟩] 37) _ (Array.getElem?_eq_some_iff.1 hR3).1).trans hR3)
      obtain ⟨cE, fE⟩ := one_cell ((Below.heap_alloc w3 (.cells #[.int .i64 0, .string ⟨#[]⟩] 37) _ (Array.getElem?_eq_some_iff.1 hE3).1).trans hE3)
      have hR4 := (Below.heap_alloc w3 (.cells #[.int .i64 0, .string ⟨#[]⟩] 37) _ (Array.getElem?_eq_some_iff.1 hR3).1).trans hR3
      have hE4 := (Below.heap_alloc w3 (.cells #[.int .i64 0, .string ⟨#[]⟩] 37) _ (Array.getElem?_eq_some_iff.1 hE3).1).trans hE3
      have hk4 : KeepsFrom w1.heap.size W (w3.alloc (.cells #[.int .i64 0, .string ⟨#[]⟩] 37)) := (KeepsFrom.of_grownBy (grown_of_below hb3) (by simp)).trans (KeepsFrom.of_grownBy (World.grownBy_alloc w3 _ none) (by simp))
      have hb4 := hbw3.alloc hbw3.size (.cells #[.int .i64 0, .string ⟨#[]⟩] 37)
      obtain ⟨W4, hW4⟩ : ∃ W4, w3.alloc (.cells #[.int .i64 0, .string ⟨#[]⟩] 37) = W4 := ⟨_, rfl⟩
      rw [hW4] at hR4 hE4 hk4 hb4
      have HF := Go.Lib.hid (And.intro hR4 (And.intro hE4 (And.intro hk4 hb4)))
      have HW4 := Go.Lib.hid hW4
      clear hR4 hE4 hk4 hb4 hW4 hR3 hE3 hR hE hV hbw3 hb3 hbW hs0
      gi_wp2
      rw [HW4.out]
      obtain ⟨hR4, hE4, hk4, hb4⟩ := HF.out
      exact ⟨(hk4.trans (KeepsFrom.of_grownBy (grownBy_setCell' _ _ _) (fun j e => by injection e with e; omega))).trans (KeepsFrom.of_grownBy (grownBy_setCell' _ _ _) (fun j e => by injection e with e; omega)), rfl,
        by rw [List.map_append]; exact HSN.out, (hb4.setCell (p := ⟨w.heap.size, 0, none⟩) (Nat.le_refl _) _).setCell (p := ⟨w.heap.size + 1, 0, none⟩) (Nat.le_succ _) _,
        (Below.heap_setCell _ _ _ _ (by show w.heap.size ≠ w.heap.size + 1; omega)).trans (one_set hR4), one_set ((Below.heap_setCell _ _ _ _ (by show w.heap.size + 1 ≠ w.heap.size; omega)).trans hE4)⟩
    | some y =>
      rw [hra] at hsn hlr2
      rw [hlr2] at hli
      have hli2 : ∀ W, Calls Tryd.prog 27 #[.string (BS x.1)] W fun e w' => e = .returned (.tuple #[.agg #[.int .i64 y.kind, .string (BS y.text)], .bool true]) ∧ Below W.heap.size W w' := hli
      have HLN := Go.Lib.hid hli2; have HSN := Go.Lib.hid hsn
      clear hli hli2 hsn hra
      gi_wp2
      refine ⟨trivial, (CallsIn.inRound l (callsIn_wide (n := 6) |>.2 (HLN.out _))).mono ?_⟩; rintro e w3 ⟨rfl, hb3⟩
      have hR3 := (hb3.block _ (Array.getElem?_eq_some_iff.1 hR).1).trans hR
      have hE3 := (hb3.block _ (Array.getElem?_eq_some_iff.1 hE).1).trans hE
      have hV3 := (hb3.block _ (Array.getElem?_eq_some_iff.1 hV).1).trans hV
      have hrow3 := hrow.below hb3
      have hbw3 := hbW.trans (hb3.mono hbW.size)
      have hRl := (Array.getElem?_eq_some_iff.1 hV3).1
      have hV4 := (Below.heap_alloc w3 (.cells #[.int .i64 y.kind, .string (BS y.text)] 37) _ hRl).trans hV3
      obtain ⟨cV, fV⟩ := one_cell hV4
      have hR4 := (Below.heap_alloc w3 (.cells #[.int .i64 y.kind, .string (BS y.text)] 37) _ (Array.getElem?_eq_some_iff.1 hR3).1).trans hR3
      have hE4 := (Below.heap_alloc w3 (.cells #[.int .i64 y.kind, .string (BS y.text)] 37) _ (Array.getElem?_eq_some_iff.1 hE3).1).trans hE3
      have hk4 : KeepsFrom w1.heap.size W (w3.alloc (.cells #[.int .i64 y.kind, .string (BS y.text)] 37)) := (KeepsFrom.of_grownBy (grown_of_below hb3) (by simp)).trans (KeepsFrom.of_grownBy (World.grownBy_alloc w3 _ none) (by simp))
      have hb4 := hbw3.alloc hbw3.size (.cells #[.int .i64 y.kind, .string (BS y.text)] 37)
      have HF := Go.Lib.hid (And.intro hR4 (And.intro hE4 (And.intro hk4 hb4)))
      clear hR4 hE4 hk4 hb4 hR3 hE3 hV3 hbw3 hb3
      have hrow4 := hrow3.alloc (.cells #[.int .i64 y.kind, .string (BS y.text)] 37)
      gi_wp2_with (refine wpListIn_append_rl rfl (.tmp 28) (.tmp 30) rfl (w.heap.size + 3) (.slice A5 n5 c5) rl.length rl rfl hrow4 y _ rfl (w3.heap.size + 1) (by simp) rfl (by omega) (by simp; omega) ?_; intro v5 w5 hr5 hg5; obtain ⟨A6, n6, c6, hv6⟩ := row_slice hr5; subst hv6; have hV5 := (hg5.block _ (by simp; omega) (by intro e; have := (hrow4.lt _ e.symm).1; omega)).trans ((Below.heap_alloc _ (.cells #[.int .i64 y.kind, .string (BS y.text)] 37) _ (by simp; omega)).trans hV4); obtain ⟨cV5, fV5⟩ := one_cell hV5; have HR5 := Go.Lib.hid hr5; have HG5 := Go.Lib.hid hg5; have HV5 := Go.Lib.hid hV5; have HROW := Go.Lib.hid hrow4; clear hr5 hg5 hV5 hrow4)
      obtain ⟨hR4, hE4, hk4, hb4⟩ := HF.out
      have hg6 := World.grownBy_alloc (w3.alloc (.cells #[.int .i64 y.kind, .string (BS y.text)] 37)) (.cells #[.int .i64 y.kind, .string (BS y.text)] 37) none
      have hrow6 := HROW.out.alloc (.cells #[.int .i64 y.kind, .string (BS y.text)] 37)
      have hlt6 := HROW.out.lt
      have hne : ∀ k, k < w.heap.size + 3 → k < (w3.alloc (.cells #[.int .i64 y.kind, .string (BS y.text)] 37)).heap.size → w5.heap[k]? = (w3.alloc (.cells #[.int .i64 y.kind, .string (BS y.text)] 37)).heap[k]? := fun k hk hk2 =>
        (HG5.out.block k (by simp at hk2 ⊢; omega) (fun e => by have := (hlt6 _ e.symm).1; omega)).trans (hg6.block k hk2 (by simp))
      have hR5 := (hne _ (by omega) (Array.getElem?_eq_some_iff.1 hR4).1).trans hR4
      have hE5 := (hne _ (by omega) (Array.getElem?_eq_some_iff.1 hE4).1).trans hE4
      have hb5 := (hb4.alloc hb4.size (.cells #[.int .i64 y.kind, .string (BS y.text)] 37)).grown HG5.out (by have := hb4.size; simp at this ⊢; omega) (fun k e => by have := (hlt6 _ e).1; omega)
      exact ⟨((hk4.trans (KeepsFrom.of_grownBy hg6 (by simp))).trans (keeps_cells HG5.out (row_cells hrow6))).trans (KeepsFrom.of_grownBy (grownBy_setCell' _ _ _) (fun j e => by injection e with e; omega)), trivial,
        hb5.setCell (p := ⟨w.heap.size + 2, 0, none⟩) (by show w.heap.size ≤ w.heap.size + 2; omega) _, (Below.heap_setCell _ _ _ _ (by show w.heap.size ≠ w.heap.size + 2; omega)).trans hR5, (Below.heap_setCell _ _ _ _ (by show w.heap.size + 1 ≠ w.heap.size + 2; omega)).trans hE5,
        _, rl ++ [y], one_set HV5.out, by rw [List.length_append]; exact HR5.out.kept (grownBy_setCell' _ _ _) (.inr fun e => by have := (HR5.out.lt _ e).1; omega), by rw [List.map_append]; exact HSN.out⟩
  case done =>
    rintro D ys W hD hys ⟨hbW, hR, hE, v, rl, hV, hrow, hrl⟩ hK
    rw [hys] at hrl
    obtain ⟨cR, fR⟩ := one_cell hR
    obtain ⟨cE, fE⟩ := one_cell hE
    obtain ⟨cV, fV⟩ := one_cell hV
    have hrr : r = (rl, 0) := by rw [HRES.out, hrl]
    subst hrr
    obtain ⟨A5, n5, c5, rfl⟩ := row_slice hrow
    have hr2 : w.heap.size + 1 + 1 = w.heap.size + 2 := rfl
    have hER := one_set (u := .int .i64 0) ((Below.heap_setCell W ⟨w.heap.size, 0, none⟩ (.slice A5 n5 c5) (w.heap.size + 1) (by show w.heap.size + 1 ≠ w.heap.size; omega)).trans hE)
    have hRR := (Below.heap_setCell _ ⟨w.heap.size + 1, 0, none⟩ (.int .i64 0) w.heap.size (by show w.heap.size ≠ w.heap.size + 1; omega)).trans (one_set (u := .slice A5 n5 c5) hR)
    have hKK : ((W.setCell ⟨w.heap.size, 0, none⟩ (.slice A5 n5 c5)).setCell ⟨w.heap.size + 1, 0, none⟩ (.int .i64 0)).heap[D]? = some (.deferred (some [])) := (Below.heap_setCell _ _ _ _ (by show D ≠ w.heap.size + 1; omega)).trans ((Below.heap_setCell _ _ _ _ (by show D ≠ w.heap.size; omega)).trans hK)
    have HF := Go.Lib.hid (And.intro hER (And.intro hRR (And.intro hKK (And.intro hbW hrow))))
    clear hER hRR hKK hK hR hE hV hbW hrow hrl
    gi_wp2
    obtain ⟨hER, hRR, hKK, hbW, hrow⟩ := HF.out
    refine ⟨by simp, .inl ⟨_, _, rfl, run_takeDeferred hKK, ?_⟩⟩
    have hR6 : (((W.setCell ⟨w.heap.size, 0, none⟩ (.slice A5 n5 c5)).setCell ⟨w.heap.size + 1, 0, none⟩ (.int .i64 0)).putObj D (.deferred none)).heap[w.heap.size]? = _ := (World.putObj_heap_other (by omega)).trans hRR
    have hE6 : (((W.setCell ⟨w.heap.size, 0, none⟩ (.slice A5 n5 c5)).setCell ⟨w.heap.size + 1, 0, none⟩ (.int .i64 0)).putObj D (.deferred none)).heap[w.heap.size + 1]? = _ := (World.putObj_heap_other (by omega)).trans hER
    have hrow2 := hrow.kept (grownBy_setCell' W w.heap.size (.slice A5 n5 c5)) (.inr fun e => by have := (hrow.lt _ e).1; omega)
    have hrow3 := hrow2.kept (grownBy_setCell' _ (w.heap.size + 1) (.int .i64 0)) (.inr fun e => by have := (hrow.lt _ e).1; omega)
    have hrow4 := row_grown hrow3 (grownBy_putObj' _ D (.deferred none)) (fun r e => by cases e; exact ⟨_, hKK, rfl⟩)
    have hbb := (hbW.setCell (p := ⟨w.heap.size, 0, none⟩) (Nat.le_refl _) (.slice A5 n5 c5)).setCell (p := ⟨w.heap.size + 1, 0, none⟩) (Nat.le_succ _) (.int .i64 0)
    exact ⟨_, results_two (p := 2) (q := 3) rfl _ _ ⟨w.heap.size, 0, none⟩ ⟨w.heap.size + 1, 0, none⟩ _ _ rfl rfl (one_cell hR6).1 (one_cell hE6).1 agg23 agg24, _, rfl, Ruls.of_row hrow4, hbb.grown (grownBy_putObj' _ D _) hbb.size (fun k e => by injection e with e; omega)⟩
  case stop =>
    rintro D c pre W hD ⟨suf, hsuf⟩ ⟨rfl, hnone, hbW, hR, hE⟩ hK
    have hrr : r = ([], 30) := by rw [HRES.out, ← hsuf, rulesAt_cut hnone]
    subst hrr
    gi_wp2
    refine ⟨by simp, .inl ⟨_, _, rfl, run_takeDeferred hK, ?_⟩⟩
    have hR6 : (W.putObj D (.deferred none)).heap[w.heap.size]? = _ := (World.putObj_heap_other (by omega)).trans hR
    have hE6 : (W.putObj D (.deferred none)).heap[w.heap.size + 1]? = _ := (World.putObj_heap_other (by omega)).trans hE
    exact ⟨_, results_two (p := 2) (q := 3) rfl _ _ ⟨w.heap.size, 0, none⟩ ⟨w.heap.size + 1, 0, none⟩ _ _ rfl rfl (one_cell hR6).1 (one_cell hE6).1 agg23 agg24, _, rfl, Ruls.nil _, hbW.grown (grownBy_putObj' W D _) hbW.size (fun k e => by injection e with e; omega)⟩
set_option maxHeartbeats 8000000 in
theorem pparse_none (w : World) :
    Calls Tryd.prog 12 #[.string (BS [])] w fun e w' => ∃ v, e = .returned (.tuple #[v, .int .i64 (parseOf []).2]) ∧ Ruls w' v (parseOf []).1 ∧ Below w.heap.size w w' := by
  have hres := parse_lns []
  have hq0 := BS_beq ([] : List UInt8) []
  rw [decide_eq_true rfl] at hq0
  have hl : ([] : List UInt8).length ≤ 100000 := by simp
  have h0 : ([] : List UInt8) = [] ∨ ([] : List UInt8).getLast? = some 10 := .inl rfl
  have h16 : ¬ 16 < ([] : List UInt8).count 10 := by simp
  rw [if_neg (by rintro ⟨a, b⟩; rcases h0 with h | h; exact a h; exact b h), if_neg h16] at hres
  have hc := fun W => callsIn_wide (n := 8) |>.2 (pcount_any 10 [] W)
  have hli := fun W => callsIn_wide (n := 8) |>.2 (plines_any [] W)
  have hlc := lns_count h0
  obtain ⟨n, hn⟩ : ∃ n, ([] : List UInt8).count 10 = n := ⟨_, rfl⟩
  rw [hn] at hc h16 hlc
  have h16' : decide ((16 : Int) < (n : Int)) = false := decide_eq_false (by omega)
  obtain ⟨r, hr⟩ : ∃ r, parseOf [] = r := ⟨_, rfl⟩
  rw [hr] at hres ⊢
  have HC := Go.Lib.hid hc; have HLI := Go.Lib.hid hli; have HRES := Go.Lib.hid hres; have HLC := Go.Lib.hid hlc; have H0 := Go.Lib.hid h0
  clear hc hli hres hr hn hlc h0
  have hG2 : Fence.wide.fn 45 := trivial
  have hro : Fence.wide.round = none := rfl
  have h1 : 1 ≤ 9 := by omega
  refine (callsIn_wide (n := 9)).1 ?_
  refine callsIn_of_wp_marks Tryd.func12 rfl trivial ?_ hro
  simp only [Tryd.ntmps12, List.size_toArray, List.length_cons, List.length_nil, Nat.reduceAdd, Nat.reduceSub, Array.replicate_succ, Array.replicate_zero, List.push_toArray, List.append_toArray, List.nil_append, List.cons_append]
  gi_wp2
  refine ⟨trivial, ?_⟩
  go_at_K
  gi_wp2
  refine ⟨trivial, (HC.out _).mono ?_⟩; rintro e w1 ⟨rfl, hw1⟩
  rw [hw1]
  clear hw1 w1
  gi_wp2
  refine ⟨trivial, (HLI.out _).mono ?_⟩; rintro e w1 ⟨rfl, hw1⟩
  have hhr : w1.heap[w.heap.size]? = some (.cells #[.slice none 0 0] 23 (0, 0)) := by rw [hw1]; exact (Below.heap_alloc _ _ _ (by simp; omega)).trans ((Below.heap_alloc _ _ _ (by simp; omega)).trans ((Below.heap_alloc _ _ _ (by simp)).trans (heap_alloc_new w _)))
  have hhe : w1.heap[w.heap.size + 1]? = some (.cells #[.int .i64 0] 24 (0, 0)) := by
    rw [hw1]
    have h2 := heap_alloc_new (w.alloc (.cells #[.slice none 0 0] 23)) (.cells #[.int .i64 0] 24)
    rw [World.size_alloc] at h2
    exact (Below.heap_alloc _ _ _ (by simp)).trans ((Below.heap_alloc _ _ _ (by simp)).trans h2)
  have hhv : w1.heap[w.heap.size + 2]? = some (.cells #[.slice none 0 0] 23 (0, 0)) := by
    rw [hw1]
    have h2 := heap_alloc_new ((w.alloc (.cells #[.slice none 0 0] 23)).alloc (.cells #[.int .i64 0] 24)) (.cells #[.slice none 0 0] 23)
    rw [World.size_alloc, World.size_alloc] at h2
    exact (Below.heap_alloc _ _ _ (by simp)).trans h2
  have hht : w1.heap[w.heap.size + 3]? = some (.cells #[.string (BS [])] 9 (0, 0)) := by
    rw [hw1]
    have h2 := heap_alloc_new (((w.alloc (.cells #[.slice none 0 0] 23)).alloc (.cells #[.int .i64 0] 24)).alloc (.cells #[.slice none 0 0] 23)) (.cells #[.string (BS [])] 9)
    rw [World.size_alloc, World.size_alloc, World.size_alloc] at h2
    exact h2
  have hb1 : Below w.heap.size w w1 := by rw [hw1]; exact ((((Below.refl _ w).alloc (Nat.le_refl _) _).alloc (by simp) _).alloc (by simp; omega) _).alloc (by simp; omega) _
  have hs1 : w1.heap.size = w.heap.size + 4 := by rw [hw1]; simp
  have hsz : (w.alloc (.cells #[.slice none 0 0] 23)).heap.size = w.heap.size + 1 := by simp
  have hsz2 : ((w.alloc (.cells #[.slice none 0 0] 23)).alloc (.cells #[.int .i64 0] 24)).heap.size = w.heap.size + 2 := by simp
  have hsz3 : (((w.alloc (.cells #[.slice none 0 0] 23)).alloc (.cells #[.int .i64 0] 24)).alloc (.cells #[.slice none 0 0] 23)).heap.size = w.heap.size + 3 := by simp
  have cT : w1.cell? ⟨w.heap.size + 3, 0, none⟩ = some (.string (BS [])) := (one_cell hht).1
  have hI0 : ParIn w [] w1 := ⟨hb1, hhr, hhe, .slice none 0 0, [], hhv, Row.nil _ _ _ _, rfl⟩
  clear hw1 hhr hhe hhv hht
  gi_wp2
  refine wpIn_rangeFunc_ownH hro h1 (gf := 45) (lb := #[.pointer (some ⟨w.heap.size + 3, 0, none⟩)]) (by first | rfl | simp) hG2 (enters_of Tryd.func45 (by kernel_rfl) rfl)
    (plines_stops (w.heap.size + 3) [] (.inl rfl) hl w1 (by omega) cT) (fun _ _ => trivial) (fun _ _ _ _ _ _ _ _ => trivial) (Below.refl _ _) (fun _ => rfl)
    (ParIn w) (ParOut w) (ParIn.own w _ (by omega)) (fun c => ParOut.own w _ (by omega) c) hI0
    (fun x a' W => a' = { tmps := #[.string (BS []), undef, .pointer (some ⟨w.heap.size, 0, none⟩), .pointer (some ⟨w.heap.size + 1, 0, none⟩), .pointer (some ⟨w.heap.size + 2, 0, none⟩), .string (BS x.1), undef, undef, .string (BS []), .bool false, .bool false, undef, undef, undef, .bool false, .string (BS []), .int .i64 (n : Int), .bool false, .string (BS []), .func (.func 45) #[] #[.pointer (some ⟨w.heap.size + 3, 0, none⟩)], .string (BS x.1), undef, undef, undef, undef, undef, undef, undef, undef, undef, undef, undef, undef], defers := [] })
    ?hAx ?assign ?body ?done ?stop
  case hAx => exact fun x a' s A B row hs _ _ => hs
  case assign =>
    rintro l pre x W K hI hK
    gi_wp2
    exact hK _ _ (KeepsFrom.refl _ _) trivial hI (by first | rfl | simp)
  case body =>
    rintro l pre x a' W hlB hlo hI rfl hlen
    exact absurd hlen (by simp [lns])
  case done =>
    rintro D ys W hD hys ⟨hbW, hR, hE, v, rl, hV, hrow, hrl⟩ hK
    rw [hys] at hrl
    obtain ⟨cR, fR⟩ := one_cell hR
    obtain ⟨cE, fE⟩ := one_cell hE
    obtain ⟨cV, fV⟩ := one_cell hV
    have hrr : r = (rl, 0) := by rw [HRES.out, hrl]
    subst hrr
    obtain ⟨A5, n5, c5, rfl⟩ := row_slice hrow
    have hr2 : w.heap.size + 1 + 1 = w.heap.size + 2 := rfl
    have hER := one_set (u := .int .i64 0) ((Below.heap_setCell W ⟨w.heap.size, 0, none⟩ (.slice A5 n5 c5) (w.heap.size + 1) (by show w.heap.size + 1 ≠ w.heap.size; omega)).trans hE)
    have hRR := (Below.heap_setCell _ ⟨w.heap.size + 1, 0, none⟩ (.int .i64 0) w.heap.size (by show w.heap.size ≠ w.heap.size + 1; omega)).trans (one_set (u := .slice A5 n5 c5) hR)
    have hKK : ((W.setCell ⟨w.heap.size, 0, none⟩ (.slice A5 n5 c5)).setCell ⟨w.heap.size + 1, 0, none⟩ (.int .i64 0)).heap[D]? = some (.deferred (some [])) := (Below.heap_setCell _ _ _ _ (by show D ≠ w.heap.size + 1; omega)).trans ((Below.heap_setCell _ _ _ _ (by show D ≠ w.heap.size; omega)).trans hK)
    have HF := Go.Lib.hid (And.intro hER (And.intro hRR (And.intro hKK (And.intro hbW hrow))))
    clear hER hRR hKK hK hR hE hV hbW hrow hrl
    gi_wp2
    obtain ⟨hER, hRR, hKK, hbW, hrow⟩ := HF.out
    refine ⟨by simp, .inl ⟨_, _, rfl, run_takeDeferred hKK, ?_⟩⟩
    have hR6 : (((W.setCell ⟨w.heap.size, 0, none⟩ (.slice A5 n5 c5)).setCell ⟨w.heap.size + 1, 0, none⟩ (.int .i64 0)).putObj D (.deferred none)).heap[w.heap.size]? = _ := (World.putObj_heap_other (by omega)).trans hRR
    have hE6 : (((W.setCell ⟨w.heap.size, 0, none⟩ (.slice A5 n5 c5)).setCell ⟨w.heap.size + 1, 0, none⟩ (.int .i64 0)).putObj D (.deferred none)).heap[w.heap.size + 1]? = _ := (World.putObj_heap_other (by omega)).trans hER
    have hrow2 := hrow.kept (grownBy_setCell' W w.heap.size (.slice A5 n5 c5)) (.inr fun e => by have := (hrow.lt _ e).1; omega)
    have hrow3 := hrow2.kept (grownBy_setCell' _ (w.heap.size + 1) (.int .i64 0)) (.inr fun e => by have := (hrow.lt _ e).1; omega)
    have hrow4 := row_grown hrow3 (grownBy_putObj' _ D (.deferred none)) (fun r e => by cases e; exact ⟨_, hKK, rfl⟩)
    have hbb := (hbW.setCell (p := ⟨w.heap.size, 0, none⟩) (Nat.le_refl _) (.slice A5 n5 c5)).setCell (p := ⟨w.heap.size + 1, 0, none⟩) (Nat.le_succ _) (.int .i64 0)
    exact ⟨_, results_two (p := 2) (q := 3) rfl _ _ ⟨w.heap.size, 0, none⟩ ⟨w.heap.size + 1, 0, none⟩ _ _ rfl rfl (one_cell hR6).1 (one_cell hE6).1 agg23 agg24, _, rfl, Ruls.of_row hrow4, hbb.grown (grownBy_putObj' _ D _) hbb.size (fun k e => by injection e with e; omega)⟩
  case stop =>
    rintro D c pre W hD ⟨suf, hsuf⟩ ⟨rfl, hnone, hbW, hR, hE⟩ hK
    have hrr : r = ([], 30) := by rw [HRES.out, ← hsuf, rulesAt_cut hnone]
    subst hrr
    gi_wp2
    refine ⟨by simp, .inl ⟨_, _, rfl, run_takeDeferred hK, ?_⟩⟩
    have hR6 : (W.putObj D (.deferred none)).heap[w.heap.size]? = _ := (World.putObj_heap_other (by omega)).trans hR
    have hE6 : (W.putObj D (.deferred none)).heap[w.heap.size + 1]? = _ := (World.putObj_heap_other (by omega)).trans hE
    exact ⟨_, results_two (p := 2) (q := 3) rfl _ _ ⟨w.heap.size, 0, none⟩ ⟨w.heap.size + 1, 0, none⟩ _ _ rfl rfl (one_cell hR6).1 (one_cell hE6).1 agg23 agg24, _, rfl, Ruls.nil _, hbW.grown (grownBy_putObj' W D _) hbW.size (fun k e => by injection e with e; omega)⟩
theorem gparse_any (t : List UInt8) (w : World) (hl : t.length ≤ 100000) :
    Calls Tryd.prog 12 #[.string (BS t)] w fun e w' => ∃ v, e = .returned (.tuple #[v, .int .i64 (parseOf t).2]) ∧ Ruls w' v (parseOf t).1 ∧ Below w.heap.size w w' := by
  by_cases h1 : t ≠ [] ∧ t.getLast? ≠ some 10
  · have hr : parseOf t = ([], 30) := by rw [parse_lns, if_pos h1]
    rw [hr]
    exact pparse_last t w hl h1.1 h1.2
  · have h0 : t = [] ∨ t.getLast? = some 10 := by
      by_cases h : t = []
      · exact .inl h
      · exact .inr (Decidable.byContradiction fun h2 => h1 ⟨h, h2⟩)
    by_cases h16 : 16 < t.count 10
    · have hr : parseOf t = ([], 40) := by rw [parse_lns, if_neg h1, if_pos h16]
      rw [hr]
      exact pparse_big t w hl h0 h16
    · by_cases h : t = []
      · subst h
        exact pparse_none w
      · exact pparse_lines t w hl h h0 h16
end Go.Proofs.YthjdccocfmicdaaDoor.W
