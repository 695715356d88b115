/- Parts of the proof that all the laws of this package share, in their order. Each says what is in it. -/
import Derived.Test.YtjeijolblcodpaaDoorMg3
import Derived.Test.YtjeijolblcodpaaDoorMg6
import Derived.Test.YtjeijolblcodpaaDoorMg5
import Derived.Maps.RangeWalk
import Derived.Deep.RegionWith
import Derived.LoopN

/- The reference of trees: a node's place, a stamp's node. -/
section
namespace Go.Proofs.YtjeijolblcodpaaDoor.W
set_option maxRecDepth 20000
set_option linter.unusedVariables false
open Go.RowKit Go.Proofs Arb

/-- The place of a stamp's node, or -1. -/
def atI (l : List Nod) (s : St) : Int := match findOf l s with | some _ => (atOf l s : Int) | none => -1
theorem find_hit {l : List Nod} {s : St} {k : Nat} {x : Nod} (h : ∀ (j : Nat) (y : Nod), j < k → l[j]? = some y → y.id ≠ s) (hx : l[k]? = some x) (hs : x.id = s) : findOf l s = some x ∧ atOf l s = k := by
  obtain ⟨hk, hkx⟩ := List.getElem?_eq_some_iff.1 hx
  have hsp : l = l.take k ++ x :: l.drop (k + 1) := by rw [← hkx]; simp
  have hall : ∀ y ∈ l.take k, y.id ≠ s := fun y hy => by
    obtain ⟨j, hj, hjy⟩ := List.getElem_of_mem hy
    rw [List.length_take] at hj
    refine h j y (by omega) ?_
    rw [List.getElem?_eq_getElem (by omega)]
    rw [← hjy, List.getElem_take]
  have h1 := findOf_swap (l2 := l.drop (k + 1)) hs hall
  have h2 := atOf_swap (l2 := l.drop (k + 1)) hs hall
  rw [← hsp] at h1 h2
  rw [List.length_take] at h2
  exact ⟨h1, by omega⟩
theorem find_miss {l : List Nod} {s : St} {n : Nat} (hn : l.length = n) (h : ∀ (j : Nat) (y : Nod), j < n → l[j]? = some y → y.id ≠ s) : findOf l s = none := by
  refine findOf_none.2 fun y hy => ?_
  obtain ⟨j, hj, hjy⟩ := List.getElem_of_mem hy
  exact h j y (by omega) (by rw [List.getElem?_eq_getElem hj, hjy])

set_option maxRecDepth 20000 in
set_option maxHeartbeats 4000000 in
theorem rat7_any (v : Value) (l : List Nod) (s : St) (w : World) (h : Nods w v l) (hl : l.length ≤ 1000000) :
    Calls Tryd.prog 67 #[v, .agg #[.int .i64 s.count, .int .i64 s.who]] w fun e w' => e = .returned (.int .i64 (atI l s)) ∧ Below w.heap.size w w' := by
  obtain ⟨A, c, rfl, hc⟩ := h.len
  obtain ⟨r, hr⟩ : ∃ r, atI l s = r := ⟨_, rfl⟩
  rw [hr]
  obtain ⟨n, hnn⟩ : ∃ n, l.length = n := ⟨_, rfl⟩
  rw [hnn] at h hc hl
  rw [hnn]
  have HV := Go.Lib.hid h; clear h
  have HR := Go.Lib.hid hr; clear hr
  have HN := Go.Lib.hid hnn; clear hnn
  go_enter Tryd.func67, Tryd.ntmps67
  have hb0 : Below w.heap.size w (w.alloc (.cells #[.int .i64 s.count, .int .i64 s.who] 33)) := (Below.refl _ _).alloc (Nat.le_refl _) _
  have ha0 : (w.alloc (.cells #[.int .i64 s.count, .int .i64 s.who] 33)).cell? ⟨w.heap.size, 0, none⟩ = some (.int .i64 s.count) := by rw [cell_of_row _ _ _ _ _ _ (heap_alloc_new w _)]; rfl
  have ha1 : (w.alloc (.cells #[.int .i64 s.count, .int .i64 s.who] 33)).cell? ⟨w.heap.size, 1, none⟩ = some (.int .i64 s.who) := by rw [cell_of_row _ _ _ _ _ _ (heap_alloc_new w _)]; rfl
  have hlt0 : w.heap.size < (w.alloc (.cells #[.int .i64 s.count, .int .i64 s.who] 33)).heap.size := by simp
  have hv1 := HV.out.below hb0
  go_wp2_with fail
  obtain ⟨W1, hW1⟩ : ∃ W, w.alloc (.cells #[.int .i64 s.count, .int .i64 s.who] 33) = W := ⟨_, rfl⟩
  rw [hW1] at hb0 ha0 ha1 hlt0 hv1 ⊢
  have HB0 := Go.Lib.hid hb0; have HA0 := Go.Lib.hid ha0; have HA1 := Go.Lib.hid ha1; have HV1 := Go.Lib.hid hv1; have HLT := Go.Lib.hid hlt0
  clear hb0 ha0 ha1 hlt0 hv1 hW1
  go_loopw [5, 6, 7, 8, 9, 10, 11, 12, 13, 14, 15, 16, 17, 18] (fun i _ _ _ _ _ _ _ _ _ _ _ _ _ wr => ∃ k : Nat, k ≤ n ∧ i = .int .i64 (k : Int) ∧ (∀ (j : Nat) (y : Nod), j < k → l[j]? = some y → y.id ≠ s) ∧ Below W1.heap.size W1 wr) (fun i _ _ _ _ _ _ _ _ _ _ _ _ _ _ => n - (intOf i).toNat)
  case atStart => exact ⟨0, by omega, rfl, fun _ _ h => by omega, Below.refl _ _⟩
  case round =>
    obtain ⟨k, hk, rfl, hall, hbw⟩ := hrel
    have HALL := Go.Lib.hid hall; clear hall
    have HBW := Go.Lib.hid hbw
    by_cases hkn : k < n
    · have hkn' : (k : Int) < (n : Int) := by omega
      obtain ⟨b1, o1, x, rfl, hg1, hx⟩ := (HV1.out.below hbw).at k hkn
      obtain ⟨c0, c1, -⟩ := nd_cells hx
      have d0 := (hbw.cell (p := ⟨w.heap.size, 0, none⟩) HLT.out).trans HA0.out
      have d1 := (hbw.cell (p := ⟨w.heap.size, 1, none⟩) HLT.out).trans HA1.out
      have hq := fun w => eq_st x.id s w
      obtain ⟨q, hqe⟩ : ∃ q, decide (x.id = s) = q := ⟨_, rfl⟩
      rw [hqe] at hq
      have HG1 := Go.Lib.hid hg1; clear hg1
      have HQ := Go.Lib.hid hqe; clear hqe
      clear hx hbw
      cases q
      · go_wp2_with fail
        first | (go_quiet (fail)) | skip
        go_wp2_with fail
        refine ⟨⟨k + 1, by omega, by simp, fun j y hj hy => ?_, below_drewN HBW.out _⟩, by simp [intOf]; omega⟩
        rcases Nat.lt_or_ge j k with h | h
        · exact HALL.out j y h hy
        · obtain rfl : j = k := by omega
          rw [HG1.out] at hy
          injection hy with hy
          subst hy
          exact of_decide_eq_false HQ.out
      · go_wp2_with fail
        first | (go_quiet (fail)) | skip
        go_wp2_with fail
        go_ret
        obtain ⟨h1, h2⟩ := find_hit HALL.out HG1.out (of_decide_eq_true HQ.out)
        refine ⟨?_, bstep HB0.out (below_drewN HBW.out _)⟩
        rw [← HR.out]
        unfold atI
        rw [h1, h2]
        rfl
    · obtain rfl : k = n := by omega
      clear hbw
      go_wp2_with fail
      go_ret
      have h1 := find_miss HN.out HALL.out
      refine ⟨?_, bstep HB0.out HBW.out⟩
      rw [← HR.out]
      unfold atI
      rw [h1]
      rfl

theorem at_get {l : List Nod} {s : St} {n : Nod} (h : findOf l s = some n) : l[atOf l s]? = some n ∧ atOf l s < l.length := by
  obtain ⟨l1, l2, h1, h2, -, -⟩ := at_parts l s n h
  rw [h2, h1]
  simp
/-- What Find answers. -/
def foundOf (l : List Nod) (s : St) : Nod × Bool := match findOf l s with | some n => (n, true) | none => (Nod.zero, false)
end Go.Proofs.YtjeijolblcodpaaDoor.W
end

/- The program's states: their block, the package's variables; whether a stamp may hold, whether one leads to a node. -/
section
namespace Go.Proofs.YtjeijolblcodpaaDoor.W
set_option maxRecDepth 20000
set_option linter.unusedVariables false
open Go.RowKit Go.Proofs Arb

/-- The two variables of package move: the trash, the root. -/
structure MMet (w : World) : Prop where
  t0 : w.cell? ⟨1, 0, none⟩ = some (.int .i64 0)
  t1 : w.cell? ⟨1, 1, none⟩ = some (.int .i64 1)
  r0 : w.cell? ⟨2, 0, none⟩ = some (.int .i64 0)
  r1 : w.cell? ⟨2, 1, none⟩ = some (.int .i64 0)
theorem MMet.size {w : World} (h : MMet w) : 1 < w.heap.size ∧ 2 < w.heap.size := ⟨World.block_lt_of_cell? w _ h.t0, World.block_lt_of_cell? w _ h.r0⟩
theorem MMet.on {w w' : World} (h : MMet w) (hb : Below w.heap.size w w') : MMet w' :=
  ⟨(hb.cell (p := ⟨1, 0, none⟩) h.size.1).trans h.t0, (hb.cell (p := ⟨1, 1, none⟩) h.size.1).trans h.t1, (hb.cell (p := ⟨2, 0, none⟩) h.size.2).trans h.r0, (hb.cell (p := ⟨2, 1, none⟩) h.size.2).trans h.r1⟩
theorem MMet.far {w w' : World} (h : MMet w) (hb : Hid (Below w.heap.size w w')) : MMet w' := h.on hb

/-- Block b is the program's state: the steps' slice, the map's block, how many were done again. -/
def S8 (w : World) (b : Nat) (v : Value) (mb : Nat) (n : Int) : Prop := w.heap[b]? = some (.cells #[v, .map (some mb), .int .i64 n] 54 (0, 0))
section
variable {w w' : World} {b mb : Nat} {v : Value} {n : Int}
theorem S8.lt (h : S8 w b v mb n) : b < w.heap.size := (Array.getElem?_eq_some_iff.1 h).1
theorem S8.at (h : S8 w b v mb n) (he : w'.heap[b]? = w.heap[b]?) : S8 w' b v mb n := he.trans h
theorem S8.below (h : S8 w b v mb n) (hb : Below w.heap.size w w') : S8 w' b v mb n := (hb.block b h.lt).trans h
theorem S8.kept {F : Nat → Prop} (h : S8 w b v mb n) (hk : Kept F w w') (hF : ¬ F b) : S8 w' b v mb n := (hk.block b h.lt hF).trans h
theorem S8.cells (h : S8 w b v mb n) : w.cell? ⟨b, 0, none⟩ = some v ∧ w.cell? ⟨b, 1, none⟩ = some (.map (some mb)) ∧ w.cell? ⟨b, 2, none⟩ = some (.int .i64 n) ∧ w.frozen? ⟨b, 0, none⟩ = false ∧ w.frozen? ⟨b, 2, none⟩ = false :=
  ⟨by rw [cell_of_row _ _ _ _ _ _ h]; rfl, by rw [cell_of_row _ _ _ _ _ _ h]; rfl, by rw [cell_of_row _ _ _ _ _ _ h]; rfl, frozen_of_row _ _ _ _ _ h, frozen_of_row _ _ _ _ _ h⟩
theorem S8.putN (h : S8 w b v mb n) (m : Int) : S8 (w.setCell ⟨b, 2, none⟩ (.int .i64 m)) b v mb m := heap_setCell_same w b 2 _ _ (.int .i64 m) h
theorem S8.putL (h : S8 w b v mb n) (u : Value) : S8 (w.setCell ⟨b, 0, none⟩ u) b u mb n := heap_setCell_same w b 0 _ _ u h
/-- A map is no state. -/
theorem S8.ne {L : List Nod} (h : S8 w b v mb n) {m : Nat} (hm : NdMap w m L) : b ≠ m := fun e => by
  obtain ⟨⟨es, clock, hb, _⟩, _, _⟩ := hm
  subst e
  rw [show w.heap[b]? = _ from h] at hb
  cases hb
end

theorem nd_field1 (y : Nod) (w : World) : (Instr.field 49 (ndVal y) 1).run Tryd.prog w = .ok (.bool y.dir) w := by
  simp [Instr.field, run_underlying Tryd.underlying49, ndVal, ndArr, ndCells, asAgg, part, Tryd.isAgg4, Tryd.sizeOf4]

set_option maxHeartbeats 4000000 in
theorem pmh_any (b : Nat) (v : Value) (mb : Nat) (n : Int) (L : List Nod) (s : St) (w : World) (hS : S8 w b v mb n) (hM : NdMap w mb L) (hT : MMet w) (hs : stWf s) :
    Calls Tryd.prog 55 #[.pointer (some ⟨b, 0, none⟩), .agg #[.int .i64 s.count, .int .i64 s.who]] w fun e w' => e = .returned (.bool (mayOf L s)) ∧ Below w.heap.size w w' := by
  have hb0 : Below w.heap.size w (w.alloc (.cells #[.int .i64 s.count, .int .i64 s.who] 33)) := (Below.refl _ _).alloc (Nat.le_refl _) _
  have hsa := StAt.new w s 33
  have hlt0 : w.heap.size < (w.alloc (.cells #[.int .i64 s.count, .int .i64 s.who] 33)).heap.size := by simp
  obtain ⟨y, hy⟩ : ∃ y, (findOf L s).getD Nod.zero = y := ⟨_, rfl⟩
  have hres : mayOf L s = (decide (s = St.zero) || y.dir) := by
    rw [← hy]
    unfold mayOf
    cases findOf L s <;> rfl
  rw [hres]
  obtain ⟨W1, hW1⟩ : ∃ W, w.alloc (.cells #[.int .i64 s.count, .int .i64 s.who] 33) = W := ⟨_, rfl⟩
  rw [show w.alloc (.cells (stArr s) 33) = W1 from hW1] at hsa
  rw [hW1] at hb0 hlt0
  have hS1 := hS.below hb0; have hM1 := hM.below hb0; have hT1 := hT.on hb0
  have hl : ∀ z : BW W1.heap.size W1, (Instr.lookup 51 (.map (some mb)) (.agg #[.int .i64 s.count, .int .i64 s.who]) false).run Tryd.prog z.w = .ok (ndVal y) z.w := fun z => by
    have := (hM1.below z.2).look1 s hs
    rw [hy] at this
    exact this
  have hf := fun W => nd_field1 y W
  obtain ⟨nv, hnv⟩ : ∃ nv, ndVal y = nv := ⟨_, rfl⟩
  rw [hnv] at hl hf
  have HF := Go.Lib.hid hf
  clear hf hnv
  have hq := fun (w : World) => eq_st s St.zero w
  obtain ⟨z0, hz0⟩ : ∃ z0, decide (s = St.zero) = z0 := ⟨_, rfl⟩
  rw [hz0] at hq ⊢
  simp only [St.zero] at hq
  have p0 := fun z : BW W1.heap.size W1 => z.cell (st_cells0 hsa).1 hlt0
  have p1 := fun z : BW W1.heap.size W1 => z.cell (st_cells0 hsa).2 hlt0
  have p2 := fun z : BW W1.heap.size W1 => z.cell hT1.r0 hT1.size.2
  have p3 := fun z : BW W1.heap.size W1 => z.cell hT1.r1 hT1.size.2
  have p4 := fun z : BW W1.heap.size W1 => z.cell hS1.cells.2.1 hS1.lt
  have HB0 := Go.Lib.hid hb0; have HW1 := Go.Lib.hid hW1
  clear hb0 hW1 hS hM hT hsa hlt0 hS1 hM1 hT1 hy hres hz0
  have hne := BW.ne W1.heap.size W1
  cases z0
  · go_enter Tryd.func55, Tryd.ntmps55
    go_wp2_with fail
    try rw [HW1.out]
    refine wp_region_calm W1.heap.size W1 (Below.refl _ _) (by kernel_rfl) (by kernel_rfl) ?_
    repeat (first | (refine wpQuiet_field 49 _ 1 rfl (by rfl) nv _ rfl HF.out ?_; go_frame) | go_big_quiet_step (fail))
    refine wpQuiet_nil ?_
    intro _ hw'
    obtain ⟨z, rfl⟩ := hw'
    have HZ := Go.Lib.hid z.2
    go_wp2_with fail
    go_ret
    exact ⟨rfl, bstep HB0.out z.2⟩
  · go_enter Tryd.func55, Tryd.ntmps55
    go_wp2_with fail
    try rw [HW1.out]
    refine wp_region_calm W1.heap.size W1 (Below.refl _ _) (by kernel_rfl) (by kernel_rfl) ?_
    repeat (first | (refine wpQuiet_field 49 _ 1 rfl (by rfl) nv _ rfl HF.out ?_; go_frame) | go_big_quiet_step (fail))
    refine wpQuiet_nil ?_
    intro _ hw'
    obtain ⟨z, rfl⟩ := hw'
    go_wp2_with fail
    go_ret
    exact ⟨rfl, bstep HB0.out z.2⟩
end Go.Proofs.YtjeijolblcodpaaDoor.W
end

/- The program's states: whether a stamp leads to a node. -/
section
namespace Go.Proofs.YtjeijolblcodpaaDoor.W
set_option maxRecDepth 20000
set_option linter.unusedVariables false
open Go.RowKit Go.Proofs Arb

set_option maxHeartbeats 8000000 in
theorem pled_any (b : Nat) (v : Value) (mb : Nat) (n : Int) (L : List Nod) (s t : St) (w : World) (hS : S8 w b v mb n) (hM : NdMap w mb L) (hl : L.length ≤ 1000000) (hs : stWf s) (ht : stWf t) :
    Calls Tryd.prog 56 #[.pointer (some ⟨b, 0, none⟩), .agg #[.int .i64 s.count, .int .i64 s.who], .agg #[.int .i64 t.count, .int .i64 t.who]] w fun e w' => e = .returned (.bool (ledGo L L.length s t)) ∧ Below w.heap.size w w' := by
  obtain ⟨r, hr⟩ : ∃ r, ledGo L L.length s t = r := ⟨_, rfl⟩
  rw [hr]
  obtain ⟨N, hN⟩ : ∃ N, L.length = N := ⟨_, rfl⟩
  have hlen : ∀ (W : World), Below w.heap.size w W → ∀ ty, (Builtin.len_ #[51] ty #[.map (some mb)]).run Tryd.prog W = .ok (.int .i64 (N : Int)) W := fun W hW ty => by
    have := (hM.below hW).len ty
    rw [hN] at this
    exact this
  obtain ⟨W1, hW1⟩ : ∃ W, (w.alloc (.cells #[.int .i64 s.count, .int .i64 s.who] 33)).alloc (.cells #[.int .i64 t.count, .int .i64 t.who] 33) = W := ⟨_, rfl⟩
  have hb0 : Below w.heap.size w W1 := by rw [← hW1]; exact ((Below.refl _ _).alloc (Nat.le_refl _) _).alloc (by simp) _
  have hbs : W1.heap[w.heap.size]? = some (.cells #[.int .i64 s.count, .int .i64 s.who] 33 (0, 0)) := by
    rw [← hW1]
    have h1 := heap_alloc_new w (.cells #[.int .i64 s.count, .int .i64 s.who] 33)
    exact (Below.heap_alloc _ _ _ (Array.getElem?_eq_some_iff.1 h1).1).trans h1
  have hbt : W1.heap[w.heap.size + 1]? = some (.cells #[.int .i64 t.count, .int .i64 t.who] 33 (0, 0)) := by
    rw [← hW1]
    have := heap_alloc_new (w.alloc (.cells #[.int .i64 s.count, .int .i64 s.who] 33)) (.cells #[.int .i64 t.count, .int .i64 t.who] 33)
    simpa using this
  have hc1 := (hS.below hb0).cells.2.1
  rw [← hW1] at hc1
  have hlen1 := hlen W1 hb0
  have HB0 := Go.Lib.hid hb0; have HW1 := Go.Lib.hid hW1; have HBS := Go.Lib.hid hbs; have HBT := Go.Lib.hid hbt; have HR := Go.Lib.hid hr; have HN := Go.Lib.hid hN; have HS := Go.Lib.hid hS; have HM := Go.Lib.hid hM; have HLEN := Go.Lib.hid hlen
  clear hb0 hW1 hbs hbt hr hN hS hM hlen
  go_enter Tryd.func56, Tryd.ntmps56
  go_wp2_with fail
  rw [HW1.out]
  simp only [hlen1]
  go_wp2_with fail
  clear hc1 hlen1
  have hl' : N ≤ 1000000 := by have := HN.out; omega
  go_loopw [7, 8, 14, 15, 16, 17, 18, 19, 20, 21, 22, 23, 24, 25, 26, 27, 28, 29, 30, 31, 32] (fun _ _ i _ _ _ _ _ _ _ _ _ _ _ _ _ _ _ _ _ _ wr => ∃ (k : Nat) (cur : St), k ≤ N ∧ i = .int .i64 (k : Int) ∧ ledGo L (N - k) cur t = r ∧ stWf cur ∧ wr.heap[w.heap.size]? = some (.cells #[.int .i64 cur.count, .int .i64 cur.who] 33 (0, 0)) ∧ wr.heap[w.heap.size + 1]? = some (.cells #[.int .i64 t.count, .int .i64 t.who] 33 (0, 0)) ∧ Below w.heap.size w wr)
    (fun _ _ i _ _ _ _ _ _ _ _ _ _ _ _ _ _ _ _ _ _ _ => N - (intOf i).toNat)
  case atStart => exact ⟨0, s, Nat.zero_le _, rfl, by have := HR.out; rw [HN.out] at this; exact this, hs, HBS.out, HBT.out, HB0.out⟩
  case round =>
    obtain ⟨k, cur, hk, rfl, hled, hcw, hx, hy, hb⟩ := hrel
    have HLED := Go.Lib.hid hled; have HX := Go.Lib.hid hx; have HY := Go.Lib.hid hy; have HB := Go.Lib.hid hb
    have c0 : wr.cell? ⟨w.heap.size, 0, none⟩ = some (.int .i64 cur.count) := by rw [cell_of_row _ _ _ _ _ _ hx]; rfl
    have c1 : wr.cell? ⟨w.heap.size, 1, none⟩ = some (.int .i64 cur.who) := by rw [cell_of_row _ _ _ _ _ _ hx]; rfl
    have d0 : wr.cell? ⟨w.heap.size + 1, 0, none⟩ = some (.int .i64 t.count) := by rw [cell_of_row _ _ _ _ _ _ hy]; rfl
    have d1 : wr.cell? ⟨w.heap.size + 1, 1, none⟩ = some (.int .i64 t.who) := by rw [cell_of_row _ _ _ _ _ _ hy]; rfl
    have m0 := (HS.out.below hb).cells.2.1
    clear hled hx hy hb
    by_cases hkn : k < N
    · have hkn' : (k : Int) < (N : Int) := by omega
      have hq := fun W => eq_st cur t W
      by_cases hct : cur = t
      · have hrt : r = true := by
          rw [← HLED.out, show N - k = (N - k - 1) + 1 by omega]
          unfold ledGo
          rw [if_pos hct]
        rw [decide_eq_true hct] at hq
        subst hrt
        clear hct
        go_wp2_with fail
        go_ret
        exact ⟨rfl, HB.out⟩
      · rw [decide_eq_false hct] at hq
        have hlk : ∀ W, Below w.heap.size w W → (Instr.lookup 51 (.map (some mb)) (.agg #[.int .i64 cur.count, .int .i64 cur.who]) true).run Tryd.prog W = .ok (.tuple #[ndVal ((findOf L cur).getD Nod.zero), .bool (findOf L cur).isSome]) W := fun W hW => (HM.out.below hW).look cur hcw
        have hb2 : Below w.heap.size w (wr.alloc (.cells #[.int .i64 0, .int .i64 0, .bool false, .int .i64 0, .int .i64 0, .string ⟨#[]⟩, .string ⟨#[]⟩] 49)).drew := (HB.out.alloc HB.out.size _).drew
        have e0 := cell_more (o := .cells #[.int .i64 0, .int .i64 0, .bool false, .int .i64 0, .int .i64 0, .string ⟨#[]⟩, .string ⟨#[]⟩] 49) c0
        have e1 := cell_more (o := .cells #[.int .i64 0, .int .i64 0, .bool false, .int .i64 0, .int .i64 0, .string ⟨#[]⟩, .string ⟨#[]⟩] 49) c1
        have e2 := cell_more (o := .cells #[.int .i64 0, .int .i64 0, .bool false, .int .i64 0, .int .i64 0, .string ⟨#[]⟩, .string ⟨#[]⟩] 49) m0
        have hl1 := hlk wr.drew HB.out.drew
        have hl2 := hlk _ hb2
        have HCT := Go.Lib.hid hct
        clear hct
        cases hf : findOf L cur with
        | none =>
          have hrf : r = false := by
            rw [← HLED.out, show N - k = (N - k - 1) + 1 by omega]
            unfold ledGo
            rw [if_neg HCT.out, hf]
          subst hrf
          rw [hf] at hl1 hl2
          have HL1 := Go.Lib.hid hl1; have HL2 := Go.Lib.hid hl2
          clear hl1 hl2 hlk hf
          have z1 : ndVal ((none : Option Nod).getD Nod.zero) = .agg #[.int .i64 0, .int .i64 0, .bool false, .int .i64 0, .int .i64 0, .string ⟨#[]⟩, .string ⟨#[]⟩] := rfl
          go_wp2_with fail
          have hl1 := HL1.out; have hl2 := HL2.out
          rw [z1] at hl1 hl2
          first | (go_region_held3 (fun W => W.cell? ⟨b, 1, none⟩ = some (.map (some mb)) ∧ W.cell? ⟨w.heap.size, 0, none⟩ = some (.int .i64 cur.count) ∧ W.cell? ⟨w.heap.size, 1, none⟩ = some (.int .i64 cur.who)) (first | exact ⟨m0, c0, c1⟩ | exact ⟨cell_more m0, cell_more c0, cell_more c1⟩) (first | simp only [hl1] | simp only [hl2])) | fail
          all_goals (
            go_wp2_with fail
            go_ret
            exact ⟨rfl, hb2⟩)
        | some m =>
          have hrm : ledGo L (N - (k + 1)) m.parent t = r := by
            rw [← HLED.out, show N - k = (N - (k + 1)) + 1 by omega]
            conv => rhs; unfold ledGo
            rw [if_neg HCT.out, hf]
          have hmw : stWf m.parent := (HM.out.wf m (findOf_some hf).1).2.1
          rw [hf] at hl1 hl2
          have z1 : ndVal ((some m : Option Nod).getD Nod.zero) = .agg #[.int .i64 m.id.count, .int .i64 m.id.who, .bool m.dir, .int .i64 m.parent.count, .int .i64 m.parent.who, .string (BS m.name), .string (BS m.manifest)] := rfl
          rw [z1] at hl1 hl2
          have hb3 : Below w.heap.size w (wr.alloc (.cells #[.int .i64 m.id.count, .int .i64 m.id.who, .bool m.dir, .int .i64 m.parent.count, .int .i64 m.parent.who, .string (BS m.name), .string (BS m.manifest)] 49)).drew := (HB.out.alloc HB.out.size _).drew
          have n3 := (nd_cells0 (NodAt.new wr m 49)).2.2.2.1
          have n4 := (nd_cells0 (NodAt.new wr m 49)).2.2.2.2.1
          unfold ndArr ndCells at n3 n4
          have g0 : (wr.alloc (.cells #[.int .i64 m.id.count, .int .i64 m.id.who, .bool m.dir, .int .i64 m.parent.count, .int .i64 m.parent.who, .string (BS m.name), .string (BS m.manifest)] 49)).heap[w.heap.size]? = some (.cells #[.int .i64 cur.count, .int .i64 cur.who] 33 (0, 0)) := (Below.heap_alloc _ _ _ (Array.getElem?_eq_some_iff.1 HX.out).1).trans HX.out
          have g1 : (wr.alloc (.cells #[.int .i64 m.id.count, .int .i64 m.id.who, .bool m.dir, .int .i64 m.parent.count, .int .i64 m.parent.who, .string (BS m.name), .string (BS m.manifest)] 49)).heap[w.heap.size + 1]? = some (.cells #[.int .i64 t.count, .int .i64 t.who] 33 (0, 0)) := (Below.heap_alloc _ _ _ (Array.getElem?_eq_some_iff.1 HY.out).1).trans HY.out
          have f0 : (wr.alloc (.cells #[.int .i64 m.id.count, .int .i64 m.id.who, .bool m.dir, .int .i64 m.parent.count, .int .i64 m.parent.who, .string (BS m.name), .string (BS m.manifest)] 49)).frozen? ⟨w.heap.size, 0, none⟩ = false := frozen_of_row _ _ _ _ _ g0
          have f1 : (wr.alloc (.cells #[.int .i64 m.id.count, .int .i64 m.id.who, .bool m.dir, .int .i64 m.parent.count, .int .i64 m.parent.who, .string (BS m.name), .string (BS m.manifest)] 49)).frozen? ⟨w.heap.size, 1, none⟩ = false := frozen_of_row _ _ _ _ _ g0
          have x0 : (wr.alloc (.cells #[.int .i64 m.id.count, .int .i64 m.id.who, .bool m.dir, .int .i64 m.parent.count, .int .i64 m.parent.who, .string (BS m.name), .string (BS m.manifest)] 49)).cell? ⟨w.heap.size, 0, none⟩ = some (.int .i64 cur.count) := by rw [cell_of_row _ _ _ _ _ _ g0]; rfl
          have x1 : (wr.alloc (.cells #[.int .i64 m.id.count, .int .i64 m.id.who, .bool m.dir, .int .i64 m.parent.count, .int .i64 m.parent.who, .string (BS m.name), .string (BS m.manifest)] 49)).cell? ⟨w.heap.size, 1, none⟩ = some (.int .i64 cur.who) := by rw [cell_of_row _ _ _ _ _ _ g0]; rfl
          have HRM := Go.Lib.hid hrm; have HMW := Go.Lib.hid hmw; have HB3 := Go.Lib.hid hb3; have G0 := Go.Lib.hid g0; have G1 := Go.Lib.hid g1
          have hgx : ¬ wr.heap.size = w.heap.size := by have := (Array.getElem?_eq_some_iff.1 HX.out).1; omega
          have hgx2 : ¬ w.heap.size = wr.heap.size := by have := (Array.getElem?_eq_some_iff.1 HX.out).1; omega
          clear hrm hmw hb3 g0 g1 hlk hf z1 hb2
          go_wp2_with fail
          go_region_held3 (fun W => W.cell? ⟨b, 1, none⟩ = some (.map (some mb)) ∧ W.cell? ⟨w.heap.size, 0, none⟩ = some (.int .i64 cur.count) ∧ W.cell? ⟨w.heap.size, 1, none⟩ = some (.int .i64 cur.who)) (first | exact ⟨m0, c0, c1⟩ | exact ⟨cell_more m0, cell_more c0, cell_more c1⟩) (first | simp only [hl1] | simp only [hl2])
          all_goals (
            go_wp2_with fail
            refine ⟨⟨k + 1, m.parent, by omega, by simp, HRM.out, HMW.out, ?_, ?_, ?_⟩, by simp [intOf]; omega⟩
            · exact heap_setCell_same _ w.heap.size 1 _ _ (.int .i64 m.parent.who) (heap_setCell_same _ w.heap.size 0 _ _ (.int .i64 m.parent.count) G0.out)
            · exact ((heap_setCell_other _ _ _ _ (by show w.heap.size + 1 ≠ w.heap.size; omega)).trans (heap_setCell_other _ _ _ _ (by show w.heap.size + 1 ≠ w.heap.size; omega))).trans G1.out
            · exact (((HB.out.alloc HB.out.size _).setCell (p := ⟨w.heap.size, 0, none⟩) (Nat.le_refl _) _).setCell (p := ⟨w.heap.size, 1, none⟩) (Nat.le_refl _) _).drew)
    · obtain rfl : k = N := by omega
      have hrf : r = false := by
        rw [← HLED.out, Nat.sub_self]; rfl
      subst hrf
      go_wp2_with fail
      go_ret
      exact ⟨rfl, HB.out⟩
end Go.Proofs.YtjeijolblcodpaaDoor.W
end

/- Find. -/
section
namespace Go.Proofs.YtjeijolblcodpaaDoor.W
set_option maxRecDepth 20000
set_option linter.unusedVariables false
open Go.RowKit Go.Proofs Arb

set_option maxRecDepth 20000 in
set_option maxHeartbeats 4000000 in
theorem rfind7_any (v : Value) (l : List Nod) (s : St) (w : World) (h : Nods w v l) (hl : l.length ≤ 1000000) :
    Calls Tryd.prog 83 #[v, .agg #[.int .i64 s.count, .int .i64 s.who]] w fun e w' => e = .returned (.tuple #[ndVal (foundOf l s).1, .bool (foundOf l s).2]) ∧ Below w.heap.size w w' := by
  have hc := fun w h => rat7_any v l s w h hl
  obtain ⟨A, c, rfl, hcc⟩ := h.len
  obtain ⟨W1, hW1⟩ : ∃ W, ((w.alloc (.cells #[.int .i64 s.count, .int .i64 s.who] 33)).alloc (.cells (ndArr Nod.zero) 49)) = W := ⟨_, rfl⟩
  have hb0 : Below w.heap.size w W1 := by rw [← hW1]; exact ((Below.refl _ _).alloc (Nat.le_refl _) _).alloc (by simp) _
  have hres : ∀ w', Below W1.heap.size W1 w' → w'.heap[w.heap.size + 1]? = some (.cells #[.int .i64 0, .int .i64 0, .bool false, .int .i64 0, .int .i64 0, .string ⟨#[]⟩, .string ⟨#[]⟩] 49 (0, 0)) := fun w' hb => by
    have h1 : W1.heap[w.heap.size + 1]? = some (.cells (ndArr Nod.zero) 49 (0, 0)) := by
      rw [← hW1]
      have := heap_alloc_new (w.alloc (.cells #[.int .i64 s.count, .int .i64 s.who] 33)) (.cells (ndArr Nod.zero) 49)
      simpa using this
    exact (hb.block _ (Array.getElem?_eq_some_iff.1 h1).1).trans h1
  have HB0 := Go.Lib.hid hb0; have HRES := Go.Lib.hid hres; have HW1 := Go.Lib.hid hW1; clear hb0 hres hW1
  cases hf : findOf l s with
  | none =>
    have hr : foundOf l s = (Nod.zero, false) := by unfold foundOf; rw [hf]
    have ha : atI l s = -1 := by unfold atI; rw [hf]
    rw [hr]
    simp only [ha] at hc
    have HC := Go.Lib.hid hc; have HV := Go.Lib.hid h
    clear hc h hf hr ha
    go_enter Tryd.func83, Tryd.ntmps83
    go_wp2_with fail
    have e := HW1.out; unfold ndArr ndCells Nod.zero St.zero at e; change _ = W1 at e
    first | rw [show ((w.alloc (.cells #[.int .i64 s.count, .int .i64 s.who] 33)).alloc (.cells #[.int .i64 0, .int .i64 0, .bool false, .int .i64 0, .int .i64 0, .string ⟨#[]⟩, .string ⟨#[]⟩] 49)) = W1 from HW1.out] | skip
    refine (HC.out _ (HV.out.below HB0.out)).mono ?_; rintro e w1 ⟨rfl, hb⟩
    have HH := Go.Lib.hid (HRES.out w1 hb)
    have HB := Go.Lib.hid (bstep HB0.out hb); clear hb
    go_wp2_with (refine wpList_store_row rfl 49 (.tmp 4) (.tmp 12) rfl (w.heap.size + 1) (ndArr Nod.zero) rfl rfl 49 _ (HH.out) (size_nd.trans (by rfl)) (by rfl) (ndArr_one _) ?_)
    exact bodyPost_ret (v := .tuple #[ndVal Nod.zero, .bool false]) (results_cell_slot (p := 4) (q := 5) rfl _ _ (w.heap.size + 1) 49 (ndArr Nod.zero) (0, 0) _ rfl (setRow_heap _ _ _ _ _ _ HH.out) Tryd.underlying49 rfl (size_nd.trans (by rfl)) rfl) rfl ⟨rfl, below_setRow HB.out (by omega) _⟩
  | some n =>
    have hr : foundOf l s = (n, true) := by unfold foundOf; rw [hf]
    obtain ⟨k, hk⟩ : ∃ k, atOf l s = k := ⟨_, rfl⟩
    have ha : atI l s = (k : Int) := by unfold atI; rw [hf, ← hk]
    obtain ⟨hg, hlt⟩ := at_get hf
    rw [hk] at hg hlt
    rw [hr]
    simp only [ha] at hc
    have HC := Go.Lib.hid hc; have HV := Go.Lib.hid h; have HG := Go.Lib.hid hg
    clear hc h hf hr ha hk hg
    go_enter Tryd.func83, Tryd.ntmps83
    go_wp2_with fail
    have e := HW1.out; unfold ndArr ndCells Nod.zero St.zero at e; change _ = W1 at e
    first | rw [show ((w.alloc (.cells #[.int .i64 s.count, .int .i64 s.who] 33)).alloc (.cells #[.int .i64 0, .int .i64 0, .bool false, .int .i64 0, .int .i64 0, .string ⟨#[]⟩, .string ⟨#[]⟩] 49)) = W1 from HW1.out] | skip
    refine (HC.out _ (HV.out.below HB0.out)).mono ?_; rintro e w1 ⟨rfl, hb⟩
    have HH := Go.Lib.hid (HRES.out w1 hb)
    obtain ⟨b1, o1, x, rfl, hg1, hx⟩ := ((HV.out.below HB0.out).below hb).at k hlt
    obtain ⟨c0, c1, c2, c3, c4, c5, c6⟩ := nd_cells hx
    obtain rfl : x = n := by have := HG.out; rw [hg1] at this; injection this
    have HB := Go.Lib.hid (bstep HB0.out hb); clear hb hx hg1
    go_wp2_with (refine wpList_store_row rfl 49 (.tmp 4) (.tmp 16) rfl (w.heap.size + 1) (ndArr x) rfl rfl 49 _ (HH.out) (size_nd.trans (by rfl)) (by rfl) (ndArr_one _) ?_)
    exact bodyPost_ret (v := .tuple #[ndVal x, .bool true]) (results_cell_slot (p := 4) (q := 5) rfl _ _ (w.heap.size + 1) 49 (ndArr x) (0, 0) _ rfl (setRow_heap _ _ _ _ _ _ HH.out) Tryd.underlying49 rfl (size_nd.trans (by rfl)) rfl) rfl ⟨rfl, below_setRow HB.out (by omega) _⟩
end Go.Proofs.YtjeijolblcodpaaDoor.W
end

/- The reference of trees: has, Trash, may. -/
section
namespace Go.Proofs.YtjeijolblcodpaaDoor.W
set_option maxRecDepth 20000
set_option linter.unusedVariables false
open Go.RowKit Go.Proofs Arb

theorem take_mem' {α : Type} {l : List α} {k : Nat} {y z : α} (h : l[k]? = some y) (hz : z ∈ l.take (k + 1)) : z ∈ l.take k ∨ z = y := by
  rw [List.take_add_one, h] at hz
  simpa using hz

set_option maxRecDepth 20000 in
set_option maxHeartbeats 2000000 in
theorem rhas7_any (v : Value) (l : List St) (s : St) (w : World) (h : Sts w v l) (hl : l.length ≤ 1000000) :
    Calls Tryd.prog 70 #[v, .agg #[.int .i64 s.count, .int .i64 s.who]] w fun e w' => e = .returned (.bool (decide (s ∈ l))) ∧ Below w.heap.size w w' := by
  obtain ⟨A, c, rfl, hc⟩ := h.len
  obtain ⟨r, hr⟩ : ∃ r, decide (s ∈ l) = r := ⟨_, rfl⟩
  rw [hr]
  obtain ⟨n, hnn⟩ : ∃ n, l.length = n := ⟨_, rfl⟩
  rw [hnn] at h hc hl
  rw [hnn]
  have htl : l.take n = l := List.take_of_length_le (by omega)
  have HV := Go.Lib.hid h; have HR := Go.Lib.hid hr; have HTL := Go.Lib.hid htl
  clear h hr hnn htl
  go_enter Tryd.func70, Tryd.ntmps70
  have hb0 : Below w.heap.size w (w.alloc (.cells #[.int .i64 s.count, .int .i64 s.who] 33)) := (Below.refl _ _).alloc (Nat.le_refl _) _
  have ha0 : (w.alloc (.cells #[.int .i64 s.count, .int .i64 s.who] 33)).cell? ⟨w.heap.size, 0, none⟩ = some (.int .i64 s.count) := by rw [cell_of_row _ _ _ _ _ _ (heap_alloc_new w _)]; rfl
  have ha1 : (w.alloc (.cells #[.int .i64 s.count, .int .i64 s.who] 33)).cell? ⟨w.heap.size, 1, none⟩ = some (.int .i64 s.who) := by rw [cell_of_row _ _ _ _ _ _ (heap_alloc_new w _)]; rfl
  have hlt0 : w.heap.size < (w.alloc (.cells #[.int .i64 s.count, .int .i64 s.who] 33)).heap.size := by simp
  have hv1 := HV.out.below hb0
  go_wp2_with fail
  obtain ⟨W1, hW1⟩ : ∃ W, w.alloc (.cells #[.int .i64 s.count, .int .i64 s.who] 33) = W := ⟨_, rfl⟩
  rw [hW1] at hb0 ha0 ha1 hlt0 hv1 ⊢
  have HB0 := Go.Lib.hid hb0; have HA0 := Go.Lib.hid ha0; have HA1 := Go.Lib.hid ha1; have HV1 := Go.Lib.hid hv1; have HLT := Go.Lib.hid hlt0
  clear hb0 ha0 ha1 hlt0 hv1 hW1
  go_loopw [5, 6, 7, 8, 9, 10, 11, 12, 13, 14, 15, 16, 17] (fun i _ _ _ _ _ _ _ _ _ _ _ _ wr => ∃ k : Nat, k ≤ n ∧ i = .int .i64 (k : Int) ∧ (∀ y ∈ l.take k, y ≠ s) ∧ Below W1.heap.size W1 wr) (fun i _ _ _ _ _ _ _ _ _ _ _ _ _ => n - (intOf i).toNat)
  case atStart => exact ⟨0, by omega, rfl, by simp, Below.refl _ _⟩
  case round =>
    obtain ⟨k, hk, rfl, hall, hbw⟩ := hrel
    have HALL := Go.Lib.hid hall; clear hall
    have HBW := Go.Lib.hid hbw
    by_cases hkn : k < n
    · have hkn' : (k : Int) < (n : Int) := by omega
      obtain ⟨b1, o1, x, rfl, hg1, hx⟩ := (HV1.out.below hbw).at k hkn
      obtain ⟨c0, c1⟩ := st_cells hx
      have d0 := (hbw.cell (p := ⟨w.heap.size, 0, none⟩) HLT.out).trans HA0.out
      have d1 := (hbw.cell (p := ⟨w.heap.size, 1, none⟩) HLT.out).trans HA1.out
      have hq := fun w => eq_st x s w
      obtain ⟨q, hqe⟩ : ∃ q, decide (x = s) = q := ⟨_, rfl⟩
      rw [hqe] at hq
      have HG1 := Go.Lib.hid hg1; have HQ := Go.Lib.hid hqe
      clear hg1 hqe hx hbw
      cases q
      · go_wp2_with fail
        first | (go_quiet (fail)) | skip
        go_wp2_with fail
        refine ⟨⟨k + 1, by omega, by simp, fun y hy => ?_, below_drewN HBW.out _⟩, by simp [intOf]; omega⟩
        rcases take_mem' HG1.out hy with h | rfl
        · exact HALL.out y h
        · exact of_decide_eq_false HQ.out
      · go_wp2_with fail
        first | (go_quiet (fail)) | skip
        go_wp2_with fail
        go_ret
        refine ⟨?_, bstep HB0.out (below_drewN HBW.out _)⟩
        rw [← HR.out, decide_eq_true (by rw [← of_decide_eq_true HQ.out]; exact List.mem_of_getElem? HG1.out)]
        rfl
    · obtain rfl : k = n := by omega
      clear hbw
      go_wp2_with fail
      go_ret
      refine ⟨?_, bstep HB0.out HBW.out⟩
      have := HALL.out
      rw [HTL.out] at this
      rw [← HR.out, decide_eq_false (fun h => this s h rfl)]
      rfl

set_option maxRecDepth 20000 in
set_option maxHeartbeats 1000000 in
theorem rtrash_any (w : World) : Calls Tryd.prog 69 #[] w fun e w' => e = .returned (.agg #[.int .i64 0, .int .i64 1]) ∧ Below w.heap.size w w' := by
  have hh := heap_alloc_new w (.cells #[.int .i64 0, .int .i64 1] 33)
  have hb : Below w.heap.size w (w.alloc (.cells #[.int .i64 0, .int .i64 1] 33)) := (Below.refl _ _).alloc (Nat.le_refl _) _
  have HH := Go.Lib.hid hh; have HB := Go.Lib.hid hb
  clear hh hb
  go_enter Tryd.func69, Tryd.ntmps69
  go_wp2_with fail
  exact bodyPost_ret (v := .agg #[.int .i64 0, .int .i64 1]) (results_cell_row rfl _ _ w.heap.size 33 #[.int .i64 0, .int .i64 1] (0, 0) _ rfl HH.out Tryd.underlying33 rfl (by kernel_rfl)) rfl ⟨rfl, HB.out⟩

theorem mayOf_found (l : List Nod) (s : St) : mayOf l s = (decide (s = St.zero) || ((foundOf l s).2 && (foundOf l s).1.dir)) := by
  unfold mayOf foundOf
  cases findOf l s <;> simp
/-- Find's contract, the node written out. -/
theorem rfind7_out (v : Value) (l : List Nod) (s : St) (w : World) (y : Nod) (b : Bool) (hy : foundOf l s = (y, b)) (h : Nods w v l) (hl : l.length ≤ 1000000) :
    Calls Tryd.prog 83 #[v, .agg #[.int .i64 s.count, .int .i64 s.who]] w fun e w' => e = .returned (.tuple #[.agg #[.int .i64 y.id.count, .int .i64 y.id.who, .bool y.dir, .int .i64 y.parent.count, .int .i64 y.parent.who, .string (BS y.name), .string (BS y.manifest)], .bool b]) ∧ Below w.heap.size w w' := by
  have := rfind7_any v l s w h hl
  rw [hy] at this
  exact this

set_option maxRecDepth 20000 in
set_option maxHeartbeats 2000000 in
theorem rmay7_any (v : Value) (l : List Nod) (s : St) (w : World) (h : Nods w v l) (hl : l.length ≤ 1000000) :
    Calls Tryd.prog 68 #[v, .agg #[.int .i64 s.count, .int .i64 s.who]] w fun e w' => e = .returned (.bool (mayOf l s)) ∧ Below w.heap.size w w' := by
  rw [mayOf_found]
  obtain ⟨y, b, hy⟩ : ∃ y b, foundOf l s = (y, b) := ⟨_, _, rfl⟩
  have hf := fun w h => rfind7_out v l s w y b hy h hl
  have hq := fun w => eq_st s St.zero w
  rw [hy]
  show Calls _ _ _ _ fun e w' => e = .returned (.bool (decide (s = St.zero) || (b && y.dir))) ∧ Below w.heap.size w w'
  obtain ⟨z, hz⟩ : ∃ z, decide (s = St.zero) = z := ⟨_, rfl⟩
  rw [hz] at hq ⊢
  simp only [St.zero] at hq
  obtain ⟨d, hd⟩ : ∃ d, y.dir = d := ⟨_, rfl⟩
  rw [hd] at hf ⊢
  have hb0 : Below w.heap.size w (w.alloc (.cells #[.int .i64 s.count, .int .i64 s.who] 33)) := (Below.refl _ _).alloc (Nat.le_refl _) _
  have ha0 : (w.alloc (.cells #[.int .i64 s.count, .int .i64 s.who] 33)).cell? ⟨w.heap.size, 0, none⟩ = some (.int .i64 s.count) := by rw [cell_of_row _ _ _ _ _ _ (heap_alloc_new w _)]; rfl
  have ha1 : (w.alloc (.cells #[.int .i64 s.count, .int .i64 s.who] 33)).cell? ⟨w.heap.size, 1, none⟩ = some (.int .i64 s.who) := by rw [cell_of_row _ _ _ _ _ _ (heap_alloc_new w _)]; rfl
  have hlt0 : w.heap.size < (w.alloc (.cells #[.int .i64 s.count, .int .i64 s.who] 33)).heap.size := by simp
  have hv1 := h.below hb0
  obtain ⟨W1, hW1⟩ : ∃ W, w.alloc (.cells #[.int .i64 s.count, .int .i64 s.who] 33) = W := ⟨_, rfl⟩
  rw [hW1] at hb0 ha0 ha1 hlt0 hv1
  have hdd : ∀ W2 o, Below W1.heap.size W1 W2 → (W2.alloc o).cell? ⟨w.heap.size, 0, none⟩ = some (.int .i64 s.count) ∧ (W2.alloc o).cell? ⟨w.heap.size, 1, none⟩ = some (.int .i64 s.who) := fun W2 o hb => by
    have hb2 := hb.alloc hb.size o
    exact ⟨(hb2.cell hlt0).trans ha0, (hb2.cell hlt0).trans ha1⟩
  have HF := Go.Lib.hid hf; have HB0 := Go.Lib.hid hb0; have HV1 := Go.Lib.hid hv1; have HW1 := Go.Lib.hid hW1; have HDD := Go.Lib.hid hdd
  clear hf hb0 hv1 hW1 h hy hz hd hdd hlt0
  go_enter Tryd.func68, Tryd.ntmps68
  go_wp2_with fail
  rw [HW1.out]
  go_wp2_with fail
  refine (HF.out _ HV1.out).mono ?_; rintro _ w2 ⟨rfl, hb2⟩
  obtain ⟨d0, d1⟩ := HDD.out w2 (.cells #[.int .i64 y.id.count, .int .i64 y.id.who, .bool d, .int .i64 y.parent.count, .int .i64 y.parent.who, .string (BS y.name), .string (BS y.manifest)] 49) hb2
  have HB2 := Go.Lib.hid ((bstep HB0.out hb2).alloc (bstep HB0.out hb2).size (.cells #[.int .i64 y.id.count, .int .i64 y.id.who, .bool d, .int .i64 y.parent.count, .int .i64 y.parent.who, .string (BS y.name), .string (BS y.manifest)] 49))
  clear hb2
  cases z <;> cases b
  all_goals (
    go_wp2_with fail
    go_ret
    exact ⟨by simp, HB2.out⟩)
end Go.Proofs.YtjeijolblcodpaaDoor.W
end
