/- The program's trees: Fold. -/
import Derived.Test.YtjeijolblcodpaaDoorTreePH
import Derived.Test.YtjeijolblcodpaaDoorMg11
namespace Go.Proofs.YtjeijolblcodpaaDoor.W
set_option maxRecDepth 20000
set_option linter.unusedVariables false
open Go.RowKit Go.Proofs Arb

theorem op_literal (x : Opn) : opVal x = .agg #[.int .i64 x.stamp.count, .int .i64 x.stamp.who, .int .i64 x.seq, .int .i64 x.kind, .int .i64 x.node.count, .int .i64 x.node.who, .bool x.dir, .int .i64 x.parent.count, .int .i64 x.parent.who, .string (BS x.name), .string (BS x.manifest)] := rfl

set_option maxRecDepth 20000 in
set_option maxHeartbeats 8000000 in
theorem ptfold_any (v : Value) (l : List Opn) (w : World) (h : Opns w v l) (hl : l.length ≤ 900) (hwf : ∀ x ∈ l, opWf x) (hT : TMet w) :
    Calls Tryd.prog 21 #[v] w fun e w' => ∃ v', e = .returned v' ∧ Nods w' v' (foldOf l) ∧ Below w.heap.size w w' := by
  obtain ⟨A, c, rfl, hc⟩ := h.len
  have hfw : ∀ n ∈ foldOf l, ndWf n := foldOf_wf hwf
  have hfl := foldOf_length l
  obtain ⟨r, hr⟩ : ∃ r, foldOf l = r := ⟨_, rfl⟩
  rw [hr] at hfw hfl ⊢
  obtain ⟨n, hnn⟩ : ∃ n, l.length = n := ⟨_, rfl⟩
  rw [hnn] at h hc hl hfl
  rw [hnn]
  have htl : l.take n = l := List.take_of_length_le (by omega)
  have hch : ∀ V u k x, l[k]? = some x → Row V w.heap.size 49 7 u (foldOf (l.take k)).length (ndsCells (foldOf (l.take k))) → Below w.heap.size w V → Calls Tryd.prog 36 #[u, opVal x] V fun e w' => ∃ v', e = .returned v' ∧ Row w' w.heap.size 49 7 v' (foldOf (l.take (k + 1))).length (ndsCells (foldOf (l.take (k + 1)))) ∧ Below w.heap.size w w' := fun V u k x hx hu hV => by
    have h1 := foldOf_length (l.take k)
    have h2 : (l.take k).length ≤ 900 := by rw [List.length_take]; omega
    rw [foldOf_take l k x hx]
    exact (pchange_any w.heap.size u (foldOf (l.take k)) x V hu (by omega) (foldOf_wf fun y hy => hwf y (List.mem_of_mem_take hy)) (hT.on hV) hV.size).mono fun e w' ⟨v', h1, h2, h3⟩ => ⟨v', h1, h2, hV.trans h3⟩
  have hfr : ∀ V u, Row V w.heap.size 49 7 u r.length (ndsCells r) → Below w.heap.size w V → Calls Tryd.prog 37 #[u] V fun e w' => e = .returned u ∧ Nods w' u r ∧ Below w.heap.size w w' := fun V u hu hV =>
    (pfresh_any w.heap.size u r V hu (by omega) hfw).mono fun e w' ⟨h1, h2⟩ => ⟨h1, (Nods.of_row hu).below h2, bstep hV h2⟩
  have HV := Go.Lib.hid h; have HR := Go.Lib.hid hr; have HTL := Go.Lib.hid htl; have HCH := Go.Lib.hid hch; have HFR := Go.Lib.hid hfr; have HN := Go.Lib.hid hnn
  clear h hr hnn htl hch hfr hwf hT hfw
  go_enter Tryd.func21, Tryd.ntmps21
  go_wp2_with fail
  go_loopw [3, 5, 8, 9, 10, 11, 12, 13, 14, 15] (fun vo _ i _ _ _ _ _ _ _ wr => ∃ k : Nat, k ≤ n ∧ i = .int .i64 (k : Int) ∧ Row wr w.heap.size 49 7 vo (foldOf (l.take k)).length (ndsCells (foldOf (l.take k))) ∧ Below w.heap.size w wr) (fun _ _ i _ _ _ _ _ _ _ _ => n - (intOf i).toNat)
  case atStart => exact ⟨0, by omega, rfl, Row.nil _ _ _ _, Below.refl _ _⟩
  case round =>
    obtain ⟨k, hk, rfl, hrow, hb⟩ := hrel
    by_cases hkn : k < n
    · have hkn' : (k : Int) < (n : Int) := by omega
      obtain ⟨b1, o1, x, rfl, hg1, hx⟩ := (HV.out.below hb).at k hkn
      obtain ⟨c0, c1, c2, c3, c4, c5, c6, c7, c8, c9, c10⟩ := op_cells hx
      obtain ⟨W2, hW2⟩ : ∃ W, wr.alloc (.cells (opArr x) 35) = W := ⟨_, rfl⟩
      have hb2 : Below w.heap.size w W2 := by rw [← hW2]; exact hb.alloc hb.size _
      have hop2 : OpAt W2 wr.heap.size 0 x := by rw [← hW2]; exact OpAt.new wr x 35
      have hr2 : Row W2 w.heap.size 49 7 u3 (foldOf (l.take k)).length (ndsCells (foldOf (l.take k))) := by rw [← hW2]; exact hrow.alloc _
      have hdo := HCH.out W2 u3 k x hg1 hr2 hb2
      rw [op_literal] at hdo
      unfold opArr opCells at hW2
      have HW2 := Go.Lib.hid hW2; have HOP2 := Go.Lib.hid hop2; have HDO := Go.Lib.hid hdo
      clear hW2 hop2 hdo hr2 hb2 hrow hb hx hg1
      go_wp2_with fail
      rw [HW2.out]
      clear c0 c1 c2 c3 c4 c5 c6 c7 c8 c9 c10
      obtain ⟨c0, c1, c2, c3, c4, c5, c6, c7, c8, c9, c10⟩ := op_cells0 HOP2.out
      go_wp2_with fail
      refine HDO.out.mono ?_; rintro e w3 ⟨v3, rfl, hr3, hb3⟩
      have HR3 := Go.Lib.hid hr3; have HB3 := Go.Lib.hid hb3
      clear hr3 hb3 c0 c1 c2 c3 c4 c5 c6 c7 c8 c9 c10
      go_wp2_with fail
      exact ⟨⟨k + 1, by omega, by simp, HR3.out, HB3.out⟩, by simp [intOf]; omega⟩
    · obtain rfl : k = n := by omega
      rw [HTL.out, HR.out] at hrow
      have hfr := HFR.out wr u3 hrow hb
      have HF := Go.Lib.hid hfr
      clear hrow hb hfr
      go_wp2_with fail
      refine HF.out.mono ?_; rintro e w3 ⟨rfl, hn3, hb3⟩
      have HN3 := Go.Lib.hid hn3; have HB3 := Go.Lib.hid hb3
      clear hn3 hb3
      go_wp2_with fail
      go_ret
      exact ⟨_, rfl, HN3.out, HB3.out⟩
end Go.Proofs.YtjeijolblcodpaaDoor.W
