/- The program's operations: what bytes are. -/
import Derived.Test.YtmkmahjboocoaaaOpsPB
import Derived.Test.YtmkmahjboocoaaaOpsD
namespace Go.Proofs.Ytmkmahjboocoaaa.W
set_option linter.unusedVariables false
open Go.RowKit Go.Proofs Arb

/-- The program's reader and the reference's read the same texts, while nothing is wrong. -/
theorem texts_refOf (l1 : List UInt8) : (rdText l1).1 = (refOf ((rdNum l1).1, l1.drop (rdNum l1).2.1, (rdNum l1).2.2)).1 ∧ (rdText l1).2.2 = (refOf ((rdNum l1).1, l1.drop (rdNum l1).2.1, (rdNum l1).2.2)).2.2 ∧
    ((rdText l1).2.2 ≠ 0 ∨ l1.drop (rdText l1).2.1 = (refOf ((rdNum l1).1, l1.drop (rdNum l1).2.1, (rdNum l1).2.2)).2.1) := by
  unfold refOf rdText
  generalize rdNum l1 = p
  obtain ⟨n, u, e⟩ := p
  simp only [List.length_drop]
  by_cases h1 : e = 0
  · subst h1
    by_cases h2 : l1.length - u < n
    · simp [h2]
    · simp [h2, List.drop_drop]
  · simp [h1]
theorem texts_same (l1 l2 : List UInt8) (e : Int) (h : e ≠ 0 ∨ l1 = l2) : (stepText l1 e).1 = (refText l2 e).1 ∧ (stepText l1 e).2.2 = (refText l2 e).2.2 ∧ ((stepText l1 e).2.2 ≠ 0 ∨ (stepText l1 e).2.1 = (refText l2 e).2.1) := by
  by_cases he : e = 0
  · subst he
    rcases h with h | rfl
    · exact absurd rfl h
    · have hs : stepNum l1 0 = ((rdNum l1).1, l1.drop (rdNum l1).2.1, (rdNum l1).2.2) := by simp [stepNum]
      have ht : stepText l1 0 = ((rdText l1).1, l1.drop (rdText l1).2.1, (rdText l1).2.2) := by simp [stepText]
      have := texts_refOf l1
      rw [ht]
      unfold refText
      rw [hs]
      exact this
  · simp [stepText, refText, refOf, stepNum, he]
theorem ends_same (l1 l2 : List UInt8) (e : Int) (h : e ≠ 0 ∨ l1 = l2) : endOf l1 e = endOf l2 e := by
  rcases h with h | rfl
  · simp [endOf, h]
  · rfl
theorem step_of_rText {l m l' t : List UInt8} {e e' : Int} (hs : rText (l, e) = (t, (l', e'))) (h : e ≠ 0 ∨ m = l) : ∃ m', stepText m e = (t, m', e') ∧ (e' ≠ 0 ∨ m' = l') ∧ m'.length ≤ m.length ∧ t.length ≤ l.length := by
  have k := rText_len hs
  unfold rText at hs
  injection hs with h1 h2
  injection h2 with h2 h3
  obtain ⟨a, b, c⟩ := texts_same m l e h
  refine ⟨(stepText m e).2.1, ?_, ?_, ?_, k.2⟩
  · rw [← h1, ← h3, ← a, ← b]
  · rw [← h3, ← h2, ← b]; exact c
  · unfold stepText
    split
    · exact Nat.le_refl _
    · simp

theorem rnumr_r (b : Nat) (l l' : List UInt8) (e e' n : Int) (w : World) (h : IsR w b l e) (hl : l.length ≤ 281474976710656) (hs : rNum (l, e) = (n, (l', e'))) :
    Calls Try.prog 42 #[.pointer (some ⟨b, 0, none⟩)] w fun x w' => x = .returned (.int .i64 n) ∧ IsR w' b l' e' ∧ w.grownBy w' (some b) := by
  unfold rNum at hs
  injection hs with h1 h2
  injection h2 with h2 h3
  subst h1; subst h2; subst h3
  exact rnumr_any b l e w h hl
theorem rtextr_r (b : Nat) (l l' t : List UInt8) (e e' : Int) (w : World) (h : IsR w b l e) (hl : l.length ≤ 281474976710656) (hs : stepText l e = (t, l', e')) :
    Calls Try.prog 43 #[.pointer (some ⟨b, 0, none⟩)] w fun x w' => x = .returned (.string (BS t)) ∧ IsR w' b l' e' ∧ w.grownBy w' (some b) := by
  have := rtext_any b l e w h hl
  rw [hs] at this
  exact this
theorem size_stamp' : (Try.prog.info? 23).map (·.size) = some 2 := by kernel_rfl
theorem grown_any {w w' : World} {b : Nat} (h : w.grownBy w' none) : w.grownBy w' (some b) := ⟨h.os, h.tape, h.output, h.size, fun k hk _ => h.block k hk (by simp)⟩

set_option maxRecDepth 20000 in
set_option maxHeartbeats 1000000 in
theorem prstamp_any (b : Nat) (l l1 l2 : List UInt8) (e0 e1 e2 n1 n2 : Int) (w : World) (h : IsR w b l e0) (hl : l.length ≤ 1000000) (s1 : rNum (l, e0) = (n1, (l1, e1))) (s2 : rNum (l1, e1) = (n2, (l2, e2))) :
    Calls Try.prog 41 #[.pointer (some ⟨b, 0, none⟩)] w fun x w' => x = .returned (.agg #[.int .i64 n1, .int .i64 n2]) ∧ IsR w' b l2 e2 ∧ w.grownBy w' (some b) := by
  have k1 := rNum_len s1
  have hlt := h.lt
  obtain ⟨W, hW⟩ : ∃ W, w.alloc (.cells #[.int .i64 0, .int .i64 0] 23) = W := ⟨_, rfl⟩
  have h1 : IsR W b l e0 := by rw [← hW]; exact (Below.heap_alloc _ _ _ hlt).trans h
  have hg0 : w.grownBy W (some b) := by rw [← hW]; exact World.grownBy_alloc w _ _
  have hnew : W.heap[w.heap.size]? = some (.cells #[.int .i64 0, .int .i64 0] 23 (0, 0)) := by rw [← hW]; exact heap_alloc_new w _
  have S1 := Go.Lib.hid s1; have S2 := Go.Lib.hid s2
  have HW := Go.Lib.hid hW; have H1 := Go.Lib.hid h1; have HG := Go.Lib.hid hg0; have HN := Go.Lib.hid hnew
  clear s1 s2 hW h1 hg0 hnew h
  go_enter Try.func41, Try.ntmps41
  go_wp2_with fail
  rw [HW.out]
  refine (rnumr_r b l l1 e0 e1 n1 _ H1.out (by omega) S1.out).mono ?_; rintro _ w1 ⟨rfl, hr1, hg1⟩
  have HR1 := Go.Lib.hid hr1; have HG1 := Go.Lib.hid hg1; clear hr1 hg1
  go_wp2_with fail
  refine (rnumr_r b l1 l2 e1 e2 n2 _ HR1.out (by omega) S2.out).mono ?_; rintro _ w2 ⟨rfl, hr2, hg2⟩
  have hn1 := (HG1.out.block _ (Array.getElem?_eq_some_iff.1 HN.out).1 (by simp; omega)).trans HN.out
  have hn2 := (hg2.block _ (Array.getElem?_eq_some_iff.1 hn1).1 (by simp; omega)).trans hn1
  have hc0 : w2.cell? ⟨w.heap.size, 0, none⟩ = some (.int .i64 0) := by rw [cell_of_row _ _ _ _ _ _ hn2]; rfl
  have hc1 : w2.cell? ⟨w.heap.size, 1, none⟩ = some (.int .i64 0) := by rw [cell_of_row _ _ _ _ _ _ hn2]; rfl
  have hf0 := frozen_of_row w2 w.heap.size 0 _ _ hn2
  have hf1 := frozen_of_row w2 w.heap.size 1 _ _ hn2
  have HR2 := Go.Lib.hid hr2; have HG2 := Go.Lib.hid hg2; have HN2 := Go.Lib.hid hn2; clear hr2 hg2 hn2 hn1
  go_wp2_with fail
  have h3 := heap_setCell_same _ _ 1 _ _ (.int .i64 n2) (heap_setCell_same w2 w.heap.size 0 _ _ (.int .i64 n1) HN2.out)
  have hgA := grownBy_trans (grownBy_trans HG.out HG1.out) HG2.out
  refine bodyPost_ret (v := .agg #[.int .i64 n1, .int .i64 n2]) (results_cell_row rfl _ _ w.heap.size 23 #[.int .i64 n1, .int .i64 n2] (0, 0) _ rfl h3 Try.underlying23 rfl (size_stamp'.trans (by rfl))) rfl ⟨rfl, ?_, hgA.os, hgA.tape, hgA.output, by simpa [World.setCell] using hgA.size, fun k hk hne => ?_⟩
  · exact ((heap_setCell_other _ _ _ _ (by simp; omega)).trans (heap_setCell_other _ _ _ _ (by simp; omega))).trans HR2.out
  · rw [heap_setCell_other _ _ _ _ (by simp; omega), heap_setCell_other _ _ _ _ (by simp; omega)]
    exact hgA.block k hk hne

/-- While it is read: the result's block, the reader's. -/
structure PDec (w0 : World) (w : World) (l : List UInt8) (e : Int) : Prop where
  rd : IsR w (w0.heap.size + 1) l e
  res : w.heap[w0.heap.size]? = some (.cells (opArr Opn.zero) 25 (0, 0))
  bel : Below w0.heap.size w0 w
theorem PDec.call {w0 w w' : World} {l l' : List UInt8} {e e' : Int} (h : PDec w0 w l e) (hr : IsR w' (w0.heap.size + 1) l' e') (hg : w.grownBy w' (some (w0.heap.size + 1))) : PDec w0 w' l' e' :=
  ⟨hr, (hg.block _ (Array.getElem?_eq_some_iff.1 h.res).1 (by simp)).trans h.res, h.bel.grown hg h.bel.size (fun k hk => by cases hk; omega)⟩
/-- And the operation's. -/
structure DecP (w0 : World) (w : World) (l : List UInt8) (e : Int) (o : Nat) (cs : Array Value) : Prop where
  dec : PDec w0 w l e
  op : w.heap[o]? = some (.cells cs 25 (0, 0))
  far : w0.heap.size + 1 < o
theorem DecP.call {w0 w w' : World} {l l' : List UInt8} {e e' : Int} {o : Nat} {cs : Array Value} (h : DecP w0 w l e o cs) (hr : IsR w' (w0.heap.size + 1) l' e') (hg : w.grownBy w' (some (w0.heap.size + 1))) : DecP w0 w' l' e' o cs :=
  ⟨h.dec.call hr hg, (hg.block _ (Array.getElem?_eq_some_iff.1 h.op).1 (by have := h.far; simp; omega)).trans h.op, h.far⟩
theorem DecP.store {w0 w : World} {l : List UInt8} {e : Int} {o : Nat} {cs : Array Value} (h : DecP w0 w l e o cs) (j : Nat) (v : Value) : DecP w0 (w.setCell ⟨o, j, none⟩ v) l e o (cs.setIfInBounds j v) :=
  ⟨⟨(heap_setCell_other _ _ _ _ (by have := h.far; simp; omega)).trans h.dec.rd, (heap_setCell_other _ _ _ _ (by have := h.far; simp; omega)).trans h.dec.res, h.dec.bel.setCell (by have := h.far; simp; omega) v⟩, heap_setCell_same w _ j _ _ v h.op, h.far⟩
theorem DecP.cell {w0 w : World} {l : List UInt8} {e : Int} {o : Nat} {cs : Array Value} (h : DecP w0 w l e o cs) (j : Nat) (v : Value) (hv : cs[j]? = some v) : w.cell? ⟨o, j, none⟩ = some v ∧ w.frozen? ⟨o, j, none⟩ = false :=
  ⟨by rw [cell_of_row _ _ _ _ _ _ h.op]; exact hv, frozen_of_row _ _ _ _ _ h.op⟩
theorem PDec.alloc {w0 w : World} {l : List UInt8} {e : Int} (h : PDec w0 w l e) (cs : Array Value) : DecP w0 (w.alloc (.cells cs 25)) l e w.heap.size cs :=
  ⟨⟨(Below.heap_alloc _ _ _ h.rd.lt).trans h.rd, (Below.heap_alloc _ _ _ (Array.getElem?_eq_some_iff.1 h.res).1).trans h.res, h.bel.alloc h.bel.size _⟩, heap_alloc_new w _, h.rd.lt⟩

section
variable {w0 w : World} {l : List UInt8} {e : Int}
theorem PDec.num (h : PDec w0 w l e) (hl : l.length ≤ 1000000) {n e' : Int} {l' : List UInt8} (hs : rNum (l, e) = (n, (l', e'))) :
    Calls Try.prog 42 #[.pointer (some ⟨w0.heap.size + 1, 0, none⟩)] w fun x w' => x = .returned (.int .i64 n) ∧ PDec w0 w' l' e' :=
  (rnumr_r _ l l' e e' n w h.rd (by omega) hs).mono fun x w' hx => ⟨hx.1, h.call hx.2.1 hx.2.2⟩
theorem PDec.stamp (h : PDec w0 w l e) (hl : l.length ≤ 1000000) {n n2 e' e2 : Int} {l' l2 : List UInt8} (hs : rNum (l, e) = (n, (l', e'))) (hs2 : rNum (l', e') = (n2, (l2, e2))) :
    Calls Try.prog 41 #[.pointer (some ⟨w0.heap.size + 1, 0, none⟩)] w fun x w' => x = .returned (.agg #[.int .i64 n, .int .i64 n2]) ∧ PDec w0 w' l2 e2 :=
  (prstamp_any _ l l' l2 e e' e2 n n2 w h.rd hl hs hs2).mono fun x w' hx => ⟨hx.1, h.call hx.2.1 hx.2.2⟩
variable {o : Nat} {cs : Array Value}
theorem DecP.num (h : DecP w0 w l e o cs) (hl : l.length ≤ 1000000) {n e' : Int} {l' : List UInt8} (hs : rNum (l, e) = (n, (l', e'))) :
    Calls Try.prog 42 #[.pointer (some ⟨w0.heap.size + 1, 0, none⟩)] w fun x w' => x = .returned (.int .i64 n) ∧ DecP w0 w' l' e' o cs :=
  (rnumr_r _ l l' e e' n w h.dec.rd (by omega) hs).mono fun x w' hx => ⟨hx.1, h.call hx.2.1 hx.2.2⟩
theorem DecP.stamp (h : DecP w0 w l e o cs) (hl : l.length ≤ 1000000) {n n2 e' e2 : Int} {l' l2 : List UInt8} (hs : rNum (l, e) = (n, (l', e'))) (hs2 : rNum (l', e') = (n2, (l2, e2))) :
    Calls Try.prog 41 #[.pointer (some ⟨w0.heap.size + 1, 0, none⟩)] w fun x w' => x = .returned (.agg #[.int .i64 n, .int .i64 n2]) ∧ DecP w0 w' l2 e2 o cs :=
  (prstamp_any _ l l' l2 e e' e2 n n2 w h.dec.rd hl hs hs2).mono fun x w' hx => ⟨hx.1, h.call hx.2.1 hx.2.2⟩
theorem DecP.text (h : DecP w0 w l e o cs) (hl : l.length ≤ 1000000) {e' : Int} {t l' : List UInt8} (hs : stepText l e = (t, l', e')) :
    Calls Try.prog 43 #[.pointer (some ⟨w0.heap.size + 1, 0, none⟩)] w fun x w' => x = .returned (.string (BS t)) ∧ DecP w0 w' l' e' o cs :=
  (rtextr_r _ l l' t e e' w h.dec.rd (by omega) hs).mono fun x w' hx => ⟨hx.1, h.call hx.2.1 hx.2.2⟩
end

set_option maxRecDepth 20000 in
set_option maxHeartbeats 8000000 in
theorem pdecode_any (data : List UInt8) (w : World) (hd : data.length ≤ 1000000) :
    Calls Try.prog 18 #[.string (BS data)] w fun e w' => e = .returned (.tuple #[opVal (decodeOf data).1, .int .i64 (decodeOf data).2]) ∧ Below w.heap.size w w' := by
  obtain ⟨r, hr⟩ : ∃ r, decodeOf data = r := ⟨_, rfl⟩
  rw [hr]
  unfold decodeOf at hr
  obtain ⟨n1, l1, e1, s1⟩ : ∃ n l e, rNum (data, 0) = (n, (l, e)) := ⟨_, _, _, rfl⟩
  have k1 := rNum_len s1
  obtain ⟨n2, l2, e2, s2⟩ : ∃ n l e, rNum (l1, e1) = (n, (l, e)) := ⟨_, _, _, rfl⟩
  have k2 := rNum_len s2
  obtain ⟨n3, l3, e3, s3⟩ : ∃ n l e, rNum (l2, e2) = (n, (l, e)) := ⟨_, _, _, rfl⟩
  have k3 := rNum_len s3
  obtain ⟨n4, l4, e4, s4⟩ : ∃ n l e, rNum (l3, e3) = (n, (l, e)) := ⟨_, _, _, rfl⟩
  have k4 := rNum_len s4
  obtain ⟨n5, l5, e5, s5⟩ : ∃ n l e, rNum (l4, e4) = (n, (l, e)) := ⟨_, _, _, rfl⟩
  have k5 := rNum_len s5
  obtain ⟨n6, l6, e6, s6⟩ : ∃ n l e, rNum (l5, e5) = (n, (l, e)) := ⟨_, _, _, rfl⟩
  have k6 := rNum_len s6
  obtain ⟨n7, l7, e7, s7⟩ : ∃ n l e, rNum (l6, e6) = (n, (l, e)) := ⟨_, _, _, rfl⟩
  have k7 := rNum_len s7
  obtain ⟨n8, l8, e8, s8⟩ : ∃ n l e, rNum (l7, e7) = (n, (l, e)) := ⟨_, _, _, rfl⟩
  have k8 := rNum_len s8
  obtain ⟨n9, l9, e9, s9⟩ : ∃ n l e, rNum (l8, e8) = (n, (l, e)) := ⟨_, _, _, rfl⟩
  have k9 := rNum_len s9
  obtain ⟨ta, l10, e10, s10⟩ : ∃ n l e, rText (l9, e9) = (n, (l, e)) := ⟨_, _, _, rfl⟩
  obtain ⟨m10, t10, x10, y10, z10⟩ := step_of_rText s10 (.inr rfl)
  have k10 := rText_len s10
  obtain ⟨tb, l11, e11, s11⟩ : ∃ n l e, rText (l10, e10) = (n, (l, e)) := ⟨_, _, _, rfl⟩
  obtain ⟨m11, t11, x11, y11, z11⟩ := step_of_rText s11 x10
  have hee := ends_same m11 l11 e11 x11
  have hro : rOp (data, 0) = (opOf [n1, n2, n3, n4, n5, n6, n7, n8, n9] ta tb, n7, (l11, e11)) := by
    have hns : rNums 9 (data, 0) = ([n1, n2, n3, n4, n5, n6, n7, n8, n9], (l9, e9)) := by
      simp only [rNums, s1, s2, s3, s4, s5, s6, s7, s8, s9]
    unfold rOp
    rw [hns]
    simp only [s10, s11]
    rfl
  rw [hro] at hr
  have T10 := Go.Lib.hid t10; have T11 := Go.Lib.hid t11; have HEE := Go.Lib.hid hee
  have S1 := Go.Lib.hid s1
  have S2 := Go.Lib.hid s2
  have S3 := Go.Lib.hid s3
  have S4 := Go.Lib.hid s4
  have S5 := Go.Lib.hid s5
  have S6 := Go.Lib.hid s6
  have S7 := Go.Lib.hid s7
  have S8 := Go.Lib.hid s8
  have S9 := Go.Lib.hid s9
  clear s1 s2 s3 s4 s5 s6 s7 s8 s9 s10 s11 t10 t11 x10 x11 hro hee
  have HR := Go.Lib.hid hr; clear hr
  have h0 : PDec w ((w.alloc (.cells (opArr Opn.zero) 25)).alloc (.cells #[.string (BS data), .int .i64 0] 79)) data 0 := by
    have e1 := heap_alloc_new w (.cells (opArr Opn.zero) 25)
    have e2 := heap_alloc_new (w.alloc (.cells (opArr Opn.zero) 25)) (.cells #[.string (BS data), .int .i64 0] 79)
    rw [World.size_alloc] at e2
    exact ⟨e2, (Below.heap_alloc _ _ _ (by simp)).trans e1, ((Below.refl _ _).alloc (Nat.le_refl _) _).alloc (by simp) _⟩
  have hz : opArr Opn.zero = #[.int .i64 0, .int .i64 0, .int .i64 0, .int .i64 0, .int .i64 0, .int .i64 0, .bool false, .int .i64 0, .int .i64 0, .string ⟨#[]⟩, .string ⟨#[]⟩] := rfl
  rw [hz] at h0
  have hread := fun w => read_any data w
  have HREAD := Go.Lib.hid hread; clear hread
  have HD := Go.Lib.hid h0; clear h0 hz
  go_enter Try.func18, Try.ntmps18
  go_wp2_with fail
  refine (HREAD.out _).mono ?_; rintro _ w1 ⟨rfl, hw1⟩
  rw [← hw1] at HD
  have hsz : (w.alloc (.cells #[.int .i64 0, .int .i64 0, .int .i64 0, .int .i64 0, .int .i64 0, .int .i64 0, .bool false, .int .i64 0, .int .i64 0, .string ⟨#[]⟩, .string ⟨#[]⟩] 25)).heap.size = w.heap.size + 1 := by simp
  rw [hsz]
  clear hsz hw1 HREAD
  go_wp2_with fail
  refine (HD.out.stamp (by omega) S1.out S2.out).mono ?_; rintro _ w2 ⟨rfl, hd2⟩
  have HD := Go.Lib.hid hd2; clear hd2
  go_wp2_with fail
  refine (HD.out.num (by omega) S3.out).mono ?_; rintro _ w3 ⟨rfl, hd2⟩
  have HD := Go.Lib.hid hd2; clear hd2
  go_wp2_with fail
  refine (HD.out.num (by omega) S4.out).mono ?_; rintro _ w4 ⟨rfl, hd2⟩
  have HD := Go.Lib.hid hd2; clear hd2
  go_wp2_with fail
  refine (HD.out.stamp (by omega) S5.out S6.out).mono ?_; rintro _ w6 ⟨rfl, hd2⟩
  have HD := Go.Lib.hid hd2; clear hd2
  go_wp2_with fail
  have hd2 : DecP w (w6.alloc (.cells #[.int .i64 n1, .int .i64 n2, .int .i64 n3, .int .i64 n4, .int .i64 n5, .int .i64 n6, .bool false, .int .i64 0, .int .i64 0, .string ⟨#[]⟩, .string ⟨#[]⟩] 25)) l6 e6 w6.heap.size #[.int .i64 n1, .int .i64 n2, .int .i64 n3, .int .i64 n4, .int .i64 n5, .int .i64 n6, .bool false, .int .i64 0, .int .i64 0, .string ⟨#[]⟩, .string ⟨#[]⟩] := HD.out.alloc _
  have HD := Go.Lib.hid hd2; clear hd2
  obtain ⟨o, ho⟩ : ∃ o, w6.heap.size = o := ⟨_, rfl⟩
  rw [ho] at HD
  rw [ho]
  clear ho
  refine (HD.out.num (by omega) S7.out).mono ?_; rintro _ w7 ⟨rfl, hd2⟩
  obtain ⟨hc, hf⟩ := hd2.cell 6 (.bool false) rfl
  have hs : DecP w (w7.setCell ⟨o, 6, none⟩ (.bool (n7 == 1))) l7 e7 o #[.int .i64 n1, .int .i64 n2, .int .i64 n3, .int .i64 n4, .int .i64 n5, .int .i64 n6, .bool (n7 == 1), .int .i64 0, .int .i64 0, .string ⟨#[]⟩, .string ⟨#[]⟩] := hd2.store 6 (.bool (n7 == 1))
  have HD := Go.Lib.hid hs; clear hs hd2
  go_wp2_with fail
  clear hc hf
  refine (HD.out.stamp (by omega) S8.out S9.out).mono ?_; rintro _ w9 ⟨rfl, hd2⟩
  have HD := Go.Lib.hid hd2; clear hd2
  go_wp2_with fail
  refine (HD.out.text (by omega) T10.out).mono ?_; rintro _ w10 ⟨rfl, hd2⟩
  have HD := Go.Lib.hid hd2; clear hd2
  go_wp2_with fail
  refine (HD.out.text (by omega) T11.out).mono ?_; rintro _ w11 ⟨rfl, hd2⟩
  obtain ⟨hc7, hf7⟩ := hd2.cell 7 (.int .i64 0) rfl
  obtain ⟨hc8, hf8⟩ := hd2.cell 8 (.int .i64 0) rfl
  obtain ⟨hc9, hf9⟩ := hd2.cell 9 (.string ⟨#[]⟩) rfl
  obtain ⟨hc10, hf10⟩ := hd2.cell 10 (.string ⟨#[]⟩) rfl
  have hs : DecP w ((((w11.setCell ⟨o, 7, none⟩ (.int .i64 n8)).setCell ⟨o, 8, none⟩ (.int .i64 n9)).setCell ⟨o, 9, none⟩ (.string (BS ta))).setCell ⟨o, 10, none⟩ (.string (BS tb))) m11 e11 o #[.int .i64 n1, .int .i64 n2, .int .i64 n3, .int .i64 n4, .int .i64 n5, .int .i64 n6, .bool (n7 == 1), .int .i64 n8, .int .i64 n9, .string (BS ta), .string (BS tb)] :=
    (((hd2.store 7 (.int .i64 n8)).store 8 (.int .i64 n9)).store 9 (.string (BS ta))).store 10 (.string (BS tb))
  have HD := Go.Lib.hid hs; clear hs hd2
  go_wp2_with fail
  clear hc7 hf7 hc8 hf8 hc9 hf9 hc10 hf10
  obtain ⟨W, hW⟩ : ∃ W, (((w11.setCell ⟨o, 7, none⟩ (.int .i64 n8)).setCell ⟨o, 8, none⟩ (.int .i64 n9)).setCell ⟨o, 9, none⟩ (.string (BS ta))).setCell ⟨o, 10, none⟩ (.string (BS tb)) = W := ⟨_, rfl⟩
  have hs := HD.out
  rw [hW] at hs
  rw [hW]
  clear hW
  refine (end_any _ m11 e11 W hs.dec.rd).mono ?_; rintro _ w12 ⟨rfl, rfl⟩
  rw [HEE.out]
  obtain ⟨hX0, -⟩ := hs.cell 0 (.int .i64 n1) rfl
  obtain ⟨hX1, -⟩ := hs.cell 1 (.int .i64 n2) rfl
  obtain ⟨hX2, -⟩ := hs.cell 2 (.int .i64 n3) rfl
  obtain ⟨hX3, -⟩ := hs.cell 3 (.int .i64 n4) rfl
  obtain ⟨hX4, -⟩ := hs.cell 4 (.int .i64 n5) rfl
  obtain ⟨hX5, -⟩ := hs.cell 5 (.int .i64 n6) rfl
  obtain ⟨hX6, -⟩ := hs.cell 6 (.bool (n7 == 1)) rfl
  obtain ⟨hX7, -⟩ := hs.cell 7 (.int .i64 n8) rfl
  obtain ⟨hX8, -⟩ := hs.cell 8 (.int .i64 n9) rfl
  obtain ⟨hX9, -⟩ := hs.cell 9 (.string (BS ta)) rfl
  obtain ⟨hX10, -⟩ := hs.cell 10 (.string (BS tb)) rfl
  have hres := hs.dec.res
  have hbel := hs.dec.bel
  have hopx := hs.op
  have HOPX := Go.Lib.hid hopx; clear hopx
  have HRES := Go.Lib.hid hres; have HBEL := Go.Lib.hid hbel
  have hrr := HR.out
  unfold decodeRes at hrr
  simp only at hrr
  obtain ⟨en, hen⟩ : ∃ e, endOf l11 e11 = e := ⟨_, rfl⟩
  rw [hen] at hrr
  rw [hen]
  have hc3 := fun w => popright_big (opOf [n1, n2, n3, n4, n5, n6, n7, n8, n9] ta tb) w (by show ta.length ≤ _; omega)
  obtain ⟨xx, hxx⟩ : ∃ x, opOf [n1, n2, n3, n4, n5, n6, n7, n8, n9] ta tb = x := ⟨_, rfl⟩
  have hval : opVal xx = .agg #[.int .i64 n1, .int .i64 n2, .int .i64 n3, .int .i64 n4, .int .i64 n5, .int .i64 n6, .bool (n7 == 1), .int .i64 n8, .int .i64 n9, .string (BS ta), .string (BS tb)] := by rw [← hxx]; rfl
  rw [hxx] at hc3 hrr
  obtain ⟨rv, hrv⟩ : ∃ e, xx.right = e := ⟨_, rfl⟩
  rw [hrv] at hc3 hrr
  rw [hval] at hc3
  have HV := Go.Lib.hid hval; clear hval
  clear hs hres hbel hen hrv HD hxx
  have hone : ∀ b : Bool, (#[.int .i64 n1, .int .i64 n2, .int .i64 n3, .int .i64 n4, .int .i64 n5, .int .i64 n6, .bool b, .int .i64 n8, .int .i64 n9, .string (BS ta), .string (BS tb)] : Array Value).all (·.oneCell') = true := fun b => by simp [Value.oneCell']
  have HONE := Go.Lib.hid hone; clear hone
  have hlt : w.heap.size < W.heap.size := (Array.getElem?_eq_some_iff.1 HRES.out).1
  have HLT := Go.Lib.hid hlt; clear hlt
  by_cases h0 : en = 0
  · rw [if_neg (by simp [h0])] at hrr
    subst h0
    by_cases h70 : n7 = 0
    · subst h70
      have hc4 : ∀ w, Calls Try.prog 13 #[.agg #[.int .i64 n1, .int .i64 n2, .int .i64 n3, .int .i64 n4, .int .i64 n5, .int .i64 n6, .bool false, .int .i64 n8, .int .i64 n9, .string (BS ta), .string (BS tb)]] w fun e w' => e = .returned (.int .i64 rv) ∧ Below w.heap.size w w' := hc3
      have HC3 := Go.Lib.hid hc4; clear hc4 hc3
      have hv : opVal xx = .agg #[.int .i64 n1, .int .i64 n2, .int .i64 n3, .int .i64 n4, .int .i64 n5, .int .i64 n6, .bool false, .int .i64 n8, .int .i64 n9, .string (BS ta), .string (BS tb)] := HV.out
      have hop : ∀ w', Below W.heap.size W w' → w'.heap[o]? = some (.cells #[.int .i64 n1, .int .i64 n2, .int .i64 n3, .int .i64 n4, .int .i64 n5, .int .i64 n6, .bool false, .int .i64 n8, .int .i64 n9, .string (BS ta), .string (BS tb)] 25 (0, 0)) := fun w' hb => (hb.block _ (Array.getElem?_eq_some_iff.1 HOPX.out).1).trans HOPX.out
      have HOPY := Go.Lib.hid hop; clear hop
      by_cases hrv : rv = 0
      · rw [if_neg (by simp [hrv])] at hrr
        subst hrv
        subst hrr
        have HVV := Go.Lib.hid hv; clear hv
        go_wp2_with (first | (go_at_call 13; with_reducible refine (HC3.out _).mono ?_; rintro e w13 ⟨rfl, hb⟩; have HRES2 := Go.Lib.hid ((hb.block w.heap.size HLT.out).trans HRES.out); have HBEL2 := Go.Lib.hid (bstep HBEL.out hb); have HX := Go.Lib.hid (HOPY.out _ hb); clear hb) | (refine wpList_load_row rfl 25 (.tmp 5) rfl o rfl 25 _ (0, 0) _ HX.out Try.underlying25 rfl (size_op.trans (by rfl)) ?_) | (refine wpList_store_row rfl 25 (.tmp 2) (.tmp 51) rfl w.heap.size #[.int .i64 n1, .int .i64 n2, .int .i64 n3, .int .i64 n4, .int .i64 n5, .int .i64 n6, .bool false, .int .i64 n8, .int .i64 n9, .string (BS ta), .string (BS tb)] rfl rfl 25 _ HRES2.out (size_op.trans (by rfl)) (by rfl) (HONE.out _) ?_))
        exact bodyPost_ret (v := .tuple #[.agg #[.int .i64 n1, .int .i64 n2, .int .i64 n3, .int .i64 n4, .int .i64 n5, .int .i64 n6, .bool false, .int .i64 n8, .int .i64 n9, .string (BS ta), .string (BS tb)], .int .i64 0]) (results_cell_slot (p := 2) (q := 3) rfl _ _ w.heap.size 25 #[.int .i64 n1, .int .i64 n2, .int .i64 n3, .int .i64 n4, .int .i64 n5, .int .i64 n6, .bool false, .int .i64 n8, .int .i64 n9, .string (BS ta), .string (BS tb)] (0, 0) _ rfl (setRow_heap _ _ _ _ _ _ HRES2.out) Try.underlying25 rfl (size_op.trans (by rfl)) rfl) rfl ⟨by show _ = Ending.returned (.tuple #[opVal xx, .int .i64 0]); rw [HVV.out], below_setRow HBEL2.out (Nat.le_refl _) _⟩
      · rw [if_pos (.inr hrv)] at hrr
        subst hrr
        have hne : (rv != 0) = true := by simp [hrv]
        clear hv hrv
        go_wp2_with (first | (go_at_call 13; with_reducible refine (HC3.out _).mono ?_; rintro e w13 ⟨rfl, hb⟩; have HRES2 := Go.Lib.hid ((hb.block w.heap.size HLT.out).trans HRES.out); have HBEL2 := Go.Lib.hid (bstep HBEL.out hb); have HX := Go.Lib.hid (HOPY.out _ hb); clear hb) | (refine wpList_store_row rfl 25 (.tmp 2) (.tmp 50) rfl w.heap.size (opArr Opn.zero) rfl rfl 25 _ HRES2.out (size_op.trans (by rfl)) (by rfl) (opArr_one _) ?_))
        exact bodyPost_ret (v := .tuple #[opVal Opn.zero, .int .i64 11]) (results_cell_slot (p := 2) (q := 3) rfl _ _ w.heap.size 25 (opArr Opn.zero) (0, 0) _ rfl (setRow_heap _ _ _ _ _ _ HRES2.out) Try.underlying25 rfl (size_op.trans (by rfl)) rfl) rfl ⟨rfl, below_setRow HBEL2.out (Nat.le_refl _) _⟩
    by_cases h71 : n7 = 1
    · subst h71
      have hc4 : ∀ w, Calls Try.prog 13 #[.agg #[.int .i64 n1, .int .i64 n2, .int .i64 n3, .int .i64 n4, .int .i64 n5, .int .i64 n6, .bool true, .int .i64 n8, .int .i64 n9, .string (BS ta), .string (BS tb)]] w fun e w' => e = .returned (.int .i64 rv) ∧ Below w.heap.size w w' := hc3
      have HC3 := Go.Lib.hid hc4; clear hc4 hc3
      have hv : opVal xx = .agg #[.int .i64 n1, .int .i64 n2, .int .i64 n3, .int .i64 n4, .int .i64 n5, .int .i64 n6, .bool true, .int .i64 n8, .int .i64 n9, .string (BS ta), .string (BS tb)] := HV.out
      have hop : ∀ w', Below W.heap.size W w' → w'.heap[o]? = some (.cells #[.int .i64 n1, .int .i64 n2, .int .i64 n3, .int .i64 n4, .int .i64 n5, .int .i64 n6, .bool true, .int .i64 n8, .int .i64 n9, .string (BS ta), .string (BS tb)] 25 (0, 0)) := fun w' hb => (hb.block _ (Array.getElem?_eq_some_iff.1 HOPX.out).1).trans HOPX.out
      have HOPY := Go.Lib.hid hop; clear hop
      by_cases hrv : rv = 0
      · rw [if_neg (by simp [hrv])] at hrr
        subst hrv
        subst hrr
        have HVV := Go.Lib.hid hv; clear hv
        go_wp2_with (first | (go_at_call 13; with_reducible refine (HC3.out _).mono ?_; rintro e w13 ⟨rfl, hb⟩; have HRES2 := Go.Lib.hid ((hb.block w.heap.size HLT.out).trans HRES.out); have HBEL2 := Go.Lib.hid (bstep HBEL.out hb); have HX := Go.Lib.hid (HOPY.out _ hb); clear hb) | (refine wpList_load_row rfl 25 (.tmp 5) rfl o rfl 25 _ (0, 0) _ HX.out Try.underlying25 rfl (size_op.trans (by rfl)) ?_) | (refine wpList_store_row rfl 25 (.tmp 2) (.tmp 51) rfl w.heap.size #[.int .i64 n1, .int .i64 n2, .int .i64 n3, .int .i64 n4, .int .i64 n5, .int .i64 n6, .bool true, .int .i64 n8, .int .i64 n9, .string (BS ta), .string (BS tb)] rfl rfl 25 _ HRES2.out (size_op.trans (by rfl)) (by rfl) (HONE.out _) ?_))
        exact bodyPost_ret (v := .tuple #[.agg #[.int .i64 n1, .int .i64 n2, .int .i64 n3, .int .i64 n4, .int .i64 n5, .int .i64 n6, .bool true, .int .i64 n8, .int .i64 n9, .string (BS ta), .string (BS tb)], .int .i64 0]) (results_cell_slot (p := 2) (q := 3) rfl _ _ w.heap.size 25 #[.int .i64 n1, .int .i64 n2, .int .i64 n3, .int .i64 n4, .int .i64 n5, .int .i64 n6, .bool true, .int .i64 n8, .int .i64 n9, .string (BS ta), .string (BS tb)] (0, 0) _ rfl (setRow_heap _ _ _ _ _ _ HRES2.out) Try.underlying25 rfl (size_op.trans (by rfl)) rfl) rfl ⟨by show _ = Ending.returned (.tuple #[opVal xx, .int .i64 0]); rw [HVV.out], below_setRow HBEL2.out (Nat.le_refl _) _⟩
      · rw [if_pos (.inr hrv)] at hrr
        subst hrr
        have hne : (rv != 0) = true := by simp [hrv]
        clear hv hrv
        go_wp2_with (first | (go_at_call 13; with_reducible refine (HC3.out _).mono ?_; rintro e w13 ⟨rfl, hb⟩; have HRES2 := Go.Lib.hid ((hb.block w.heap.size HLT.out).trans HRES.out); have HBEL2 := Go.Lib.hid (bstep HBEL.out hb); have HX := Go.Lib.hid (HOPY.out _ hb); clear hb) | (refine wpList_store_row rfl 25 (.tmp 2) (.tmp 50) rfl w.heap.size (opArr Opn.zero) rfl rfl 25 _ HRES2.out (size_op.trans (by rfl)) (by rfl) (opArr_one _) ?_))
        exact bodyPost_ret (v := .tuple #[opVal Opn.zero, .int .i64 11]) (results_cell_slot (p := 2) (q := 3) rfl _ _ w.heap.size 25 (opArr Opn.zero) (0, 0) _ rfl (setRow_heap _ _ _ _ _ _ HRES2.out) Try.underlying25 rfl (size_op.trans (by rfl)) rfl) rfl ⟨rfl, below_setRow HBEL2.out (Nat.le_refl _) _⟩
    rw [if_pos (.inl ⟨h70, h71⟩)] at hrr
    subst hrr
    by_cases hneg : n7 < 0
    · clear h70 h71 hc3
      go_wp2_with (refine wpList_store_row rfl 25 (.tmp 2) (.tmp 50) rfl w.heap.size (opArr Opn.zero) rfl rfl 25 _ HRES.out (size_op.trans (by rfl)) (by rfl) (opArr_one _) ?_)
      exact bodyPost_ret (v := .tuple #[opVal Opn.zero, .int .i64 11]) (results_cell_slot (p := 2) (q := 3) rfl _ _ w.heap.size 25 (opArr Opn.zero) (0, 0) _ rfl (setRow_heap _ _ _ _ _ _ HRES.out) Try.underlying25 rfl (size_op.trans (by rfl)) rfl) rfl ⟨rfl, below_setRow HBEL.out (Nat.le_refl _) _⟩
    · have hbig : 1 < n7 := by omega
      clear h70 h71 hc3
      go_wp2_with (refine wpList_store_row rfl 25 (.tmp 2) (.tmp 50) rfl w.heap.size (opArr Opn.zero) rfl rfl 25 _ HRES.out (size_op.trans (by rfl)) (by rfl) (opArr_one _) ?_)
      exact bodyPost_ret (v := .tuple #[opVal Opn.zero, .int .i64 11]) (results_cell_slot (p := 2) (q := 3) rfl _ _ w.heap.size 25 (opArr Opn.zero) (0, 0) _ rfl (setRow_heap _ _ _ _ _ _ HRES.out) Try.underlying25 rfl (size_op.trans (by rfl)) rfl) rfl ⟨rfl, below_setRow HBEL.out (Nat.le_refl _) _⟩
  · rw [if_pos h0] at hrr
    subst hrr
    have hne : (en != 0) = true := by simp [h0]
    clear h0 hc3
    go_wp2_with (refine wpList_store_row rfl 25 (.tmp 2) (.tmp 37) rfl w.heap.size (opArr Opn.zero) rfl rfl 25 _ HRES.out (size_op.trans (by rfl)) (by rfl) (opArr_one _) ?_)
    exact bodyPost_ret (v := .tuple #[opVal Opn.zero, .int .i64 en]) (results_cell_slot (p := 2) (q := 3) rfl _ _ w.heap.size 25 (opArr Opn.zero) (0, 0) _ rfl (setRow_heap _ _ _ _ _ _ HRES.out) Try.underlying25 rfl (size_op.trans (by rfl)) rfl) rfl ⟨rfl, below_setRow HBEL.out (Nat.le_refl _) _⟩
end Go.Proofs.Ytmkmahjboocoaaa.W
