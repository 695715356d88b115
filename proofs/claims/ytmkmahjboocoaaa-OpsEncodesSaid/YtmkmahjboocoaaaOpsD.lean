/- The reference of operations: what bytes are. -/
import Derived.Test.YtmkmahjboocoaaaOpsB
import Derived.Test.YtmkmahjboocoaaaCodecF
import Derived.Laws.Rows
import Derived.Laws.Tables
import Derived.Laws.CopyOwn
namespace Go.Proofs.Ytmkmahjboocoaaa.W
set_option linter.unusedVariables false
open Go.RowKit Go.Proofs Arb

theorem refText_len (l : List UInt8) (e : Int) : (refText l e).2.1.length ≤ l.length ∧ (refText l e).1.length ≤ l.length := by
  have h := stepNum_len l e
  unfold refText refOf
  split
  · exact ⟨h, Nat.zero_le _⟩
  · split
    · exact ⟨h, Nat.zero_le _⟩
    · simp only [List.length_drop, List.length_take]
      omega
/-- While it is read: the result's block, the reader's, the operation's. -/
structure DecSt (w0 : World) (w : World) (l : List UInt8) (e : Int) (cs : Array Value) : Prop where
  rd : IsF w (w0.heap.size + 1) l e
  op : w.heap[w0.heap.size + 2]? = some (.cells cs 25 (0, 0))
  res : w.heap[w0.heap.size]? = some (.cells (opArr Opn.zero) 25 (0, 0))
  bel : Below w0.heap.size w0 w
theorem DecSt.call {w0 w w' : World} {l l' : List UInt8} {e e' : Int} {cs : Array Value} (h : DecSt w0 w l e cs) (hr : IsF w' (w0.heap.size + 1) l' e') (hg : w.grownBy w' (some (w0.heap.size + 1))) : DecSt w0 w' l' e' cs :=
  ⟨hr, (hg.block _ (Array.getElem?_eq_some_iff.1 h.op).1 (by simp)).trans h.op, (hg.block _ (Array.getElem?_eq_some_iff.1 h.res).1 (by simp)).trans h.res, h.bel.grown hg h.bel.size (fun k hk => by cases hk; omega)⟩
theorem DecSt.store {w0 w : World} {l : List UInt8} {e : Int} {cs : Array Value} (h : DecSt w0 w l e cs) (j : Nat) (v : Value) : DecSt w0 (w.setCell ⟨w0.heap.size + 2, j, none⟩ v) l e (cs.setIfInBounds j v) :=
  ⟨(heap_setCell_other _ _ _ _ (by simp)).trans h.rd, heap_setCell_same w _ j _ _ v h.op, (heap_setCell_other _ _ _ _ (by simp)).trans h.res, h.bel.setCell (by simp) v⟩
theorem DecSt.cell {w0 w : World} {l : List UInt8} {e : Int} {cs : Array Value} (h : DecSt w0 w l e cs) (j : Nat) (v : Value) (hv : cs[j]? = some v) : w.cell? ⟨w0.heap.size + 2, j, none⟩ = some v ∧ w.frozen? ⟨w0.heap.size + 2, j, none⟩ = false :=
  ⟨by rw [cell_of_row _ _ _ _ _ _ h.op]; exact hv, frozen_of_row _ _ _ _ _ h.op⟩

theorem fnum_r (w0 w : World) (l l' : List UInt8) (e e' n : Int) (cs : Array Value) (h : DecSt w0 w l e cs) (hl : l.length ≤ 281474976710656) (hs : rNum (l, e) = (n, (l', e'))) :
    Calls Try.prog 45 #[.pointer (some ⟨w0.heap.size + 1, 0, none⟩)] w fun x w' => x = .returned (.int .i64 n) ∧ DecSt w0 w' l' e' cs := by
  unfold rNum at hs
  injection hs with h1 h2
  injection h2 with h2 h3
  subst h1; subst h2; subst h3
  exact (fnum_any _ l e w h.rd hl).mono fun x w' hx => ⟨hx.1, h.call hx.2.1 hx.2.2⟩
theorem ftext_r (w0 w : World) (l l' t : List UInt8) (e e' : Int) (cs : Array Value) (h : DecSt w0 w l e cs) (hl : l.length ≤ 281474976710656) (hs : rText (l, e) = (t, (l', e'))) :
    Calls Try.prog 46 #[.pointer (some ⟨w0.heap.size + 1, 0, none⟩)] w fun x w' => x = .returned (.string (BS t)) ∧ DecSt w0 w' l' e' cs := by
  unfold rText at hs
  injection hs with h1 h2
  injection h2 with h2 h3
  subst h1; subst h2; subst h3
  exact (ftext_any _ l e w h.rd hl).mono fun x w' hx => ⟨hx.1, h.call hx.2.1 hx.2.2⟩
theorem rNum_len {l l' : List UInt8} {e e' n : Int} (hs : rNum (l, e) = (n, (l', e'))) : l'.length ≤ l.length := by
  unfold rNum at hs
  injection hs with h1 h2
  injection h2 with h2 h3
  rw [← h2]
  exact stepNum_len l e
theorem rText_len {l l' t : List UInt8} {e e' : Int} (hs : rText (l, e) = (t, (l', e'))) : l'.length ≤ l.length ∧ t.length ≤ l.length := by
  unfold rText at hs
  injection hs with h1 h2
  injection h2 with h2 h3
  rw [← h1, ← h2]
  exact refText_len l e

set_option maxRecDepth 20000 in
set_option maxHeartbeats 8000000 in
theorem rdecode_any (data : List UInt8) (w : World) (hd : data.length ≤ 1000000) :
    Calls Try.prog 19 #[.string (BS data)] w fun e w' => e = .returned (.tuple #[opVal (decodeOf data).1, .int .i64 (decodeOf data).2]) ∧ Below w.heap.size w w' := by
  obtain ⟨r, hr⟩ : ∃ r, decodeOf data = r := ⟨_, rfl⟩
  rw [hr]
  unfold decodeOf at hr
  obtain ⟨n1, l1, e1, s1⟩ : ∃ n l e, rNum (data, 0) = (n, (l, e)) := ⟨_, _, _, rfl⟩
  have k1 := rNum_len s1
  obtain ⟨n2, l2, e2, s2⟩ : ∃ n l e, rNum (l1, e1) = (n, (l, e)) := ⟨_, _, _, rfl⟩
  have k2 := rNum_len s2
  obtain ⟨n3, l3, e3, s3⟩ : ∃ n l e, rNum (l2, e2) = (n, (l, e)) := ⟨_, _, _, rfl⟩
  have k3 := rNum_len s3
  obtain ⟨n4, l4, e4, s4⟩ : ∃ n l e, rNum (l3, e3) = (n, (l, e)) := ⟨_, _, _, rfl⟩
  have k4 := rNum_len s4
  obtain ⟨n5, l5, e5, s5⟩ : ∃ n l e, rNum (l4, e4) = (n, (l, e)) := ⟨_, _, _, rfl⟩
  have k5 := rNum_len s5
  obtain ⟨n6, l6, e6, s6⟩ : ∃ n l e, rNum (l5, e5) = (n, (l, e)) := ⟨_, _, _, rfl⟩
  have k6 := rNum_len s6
  obtain ⟨n7, l7, e7, s7⟩ : ∃ n l e, rNum (l6, e6) = (n, (l, e)) := ⟨_, _, _, rfl⟩
  have k7 := rNum_len s7
  obtain ⟨n8, l8, e8, s8⟩ : ∃ n l e, rNum (l7, e7) = (n, (l, e)) := ⟨_, _, _, rfl⟩
  have k8 := rNum_len s8
  obtain ⟨n9, l9, e9, s9⟩ : ∃ n l e, rNum (l8, e8) = (n, (l, e)) := ⟨_, _, _, rfl⟩
  have k9 := rNum_len s9
  obtain ⟨ta, l10, e10, s10⟩ : ∃ n l e, rText (l9, e9) = (n, (l, e)) := ⟨_, _, _, rfl⟩
  obtain ⟨k10, m10⟩ := rText_len s10
  obtain ⟨tb, l11, e11, s11⟩ : ∃ n l e, rText (l10, e10) = (n, (l, e)) := ⟨_, _, _, rfl⟩
  obtain ⟨k11, m11⟩ := rText_len s11
  have hro : rOp (data, 0) = (opOf [n1, n2, n3, n4, n5, n6, n7, n8, n9] ta tb, n7, (l11, e11)) := by
    have hns : rNums 9 (data, 0) = ([n1, n2, n3, n4, n5, n6, n7, n8, n9], (l9, e9)) := by
      simp only [rNums, s1, s2, s3, s4, s5, s6, s7, s8, s9]
    unfold rOp
    rw [hns]
    simp only [s10, s11]
    rfl
  rw [hro] at hr
  have S10 := Go.Lib.hid s10; have S11 := Go.Lib.hid s11
  have S1 := Go.Lib.hid s1
  have S2 := Go.Lib.hid s2
  have S3 := Go.Lib.hid s3
  have S4 := Go.Lib.hid s4
  have S5 := Go.Lib.hid s5
  have S6 := Go.Lib.hid s6
  have S7 := Go.Lib.hid s7
  have S8 := Go.Lib.hid s8
  have S9 := Go.Lib.hid s9
  clear s1 s2 s3 s4 s5 s6 s7 s8 s9 s10 s11 hro
  have HR := Go.Lib.hid hr; clear hr
  have h0 : DecSt w (((w.alloc (.cells (opArr Opn.zero) 25)).alloc (.cells #[.string (BS data), .int .i64 0] 67)).alloc (.cells (opArr Opn.zero) 25)) data 0 (opArr Opn.zero) := by
    have e1 := heap_alloc_new w (.cells (opArr Opn.zero) 25)
    have e2 := heap_alloc_new (w.alloc (.cells (opArr Opn.zero) 25)) (.cells #[.string (BS data), .int .i64 0] 67)
    have e3 := heap_alloc_new ((w.alloc (.cells (opArr Opn.zero) 25)).alloc (.cells #[.string (BS data), .int .i64 0] 67)) (.cells (opArr Opn.zero) 25)
    rw [World.size_alloc] at e2 e3
    rw [World.size_alloc] at e3
    refine ⟨(Below.heap_alloc _ _ _ (by simp)).trans e2, e3, ?_, (((Below.refl _ _).alloc (Nat.le_refl _) _).alloc (by simp) _).alloc (by simp; omega) _⟩
    exact (Below.heap_alloc _ _ _ (by simp; omega)).trans ((Below.heap_alloc _ _ _ (by simp)).trans e1)
  obtain ⟨W0, hW0⟩ : ∃ W, (((w.alloc (.cells (opArr Opn.zero) 25)).alloc (.cells #[.string (BS data), .int .i64 0] 67)).alloc (.cells (opArr Opn.zero) 25)) = W := ⟨_, rfl⟩
  rw [hW0] at h0
  have hz : opArr Opn.zero = #[.int .i64 0, .int .i64 0, .int .i64 0, .int .i64 0, .int .i64 0, .int .i64 0, .bool false, .int .i64 0, .int .i64 0, .string ⟨#[]⟩, .string ⟨#[]⟩] := rfl
  rw [hz] at hW0 h0
  have HW0 := Go.Lib.hid hW0; clear hW0
  have HD := Go.Lib.hid h0; clear h0 hz
  go_enter Try.func19, Try.ntmps19
  go_wp2_with fail
  rw [HW0.out]
  refine (fnum_r w _ data l1 0 e1 n1 _ HD.out (by omega) S1.out).mono ?_; rintro _ w1 ⟨rfl, hd1⟩
  obtain ⟨hc, hf⟩ := hd1.cell 0 (.int .i64 0) rfl
  have hs : DecSt w (w1.setCell ⟨w.heap.size + 2, 0, none⟩ (.int .i64 n1)) l1 e1 #[.int .i64 n1, .int .i64 0, .int .i64 0, .int .i64 0, .int .i64 0, .int .i64 0, .bool false, .int .i64 0, .int .i64 0, .string ⟨#[]⟩, .string ⟨#[]⟩] := hd1.store 0 (.int .i64 n1)
  have HD := Go.Lib.hid hs; clear hs hd1
  go_wp2_with fail
  clear hc hf
  refine (fnum_r w _ l1 l2 e1 e2 n2 _ HD.out (by omega) S2.out).mono ?_; rintro _ w2 ⟨rfl, hd2⟩
  obtain ⟨hc, hf⟩ := hd2.cell 1 (.int .i64 0) rfl
  have hs : DecSt w (w2.setCell ⟨w.heap.size + 2, 1, none⟩ (.int .i64 n2)) l2 e2 #[.int .i64 n1, .int .i64 n2, .int .i64 0, .int .i64 0, .int .i64 0, .int .i64 0, .bool false, .int .i64 0, .int .i64 0, .string ⟨#[]⟩, .string ⟨#[]⟩] := hd2.store 1 (.int .i64 n2)
  have HD := Go.Lib.hid hs; clear hs hd2
  go_wp2_with fail
  clear hc hf
  refine (fnum_r w _ l2 l3 e2 e3 n3 _ HD.out (by omega) S3.out).mono ?_; rintro _ w3 ⟨rfl, hd3⟩
  obtain ⟨hc, hf⟩ := hd3.cell 2 (.int .i64 0) rfl
  have hs : DecSt w (w3.setCell ⟨w.heap.size + 2, 2, none⟩ (.int .i64 n3)) l3 e3 #[.int .i64 n1, .int .i64 n2, .int .i64 n3, .int .i64 0, .int .i64 0, .int .i64 0, .bool false, .int .i64 0, .int .i64 0, .string ⟨#[]⟩, .string ⟨#[]⟩] := hd3.store 2 (.int .i64 n3)
  have HD := Go.Lib.hid hs; clear hs hd3
  go_wp2_with fail
  clear hc hf
  refine (fnum_r w _ l3 l4 e3 e4 n4 _ HD.out (by omega) S4.out).mono ?_; rintro _ w4 ⟨rfl, hd4⟩
  obtain ⟨hc, hf⟩ := hd4.cell 3 (.int .i64 0) rfl
  have hs : DecSt w (w4.setCell ⟨w.heap.size + 2, 3, none⟩ (.int .i64 n4)) l4 e4 #[.int .i64 n1, .int .i64 n2, .int .i64 n3, .int .i64 n4, .int .i64 0, .int .i64 0, .bool false, .int .i64 0, .int .i64 0, .string ⟨#[]⟩, .string ⟨#[]⟩] := hd4.store 3 (.int .i64 n4)
  have HD := Go.Lib.hid hs; clear hs hd4
  go_wp2_with fail
  clear hc hf
  refine (fnum_r w _ l4 l5 e4 e5 n5 _ HD.out (by omega) S5.out).mono ?_; rintro _ w5 ⟨rfl, hd5⟩
  obtain ⟨hc, hf⟩ := hd5.cell 4 (.int .i64 0) rfl
  have hs : DecSt w (w5.setCell ⟨w.heap.size + 2, 4, none⟩ (.int .i64 n5)) l5 e5 #[.int .i64 n1, .int .i64 n2, .int .i64 n3, .int .i64 n4, .int .i64 n5, .int .i64 0, .bool false, .int .i64 0, .int .i64 0, .string ⟨#[]⟩, .string ⟨#[]⟩] := hd5.store 4 (.int .i64 n5)
  have HD := Go.Lib.hid hs; clear hs hd5
  go_wp2_with fail
  clear hc hf
  refine (fnum_r w _ l5 l6 e5 e6 n6 _ HD.out (by omega) S6.out).mono ?_; rintro _ w6 ⟨rfl, hd6⟩
  obtain ⟨hc, hf⟩ := hd6.cell 5 (.int .i64 0) rfl
  have hs : DecSt w (w6.setCell ⟨w.heap.size + 2, 5, none⟩ (.int .i64 n6)) l6 e6 #[.int .i64 n1, .int .i64 n2, .int .i64 n3, .int .i64 n4, .int .i64 n5, .int .i64 n6, .bool false, .int .i64 0, .int .i64 0, .string ⟨#[]⟩, .string ⟨#[]⟩] := hd6.store 5 (.int .i64 n6)
  have HD := Go.Lib.hid hs; clear hs hd6
  go_wp2_with fail
  clear hc hf
  refine (fnum_r w _ l6 l7 e6 e7 n7 _ HD.out (by omega) S7.out).mono ?_; rintro _ w7 ⟨rfl, hd7⟩
  have HD := Go.Lib.hid hd7; clear hd7
  go_wp2_with fail
  refine (fnum_r w _ l7 l8 e7 e8 n8 _ HD.out (by omega) S8.out).mono ?_; rintro _ w8 ⟨rfl, hd8⟩
  obtain ⟨hc, hf⟩ := hd8.cell 7 (.int .i64 0) rfl
  have hs : DecSt w (w8.setCell ⟨w.heap.size + 2, 7, none⟩ (.int .i64 n8)) l8 e8 #[.int .i64 n1, .int .i64 n2, .int .i64 n3, .int .i64 n4, .int .i64 n5, .int .i64 n6, .bool false, .int .i64 n8, .int .i64 0, .string ⟨#[]⟩, .string ⟨#[]⟩] := hd8.store 7 (.int .i64 n8)
  have HD := Go.Lib.hid hs; clear hs hd8
  go_wp2_with fail
  clear hc hf
  refine (fnum_r w _ l8 l9 e8 e9 n9 _ HD.out (by omega) S9.out).mono ?_; rintro _ w9 ⟨rfl, hd9⟩
  obtain ⟨hc, hf⟩ := hd9.cell 8 (.int .i64 0) rfl
  have hs : DecSt w (w9.setCell ⟨w.heap.size + 2, 8, none⟩ (.int .i64 n9)) l9 e9 #[.int .i64 n1, .int .i64 n2, .int .i64 n3, .int .i64 n4, .int .i64 n5, .int .i64 n6, .bool false, .int .i64 n8, .int .i64 n9, .string ⟨#[]⟩, .string ⟨#[]⟩] := hd9.store 8 (.int .i64 n9)
  have HD := Go.Lib.hid hs; clear hs hd9
  go_wp2_with fail
  clear hc hf
  refine (ftext_r w _ l9 l10 ta e9 e10 _ HD.out (by omega) S10.out).mono ?_; rintro _ w10 ⟨rfl, hd10⟩
  obtain ⟨hc, hf⟩ := hd10.cell 9 (.string ⟨#[]⟩) rfl
  have hs : DecSt w (w10.setCell ⟨w.heap.size + 2, 9, none⟩ (.string (BS ta))) l10 e10 #[.int .i64 n1, .int .i64 n2, .int .i64 n3, .int .i64 n4, .int .i64 n5, .int .i64 n6, .bool false, .int .i64 n8, .int .i64 n9, .string (BS ta), .string ⟨#[]⟩] := hd10.store 9 (.string (BS ta))
  have HD := Go.Lib.hid hs; clear hs hd10
  go_wp2_with fail
  clear hc hf
  refine (ftext_r w _ l10 l11 tb e10 e11 _ HD.out (by omega) S11.out).mono ?_; rintro _ w11 ⟨rfl, hd11⟩
  obtain ⟨hc, hf⟩ := hd11.cell 10 (.string ⟨#[]⟩) rfl
  obtain ⟨hc6, hf6⟩ := hd11.cell 6 (.bool false) rfl
  have hs0 : DecSt w (w11.setCell ⟨w.heap.size + 2, 10, none⟩ (.string (BS tb))) l11 e11 #[.int .i64 n1, .int .i64 n2, .int .i64 n3, .int .i64 n4, .int .i64 n5, .int .i64 n6, .bool false, .int .i64 n8, .int .i64 n9, .string (BS ta), .string (BS tb)] := hd11.store 10 (.string (BS tb))
  have hs : DecSt w ((w11.setCell ⟨w.heap.size + 1 + 1, 10, none⟩ (.string (BS tb))).setCell ⟨w.heap.size + 1 + 1, 6, none⟩ (.bool (n7 == 1))) l11 e11 #[.int .i64 n1, .int .i64 n2, .int .i64 n3, .int .i64 n4, .int .i64 n5, .int .i64 n6, .bool (n7 == 1), .int .i64 n8, .int .i64 n9, .string (BS ta), .string (BS tb)] := hs0.store 6 (.bool (n7 == 1))
  clear hs0 hd11
  have HD := Go.Lib.hid hs; clear hs
  go_wp2_with fail
  clear hc hf hc6 hf6
  obtain ⟨W, hW⟩ : ∃ W, (w11.setCell ⟨w.heap.size + 1 + 1, 10, none⟩ (.string (BS tb))).setCell ⟨w.heap.size + 1 + 1, 6, none⟩ (.bool (n7 == 1)) = W := ⟨_, rfl⟩
  have hs := HD.out
  rw [hW] at hs
  rw [hW]
  clear hW
  refine (fend_any _ l11 e11 W hs.rd).mono ?_; rintro _ w12 ⟨rfl, rfl⟩
  obtain ⟨hX0, -⟩ := hs.cell 0 (.int .i64 n1) rfl
  obtain ⟨hX1, -⟩ := hs.cell 1 (.int .i64 n2) rfl
  obtain ⟨hX2, -⟩ := hs.cell 2 (.int .i64 n3) rfl
  obtain ⟨hX3, -⟩ := hs.cell 3 (.int .i64 n4) rfl
  obtain ⟨hX4, -⟩ := hs.cell 4 (.int .i64 n5) rfl
  obtain ⟨hX5, -⟩ := hs.cell 5 (.int .i64 n6) rfl
  obtain ⟨hX6, -⟩ := hs.cell 6 (.bool (n7 == 1)) rfl
  obtain ⟨hX7, -⟩ := hs.cell 7 (.int .i64 n8) rfl
  obtain ⟨hX8, -⟩ := hs.cell 8 (.int .i64 n9) rfl
  obtain ⟨hX9, -⟩ := hs.cell 9 (.string (BS ta)) rfl
  obtain ⟨hX10, -⟩ := hs.cell 10 (.string (BS tb)) rfl
  have hres := hs.res
  have hbel := hs.bel
  have hopx := hs.op
  have HOPX := Go.Lib.hid hopx; clear hopx
  have HRES := Go.Lib.hid hres; have HBEL := Go.Lib.hid hbel
  have hrr := HR.out
  unfold decodeRes at hrr
  simp only at hrr
  obtain ⟨en, hen⟩ : ∃ e, endOf l11 e11 = e := ⟨_, rfl⟩
  rw [hen] at hrr
  rw [hen]
  have hc3 := fun w => ropright_any (opOf [n1, n2, n3, n4, n5, n6, n7, n8, n9] ta tb) w (by show ta.length ≤ _; omega) (by show tb.length ≤ _; omega)
  obtain ⟨xx, hxx⟩ : ∃ x, opOf [n1, n2, n3, n4, n5, n6, n7, n8, n9] ta tb = x := ⟨_, rfl⟩
  have hval : opVal xx = .agg #[.int .i64 n1, .int .i64 n2, .int .i64 n3, .int .i64 n4, .int .i64 n5, .int .i64 n6, .bool (n7 == 1), .int .i64 n8, .int .i64 n9, .string (BS ta), .string (BS tb)] := by rw [← hxx]; rfl
  rw [hxx] at hc3 hrr
  obtain ⟨rv, hrv⟩ : ∃ e, xx.right = e := ⟨_, rfl⟩
  rw [hrv] at hc3 hrr
  rw [hval] at hc3
  have HV := Go.Lib.hid hval; clear hval
  clear hs hres hbel hen hrv HD HW0 hxx
  have hone : ∀ b : Bool, (#[.int .i64 n1, .int .i64 n2, .int .i64 n3, .int .i64 n4, .int .i64 n5, .int .i64 n6, .bool b, .int .i64 n8, .int .i64 n9, .string (BS ta), .string (BS tb)] : Array Value).all (·.oneCell') = true := fun b => by simp [Value.oneCell']
  have HONE := Go.Lib.hid hone; clear hone
  have hlt : w.heap.size < W.heap.size := (Array.getElem?_eq_some_iff.1 HRES.out).1
  have HLT := Go.Lib.hid hlt; clear hlt
  by_cases h0 : en = 0
  · rw [if_neg (by simp [h0])] at hrr
    subst h0
    by_cases h70 : n7 = 0
    · subst h70
      have hc4 : ∀ w, Calls Try.prog 14 #[.agg #[.int .i64 n1, .int .i64 n2, .int .i64 n3, .int .i64 n4, .int .i64 n5, .int .i64 n6, .bool false, .int .i64 n8, .int .i64 n9, .string (BS ta), .string (BS tb)]] w fun e w' => e = .returned (.int .i64 rv) ∧ Below w.heap.size w w' := hc3
      have HC3 := Go.Lib.hid hc4; clear hc4 hc3
      have hv : opVal xx = .agg #[.int .i64 n1, .int .i64 n2, .int .i64 n3, .int .i64 n4, .int .i64 n5, .int .i64 n6, .bool false, .int .i64 n8, .int .i64 n9, .string (BS ta), .string (BS tb)] := HV.out
      have hop : ∀ w', Below W.heap.size W w' → w'.heap[w.heap.size + 1 + 1]? = some (.cells #[.int .i64 n1, .int .i64 n2, .int .i64 n3, .int .i64 n4, .int .i64 n5, .int .i64 n6, .bool false, .int .i64 n8, .int .i64 n9, .string (BS ta), .string (BS tb)] 25 (0, 0)) := fun w' hb => (hb.block _ (Array.getElem?_eq_some_iff.1 HOPX.out).1).trans HOPX.out
      have HOPY := Go.Lib.hid hop; clear hop
      by_cases hrv : rv = 0
      · rw [if_neg (by simp [hrv])] at hrr
        subst hrv
        subst hrr
        have HVV := Go.Lib.hid hv; clear hv
        go_wp2_with (first | (go_at_call 14; with_reducible refine (HC3.out _).mono ?_; rintro e w13 ⟨rfl, hb⟩; have HRES2 := Go.Lib.hid ((hb.block w.heap.size HLT.out).trans HRES.out); have HBEL2 := Go.Lib.hid (bstep HBEL.out hb); have HX := Go.Lib.hid (HOPY.out _ hb); clear hb) | (refine wpList_load_row rfl 25 (.tmp 5) rfl (w.heap.size + 1 + 1) rfl 25 _ (0, 0) _ HX.out Try.underlying25 rfl (size_op.trans (by rfl)) ?_) | (refine wpList_store_row rfl 25 (.tmp 2) (.tmp 70) rfl w.heap.size #[.int .i64 n1, .int .i64 n2, .int .i64 n3, .int .i64 n4, .int .i64 n5, .int .i64 n6, .bool false, .int .i64 n8, .int .i64 n9, .string (BS ta), .string (BS tb)] rfl rfl 25 _ HRES2.out (size_op.trans (by rfl)) (by rfl) (HONE.out _) ?_))
        exact bodyPost_ret (v := .tuple #[.agg #[.int .i64 n1, .int .i64 n2, .int .i64 n3, .int .i64 n4, .int .i64 n5, .int .i64 n6, .bool false, .int .i64 n8, .int .i64 n9, .string (BS ta), .string (BS tb)], .int .i64 0]) (results_cell_slot (p := 2) (q := 3) rfl _ _ w.heap.size 25 #[.int .i64 n1, .int .i64 n2, .int .i64 n3, .int .i64 n4, .int .i64 n5, .int .i64 n6, .bool false, .int .i64 n8, .int .i64 n9, .string (BS ta), .string (BS tb)] (0, 0) _ rfl (setRow_heap _ _ _ _ _ _ HRES2.out) Try.underlying25 rfl (size_op.trans (by rfl)) rfl) rfl ⟨by show _ = Ending.returned (.tuple #[opVal xx, .int .i64 0]); rw [HVV.out], below_setRow HBEL2.out (Nat.le_refl _) _⟩
      · rw [if_pos (.inr hrv)] at hrr
        subst hrr
        have hne : (rv != 0) = true := by simp [hrv]
        clear hv hrv
        go_wp2_with (first | (go_at_call 14; with_reducible refine (HC3.out _).mono ?_; rintro e w13 ⟨rfl, hb⟩; have HRES2 := Go.Lib.hid ((hb.block w.heap.size HLT.out).trans HRES.out); have HBEL2 := Go.Lib.hid (bstep HBEL.out hb); have HX := Go.Lib.hid (HOPY.out _ hb); clear hb) | (refine wpList_store_row rfl 25 (.tmp 2) (.tmp 69) rfl w.heap.size (opArr Opn.zero) rfl rfl 25 _ HRES2.out (size_op.trans (by rfl)) (by rfl) (opArr_one _) ?_))
        exact bodyPost_ret (v := .tuple #[opVal Opn.zero, .int .i64 11]) (results_cell_slot (p := 2) (q := 3) rfl _ _ w.heap.size 25 (opArr Opn.zero) (0, 0) _ rfl (setRow_heap _ _ _ _ _ _ HRES2.out) Try.underlying25 rfl (size_op.trans (by rfl)) rfl) rfl ⟨rfl, below_setRow HBEL2.out (Nat.le_refl _) _⟩
    by_cases h71 : n7 = 1
    · subst h71
      have hc4 : ∀ w, Calls Try.prog 14 #[.agg #[.int .i64 n1, .int .i64 n2, .int .i64 n3, .int .i64 n4, .int .i64 n5, .int .i64 n6, .bool true, .int .i64 n8, .int .i64 n9, .string (BS ta), .string (BS tb)]] w fun e w' => e = .returned (.int .i64 rv) ∧ Below w.heap.size w w' := hc3
      have HC3 := Go.Lib.hid hc4; clear hc4 hc3
      have hv : opVal xx = .agg #[.int .i64 n1, .int .i64 n2, .int .i64 n3, .int .i64 n4, .int .i64 n5, .int .i64 n6, .bool true, .int .i64 n8, .int .i64 n9, .string (BS ta), .string (BS tb)] := HV.out
      have hop : ∀ w', Below W.heap.size W w' → w'.heap[w.heap.size + 1 + 1]? = some (.cells #[.int .i64 n1, .int .i64 n2, .int .i64 n3, .int .i64 n4, .int .i64 n5, .int .i64 n6, .bool true, .int .i64 n8, .int .i64 n9, .string (BS ta), .string (BS tb)] 25 (0, 0)) := fun w' hb => (hb.block _ (Array.getElem?_eq_some_iff.1 HOPX.out).1).trans HOPX.out
      have HOPY := Go.Lib.hid hop; clear hop
      by_cases hrv : rv = 0
      · rw [if_neg (by simp [hrv])] at hrr
        subst hrv
        subst hrr
        have HVV := Go.Lib.hid hv; clear hv
        go_wp2_with (first | (go_at_call 14; with_reducible refine (HC3.out _).mono ?_; rintro e w13 ⟨rfl, hb⟩; have HRES2 := Go.Lib.hid ((hb.block w.heap.size HLT.out).trans HRES.out); have HBEL2 := Go.Lib.hid (bstep HBEL.out hb); have HX := Go.Lib.hid (HOPY.out _ hb); clear hb) | (refine wpList_load_row rfl 25 (.tmp 5) rfl (w.heap.size + 1 + 1) rfl 25 _ (0, 0) _ HX.out Try.underlying25 rfl (size_op.trans (by rfl)) ?_) | (refine wpList_store_row rfl 25 (.tmp 2) (.tmp 70) rfl w.heap.size #[.int .i64 n1, .int .i64 n2, .int .i64 n3, .int .i64 n4, .int .i64 n5, .int .i64 n6, .bool true, .int .i64 n8, .int .i64 n9, .string (BS ta), .string (BS tb)] rfl rfl 25 _ HRES2.out (size_op.trans (by rfl)) (by rfl) (HONE.out _) ?_))
        exact bodyPost_ret (v := .tuple #[.agg #[.int .i64 n1, .int .i64 n2, .int .i64 n3, .int .i64 n4, .int .i64 n5, .int .i64 n6, .bool true, .int .i64 n8, .int .i64 n9, .string (BS ta), .string (BS tb)], .int .i64 0]) (results_cell_slot (p := 2) (q := 3) rfl _ _ w.heap.size 25 #[.int .i64 n1, .int .i64 n2, .int .i64 n3, .int .i64 n4, .int .i64 n5, .int .i64 n6, .bool true, .int .i64 n8, .int .i64 n9, .string (BS ta), .string (BS tb)] (0, 0) _ rfl (setRow_heap _ _ _ _ _ _ HRES2.out) Try.underlying25 rfl (size_op.trans (by rfl)) rfl) rfl ⟨by show _ = Ending.returned (.tuple #[opVal xx, .int .i64 0]); rw [HVV.out], below_setRow HBEL2.out (Nat.le_refl _) _⟩
      · rw [if_pos (.inr hrv)] at hrr
        subst hrr
        have hne : (rv != 0) = true := by simp [hrv]
        clear hv hrv
        go_wp2_with (first | (go_at_call 14; with_reducible refine (HC3.out _).mono ?_; rintro e w13 ⟨rfl, hb⟩; have HRES2 := Go.Lib.hid ((hb.block w.heap.size HLT.out).trans HRES.out); have HBEL2 := Go.Lib.hid (bstep HBEL.out hb); have HX := Go.Lib.hid (HOPY.out _ hb); clear hb) | (refine wpList_store_row rfl 25 (.tmp 2) (.tmp 69) rfl w.heap.size (opArr Opn.zero) rfl rfl 25 _ HRES2.out (size_op.trans (by rfl)) (by rfl) (opArr_one _) ?_))
        exact bodyPost_ret (v := .tuple #[opVal Opn.zero, .int .i64 11]) (results_cell_slot (p := 2) (q := 3) rfl _ _ w.heap.size 25 (opArr Opn.zero) (0, 0) _ rfl (setRow_heap _ _ _ _ _ _ HRES2.out) Try.underlying25 rfl (size_op.trans (by rfl)) rfl) rfl ⟨rfl, below_setRow HBEL2.out (Nat.le_refl _) _⟩
    · rw [if_pos (.inl ⟨h70, h71⟩)] at hrr
      subst hrr
      have hn0 : (n7 != 0) = true := by simp [h70]
      have hn1 : (n7 != 1) = true := by simp [h71]
      clear h70 h71 hc3
      go_wp2_with (refine wpList_store_row rfl 25 (.tmp 2) (.tmp 69) rfl w.heap.size (opArr Opn.zero) rfl rfl 25 _ HRES.out (size_op.trans (by rfl)) (by rfl) (opArr_one _) ?_)
      exact bodyPost_ret (v := .tuple #[opVal Opn.zero, .int .i64 11]) (results_cell_slot (p := 2) (q := 3) rfl _ _ w.heap.size 25 (opArr Opn.zero) (0, 0) _ rfl (setRow_heap _ _ _ _ _ _ HRES.out) Try.underlying25 rfl (size_op.trans (by rfl)) rfl) rfl ⟨rfl, below_setRow HBEL.out (Nat.le_refl _) _⟩
  · rw [if_pos h0] at hrr
    subst hrr
    have hne : (en != 0) = true := by simp [h0]
    clear h0 hc3
    go_wp2_with (refine wpList_store_row rfl 25 (.tmp 2) (.tmp 56) rfl w.heap.size (opArr Opn.zero) rfl rfl 25 _ HRES.out (size_op.trans (by rfl)) (by rfl) (opArr_one _) ?_)
    exact bodyPost_ret (v := .tuple #[opVal Opn.zero, .int .i64 en]) (results_cell_slot (p := 2) (q := 3) rfl _ _ w.heap.size 25 (opArr Opn.zero) (0, 0) _ rfl (setRow_heap _ _ _ _ _ _ HRES.out) Try.underlying25 rfl (size_op.trans (by rfl)) rfl) rfl ⟨rfl, below_setRow HBEL.out (Nat.le_refl _) _⟩
end Go.Proofs.Ytmkmahjboocoaaa.W
