/- The reference of operations: their bytes. -/
import Derived.Test.YtmkmahjboocoaaaOpsR
import Derived.Test.YtmkmahjboocoaaaClockV
import Derived.Test.YtmkmahjboocoaaaCodecR
import Derived.Test.YtmkmahjboocoaaaCalm
namespace Go.Proofs.Ytmkmahjboocoaaa.W
set_option linter.unusedVariables false
open Go.RowKit Go.Proofs Arb

theorem Ints.ofBlock {w : World} {g n : Nat} {e : TypeId} {fr : Nat × Nat} {cs : Array Value} (zs : List Int) (h : w.heap[g]? = some (.cells cs e fr)) (hc : cs = (zs.map fun z => Value.int .i64 z).toArray) (hn : n = zs.length) : Ints w (.slice (some ⟨g, 0, none⟩) n n) zs := by
  subst hc; subst hn
  refine ⟨_, _, _, rfl, rfl, Nat.le_refl _, fun _ => ⟨_, 0, rfl, fun j z hj => ?_⟩⟩
  rw [Nat.zero_add, cell_of_row _ _ _ _ _ _ h]
  simp [hj]
theorem encNums_snoc (l : List Int) (n : Int) : encNums (l ++ [n]) = encNums l ++ enc (u64 n) := by simp [encNums]
theorem encNums_length (l : List Int) : (encNums l).length ≤ l.length * 9 := by
  induction l with
  | nil => simp [encNums]
  | cons a l ih =>
    have h1 := enc_length (u64 a)
    simp only [encNums, List.map_cons, List.flatten_cons, List.length_append, List.length_cons] at ih ⊢
    omega
theorem encText_length (l : List UInt8) : (encText l).length ≤ l.length + 9 := by
  unfold encText
  have := enc_length (u64 l.length)
  rw [List.length_append]
  omega
theorem getD_take_succ (l : List Int) (k : Nat) (hk : k < l.length) : l.take (k + 1) = l.take k ++ [l.getD k 0] := by
  rw [List.take_add_one, List.getElem?_eq_getElem hk, List.getD_eq_getElem?_getD, List.getElem?_eq_getElem hk]
  rfl

set_option maxRecDepth 20000 in
set_option maxHeartbeats 4000000 in
theorem rbytes_any (x : Opn) (w : World) (hn : x.name.length ≤ 1000000) (hm : x.manifest.length ≤ 1000000) :
    Calls Try.prog 39 #[opVal x] w fun e w' => e = .returned (.string (BS x.bytes)) ∧ Below w.heap.size w w' := by
  have hB : Below w.heap.size w (w.alloc (.cells (opArr x) 25)) := (Below.refl _ _).alloc (Nat.le_refl _) _
  have hop := OpAt.new w x 25
  have htn := fun w => rtextn_any x.name w (by omega)
  have htm := fun w => rtextn_any x.manifest w (by omega)
  have hln := encText_length x.name
  have hlm := encText_length x.manifest
  rw [show enc (u64 x.name.length) ++ x.name = encText x.name from rfl] at htn
  rw [show enc (u64 x.manifest.length) ++ x.manifest = encText x.manifest from rfl] at htm
  obtain ⟨ns, hns⟩ : ∃ ns, numsOf x = ns := ⟨_, rfl⟩
  obtain ⟨r, hr⟩ : ∃ r, x.bytes = r := ⟨_, rfl⟩
  rw [hr]
  unfold Opn.bytes at hr
  rw [hns] at hr
  have hnl : ns.length = 9 := by rw [← hns]; rfl
  obtain ⟨t1, ht1⟩ : ∃ t, encText x.name = t := ⟨_, rfl⟩
  obtain ⟨t2, ht2⟩ : ∃ t, encText x.manifest = t := ⟨_, rfl⟩
  rw [ht1] at htn hln hr
  rw [ht2] at htm hlm hr
  obtain ⟨tr, htr⟩ : ∃ t : Int, (if x.dir then (1 : Int) else 0) = t := ⟨_, rfl⟩
  have hct := fun w => rtruth_any x.dir w
  rw [htr] at hct
  unfold opVal
  obtain ⟨W1, hW1⟩ : ∃ W1, w.alloc (.cells (opArr x) 25) = W1 := ⟨_, rfl⟩
  rw [hW1] at hB hop
  unfold opArr opCells at hW1 ⊢
  obtain ⟨c0, c1, c2, c3, c4, c5, c6, c7, c8, c9, c10⟩ := op_cells0 hop
  have HR := Go.Lib.hid hr; clear hr
  have HB := Go.Lib.hid hB; clear hB
  have HOP := Go.Lib.hid hop; clear hop
  have HT := Go.Lib.hid hct; clear hct
  have HTN := Go.Lib.hid htn; clear htn
  have HTM := Go.Lib.hid htm; clear htm
  have HNS := Go.Lib.hid hns; clear hns
  have HTR := Go.Lib.hid htr; clear htr
  have HNL := Go.Lib.hid hnl; clear hnl
  have HW := Go.Lib.hid hW1; clear hW1
  go_enter Try.func39, Try.ntmps39
  go_wp2_with fail
  rw [HW.out]
  go_region_held3 (fun w' => w'.cell? ⟨w.heap.size, 0, none⟩ = some (.int .i64 x.stamp.count) ∧ w'.cell? ⟨w.heap.size, 1, none⟩ = some (.int .i64 x.stamp.who) ∧ w'.cell? ⟨w.heap.size, 2, none⟩ = some (.int .i64 x.seq) ∧ w'.cell? ⟨w.heap.size, 3, none⟩ = some (.int .i64 x.kind) ∧ w'.cell? ⟨w.heap.size, 4, none⟩ = some (.int .i64 x.node.count) ∧ w'.cell? ⟨w.heap.size, 5, none⟩ = some (.int .i64 x.node.who) ∧ w'.cell? ⟨w.heap.size, 6, none⟩ = some (.bool x.dir) ∧ w'.cell? ⟨w.heap.size, 7, none⟩ = some (.int .i64 x.parent.count) ∧ w'.cell? ⟨w.heap.size, 8, none⟩ = some (.int .i64 x.parent.who))
    (first | exact ⟨c0, c1, c2, c3, c4, c5, c6, c7, c8⟩ | exact ⟨cell_more c0, cell_more c1, cell_more c2, cell_more c3, cell_more c4, cell_more c5, cell_more c6, cell_more c7, cell_more c8⟩)
    (first | (go_at_call 63; with_reducible refine (HT.out _).mono ?_; rintro e w1 ⟨rfl, rfl⟩))
  go_wp2_with fail
  obtain ⟨W2, hW2⟩ : ∃ W2, (W1.alloc (.cells #[.int .i64 x.stamp.count, .int .i64 x.stamp.who, .int .i64 x.seq, .int .i64 x.kind, .int .i64 x.node.count, .int .i64 x.node.who, .int .i64 tr, .int .i64 x.parent.count, .int .i64 x.parent.who] 3)).drew = W2 := ⟨_, rfl⟩
  have hint : Ints W2 (.slice (some ⟨W1.heap.size, 0, none⟩) 9 9) ns := by
    rw [← hW2]
    refine Ints.ofBlock (e := 3) (fr := (0, 0)) ns (heap_alloc_new W1 _) ?_ HNL.out.symm
    rw [← HNS.out, ← HTR.out]
    rfl
  have hb2 : Below W1.heap.size W1 W2 := by rw [← hW2]; exact ((Below.refl _ _).alloc (Nat.le_refl _) _).drew
  have hop2 := (HOP.out).below hb2
  have hbw := bstep HB.out hb2
  rw [hW2]
  clear hb2 hW2 c0 c1 c2 c3 c4 c5 c6 c7 c8 c9 c10
  have HI := Go.Lib.hid hint; clear hint
  have HOP2 := Go.Lib.hid hop2; clear hop2
  have HBW := Go.Lib.hid hbw; clear hbw
  have HE := Go.Lib.hid (encNums_length ns)
  clear HOP HW HB
  go_loopw [4, 5, 32, 33, 34, 35, 36, 37, 38, 39, 40, 41, 42, 43, 44] (fun vo i _ _ _ _ _ _ _ _ _ _ _ _ _ wr => ∃ k : Nat, k ≤ 9 ∧ i = .int .i64 (k : Int) ∧ vo = .string (BS (encNums (ns.take k))) ∧ Below W2.heap.size W2 wr) (fun _ i _ _ _ _ _ _ _ _ _ _ _ _ _ _ => 9 - (intOf i).toNat)
  case atStart => exact ⟨0, by omega, rfl, rfl, Below.refl _ _⟩
  case round =>
    obtain ⟨k, hk, rfl, rfl, hb⟩ := hrel
    by_cases hk9 : k < 9
    · have hk9' : (k : Int) < 9 := by omega
      have hcell := (HI.out.below hb)
      obtain ⟨A, n, c, he, hl, _, hcl⟩ := hcell
      cases he
      obtain ⟨b, off, he, hz⟩ := hcl (by omega)
      cases he
      have hkl : k < ns.length := by rw [HNL.out]; exact hk9
      have hc := hz k _ (by rw [List.getElem?_eq_getElem hkl])
      have hnx := getD_take_succ ns k hkl
      rw [List.getD_eq_getElem?_getD, List.getElem?_eq_getElem hkl] at hnx
      obtain ⟨z, hzz⟩ : ∃ z, ns[k] = z := ⟨_, rfl⟩
      rw [hzz, Nat.zero_add] at hc
      rw [hzz] at hnx
      have hnn := rnum_any z
      have hel := encNums_length (ns.take k)
      have htl : (ns.take k).length ≤ 9 := by rw [List.length_take]; omega
      have hzl := enc_length (u64 z)
      have hsn := encNums_snoc (ns.take k) z
      rw [show ns.take k ++ [z] = ns.take (k + 1) from hnx.symm] at hsn
      obtain ⟨ek, hek⟩ : ∃ e, encNums (ns.take k) = e := ⟨_, rfl⟩
      obtain ⟨ez, hez⟩ : ∃ e, enc (u64 z) = e := ⟨_, rfl⟩
      rw [hek] at hel hsn
      rw [hez] at hzl hsn hnn
      rw [hek]
      have h1 : (BS ek).size = ek.length := BS_size _
      have h2 : (BS ez).size = ez.length := BS_size _
      have hsz : ¬ 9223372036854775807 < (BS ek).size + (BS ez).size := by rw [h1, h2]; omega
      have hap : BS ek ++ BS ez = BS (ek ++ ez) := ByteArray.mk_append_mk _ _
      have hnn' : ∀ w, Calls Try.prog 64 #[.int .i64 z] w fun e w' => e = .returned (.string (BS ez)) ∧ Below w.heap.size w w' := hnn
      have HNN := Go.Lib.hid hnn'
      have HAP := Go.Lib.hid hap
      have HSN := Go.Lib.hid hsn
      have HBR := Go.Lib.hid hb
      clear hz hcl hnn hnn' hap hsn hb hek hez hzz hnx
      go_wp2_with (go_at_call 64; with_reducible refine (HNN.out _).mono ?_; rintro e w1 ⟨rfl, hb⟩)
      exact ⟨⟨k + 1, by omega, by simp, by rw [HAP.out, HSN.out], bstep HBR.out hb⟩, by simp [intOf]; omega⟩
    · obtain rfl : k = 9 := by omega
      rw [List.take_of_length_le (by rw [HNL.out]; exact Nat.le_refl _)]
      have hop3 := HOP2.out.below hb
      have hbw := bstep HBW.out hb
      obtain ⟨c0, c1, c2, c3, c4, c5, c6, c7, c8, c9, c10⟩ := op_cells0 hop3
      have hl := hop3.lt
      obtain ⟨en, hen⟩ : ∃ e, encNums ns = e := ⟨_, rfl⟩
      have hel := HE.out
      rw [hen, HNL.out] at hel
      rw [hen]
      have hap1 : BS en ++ BS t1 = BS (en ++ t1) := ByteArray.mk_append_mk _ _
      have hap2 : BS (en ++ t1) ++ BS t2 = BS (en ++ t1 ++ t2) := ByteArray.mk_append_mk _ _
      have hrr : en ++ t1 ++ t2 = r := by rw [← hen]; exact HR.out
      rw [hrr] at hap2
      have hs1 : (BS en).size = en.length := BS_size _
      have hs2 : (BS t1).size = t1.length := BS_size _
      have hs3 : (BS t2).size = t2.length := BS_size _
      have hs4 : (BS (en ++ t1)).size = en.length + t1.length := by rw [BS_size, List.length_append]
      have hz1 : ¬ 9223372036854775807 < (BS en).size + (BS t1).size := by rw [hs1, hs2]; omega
      have hz2 : ¬ 9223372036854775807 < (BS (en ++ t1)).size + (BS t2).size := by rw [hs4, hs3]; omega
      have HBW2 := Go.Lib.hid hbw; clear hbw
      clear hop3 hb hen hrr
      go_wp2_with fail
      obtain ⟨W3, hW3⟩ : ∃ W, W = wr := ⟨_, rfl⟩
      subst hW3
      have hne := BW.ne W3.heap.size W3
      have q9 := fun y : BW W3.heap.size W3 => y.cell c9 hl
      have q10 := fun y : BW W3.heap.size W3 => y.cell c10 hl
      refine wp_region_calm W3.heap.size W3 (Below.refl _ _) (by kernel_rfl) (by kernel_rfl) ?_
      repeat (go_big_quiet_step (first | (go_at_call 65; with_reducible exact bw_of (Nat.le_refl _) (HTN.out _)) | (go_at_call 65; with_reducible exact bw_of (Nat.le_refl _) (HTM.out _))))
      refine wpQuiet_nil ?_
      intro _ hw'
      obtain ⟨y, rfl⟩ := hw'
      go_wp2_with fail
      go_ret
      exact ⟨rfl, bstep HBW2.out y.2⟩

set_option maxRecDepth 20000 in
set_option maxHeartbeats 4000000 in
theorem rencode_any (x : Opn) (w : World) (hn : x.name.length ≤ 1000000) (hm : x.manifest.length ≤ 1000000) :
    Calls Try.prog 17 #[opVal x] w fun e w' => e = .returned (.tuple #[.string (BS x.encode.1), .int .i64 x.encode.2]) ∧ Below w.heap.size w w' := by
  have hB : Below w.heap.size w (w.alloc (.cells (opArr x) 25)) := (Below.refl _ _).alloc (Nat.le_refl _) _
  have hop := OpAt.new w x 25
  have hc1 := fun w => ropright_any x w (by omega) (by omega)
  have hc2 := fun w => rbytes_any x w hn hm
  obtain ⟨r, hr⟩ : ∃ r, x.encode = r := ⟨_, rfl⟩
  rw [hr]
  unfold Opn.encode at hr
  obtain ⟨u, hu⟩ : ∃ u, x.right = u := ⟨_, rfl⟩
  obtain ⟨b, hb⟩ : ∃ b, x.bytes = b := ⟨_, rfl⟩
  rw [hu] at hc1 hr
  rw [hb] at hc2 hr
  unfold opVal at hc1 hc2 ⊢
  unfold opArr opCells at hB hop hc1 hc2 ⊢
  have HC1 := Go.Lib.hid hc1; clear hc1
  have HC2 := Go.Lib.hid hc2; clear hc2
  have HB := Go.Lib.hid hB; clear hB
  have HOP := Go.Lib.hid hop; clear hop
  clear hu hb
  by_cases h0 : u = 0
  · rw [if_neg (by simp [h0])] at hr
    subst h0
    subst hr
    go_enter Try.func17, Try.ntmps17
    go_wp2_with (first
      | (go_at_call 14; with_reducible refine (HC1.out _).mono ?_; rintro e w1 ⟨rfl, hb⟩; have hop := (HOP.out).below hb; obtain ⟨c0, c1, c2, c3, c4, c5, c6, c7, c8, c9, c10⟩ := op_cells0 hop; have HB := Go.Lib.hid (bstep HB.out hb); clear hop hb)
      | (go_at_call 39; with_reducible refine (HC2.out _).mono ?_; rintro e w1 ⟨rfl, hb⟩; have HB := Go.Lib.hid (bstep HB.out hb); clear hb))
    go_ret2
    exact ⟨rfl, HB.out⟩
  · rw [if_pos h0] at hr
    subst hr
    have hne : (u != 0) = true := by simp [h0]
    clear h0
    go_enter Try.func17, Try.ntmps17
    go_wp2_with (go_at_call 14; with_reducible refine (HC1.out _).mono ?_; rintro e w1 ⟨rfl, hb⟩; have HB := Go.Lib.hid (bstep HB.out hb); clear hb)
    go_ret2
    exact ⟨rfl, HB.out⟩
end Go.Proofs.Ytmkmahjboocoaaa.W
