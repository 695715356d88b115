/- The reference of operations: a set with one more. -/
import Derived.Test.YtmkmahjboocoaaaOpsW
import Derived.Test.YtmkmahjboocoaaaOpsV
import Derived.Deep.WholeRow
namespace Go.Proofs.Ytmkmahjboocoaaa.W
set_option linter.unusedVariables false
open Go.RowKit Go.Proofs Arb

theorem ahead_take (set : List Opn) (x y : Opn) (k : Nat) (h : set[k]? = some y) : aheadOf (set.take (k + 1)) x = (aheadOf (set.take k) x || decide (y.stamp.who = x.stamp.who ∧ y.seq = x.seq - 1)) := by
  unfold aheadOf
  rw [List.take_add_one, h, List.any_append]
  simp only [Option.toList_some, List.any_cons, List.any_nil, Bool.or_false, Bool.or_assoc]
theorem late_take (set : List Opn) (x y : Opn) (k : Nat) (h : set[k]? = some y) : lateOf (set.take (k + 1)) x = (lateOf (set.take k) x || lateOne x y) := by
  unfold lateOf
  rw [List.take_add_one, h, List.any_append]
  simp only [Option.toList_some, List.any_cons, List.any_nil, Bool.or_false]
def twiceOne (x y : Opn) : Bool := decide (y.stamp = x.stamp ∨ (y.stamp.who = x.stamp.who ∧ y.seq = x.seq))
theorem twice_none (set : List Opn) (x : Opn) (h : ∀ (j : Nat) (y : Opn), set[j]? = some y → twiceOne x y = false) : twiceOf set x = false := by
  unfold twiceOf
  rw [List.any_eq_false]
  intro y hy
  obtain ⟨j, hj, rfl⟩ := List.getElem_of_mem hy
  have := h j _ (List.getElem?_eq_getElem hj)
  simpa [twiceOne] using this
theorem twice_some (set : List Opn) (x y : Opn) (k : Nat) (h : set[k]? = some y) (ht : twiceOne x y = true) : twiceOf set x = true := by
  unfold twiceOf
  rw [List.any_eq_true]
  exact ⟨y, List.mem_of_getElem? h, by simpa [twiceOne] using ht⟩
theorem split_at {α : Type} (p : α → Bool) : ∀ (l : List α) (k : Nat), k ≤ l.length → (∀ (j : Nat) (y : α), j < k → l[j]? = some y → p y = true) → (∀ y, l[k]? = some y → p y = false) → l.takeWhile p = l.take k ∧ l.dropWhile p = l.drop k
  | [], k, hk, _, _ => by simp
  | a :: l, 0, _, _, h => by
    have := h a rfl
    simp [List.takeWhile, List.dropWhile, this]
  | a :: l, k + 1, hk, h1, h2 => by
    have ha := h1 0 a (by omega) rfl
    obtain ⟨e1, e2⟩ := split_at p l k (by simpa using hk) (fun j y hj hy => h1 (j + 1) y (by omega) hy) (fun y hy => h2 y hy)
    simp [List.takeWhile, List.dropWhile, ha, e1, e2]
theorem insAt_eq (set : List Opn) (x : Opn) (k : Nat) (hk : k ≤ set.length) (h1 : ∀ (j : Nat) (y : Opn), j < k → set[j]? = some y → x.stamp.less y.stamp = false) (h2 : ∀ y : Opn, set[k]? = some y → x.stamp.less y.stamp = true) : insAt set x = set.take k ++ x :: set.drop k := by
  obtain ⟨e1, e2⟩ := split_at (fun y : Opn => !x.stamp.less y.stamp) set k hk (fun j y hj hy => by rw [h1 j y hj hy]; rfl) (fun y hy => by rw [h2 y hy]; rfl)
  unfold insAt
  rw [e1, e2]

theorem rdEnd {w : World} {p : Prop} [Decidable p] {a b : Addr} {c2 : Nat} (l : List Opn) (n : Nat) (h : l.length ≤ n) : Rd w 11 (.slice (if p then some a else some b) 0 c2) 0 (opsCells (l.drop n)) := by
  rw [List.drop_eq_nil_of_le h]
  split
  · exact ⟨rfl, .inr ⟨_, c2, rfl, fun j u hu => by cases hu⟩⟩
  · exact ⟨rfl, .inr ⟨_, c2, rfl, fun j u hu => by cases hu⟩⟩

set_option maxRecDepth 20000 in
set_option maxHeartbeats 16000000 in
theorem radd_pos (v : Value) (set : List Opn) (x : Opn) (w : World) (h : Opns w v set) (hpos : 0 < set.length) (hn : set.length ≤ 100000) (hxn : x.name.length ≤ 1000000) (hxm : x.manifest.length ≤ 1000000) :
    Calls Try.prog 21 #[v, opVal x] w fun e w' => ∃ v', e = .returned (.tuple #[v', .int .i64 (addOf set x).2]) ∧ Opns w' v' (addOf set x).1 ∧ Below w.heap.size w w' := by
  obtain ⟨b0, o0, c, rfl, hc, _⟩ := h.form hpos
  obtain ⟨n, hnn⟩ : ∃ n, set.length = n := ⟨_, rfl⟩
  rw [hnn] at h hc hn hpos
  rw [hnn]
  have hB : Below w.heap.size w (w.alloc (.cells (opArr x) 25)) := (Below.refl _ _).alloc (Nat.le_refl _) _
  have hop := OpAt.new w x 25
  have hc1 := fun w => ropright_any x w (by omega) (by omega)
  obtain ⟨r, hr⟩ : ∃ r, addOf set x = r := ⟨_, rfl⟩
  rw [hr]
  obtain ⟨u, hu⟩ : ∃ u, x.right = u := ⟨_, rfl⟩
  rw [hu] at hc1
  unfold opVal at hc1 ⊢
  unfold opArr opCells at hB hop hc1 ⊢
  have HV := Go.Lib.hid h; clear h
  have HC1 := Go.Lib.hid hc1; clear hc1
  have HB := Go.Lib.hid hB; clear hB
  have HOP := Go.Lib.hid hop; clear hop
  have HR := Go.Lib.hid hr; clear hr
  have HU := Go.Lib.hid hu; clear hu
  have HN := Go.Lib.hid hnn; clear hnn
  by_cases h0 : u = 0
  · subst h0
    go_enter Try.func21, Try.ntmps21
    go_wp2_with (go_at_call 14; with_reducible refine (HC1.out _).mono ?_; rintro e w1 ⟨rfl, hb⟩; have hop := (HOP.out).below hb; have HB1 := Go.Lib.hid (bstep HB.out hb); have HOP1 := Go.Lib.hid hop; clear hop hb)
    go_loopw [7, 19, 20, 21, 22, 23, 24, 25, 26, 27, 28, 29, 30] (fun i _ _ _ _ _ _ _ _ _ _ _ _ wr => ∃ k : Nat, k ≤ n ∧ i = .int .i64 (k : Int) ∧ (∀ (j : Nat) (y : Opn), j < k → set[j]? = some y → y ≠ x) ∧ Below w1.heap.size w1 wr) (fun i _ _ _ _ _ _ _ _ _ _ _ _ _ => n - (intOf i).toNat)
    case atStart => exact ⟨0, by omega, rfl, fun _ _ h => by omega, Below.refl _ _⟩
    case round =>
      obtain ⟨k, hk, rfl, hall, hb⟩ := hrel
      have HALL := Go.Lib.hid hall; clear hall
      by_cases hkn : k < n
      · have hkn' : (k : Int) < (n : Int) := by omega
        have hbw := bstep HB1.out hb
        obtain ⟨b1, o1, y, he, hg1, hy⟩ := (HV.out.below hbw).at k hkn
        cases he
        obtain ⟨c0, c1, c2, c3, c4, c5, c6, c7, c8, c9, c10⟩ := op_cells hy
        obtain ⟨d0, d1, d2, d3, d4, d5, d6, d7, d8, d9, d10⟩ := op_cells0 (HOP1.out.below hb)
        have hq := fun w => eq_op' y x w
        obtain ⟨q, hqe⟩ : ∃ q, decide (y = x) = q := ⟨_, rfl⟩
        rw [hqe] at hq
        have HBW := Go.Lib.hid hb; clear hb
        have HBW2 := Go.Lib.hid hbw; clear hbw
        have HG1 := Go.Lib.hid hg1; clear hg1
        have HQ := Go.Lib.hid hqe; clear hqe
        clear hy
        cases q
        · go_wp2_with fail
          go_quiet (fail)
          go_wp2_with fail
          refine ⟨⟨k + 1, by omega, by simp, fun j z hj hz => ?_, below_drewN HBW.out _⟩, by simp [intOf]; omega⟩
          rcases Nat.lt_or_ge j k with h | h
          · exact HALL.out j z h hz
          · obtain rfl : j = k := by omega
            rw [HG1.out] at hz
            injection hz with hz
            rw [← hz]
            exact of_decide_eq_false HQ.out
        · go_wp2_with fail
          go_quiet (fail)
          go_wp2_with fail
          go_ret2
          have hmem : x ∈ set := by
            have := List.mem_of_getElem? HG1.out
            rw [of_decide_eq_true HQ.out] at this
            exact this
          have hrr : r = (set, 0) := by
            rw [← HR.out]
            unfold addOf
            rw [if_neg (by rw [HU.out]; simp), if_pos hmem]
          have hfin := below_drewN HBW2.out nq
          exact ⟨_, by rw [hrr]; rfl, by rw [hrr]; exact HV.out.below hfin, hfin⟩
      · obtain rfl : n = k := by omega
        have hnm : x ∉ set := fun hm => by
          obtain ⟨j, hj, he⟩ := List.getElem_of_mem hm
          exact HALL.out j _ (by rw [← HN.out]; exact hj) (List.getElem?_eq_getElem hj) he
        obtain ⟨d0, d1, d2, d3, d4, d5, d6, d7, d8, d9, d10⟩ := op_cells0 (HOP1.out.below hb)
        have HNM := Go.Lib.hid hnm; clear hnm
        have HOP2 := Go.Lib.hid (HOP1.out.below hb)
        have HB2 := Go.Lib.hid (bstep HB1.out hb); clear hb HALL
        clear HOP HOP1 HB HB1 HC1
        go_wp2_with fail
        have hah0 : aheadOf (set.take 0) x = (x.seq == 1) := by show (decide (x.seq = 1) || false) = _; rw [Bool.or_false]; rfl
        have hlt0 : lateOf (set.take 0) x = false := rfl
        have hxs : 1 ≤ x.seq ∧ x.seq ≤ 1099511627776 := by
          have := HU.out
          unfold Opn.right at this
          split at this
          · cases this
          · omega
        obtain ⟨x1, x2⟩ := hxs
        have hwr : IntKind.i64.wrap (x.seq - 1) = x.seq - 1 := by rw [IntKind.wrap_i64]; omega
        have HAH0 := Go.Lib.hid hah0; clear hah0
        have HLT0 := Go.Lib.hid hlt0; clear hlt0
        obtain ⟨V2, hV2⟩ : ∃ V, V = wr := ⟨_, rfl⟩
        subst hV2
        go_loopw [8, 9, 10, 11, 35, 36, 37, 38, 39, 40, 41, 42, 43, 44, 45, 46, 47, 48, 49, 50, 51, 52, 53, 54, 55, 56, 57, 58, 59, 60, 61, 62, 63, 64, 65, 66, 67, 68, 69, 70, 71, 72, 73, 74, 75, 76, 77, 78, 79, 80, 81, 82, 83, 84, 85, 86, 87, 88, 89, 90, 91, 92, 93, 94, 95, 96, 97, 98, 99, 100, 101, 102, 103, 104, 105, 106, 107, 108, 109, 110, 111, 112] (fun ah lt i _ _ _ _ _ _ _ _ _ _ _ _ _ _ _ _ _ _ _ _ _ _ _ _ _ _ _ _ _ _ _ _ _ _ _ _ _ _ _ _ _ _ _ _ _ _ _ _ _ _ _ _ _ _ _ _ _ _ _ _ _ _ _ _ _ _ _ _ _ _ _ _ _ _ _ _ _ _ _ wr => ∃ k : Nat, k ≤ n ∧ i = .int .i64 (k : Int) ∧ ah = .bool (aheadOf (set.take k) x) ∧ lt = .bool (lateOf (set.take k) x) ∧ (∀ (j : Nat) (y : Opn), j < k → set[j]? = some y → twiceOne x y = false) ∧ Below w.heap.size w wr ∧ Below V2.heap.size V2 wr) (fun _ _ i _ _ _ _ _ _ _ _ _ _ _ _ _ _ _ _ _ _ _ _ _ _ _ _ _ _ _ _ _ _ _ _ _ _ _ _ _ _ _ _ _ _ _ _ _ _ _ _ _ _ _ _ _ _ _ _ _ _ _ _ _ _ _ _ _ _ _ _ _ _ _ _ _ _ _ _ _ _ _ _ => n - (intOf i).toNat)
        case atStart => exact ⟨0, by omega, rfl, by rw [HAH0.out], by rw [HLT0.out], fun _ _ h => by omega, HB2.out, Below.refl _ _⟩
        case round =>
          obtain ⟨k, hk, rfl, rfl, rfl, hall, hbw, hb⟩ := hrel
          have HALL := Go.Lib.hid hall; clear hall
          obtain ⟨V3, hV3⟩ : ∃ V, V = wr := ⟨_, rfl⟩
          subst hV3
          by_cases hkn : k < n
          · have hkn' : (k : Int) < (n : Int) := by omega
            obtain ⟨b1, o1, y, he, hg1, hy⟩ := (HV.out.below hbw).at k hkn
            cases he
            obtain ⟨e0, e1, e2, e3, e4, e5, e6, e7, e8, e9, e10⟩ := op_cells hy
            have hxw := HOP2.out.below hb
            have hb3 : Below V3.heap.size V3 (V3.alloc (.cells (opArr y) 25)) := (Below.refl _ _).alloc (Nat.le_refl _) _
            have hx5 := hxw.below hb3
            have hy5 := OpAt.new V3 y 25
            have hbc := bstep hbw hb3
            have hbv := bstep hb hb3
            unfold opArr opCells at hx5 hy5 hbc hbv
            obtain ⟨c0, c1, c2, c3, c4, c5, c6, c7, c8, c9, c10⟩ := op_cells0 hy5
            obtain ⟨d0, d1, d2, d3, d4, d5, d6, d7, d8, d9, d10⟩ := op_cells0 hx5
            have hq := fun w => eq_st y.stamp x.stamp w
            have hl1 := fun w => rless_any y.stamp x.stamp w
            have hl2 := fun w => rless_any x.stamp y.stamp w
            simp only [stCells] at hl1 hl2
            obtain ⟨es, hes⟩ : ∃ e, decide (y.stamp = x.stamp) = e := ⟨_, rfl⟩
            rw [hes] at hq
            obtain ⟨m1, hm1⟩ : ∃ m, y.stamp.less x.stamp = m := ⟨_, rfl⟩
            obtain ⟨m2, hm2⟩ : ∃ m, x.stamp.less y.stamp = m := ⟨_, rfl⟩
            rw [hm1] at hl1
            rw [hm2] at hl2
            have hah := ahead_take set x y k hg1
            have hlt := late_take set x y k hg1
            unfold lateOne at hlt
            rw [hm1, hm2] at hlt
            obtain ⟨ah, hahv⟩ : ∃ a, aheadOf (set.take k) x = a := ⟨_, rfl⟩
            obtain ⟨lt, hltv⟩ : ∃ a, lateOf (set.take k) x = a := ⟨_, rfl⟩
            rw [hahv] at hah
            rw [hltv] at hlt
            rw [hahv, hltv]
            have htw : twiceOne x y = true → r = ([], 24) := fun ht => by
              rw [← HR.out]
              unfold addOf
              rw [if_neg (by rw [HU.out]; simp), if_neg HNM.out, if_pos (twice_some set x y k hg1 ht)]
            have hnt : twiceOne x y = false → ∀ (j : Nat) (z : Opn), j < k + 1 → set[j]? = some z → twiceOne x z = false := fun ht j z hj hz => by
              rcases Nat.lt_or_ge j k with h | h
              · exact HALL.out j z h hz
              · obtain rfl : j = k := by omega
                rw [hg1] at hz
                injection hz with hz
                rw [← hz]; exact ht
            unfold twiceOne at htw hnt
            have HQ := Go.Lib.hid hes; clear hes
            have HL1 := Go.Lib.hid hl1; clear hl1
            have HL2 := Go.Lib.hid hl2; clear hl2
            have HY := Go.Lib.hid hy5; clear hy5
            have HX := Go.Lib.hid hx5; clear hx5
            have HBC := Go.Lib.hid (⟨hbc, hbv⟩ : Below w.heap.size w (V3.alloc (.cells #[.int .i64 y.stamp.count, .int .i64 y.stamp.who, .int .i64 y.seq, .int .i64 y.kind, .int .i64 y.node.count, .int .i64 y.node.who, .bool y.dir, .int .i64 y.parent.count, .int .i64 y.parent.who, .string (BS y.name), .string (BS y.manifest)] 25)) ∧ Below V2.heap.size V2 (V3.alloc (.cells #[.int .i64 y.stamp.count, .int .i64 y.stamp.who, .int .i64 y.seq, .int .i64 y.kind, .int .i64 y.node.count, .int .i64 y.node.who, .bool y.dir, .int .i64 y.parent.count, .int .i64 y.parent.who, .string (BS y.name), .string (BS y.manifest)] 25))); clear hbc hbv
            clear hy hxw hb3 hb hbw hahv hltv hm1 hm2 hg1
            by_cases hes : y.stamp = x.stamp
            · have h1 : decide (y.stamp = x.stamp ∨ (y.stamp.who = x.stamp.who ∧ y.seq = x.seq)) = true := decide_eq_true (.inl hes)
              have ht1 := HQ.out
              rw [decide_eq_true hes] at ht1
              subst ht1
              rw [h1] at htw
              have HTW := Go.Lib.hid (htw rfl)
              clear htw hnt hes h1 hah hlt
              go_wp2_with fail
              go_ret2
              exact ⟨_, by rw [HTW.out]; rfl, by rw [HTW.out]; exact Opns.nil _, HBC.out.1⟩
            · have ht1 := HQ.out
              rw [decide_eq_false hes] at ht1
              subst ht1
              by_cases hw : y.stamp.who = x.stamp.who
              · have bw : (y.stamp.who == x.stamp.who) = true := by simp [hw]
                by_cases hs : y.seq = x.seq
                · have bs : (y.seq == x.seq) = true := by simp [hs]
                  have h1 : decide (y.stamp = x.stamp ∨ (y.stamp.who = x.stamp.who ∧ y.seq = x.seq)) = true := decide_eq_true (.inr ⟨hw, hs⟩)
                  rw [h1] at htw
                  have HTW := Go.Lib.hid (htw rfl)
                  clear htw hnt hes h1 hah hlt hw hs
                  go_wp2_with fail
                  go_ret2
                  exact ⟨_, by rw [HTW.out]; rfl, by rw [HTW.out]; exact Opns.nil _, HBC.out.1⟩
                · have bs : (y.seq == x.seq) = false := by simp [hs]
                  have h1 : decide (y.stamp = x.stamp ∨ (y.stamp.who = x.stamp.who ∧ y.seq = x.seq)) = false := decide_eq_false (by rintro (h | h); exact hes h; exact hs h.2)
                  rw [h1] at hnt
                  have HNT := Go.Lib.hid (hnt rfl)
                  by_cases hm : y.seq = x.seq - 1
                  · have bm : (y.seq == x.seq - 1) = true := by simp [hm]
                    have bg : decide (x.seq < y.seq) = false := decide_eq_false (by omega)
                    have bg' : ¬ x.seq < y.seq := by omega
                    rw [decide_eq_true (⟨hw, hm⟩ : y.stamp.who = x.stamp.who ∧ y.seq = x.seq - 1)] at hah hlt
                    rw [decide_eq_false (fun h => bg' h.2 : ¬ (y.stamp.who = x.stamp.who ∧ x.seq < y.seq))] at hlt
                    have HAH := Go.Lib.hid hah; have HLT := Go.Lib.hid hlt
                    clear htw hnt hes h1 hah hlt hw hs hm
                    cases lt
                    · go_wp2_with (first | (go_at_call 54; with_reducible refine (HL1.out _).mono ?_; rintro e w6 ⟨rfl, hb⟩; have hY := HY.out.below hb; have hX := HX.out.below hb; obtain ⟨c0, c1, c2, c3, c4, c5, c6, c7, c8, c9, c10⟩ := op_cells0 hY; obtain ⟨d0, d1, d2, d3, d4, d5, d6, d7, d8, d9, d10⟩ := op_cells0 hX; have HBC := Go.Lib.hid ((⟨bstep HBC.out.1 hb, bstep HBC.out.2 hb⟩ : Below w.heap.size w w6 ∧ Below V2.heap.size V2 w6)); have HY := Go.Lib.hid hY; have HX := Go.Lib.hid hX; clear hY hX hb))
                      exact ⟨⟨k + 1, by omega, by simp, by rw [HAH.out]; simp, by rw [HLT.out]; simp, HNT.out, HBC.out.1, HBC.out.2⟩, by simp [intOf]; omega⟩
                    · go_wp2_with fail
                      exact ⟨⟨k + 1, by omega, by simp, by rw [HAH.out]; simp, by rw [HLT.out]; simp, HNT.out, HBC.out.1, HBC.out.2⟩, by simp [intOf]; omega⟩
                  · have bm : (y.seq == x.seq - 1) = false := by simp [hm]
                    rw [decide_eq_false (fun h => hm h.2 : ¬ (y.stamp.who = x.stamp.who ∧ y.seq = x.seq - 1))] at hah hlt
                    by_cases hg : x.seq < y.seq
                    · have bg : decide (x.seq < y.seq) = true := decide_eq_true hg
                      rw [decide_eq_true (⟨hw, hg⟩ : y.stamp.who = x.stamp.who ∧ x.seq < y.seq)] at hlt
                      have HAH := Go.Lib.hid hah; have HLT := Go.Lib.hid hlt
                      clear htw hnt hes h1 hah hlt hw hs hm
                      cases lt
                      · go_wp2_with (first | (go_at_call 54; with_reducible refine (HL2.out _).mono ?_; rintro e w6 ⟨rfl, hb⟩; have hY := HY.out.below hb; have hX := HX.out.below hb; obtain ⟨c0, c1, c2, c3, c4, c5, c6, c7, c8, c9, c10⟩ := op_cells0 hY; obtain ⟨d0, d1, d2, d3, d4, d5, d6, d7, d8, d9, d10⟩ := op_cells0 hX; have HBC := Go.Lib.hid ((⟨bstep HBC.out.1 hb, bstep HBC.out.2 hb⟩ : Below w.heap.size w w6 ∧ Below V2.heap.size V2 w6)); have HY := Go.Lib.hid hY; have HX := Go.Lib.hid hX; clear hY hX hb))
                        exact ⟨⟨k + 1, by omega, by simp, by rw [HAH.out]; simp, by rw [HLT.out]; simp, HNT.out, HBC.out.1, HBC.out.2⟩, by simp [intOf]; omega⟩
                      · go_wp2_with fail
                        exact ⟨⟨k + 1, by omega, by simp, by rw [HAH.out]; simp, by rw [HLT.out]; simp, HNT.out, HBC.out.1, HBC.out.2⟩, by simp [intOf]; omega⟩
                    · have bg : decide (x.seq < y.seq) = false := decide_eq_false hg
                      rw [decide_eq_false (fun h => hg h.2 : ¬ (y.stamp.who = x.stamp.who ∧ x.seq < y.seq))] at hlt
                      have HAH := Go.Lib.hid hah; have HLT := Go.Lib.hid hlt
                      clear htw hnt hes h1 hah hlt hw hs hm
                      go_wp2_with fail
                      exact ⟨⟨k + 1, by omega, by simp, by rw [HAH.out]; simp, by rw [HLT.out]; simp, HNT.out, HBC.out.1, HBC.out.2⟩, by simp [intOf]; omega⟩
              · have bw : (y.stamp.who == x.stamp.who) = false := by simp [hw]
                have h1 : decide (y.stamp = x.stamp ∨ (y.stamp.who = x.stamp.who ∧ y.seq = x.seq)) = false := decide_eq_false (by rintro (h | h); exact hes h; exact hw h.1)
                rw [h1] at hnt
                rw [decide_eq_false (fun h => hw h.1 : ¬ (y.stamp.who = x.stamp.who ∧ y.seq = x.seq - 1))] at hah hlt
                rw [decide_eq_false (fun h => hw h.1 : ¬ (y.stamp.who = x.stamp.who ∧ x.seq < y.seq))] at hlt
                have HNT := Go.Lib.hid (hnt rfl)
                have HAH := Go.Lib.hid hah; have HLT := Go.Lib.hid hlt
                clear htw hnt hes h1 hah hlt hw
                go_wp2_with fail
                exact ⟨⟨k + 1, by omega, by simp, by rw [HAH.out]; simp, by rw [HLT.out]; simp, HNT.out, HBC.out.1, HBC.out.2⟩, by simp [intOf]; omega⟩
          · obtain rfl : n = k := by omega
            have htf : twiceOf set x = false := twice_none set x fun j y hy => HALL.out j y (by have := (List.getElem?_eq_some_iff.1 hy).1; rw [HN.out] at this; exact this) hy
            rw [List.take_of_length_le (by rw [HN.out]; omega)]
            obtain ⟨ah, hah⟩ : ∃ a, aheadOf set x = a := ⟨_, rfl⟩
            obtain ⟨lt, hlt⟩ : ∃ a, lateOf set x = a := ⟨_, rfl⟩
            rw [hah, hlt]
            have hrr := HR.out
            unfold addOf at hrr
            rw [if_neg (by rw [HU.out]; simp), if_neg HNM.out, if_neg (by rw [htf]; simp), hah, hlt, HN.out] at hrr
            have HBW := Go.Lib.hid hbw; clear hbw
            have HB3 := Go.Lib.hid hb; clear hb
            clear htf hah hlt HALL
            cases ah
            · rw [if_pos (show (!false) = true from rfl)] at hrr
              have HRR := Go.Lib.hid hrr; clear hrr
              go_wp2_with fail
              go_ret2
              exact ⟨_, by rw [← HRR.out]; rfl, by rw [← HRR.out]; exact Opns.nil _, HBW.out⟩
            · rw [if_neg (show ¬ (!true) = true by simp)] at hrr
              cases lt
              · rw [if_neg (show ¬ false = true by simp)] at hrr
                by_cases h4 : 400 ≤ n
                · rw [if_pos h4] at hrr
                  have h4' : (400 : Int) ≤ (n : Int) := by omega
                  have HRR := Go.Lib.hid hrr; clear hrr
                  go_wp2_with fail
                  go_ret2
                  exact ⟨_, by rw [← HRR.out]; rfl, by rw [← HRR.out]; exact Opns.nil _, HBW.out⟩
                · rw [if_neg h4] at hrr
                  have h4' : ¬ (400 : Int) ≤ (n : Int) := by omega
                  have HRR := Go.Lib.hid hrr; clear hrr
                  have HOP4 := Go.Lib.hid (HOP2.out.below HB3.out)
                  clear HAH0 HLT0 HR HOP2 HB3 HB2 h4
                  go_wp2_with fail
                  go_loopw [12, 119, 120, 121, 122, 123, 124, 125, 126, 127, 128, 129, 130, 131, 132, 133, 134, 135] (fun i _ _ _ _ _ _ _ _ _ _ _ _ _ _ _ _ _ wr => ∃ k : Nat, k ≤ n ∧ i = .int .i64 (k : Int) ∧ (∀ (j : Nat) (y : Opn), j < k → set[j]? = some y → x.stamp.less y.stamp = false) ∧ Below w.heap.size w wr ∧ Below V3.heap.size V3 wr) (fun i _ _ _ _ _ _ _ _ _ _ _ _ _ _ _ _ _ _ => n - (intOf i).toNat)
                  case atStart => exact ⟨0, by omega, rfl, fun _ _ h => by omega, HBW.out, Below.refl _ _⟩
                  case round =>
                    obtain ⟨k, hk, rfl, hall, hbw, hb⟩ := hrel
                    obtain ⟨V4, hV4⟩ : ∃ V, V = wr := ⟨_, rfl⟩
                    subst hV4
                    have hxw := HOP4.out.below hb
                    by_cases hkn : k < n
                    · have hkn' : (k : Int) < (n : Int) := by omega
                      obtain ⟨b1, o1, y, he, hg1, hy⟩ := (HV.out.below hbw).at k hkn
                      cases he
                      obtain ⟨c0, c1, -⟩ := op_cells hy
                      obtain ⟨d0, d1, -⟩ := op_cells0 hxw
                      have hlc := hy.lt
                      have hld := hxw.lt
                      have hl2 := fun w => rless_any x.stamp y.stamp w
                      simp only [stCells] at hl2
                      obtain ⟨m, hm⟩ : ∃ m, x.stamp.less y.stamp = m := ⟨_, rfl⟩
                      rw [hm] at hl2
                      have HL2 := Go.Lib.hid hl2; clear hl2
                      have HALL := Go.Lib.hid hall; clear hall
                      have HG1 := Go.Lib.hid hg1; clear hg1
                      have HM := Go.Lib.hid hm; clear hm
                      have HXW := Go.Lib.hid hxw; clear hxw hy
                      have HB4 := Go.Lib.hid hb; clear hb
                      have HBW4 := Go.Lib.hid hbw; clear hbw
                      have hne := BW.ne V4.heap.size V4
                      have q0 := fun z : BW V4.heap.size V4 => z.cell c0 hlc
                      have q1 := fun z : BW V4.heap.size V4 => z.cell c1 hlc
                      have q2 := fun z : BW V4.heap.size V4 => z.cell d0 hld
                      have q3 := fun z : BW V4.heap.size V4 => z.cell d1 hld
                      cases m
                      · go_wp2_with fail
                        refine wp_region_calm V4.heap.size V4 (Below.refl _ _) (by kernel_rfl) (by kernel_rfl) ?_
                        repeat (go_big_quiet_step ((go_at_call 54; with_reducible exact bw_of (Nat.le_refl _) (HL2.out _))))
                        refine wpQuiet_nil ?_
                        intro _ hw'
                        obtain ⟨z, rfl⟩ := hw'
                        go_wp2_with fail
                        refine ⟨⟨k + 1, by omega, by simp, fun j u hj hu => ?_, bstep HBW4.out z.2, bstep HB4.out z.2⟩, by simp [intOf]; omega⟩
                        rcases Nat.lt_or_ge j k with h | h
                        · exact HALL.out j u h hu
                        · obtain rfl : j = k := by omega
                          rw [HG1.out] at hu
                          injection hu with hu
                          rw [← hu]; exact HM.out
                      · have hins := insAt_eq set x k (by rw [HN.out]; exact hk) HALL.out (fun u hu => by rw [HG1.out] at hu; injection hu with hu; rw [← hu]; exact HM.out)
                        rw [hins] at HRR
                        clear hins
                        go_wp2_with fail
                        refine wp_region_calm V4.heap.size V4 (Below.refl _ _) (by kernel_rfl) (by kernel_rfl) ?_
                        repeat (go_big_quiet_step ((go_at_call 54; with_reducible exact bw_of (Nat.le_refl _) (HL2.out _))))
                        refine wpQuiet_nil ?_
                        intro _ hw'
                        obtain ⟨z, rfl⟩ := hw'
                        have hbz := z.2
                        clear q0 q1 q2 q3
                        obtain ⟨V5, hV5⟩ : ∃ V, z.w = V := ⟨_, rfl⟩
                        have hbz' : Below V4.heap.size V4 V5 := by rw [← hV5]; exact hbz
                        rw [hV5]
                        clear hV5 hbz hne
                        have HX5 := Go.Lib.hid (HXW.out.below hbz')
                        have HV5 := Go.Lib.hid (HV.out.below (bstep HBW4.out hbz'))
                        have HBW5 := Go.Lib.hid (bstep HBW4.out hbz')
                        clear hbz' c0 c1 d0 d1 hlc hld
                        obtain ⟨e0, e1, e2, e3, e4, e5, e6, e7, e8, e9, e10⟩ := op_cells0 HX5.out
                        have hkc : k ≤ c := by omega
                        go_wp2_with (first | (at_builtin; refine wpList_append_ops rfl (.tmp 136) (.tmp 139) rfl V5.heap.size (.slice none 0 0) 0 [] rfl (Row.nil _ _ _ _) _ k (set.take k) rfl (HV5.out.rdTake k hk) (by omega) (by omega) (Nat.le_refl _) ?_; intro v6 V6 hr6 hb6; obtain ⟨f0, f1, f2, f3, f4, f5, f6, f7, f8, f9, f10⟩ := op_cells0 (HX5.out.below hb6); have HR6 := Go.Lib.hid hr6; have HB6 := Go.Lib.hid hb6; have HZ6 := Go.Lib.hid hb6.size; clear hr6 hb6) | (at_builtin; refine wpList_append_op rfl (.tmp 141) (.tmp 143) rfl V5.heap.size v6 (0 + k) ([] ++ set.take k) rfl HR6.out x _ rfl rfl (by omega) HZ6.out ?_; intro v7 V7 hr7 hb7; have HR7 := Go.Lib.hid hr7; have HB7 := Go.Lib.hid (HB6.out.trans hb7); have HZ7 := Go.Lib.hid (HB6.out.trans hb7).size; have HV7 := Go.Lib.hid (HV5.out.below (HB6.out.trans hb7)); clear hr7 hb7) | (at_builtin; refine wpList_append_ops rfl (.tmp 145) (.tmp 148) rfl V5.heap.size v7 (0 + k + 1) ([] ++ set.take k ++ [x]) rfl HR7.out _ _ (set.drop k) rfl (HV7.out.rdDrop k hk _ (by intro h9; omega) _ (by omega) _) (by omega) (by omega) HZ7.out ?_; intro v8 V8 hr8 hb8; have HR8 := Go.Lib.hid hr8; have HB8 := Go.Lib.hid (HB7.out.trans hb8); clear hr8 hb8))
                        all_goals (
                          go_ret2
                          have hops := Opns.of_row HR8.out
                          rw [List.nil_append, List.append_assoc] at hops
                          exact ⟨_, by rw [← HRR.out]; rfl, by rw [← HRR.out]; exact hops, bstep HBW5.out HB8.out⟩)
                    · obtain rfl : n = k := by omega
                      have hins := insAt_eq set x n (by rw [HN.out]; exact Nat.le_refl _) hall (fun u hu => by rw [List.getElem?_eq_none (by rw [HN.out]; exact Nat.le_refl _)] at hu; cases hu)
                      rw [hins] at HRR
                      clear hins
                      have HXW := Go.Lib.hid hxw; clear hxw
                      have HB4 := Go.Lib.hid hb; clear hb hall
                      have HBW4 := Go.Lib.hid hbw; clear hbw
                      go_wp2_with fail
                      go_quiet (fail)
                      obtain ⟨V5, hV5⟩ : ∃ V, V4.drewN nq = V := ⟨_, rfl⟩
                      have hbz' : Below V4.heap.size V4 V5 := by rw [← hV5]; exact below_drewN (Below.refl _ _) _
                      rw [hV5]
                      clear hV5
                      have HX5 := Go.Lib.hid (HXW.out.below hbz')
                      have HV5 := Go.Lib.hid (HV.out.below (bstep HBW4.out hbz'))
                      have HBW5 := Go.Lib.hid (bstep HBW4.out hbz')
                      clear hbz'
                      obtain ⟨e0, e1, e2, e3, e4, e5, e6, e7, e8, e9, e10⟩ := op_cells0 HX5.out
                      have hkc : n ≤ c := by omega
                      go_wp2_with (first | (at_builtin; refine wpList_append_ops rfl (.tmp 136) (.tmp 139) rfl V5.heap.size (.slice none 0 0) 0 [] rfl (Row.nil _ _ _ _) _ n (set.take n) rfl (HV5.out.rdTake n hk) (by omega) (by omega) (Nat.le_refl _) ?_; intro v6 V6 hr6 hb6; obtain ⟨f0, f1, f2, f3, f4, f5, f6, f7, f8, f9, f10⟩ := op_cells0 (HX5.out.below hb6); have HR6 := Go.Lib.hid hr6; have HB6 := Go.Lib.hid hb6; have HZ6 := Go.Lib.hid hb6.size; clear hr6 hb6) | (at_builtin; refine wpList_append_op rfl (.tmp 141) (.tmp 143) rfl V5.heap.size v6 (0 + n) ([] ++ set.take n) rfl HR6.out x _ rfl rfl (by omega) HZ6.out ?_; intro v7 V7 hr7 hb7; have HR7 := Go.Lib.hid hr7; have HB7 := Go.Lib.hid (HB6.out.trans hb7); have HZ7 := Go.Lib.hid (HB6.out.trans hb7).size; have HV7 := Go.Lib.hid (HV5.out.below (HB6.out.trans hb7)); clear hr7 hb7) | (at_builtin; refine wpList_append_ops rfl (.tmp 145) (.tmp 148) rfl V5.heap.size v7 (0 + n + 1) ([] ++ set.take n ++ [x]) rfl HR7.out _ 0 (set.drop n) rfl (rdEnd set n (by rw [HN.out]; exact Nat.le_refl _)) (by omega) (by omega) HZ7.out ?_; intro v8 V8 hr8 hb8; have HR8 := Go.Lib.hid hr8; have HB8 := Go.Lib.hid (HB7.out.trans hb8); clear hr8 hb8))
                      all_goals (
                        go_ret2
                        have hops := Opns.of_row HR8.out
                        rw [List.nil_append, List.append_assoc] at hops
                        exact ⟨_, by rw [← HRR.out]; rfl, by rw [← HRR.out]; exact hops, bstep HBW5.out HB8.out⟩)
              · rw [if_pos (show true = true from rfl)] at hrr
                have HRR := Go.Lib.hid hrr; clear hrr
                go_wp2_with fail
                go_ret2
                exact ⟨_, by rw [← HRR.out]; rfl, by rw [← HRR.out]; exact Opns.nil _, HBW.out⟩
  · have hrr : r = ([], u) := by
      rw [← HR.out]
      unfold addOf
      rw [HU.out, if_pos h0]
    subst hrr
    have hne : (u != 0) = true := by simp [h0]
    clear h0 HR
    go_enter Try.func21, Try.ntmps21
    go_wp2_with (go_at_call 14; with_reducible refine (HC1.out _).mono ?_; rintro e w1 ⟨rfl, hb⟩; have HB := Go.Lib.hid (bstep HB.out hb); clear hb)
    go_ret2
    exact ⟨_, rfl, Opns.nil _, HB.out⟩

set_option maxRecDepth 20000 in
set_option maxHeartbeats 16000000 in
theorem radd_zero (v : Value) (x : Opn) (w : World) (h : Opns w v []) (hxn : x.name.length ≤ 1000000) (hxm : x.manifest.length ≤ 1000000) :
    Calls Try.prog 21 #[v, opVal x] w fun e w' => ∃ v', e = .returned (.tuple #[v', .int .i64 (addOf [] x).2]) ∧ Opns w' v' (addOf [] x).1 ∧ Below w.heap.size w w' := by
  obtain ⟨A, n, c, rfl, hn, hc, hA, -⟩ := h
  obtain rfl : n = 0 := by simpa using hn.symm
  have hB : Below w.heap.size w (w.alloc (.cells (opArr x) 25)) := (Below.refl _ _).alloc (Nat.le_refl _) _
  have hop := OpAt.new w x 25
  have hc1 := fun w => ropright_any x w (by omega) (by omega)
  obtain ⟨r, hr⟩ : ∃ r, addOf [] x = r := ⟨_, rfl⟩
  rw [hr]
  obtain ⟨u, hu⟩ : ∃ u, x.right = u := ⟨_, rfl⟩
  rw [hu] at hc1
  unfold opVal at hc1 ⊢
  unfold opArr opCells at hB hop hc1 ⊢
  have hrr : r = if u ≠ 0 then ([], u) else if x.seq = 1 then ([x], 0) else ([], 26) := by
    have e1 : twiceOf [] x = false := rfl
    have e2 : aheadOf [] x = decide (x.seq = 1) := by simp [aheadOf]
    have e3 : lateOf [] x = false := rfl
    have e4 : insAt [] x = [x] := rfl
    rw [← hr]
    unfold addOf
    rw [hu, e1, e2, e3, e4]
    by_cases h0 : u = 0 <;> by_cases h1 : x.seq = 1 <;> simp [h0, h1]
  have HC1 := Go.Lib.hid hc1; clear hc1
  have HB := Go.Lib.hid hB; clear hB
  have HOP := Go.Lib.hid hop; clear hop
  clear hu hr hn hc
  by_cases h0 : u = 0
  · subst h0
    rw [if_neg (by simp)] at hrr
    have hrd : ∀ W, Rd W 11 (.slice A 0 c) 0 (opsCells []) := fun W => by
      cases A with
      | none => rw [hA rfl]; exact ⟨rfl, .inl ⟨rfl, rfl⟩⟩
      | some a => exact ⟨rfl, .inr ⟨a, c, rfl, fun j u hu => by cases hu⟩⟩
    by_cases h1 : x.seq = 1
    · rw [if_pos h1] at hrr
      subst hrr
      have hb1 : (x.seq == 1) = true := by simp [h1]
      have HRD := Go.Lib.hid hrd; clear hrd
      clear h1
      go_enter Try.func21, Try.ntmps21
      go_wp2_with (go_at_call 14; with_reducible refine (HC1.out _).mono ?_; rintro e w1 ⟨rfl, hb⟩; have hop := (HOP.out).below hb; obtain ⟨d0, d1, d2, d3, d4, d5, d6, d7, d8, d9, d10⟩ := op_cells0 hop; have HB1 := Go.Lib.hid (bstep HB.out hb); have HOP1 := Go.Lib.hid hop; clear hop hb)
      go_loopw [7, 19, 20, 21, 22, 23, 24, 25, 26, 27, 28, 29, 30] (fun i _ _ _ _ _ _ _ _ _ _ _ _ wr => i = .int .i64 0 ∧ wr = w1) (fun i _ _ _ _ _ _ _ _ _ _ _ _ _ => 0)
      case atStart => exact ⟨rfl, rfl⟩
      case round =>
        obtain ⟨rfl, rfl⟩ := hrel
        go_wp2_with fail
        obtain ⟨V2, hV2⟩ : ∃ V, V = wr := ⟨_, rfl⟩
        subst hV2
        go_loopw [8, 9, 10, 11, 35, 36, 37, 38, 39, 40, 41, 42, 43, 44, 45, 46, 47, 48, 49, 50, 51, 52, 53, 54, 55, 56, 57, 58, 59, 60, 61, 62, 63, 64, 65, 66, 67, 68, 69, 70, 71, 72, 73, 74, 75, 76, 77, 78, 79, 80, 81, 82, 83, 84, 85, 86, 87, 88, 89, 90, 91, 92, 93, 94, 95, 96, 97, 98, 99, 100, 101, 102, 103, 104, 105, 106, 107, 108, 109, 110, 111, 112] (fun ah lt i _ _ _ _ _ _ _ _ _ _ _ _ _ _ _ _ _ _ _ _ _ _ _ _ _ _ _ _ _ _ _ _ _ _ _ _ _ _ _ _ _ _ _ _ _ _ _ _ _ _ _ _ _ _ _ _ _ _ _ _ _ _ _ _ _ _ _ _ _ _ _ _ _ _ _ _ _ _ _ wr => ah = .bool true ∧ lt = .bool false ∧ i = .int .i64 0 ∧ wr = V2) (fun _ _ i _ _ _ _ _ _ _ _ _ _ _ _ _ _ _ _ _ _ _ _ _ _ _ _ _ _ _ _ _ _ _ _ _ _ _ _ _ _ _ _ _ _ _ _ _ _ _ _ _ _ _ _ _ _ _ _ _ _ _ _ _ _ _ _ _ _ _ _ _ _ _ _ _ _ _ _ _ _ _ _ => 0)
        case atStart => exact ⟨rfl, rfl, rfl, rfl⟩
        case round =>
          obtain ⟨rfl, rfl, rfl, rfl⟩ := hrel
          go_wp2_with fail
          obtain ⟨V3, hV3⟩ : ∃ V, V = wr := ⟨_, rfl⟩
          subst hV3
          go_loopw [12, 119, 120, 121, 122, 123, 124, 125, 126, 127, 128, 129, 130, 131, 132, 133, 134, 135] (fun i _ _ _ _ _ _ _ _ _ _ _ _ _ _ _ _ _ wr => i = .int .i64 0 ∧ wr = V3) (fun i _ _ _ _ _ _ _ _ _ _ _ _ _ _ _ _ _ _ => 0)
          case atStart => exact ⟨rfl, rfl⟩
          case round =>
            obtain ⟨rfl, rfl⟩ := hrel
            go_wp2_with fail
            go_quiet (fail)
            obtain ⟨V5, hV5⟩ : ∃ V, wr.drewN nq = V := ⟨_, rfl⟩
            have hbz' : Below wr.heap.size wr V5 := by rw [← hV5]; exact below_drewN (Below.refl _ _) _
            rw [hV5]
            clear hV5
            have HX5 := Go.Lib.hid (HOP1.out.below hbz')
            have HBW5 := Go.Lib.hid (bstep HB1.out hbz')
            clear hbz' d0 d1 d2 d3 d4 d5 d6 d7 d8 d9 d10
            obtain ⟨e0, e1, e2, e3, e4, e5, e6, e7, e8, e9, e10⟩ := op_cells0 HX5.out
            cases A with
            | none =>
              obtain rfl : c = 0 := hA rfl
              go_wp2_with (first | (at_builtin; refine wpList_append_ops rfl (.tmp 136) (.tmp 139) rfl V5.heap.size (.slice none 0 0) 0 [] rfl (Row.nil _ _ _ _) _ 0 [] rfl (HRD.out _) (by omega) (by omega) (Nat.le_refl _) ?_; intro v6 V6 hr6 hb6; obtain ⟨f0, f1, f2, f3, f4, f5, f6, f7, f8, f9, f10⟩ := op_cells0 (HX5.out.below hb6); have HR6 := Go.Lib.hid hr6; have HB6 := Go.Lib.hid hb6; have HZ6 := Go.Lib.hid hb6.size; clear hr6 hb6) | (at_builtin; refine wpList_append_op rfl (.tmp 141) (.tmp 143) rfl V5.heap.size v6 (0 + 0) ([] ++ []) rfl HR6.out x _ rfl rfl (by omega) HZ6.out ?_; intro v7 V7 hr7 hb7; have HR7 := Go.Lib.hid hr7; have HB7 := Go.Lib.hid (HB6.out.trans hb7); have HZ7 := Go.Lib.hid (HB6.out.trans hb7).size; clear hr7 hb7) | (at_builtin; refine wpList_append_ops rfl (.tmp 145) (.tmp 148) rfl V5.heap.size v7 (0 + 0 + 1) ([] ++ [] ++ [x]) rfl HR7.out _ 0 [] rfl (by first | exact HRD.out _ | exact rdEnd [] 0 (Nat.le_refl _)) (by omega) (by omega) HZ7.out ?_; intro v8 V8 hr8 hb8; have HR8 := Go.Lib.hid hr8; have HB8 := Go.Lib.hid (HB7.out.trans hb8); clear hr8 hb8))
              all_goals (
                go_ret2
                have hops := Opns.of_row HR8.out
                exact ⟨_, rfl, hops, bstep HBW5.out HB8.out⟩)
            | some a =>
              go_wp2_with (first | (at_builtin; refine wpList_append_ops rfl (.tmp 136) (.tmp 139) rfl V5.heap.size (.slice none 0 0) 0 [] rfl (Row.nil _ _ _ _) _ 0 [] rfl (HRD.out _) (by omega) (by omega) (Nat.le_refl _) ?_; intro v6 V6 hr6 hb6; obtain ⟨f0, f1, f2, f3, f4, f5, f6, f7, f8, f9, f10⟩ := op_cells0 (HX5.out.below hb6); have HR6 := Go.Lib.hid hr6; have HB6 := Go.Lib.hid hb6; have HZ6 := Go.Lib.hid hb6.size; clear hr6 hb6) | (at_builtin; refine wpList_append_op rfl (.tmp 141) (.tmp 143) rfl V5.heap.size v6 (0 + 0) ([] ++ []) rfl HR6.out x _ rfl rfl (by omega) HZ6.out ?_; intro v7 V7 hr7 hb7; have HR7 := Go.Lib.hid hr7; have HB7 := Go.Lib.hid (HB6.out.trans hb7); have HZ7 := Go.Lib.hid (HB6.out.trans hb7).size; clear hr7 hb7) | (at_builtin; refine wpList_append_ops rfl (.tmp 145) (.tmp 148) rfl V5.heap.size v7 (0 + 0 + 1) ([] ++ [] ++ [x]) rfl HR7.out _ 0 [] rfl (by first | exact HRD.out _ | exact rdEnd [] 0 (Nat.le_refl _)) (by omega) (by omega) HZ7.out ?_; intro v8 V8 hr8 hb8; have HR8 := Go.Lib.hid hr8; have HB8 := Go.Lib.hid (HB7.out.trans hb8); clear hr8 hb8))
              all_goals (
                go_ret2
                have hops := Opns.of_row HR8.out
                exact ⟨_, rfl, hops, bstep HBW5.out HB8.out⟩)
    · rw [if_neg h1] at hrr
      subst hrr
      have hb1 : (x.seq == 1) = false := by simp [h1]
      clear h1 hrd
      go_enter Try.func21, Try.ntmps21
      go_wp2_with (go_at_call 14; with_reducible refine (HC1.out _).mono ?_; rintro e w1 ⟨rfl, hb⟩; have hop := (HOP.out).below hb; obtain ⟨d0, d1, d2, d3, d4, d5, d6, d7, d8, d9, d10⟩ := op_cells0 hop; have HB1 := Go.Lib.hid (bstep HB.out hb); clear hop hb)
      go_loopw [7, 19, 20, 21, 22, 23, 24, 25, 26, 27, 28, 29, 30] (fun i _ _ _ _ _ _ _ _ _ _ _ _ wr => i = .int .i64 0 ∧ wr = w1) (fun i _ _ _ _ _ _ _ _ _ _ _ _ _ => 0)
      case atStart => exact ⟨rfl, rfl⟩
      case round =>
        obtain ⟨rfl, rfl⟩ := hrel
        go_wp2_with fail
        obtain ⟨V2, hV2⟩ : ∃ V, V = wr := ⟨_, rfl⟩
        subst hV2
        go_loopw [8, 9, 10, 11, 35, 36, 37, 38, 39, 40, 41, 42, 43, 44, 45, 46, 47, 48, 49, 50, 51, 52, 53, 54, 55, 56, 57, 58, 59, 60, 61, 62, 63, 64, 65, 66, 67, 68, 69, 70, 71, 72, 73, 74, 75, 76, 77, 78, 79, 80, 81, 82, 83, 84, 85, 86, 87, 88, 89, 90, 91, 92, 93, 94, 95, 96, 97, 98, 99, 100, 101, 102, 103, 104, 105, 106, 107, 108, 109, 110, 111, 112] (fun ah lt i _ _ _ _ _ _ _ _ _ _ _ _ _ _ _ _ _ _ _ _ _ _ _ _ _ _ _ _ _ _ _ _ _ _ _ _ _ _ _ _ _ _ _ _ _ _ _ _ _ _ _ _ _ _ _ _ _ _ _ _ _ _ _ _ _ _ _ _ _ _ _ _ _ _ _ _ _ _ _ wr => ah = .bool false ∧ lt = .bool false ∧ i = .int .i64 0 ∧ wr = V2) (fun _ _ i _ _ _ _ _ _ _ _ _ _ _ _ _ _ _ _ _ _ _ _ _ _ _ _ _ _ _ _ _ _ _ _ _ _ _ _ _ _ _ _ _ _ _ _ _ _ _ _ _ _ _ _ _ _ _ _ _ _ _ _ _ _ _ _ _ _ _ _ _ _ _ _ _ _ _ _ _ _ _ _ => 0)
        case atStart => exact ⟨rfl, rfl, rfl, rfl⟩
        case round =>
          obtain ⟨rfl, rfl, rfl, rfl⟩ := hrel
          go_wp2_with fail
          go_ret2
          exact ⟨_, rfl, Opns.nil _, HB1.out⟩
  · rw [if_pos h0] at hrr
    subst hrr
    have hne : (u != 0) = true := by simp [h0]
    clear h0
    go_enter Try.func21, Try.ntmps21
    go_wp2_with (go_at_call 14; with_reducible refine (HC1.out _).mono ?_; rintro e w1 ⟨rfl, hb⟩; have HB := Go.Lib.hid (bstep HB.out hb); clear hb)
    go_ret2
    exact ⟨_, rfl, Opns.nil _, HB.out⟩

theorem radd_any (v : Value) (set : List Opn) (x : Opn) (w : World) (h : Opns w v set) (hn : set.length ≤ 100000) (hxn : x.name.length ≤ 1000000) (hxm : x.manifest.length ≤ 1000000) :
    Calls Try.prog 21 #[v, opVal x] w fun e w' => ∃ v', e = .returned (.tuple #[v', .int .i64 (addOf set x).2]) ∧ Opns w' v' (addOf set x).1 ∧ Below w.heap.size w w' := by
  rcases Nat.eq_zero_or_pos set.length with h0 | h0
  · obtain rfl : set = [] := List.eq_nil_of_length_eq_zero h0
    exact radd_zero v x w h hxn hxm
  · exact radd_pos v set x w h h0 hn hxn hxm
end Go.Proofs.Ytmkmahjboocoaaa.W
