/- The reference of forms: put. -/
import Derived.Test.YtkohcibhefejfaaNormRA
import Derived.Test.YtkohcibhefejfaaOwn
namespace Go.Proofs.Ytkohcibhefejfaa.W
set_option maxRecDepth 20000
set_option linter.unusedVariables false
open Go.RowKit Go.Proofs Arb

theorem bs_less (a b : List UInt8) : Go.Op.bytesLess (BS a).toList (BS b).toList = Go.Op.bytesLess a b := by
  rw [Go.Lib.toList_data, Go.Lib.toList_data, BS_list, BS_list]
theorem texts_one (l : List (List UInt8)) : ∀ u ∈ l.map tx, u.oneCell' = true := by
  intro u hu
  obtain ⟨x, _, rfl⟩ := List.mem_map.1 hu
  rfl
/-- 'append(s, l...)' of texts. -/
theorem wpList_append_tx {ops : Array Oper} {rest : List Oper} {o : Oper} {a : Act} {w : World} {Q : Exit → Act → World → Prop} (hgd : o.guard = none) (s x : Operand)
    (ho : o.op = .call { callee := .builtin .append, args := #[s, x], argTypes := #[33, 33] })
    (base : Nat) (v : Value) (n : Nat) (l : List (List UInt8)) (hs : a.eval s = v) (hown : Row w base 9 1 v n (l.map tx))
    (vx : Value) (m : Nat) (k : List (List UInt8)) (hx : a.eval x = vx) (hr : Rd w 1 vx m (k.map tx))
    (h63 : n ≤ 1000000) (h64 : m ≤ 1000000) (hbase : base ≤ w.heap.size)
    (h : ∀ v' w', Row w' base 9 1 v' (n + m) ((l ++ k).map tx) → Below base w w' → wpList Try.prog ops Q rest (a.put o.dst v') w') :
    wpList Try.prog ops Q (o :: rest) a w := by
  obtain ⟨i0, hi, hz0, hz1, hz2⟩ := info_parts info_str
  refine wpList_append_row hgd s x 33 ho base 9 i0 _ 1 16 Try.underlying33 hi hz0 hz1 hz2 rfl (by decide) v n _ hs hown vx m (k.map tx) hx hr (texts_one _) (by unfold maxLen; omega) (by omega) hbase ?_
  intro v' w' hr hg _
  exact h v' w' (by rw [List.map_append]; exact hr) ((Below.refl base w).grown hg hbase fun k hk => (hown.lt k hk).1)
theorem rd_take {w : World} {g n cap base : Nat} {l : List (List UInt8)} (h : Row w base 9 1 (.slice (some ⟨g, 0, none⟩) n cap) n (l.map tx)) (k : Nat) (hk : k ≤ n) : Rd w 1 (.slice (some ⟨g, 0, none⟩) k cap) k ((l.take k).map tx) := by
  have hl : l.length = n := by have := h.1; simpa using this
  refine ⟨by simp; omega, .inr ⟨_, cap, rfl, fun j u hu => ?_⟩⟩
  have hj : j < k := by have := (List.getElem?_eq_some_iff.1 hu).1; simp at this; omega
  obtain ⟨g', cap', he, _, _, _, hcs, _⟩ := h.open (by omega)
  cases he
  rw [Go.Lib.addr_add, Nat.zero_add]
  refine hcs j u ?_
  rw [List.getElem?_map, List.getElem?_take, if_pos hj] at hu
  rw [List.getElem?_map]
  exact hu
theorem rd_drop {w : World} {g n cap base : Nat} {l : List (List UInt8)} (h : Row w base 9 1 (.slice (some ⟨g, 0, none⟩) n cap) n (l.map tx)) (k : Nat) (hk : k ≤ n) (o : Nat) (ho : k < n → o = k) (c2 : Nat) : Rd w 1 (.slice (some ⟨g, o, none⟩) (n - k) c2) (n - k) ((l.drop k).map tx) := by
  have hl : l.length = n := by have := h.1; simpa using this
  refine ⟨by simp; omega, .inr ⟨_, c2, rfl, fun j u hu => ?_⟩⟩
  have hj : j < n - k := by have := (List.getElem?_eq_some_iff.1 hu).1; simp at this; omega
  obtain ⟨g', cap', he, _, _, _, hcs, _⟩ := h.open (by omega)
  cases he
  rw [Go.Lib.addr_add, ho (by omega)]
  refine hcs (k + j) u ?_
  rw [List.getElem?_map, List.getElem?_drop] at hu
  rw [List.getElem?_map]
  exact hu
theorem row_form1 {w : World} {base n : Nat} {e : TypeId} {xs : List Value} {size : Nat} {v : Value} (h : Row w base e size v n xs) : ∃ A c, v = .slice A n c := by
  rcases h.2 with ⟨rfl, rfl⟩ | ⟨g, cap, _, _, rfl, _⟩
  · exact ⟨_, _, rfl⟩
  · exact ⟨_, _, rfl⟩
/-- Where the first loop stops. -/
theorem take_while {l : List (List UInt8)} {s : List UInt8} {k : Nat} (h1 : ∀ x ∈ l.take k, ltT x s = true) (h2 : ∀ x, l[k]? = some x → ltT x s = false) : l.takeWhile (ltT · s) = l.take k ∧ l.dropWhile (ltT · s) = l.drop k := by
  induction l generalizing k with
  | nil => simp
  | cons a l ih =>
    cases k with
    | zero =>
      have := h2 a rfl
      simp [this]
    | succ k =>
      have ha := h1 a (by simp)
      obtain ⟨i1, i2⟩ := ih (k := k) (fun x hx => h1 x (by rw [List.take_succ_cons]; exact List.mem_cons_of_mem _ hx)) (fun x hx => h2 x (by simpa using hx))
      simp [ha, i1, i2]

set_option maxHeartbeats 16000000 in
theorem rput10_any (base : Nat) (v : Value) (n : Nat) (ss : List (List UInt8)) (s : List UInt8) (w : World) (h : Row w base 9 1 v n (ss.map tx)) (hb : base ≤ w.heap.size) (hn : n ≤ 1000) :
    Calls Try.prog 14 #[v, .string (BS s)] w fun e w' => ∃ v' n', e = .returned v' ∧ n' ≤ n + 1 ∧ Row w' base 9 1 v' n' ((putOf ss s).map tx) ∧ Below w.heap.size w w' := by
  obtain ⟨i0, hi, hz0, hz1, hz2⟩ := info_parts info_str
  have hl : ss.length = n := by have := h.1; simpa using this
  have q5 := BS_beq s [46]
  obtain ⟨ds, hds⟩ : ∃ d, decide (s = [46]) = d := ⟨_, rfl⟩
  rw [hds] at q5
  obtain ⟨r, hr⟩ : ∃ r, putOf ss s = r := ⟨_, rfl⟩
  rw [hr]
  unfold putOf at hr
  have hcell : ∀ k, k < n → ∃ g cap x, v = .slice (some ⟨g, 0, none⟩) n cap ∧ ss[k]? = some x ∧ w.cell? ⟨g, k, none⟩ = some (.string (BS x)) := fun k hk => by
    obtain ⟨g, cap, rfl, _, _, _, hcs, _⟩ := h.open (by omega)
    have hg := List.getElem?_eq_getElem (l := ss) (i := k) (by omega)
    exact ⟨g, cap, _, rfl, hg, hcs k _ (by rw [List.getElem?_map, hg]; rfl)⟩
  obtain ⟨A, c, hv⟩ := row_form1 h
  have hv' := hv
  subst hv'
  have HROW := Go.Lib.hid h; have HL := Go.Lib.hid hl; have HDS := Go.Lib.hid hds; have HR := Go.Lib.hid hr; have HC := Go.Lib.hid hcell
  clear h hl hds hr hcell hv
  go_enter Try.func14, Try.ntmps14
  go_wp2_with fail
  go_loopw [5, 8, 9, 10, 11, 12, 13, 14, 15, 16, 17, 18, 19, 20, 21, 22, 23, 24, 25, 26, 27, 28, 29, 30, 31, 32] (fun at' _ _ _ _ _ _ _ _ _ _ _ _ _ _ _ _ _ _ _ _ _ _ _ _ _ wr => ∃ (k : Nat), k ≤ n ∧ at' = .int .i64 (k : Int) ∧ (∀ x ∈ ss.take k, ltT x s = true) ∧ wr = w) (fun at' _ _ _ _ _ _ _ _ _ _ _ _ _ _ _ _ _ _ _ _ _ _ _ _ _ _ => n - (intOf at').toNat)
  case atStart => exact ⟨0, by omega, rfl, by simp, rfl⟩
  case round =>
    obtain ⟨k, hk, rfl, hB, hwr⟩ := hrel
    subst hwr
    -- what comes behind the first loop, from whatever place
    by_cases hgo : ∃ x, ss[k]? = some x ∧ ltT x s = true
    · obtain ⟨x, hx, hlt⟩ := hgo
      have hkn : k < n := by have := (List.getElem?_eq_some_iff.1 hx).1; have := HL.out; omega
      have hki : decide ((k : Int) < (n : Int)) = true := decide_eq_true (by omega)
      obtain ⟨g, cap, x', he, hx', c0⟩ := HC.out k hkn
      cases he
      obtain rfl : x' = x := Option.some.inj (hx'.symm.trans hx)
      have q1 := BS_beq x' [46]
      have q2 := bs_less x' s
      unfold ltT at hlt
      have hnx : ∀ y ∈ ss.take (k + 1), ltT y s = true := fun y hy => by
        rw [List.take_add_one, hx] at hy
        rcases List.mem_append.1 hy with hy | hy
        · exact hB y hy
        · simp at hy; rw [hy]; exact hlt
      have hds2 : decide (s ≠ [46]) = !ds := by rw [← HDS.out]; simp
      obtain ⟨d1, hd1⟩ : ∃ d, decide (x' = [46]) = d := ⟨_, rfl⟩
      obtain ⟨d2, hd2⟩ : ∃ d, Go.Op.bytesLess x' s = d := ⟨_, rfl⟩
      rw [hd1, hd2, hds2] at hlt
      rw [hd1] at q1
      rw [hd2] at q2
      have HNX := Go.Lib.hid hnx
      clear hx hx' hnx hB hd1 hd2 hds2
      cases d1 with
      | true =>
        clear hlt
        go_wp2_with fail
        exact ⟨⟨k + 1, by omega, by simp, HNX.out, (by first | trivial | rfl)⟩, by simp [intOf]; omega⟩
      | false =>
        simp only [Bool.false_or, Bool.and_eq_true] at hlt
        obtain ⟨h1, rfl⟩ := hlt
        obtain rfl : ds = false := by simpa using h1
        clear h1
        go_wp2_with fail
        exact ⟨⟨k + 1, by omega, by simp, HNX.out, (by first | trivial | rfl)⟩, by simp [intOf]; omega⟩
    · have hstop : ∀ x, ss[k]? = some x → ltT x s = false := fun x hx => by
        cases hc : ltT x s with
        | false => rfl
        | true => exact absurd ⟨x, hx, hc⟩ hgo
      obtain ⟨htw, hdw⟩ := take_while hB hstop
      have HTW := Go.Lib.hid htw; have HDW := Go.Lib.hid hdw
      have HST := Go.Lib.hid hstop
      clear hgo hstop htw hdw hB
      rcases Nat.lt_or_ge k n with hkn | hkn
      · obtain ⟨g, cap, x, he, hx, c0⟩ := HC.out k hkn
        cases he
        have hcap : n ≤ c := by obtain ⟨g', cap', he, h2, _⟩ := HROW.out.open (by omega); cases he; exact h2
        have hlt := HST.out x hx
        have hki : decide ((k : Int) < (n : Int)) = true := decide_eq_true (by omega)
        have q1 := BS_beq x [46]
        have q2 := bs_less x s
        unfold ltT at hlt
        have hds2 : decide (s ≠ [46]) = !ds := by rw [← HDS.out]; simp
        obtain ⟨d1, hd1⟩ : ∃ d, decide (x = [46]) = d := ⟨_, rfl⟩
        obtain ⟨d2, hd2⟩ : ∃ d, Go.Op.bytesLess x s = d := ⟨_, rfl⟩
        rw [hd1, hd2, hds2, Bool.or_eq_false_iff] at hlt
        obtain ⟨rfl, hlt⟩ := hlt
        rw [hd1] at q1
        rw [hd2] at q2
        clear hx hd1 hd2 hds2
        cases ds
        · simp only [Bool.not_false, Bool.true_and] at hlt
          subst hlt
          go_wp2_with fail
          go_loopw [6, 33, 34, 35, 36, 37, 38, 39, 40, 41, 42, 43, 44, 45] (fun i _ _ _ _ _ _ _ _ _ _ _ _ _ w2 => ∃ (j : Nat), j ≤ n ∧ i = .int .i64 (j : Int) ∧ s ∉ ss.take j ∧ w2 = wr) (fun i _ _ _ _ _ _ _ _ _ _ _ _ _ _ => n - (intOf i).toNat)
          case atStart => exact ⟨0, by omega, rfl, by simp, rfl⟩
          case round =>
            obtain ⟨j, hj, rfl, hni, hwr⟩ := hrel
            subst hwr
            by_cases hjn : j < n
            · have hji : decide ((j : Int) < (n : Int)) = true := decide_eq_true (by omega)
              obtain ⟨g2, cap2, y, he2, hy, c2⟩ := HC.out j hjn
              cases he2
              have q7 := bs_eq y s
              by_cases hys : y = s
              · rw [decide_eq_true hys] at q7
                have hin : s ∈ ss := by rw [← hys]; exact List.mem_of_getElem? hy
                have hrr := HR.out
                rw [if_pos hin] at hrr
                have HRR := Go.Lib.hid hrr
                clear hy hni hin hrr hys
                go_wp2_with fail
                go_ret
                exact ⟨_, n, rfl, by omega, by rw [← HRR.out]; exact HROW.out, Below.refl _ _⟩
              · rw [decide_eq_false hys] at q7
                have hnx : s ∉ ss.take (j + 1) := by
                  rw [List.take_add_one, hy]
                  intro hm
                  rcases List.mem_append.1 hm with hm | hm
                  · exact hni hm
                  · simp at hm; exact hys hm.symm
                have HNX := Go.Lib.hid hnx
                clear hy hni hnx hys
                go_wp2_with fail
                exact ⟨⟨j + 1, by omega, by simp, HNX.out, (by first | trivial | rfl)⟩, by simp [intOf]; omega⟩
            · obtain rfl : j = n := by omega
              have hji : decide ((j : Int) < (j : Int)) = false := decide_eq_false (by omega)
              have hkc : (k : Int) ≤ (c : Int) := by omega
              have hkn2 : (k : Int) ≤ (j : Int) := by omega
              have hjc : (j : Int) ≤ (c : Int) := by omega
              have hck : ¬ c = k := by omega
              have hlen := HL.out
              have hrr := HR.out
              have hnin : s ∉ ss := by rwa [List.take_of_length_le (by omega)] at hni
              rw [if_neg hnin, HTW.out, HDW.out] at hrr
              have HRR := Go.Lib.hid hrr
              clear hrr hnin hni
              go_wp2_with (first
                | (at_builtin; refine wpList_append_tx rfl (.tmp 46) (.tmp 49) rfl wr.heap.size (.slice none 0 0) 0 [] rfl (Row.nil _ _ _ _) (.slice (some ⟨g, 0, none⟩) k c) k (ss.take k) rfl (rd_take HROW.out k (by omega)) (by omega) (by omega) (Nat.le_refl _) ?_; intro v2 w2 hr2 hb2; rw [Nat.zero_add, List.nil_append] at hr2; obtain ⟨A2, c2, hv2⟩ := row_form1 hr2; subst hv2; have HR2 := Go.Lib.hid hr2; have HB2 := Go.Lib.hid hb2; clear hr2 hb2)
                | (at_builtin; refine wpList_append_row1 rfl (.tmp 51) (.tmp 53) _ rfl wr.heap.size 9 i0 (.string ⟨#[]⟩) 16 Try.underlying33 hi hz0 hz1 hz2 rfl (.slice A2 k c2) k _ rfl HR2.out (.string (BS s)) 9 rfl rfl (by unfold maxLen; omega) (by omega) HB2.out.size ?_; intro v3 w3 hr3 hb3; obtain ⟨A3, c3, hv3⟩ := row_form1 hr3; subst hv3; have hr4 : Row w3 wr.heap.size 9 1 (.slice A3 (k + 1) c3) (k + 1) ((ss.take k ++ [s]).map tx) := by { simpa [tx] using hr3 }; have HR3 := Go.Lib.hid hr4; have HB3 := Go.Lib.hid (HB2.out.trans hb3); clear hr3 hb3 hr4)
                | (at_builtin; refine wpList_append_tx rfl (.tmp 55) (.tmp 58) rfl wr.heap.size (.slice A3 (k + 1) c3) (k + 1) _ rfl HR3.out (.slice (some ⟨g, k, none⟩) (j - k) (c - k)) (j - k) (ss.drop k) rfl (rd_drop (HROW.out.below HB3.out) k (by omega) k (fun _ => rfl) _) (by omega) (by omega) HB3.out.size ?_; intro v4 w4 hr4 hb4; have HR4 := Go.Lib.hid hr4; have HB4 := Go.Lib.hid (HB3.out.trans hb4); clear hr4 hb4))
              go_ret
              refine ⟨_, k + 1 + (j - k), rfl, by omega, ?_, HB4.out⟩
              have h4 := HR4.out.weaken hb
              rw [← HRR.out]
              simpa using h4
        · clear hlt
          go_wp2_with fail
          go_loopw [6, 33, 34, 35, 36, 37, 38, 39, 40, 41, 42, 43, 44, 45] (fun i _ _ _ _ _ _ _ _ _ _ _ _ _ w2 => ∃ (j : Nat), j ≤ n ∧ i = .int .i64 (j : Int) ∧ s ∉ ss.take j ∧ w2 = wr) (fun i _ _ _ _ _ _ _ _ _ _ _ _ _ _ => n - (intOf i).toNat)
          case atStart => exact ⟨0, by omega, rfl, by simp, rfl⟩
          case round =>
            obtain ⟨j, hj, rfl, hni, hwr⟩ := hrel
            subst hwr
            by_cases hjn : j < n
            · have hji : decide ((j : Int) < (n : Int)) = true := decide_eq_true (by omega)
              obtain ⟨g2, cap2, y, he2, hy, c2⟩ := HC.out j hjn
              cases he2
              have q7 := bs_eq y s
              by_cases hys : y = s
              · rw [decide_eq_true hys] at q7
                have hin : s ∈ ss := by rw [← hys]; exact List.mem_of_getElem? hy
                have hrr := HR.out
                rw [if_pos hin] at hrr
                have HRR := Go.Lib.hid hrr
                clear hy hni hin hrr hys
                go_wp2_with fail
                go_ret
                exact ⟨_, n, rfl, by omega, by rw [← HRR.out]; exact HROW.out, Below.refl _ _⟩
              · rw [decide_eq_false hys] at q7
                have hnx : s ∉ ss.take (j + 1) := by
                  rw [List.take_add_one, hy]
                  intro hm
                  rcases List.mem_append.1 hm with hm | hm
                  · exact hni hm
                  · simp at hm; exact hys hm.symm
                have HNX := Go.Lib.hid hnx
                clear hy hni hnx hys
                go_wp2_with fail
                exact ⟨⟨j + 1, by omega, by simp, HNX.out, (by first | trivial | rfl)⟩, by simp [intOf]; omega⟩
            · obtain rfl : j = n := by omega
              have hji : decide ((j : Int) < (j : Int)) = false := decide_eq_false (by omega)
              have hkc : (k : Int) ≤ (c : Int) := by omega
              have hkn2 : (k : Int) ≤ (j : Int) := by omega
              have hjc : (j : Int) ≤ (c : Int) := by omega
              have hck : ¬ c = k := by omega
              have hlen := HL.out
              have hrr := HR.out
              have hnin : s ∉ ss := by rwa [List.take_of_length_le (by omega)] at hni
              rw [if_neg hnin, HTW.out, HDW.out] at hrr
              have HRR := Go.Lib.hid hrr
              clear hrr hnin hni
              go_wp2_with (first
                | (at_builtin; refine wpList_append_tx rfl (.tmp 46) (.tmp 49) rfl wr.heap.size (.slice none 0 0) 0 [] rfl (Row.nil _ _ _ _) (.slice (some ⟨g, 0, none⟩) k c) k (ss.take k) rfl (rd_take HROW.out k (by omega)) (by omega) (by omega) (Nat.le_refl _) ?_; intro v2 w2 hr2 hb2; rw [Nat.zero_add, List.nil_append] at hr2; obtain ⟨A2, c2, hv2⟩ := row_form1 hr2; subst hv2; have HR2 := Go.Lib.hid hr2; have HB2 := Go.Lib.hid hb2; clear hr2 hb2)
                | (at_builtin; refine wpList_append_row1 rfl (.tmp 51) (.tmp 53) _ rfl wr.heap.size 9 i0 (.string ⟨#[]⟩) 16 Try.underlying33 hi hz0 hz1 hz2 rfl (.slice A2 k c2) k _ rfl HR2.out (.string (BS s)) 9 rfl rfl (by unfold maxLen; omega) (by omega) HB2.out.size ?_; intro v3 w3 hr3 hb3; obtain ⟨A3, c3, hv3⟩ := row_form1 hr3; subst hv3; have hr4 : Row w3 wr.heap.size 9 1 (.slice A3 (k + 1) c3) (k + 1) ((ss.take k ++ [s]).map tx) := by { simpa [tx] using hr3 }; have HR3 := Go.Lib.hid hr4; have HB3 := Go.Lib.hid (HB2.out.trans hb3); clear hr3 hb3 hr4)
                | (at_builtin; refine wpList_append_tx rfl (.tmp 55) (.tmp 58) rfl wr.heap.size (.slice A3 (k + 1) c3) (k + 1) _ rfl HR3.out (.slice (some ⟨g, k, none⟩) (j - k) (c - k)) (j - k) (ss.drop k) rfl (rd_drop (HROW.out.below HB3.out) k (by omega) k (fun _ => rfl) _) (by omega) (by omega) HB3.out.size ?_; intro v4 w4 hr4 hb4; have HR4 := Go.Lib.hid hr4; have HB4 := Go.Lib.hid (HB3.out.trans hb4); clear hr4 hb4))
              go_ret
              refine ⟨_, k + 1 + (j - k), rfl, by omega, ?_, HB4.out⟩
              have h4 := HR4.out.weaken hb
              rw [← HRR.out]
              simpa using h4
      · obtain rfl : k = n := by omega
        have hki : decide ((k : Int) < (k : Int)) = false := decide_eq_false (by omega)
        rcases HROW.out.2 with ⟨he, h0⟩ | ⟨g, cap, cur, fz, he, -, -, -, hncap, -⟩
        · subst h0
          cases he
          go_wp2_with fail
          go_loopw [6, 33, 34, 35, 36, 37, 38, 39, 40, 41, 42, 43, 44, 45] (fun i _ _ _ _ _ _ _ _ _ _ _ _ _ w2 => ∃ (j : Nat), j ≤ 0 ∧ i = .int .i64 (j : Int) ∧ s ∉ ss.take j ∧ w2 = wr) (fun i _ _ _ _ _ _ _ _ _ _ _ _ _ _ => 0 - (intOf i).toNat)
          case atStart => exact ⟨0, by omega, rfl, by simp, rfl⟩
          case round =>
            obtain ⟨j, hj, rfl, hni, hwr⟩ := hrel
            subst hwr
            by_cases hjn : j < 0
            · exact absurd hjn (by omega)
            · obtain rfl : j = 0 := by omega
              skip
              have hlen := HL.out
              have hrr := HR.out
              have hnin : s ∉ ss := by rwa [List.take_of_length_le (by omega)] at hni
              rw [if_neg hnin, HTW.out, HDW.out] at hrr
              have HRR := Go.Lib.hid hrr
              clear hrr hnin hni
              go_wp2_with (first
                | (at_builtin; refine wpList_append_tx rfl (.tmp 46) (.tmp 49) rfl wr.heap.size (.slice none 0 0) 0 [] rfl (Row.nil _ _ _ _) (.slice none 0 0) 0 [] rfl (Rd.nil _ _) (by omega) (by omega) (Nat.le_refl _) ?_; intro v2 w2 hr2 hb2; rw [Nat.zero_add, List.nil_append] at hr2; obtain ⟨A2, c2, hv2⟩ := row_form1 hr2; subst hv2; have HR2 := Go.Lib.hid hr2; have HB2 := Go.Lib.hid hb2; clear hr2 hb2)
                | (at_builtin; refine wpList_append_row1 rfl (.tmp 51) (.tmp 53) _ rfl wr.heap.size 9 i0 (.string ⟨#[]⟩) 16 Try.underlying33 hi hz0 hz1 hz2 rfl (.slice A2 0 c2) 0 _ rfl HR2.out (.string (BS s)) 9 rfl rfl (by unfold maxLen; omega) (by omega) HB2.out.size ?_; intro v3 w3 hr3 hb3; obtain ⟨A3, c3, hv3⟩ := row_form1 hr3; subst hv3; have hr4 : Row w3 wr.heap.size 9 1 (.slice A3 (0 + 1) c3) (0 + 1) (([] ++ [s]).map tx) := by { simpa [tx] using hr3 }; have HR3 := Go.Lib.hid hr4; have HB3 := Go.Lib.hid (HB2.out.trans hb3); clear hr3 hb3 hr4)
                | (at_builtin; refine wpList_append_tx rfl (.tmp 55) (.tmp 58) rfl wr.heap.size (.slice A3 (0 + 1) c3) (0 + 1) _ rfl HR3.out (.slice none 0 0) 0 [] rfl (Rd.nil _ _) (by omega) (by omega) HB3.out.size ?_; intro v4 w4 hr4 hb4; have HR4 := Go.Lib.hid hr4; have HB4 := Go.Lib.hid (HB3.out.trans hb4); clear hr4 hb4))
              go_ret
              refine ⟨_, 0 + 1 + 0, rfl, by omega, ?_, HB4.out⟩
              have h4 := HR4.out.weaken hb
              rw [← HRR.out]
              simpa [List.eq_nil_of_length_eq_zero hlen] using h4
        · cases he
          by_cases hck : c = k
          · subst hck
            go_wp2_with fail
            go_loopw [6, 33, 34, 35, 36, 37, 38, 39, 40, 41, 42, 43, 44, 45] (fun i _ _ _ _ _ _ _ _ _ _ _ _ _ w2 => ∃ (j : Nat), j ≤ c ∧ i = .int .i64 (j : Int) ∧ s ∉ ss.take j ∧ w2 = wr) (fun i _ _ _ _ _ _ _ _ _ _ _ _ _ _ => c - (intOf i).toNat)
            case atStart => exact ⟨0, by omega, rfl, by simp, rfl⟩
            case round =>
              obtain ⟨j, hj, rfl, hni, hwr⟩ := hrel
              subst hwr
              by_cases hjn : j < c
              · have hji : decide ((j : Int) < (c : Int)) = true := decide_eq_true (by omega)
                obtain ⟨g2, cap2, y, he2, hy, c2⟩ := HC.out j hjn
                cases he2
                have q7 := bs_eq y s
                by_cases hys : y = s
                · rw [decide_eq_true hys] at q7
                  have hin : s ∈ ss := by rw [← hys]; exact List.mem_of_getElem? hy
                  have hrr := HR.out
                  rw [if_pos hin] at hrr
                  have HRR := Go.Lib.hid hrr
                  clear hy hni hin hrr hys
                  go_wp2_with fail
                  go_ret
                  exact ⟨_, c, rfl, by omega, by rw [← HRR.out]; exact HROW.out, Below.refl _ _⟩
                · rw [decide_eq_false hys] at q7
                  have hnx : s ∉ ss.take (j + 1) := by
                    rw [List.take_add_one, hy]
                    intro hm
                    rcases List.mem_append.1 hm with hm | hm
                    · exact hni hm
                    · simp at hm; exact hys hm.symm
                  have HNX := Go.Lib.hid hnx
                  clear hy hni hnx hys
                  go_wp2_with fail
                  exact ⟨⟨j + 1, by omega, by simp, HNX.out, (by first | trivial | rfl)⟩, by simp [intOf]; omega⟩
              · obtain rfl : j = c := by omega
                have hji : decide ((j : Int) < (j : Int)) = false := decide_eq_false (by omega)
                skip
                have hlen := HL.out
                have hrr := HR.out
                have hnin : s ∉ ss := by rwa [List.take_of_length_le (by omega)] at hni
                rw [if_neg hnin, HTW.out, HDW.out] at hrr
                have HRR := Go.Lib.hid hrr
                clear hrr hnin hni
                go_wp2_with (first
                  | (at_builtin; refine wpList_append_tx rfl (.tmp 46) (.tmp 49) rfl wr.heap.size (.slice none 0 0) 0 [] rfl (Row.nil _ _ _ _) (.slice (some ⟨g, 0, none⟩) j j) j (ss.take j) rfl (rd_take HROW.out j (Nat.le_refl _)) (by omega) (by omega) (Nat.le_refl _) ?_; intro v2 w2 hr2 hb2; rw [Nat.zero_add, List.nil_append] at hr2; obtain ⟨A2, c2, hv2⟩ := row_form1 hr2; subst hv2; have HR2 := Go.Lib.hid hr2; have HB2 := Go.Lib.hid hb2; clear hr2 hb2)
                  | (at_builtin; refine wpList_append_row1 rfl (.tmp 51) (.tmp 53) _ rfl wr.heap.size 9 i0 (.string ⟨#[]⟩) 16 Try.underlying33 hi hz0 hz1 hz2 rfl (.slice A2 j c2) j _ rfl HR2.out (.string (BS s)) 9 rfl rfl (by unfold maxLen; omega) (by omega) HB2.out.size ?_; intro v3 w3 hr3 hb3; obtain ⟨A3, c3, hv3⟩ := row_form1 hr3; subst hv3; have hr4 : Row w3 wr.heap.size 9 1 (.slice A3 (j + 1) c3) (j + 1) ((ss.take j ++ [s]).map tx) := by { simpa [tx] using hr3 }; have HR3 := Go.Lib.hid hr4; have HB3 := Go.Lib.hid (HB2.out.trans hb3); clear hr3 hb3 hr4)
                  | (at_builtin; refine wpList_append_tx rfl (.tmp 55) (.tmp 58) rfl wr.heap.size (.slice A3 (j + 1) c3) (j + 1) _ rfl HR3.out (.slice (some ⟨g, 0, none⟩) 0 0) 0 [] rfl ⟨rfl, .inr ⟨_, _, rfl, fun j u hu => by simp at hu⟩⟩ (by omega) (by omega) HB3.out.size ?_; intro v4 w4 hr4 hb4; have HR4 := Go.Lib.hid hr4; have HB4 := Go.Lib.hid (HB3.out.trans hb4); clear hr4 hb4))
                go_ret
                refine ⟨_, j + 1 + 0, rfl, by omega, ?_, HB4.out⟩
                have h4 := HR4.out.weaken hb
                rw [← HRR.out]
                simpa [List.drop_of_length_le (Nat.le_of_eq hlen)] using h4
          · clear hki
            have hki : decide ((k : Int) < (k : Int)) = false := decide_eq_false (by omega)
            go_wp2_with fail
            go_loopw [6, 33, 34, 35, 36, 37, 38, 39, 40, 41, 42, 43, 44, 45] (fun i _ _ _ _ _ _ _ _ _ _ _ _ _ w2 => ∃ (j : Nat), j ≤ k ∧ i = .int .i64 (j : Int) ∧ s ∉ ss.take j ∧ w2 = wr) (fun i _ _ _ _ _ _ _ _ _ _ _ _ _ _ => k - (intOf i).toNat)
            case atStart => exact ⟨0, by omega, rfl, by simp, rfl⟩
            case round =>
              obtain ⟨j, hj, rfl, hni, hwr⟩ := hrel
              subst hwr
              by_cases hjn : j < k
              · have hji : decide ((j : Int) < (k : Int)) = true := decide_eq_true (by omega)
                obtain ⟨g2, cap2, y, he2, hy, c2⟩ := HC.out j hjn
                cases he2
                have q7 := bs_eq y s
                by_cases hys : y = s
                · rw [decide_eq_true hys] at q7
                  have hin : s ∈ ss := by rw [← hys]; exact List.mem_of_getElem? hy
                  have hrr := HR.out
                  rw [if_pos hin] at hrr
                  have HRR := Go.Lib.hid hrr
                  clear hy hni hin hrr hys
                  go_wp2_with fail
                  go_ret
                  exact ⟨_, k, rfl, by omega, by rw [← HRR.out]; exact HROW.out, Below.refl _ _⟩
                · rw [decide_eq_false hys] at q7
                  have hnx : s ∉ ss.take (j + 1) := by
                    rw [List.take_add_one, hy]
                    intro hm
                    rcases List.mem_append.1 hm with hm | hm
                    · exact hni hm
                    · simp at hm; exact hys hm.symm
                  have HNX := Go.Lib.hid hnx
                  clear hy hni hnx hys
                  go_wp2_with fail
                  exact ⟨⟨j + 1, by omega, by simp, HNX.out, (by first | trivial | rfl)⟩, by simp [intOf]; omega⟩
              · obtain rfl : j = k := by omega
                have hji : decide ((j : Int) < (j : Int)) = false := decide_eq_false (by omega)
                have hjc : (j : Int) ≤ (c : Int) := by omega
                have hck : ¬ c = j := by omega
                have hlen := HL.out
                have hrr := HR.out
                have hnin : s ∉ ss := by rwa [List.take_of_length_le (by omega)] at hni
                rw [if_neg hnin, HTW.out, HDW.out] at hrr
                have HRR := Go.Lib.hid hrr
                clear hrr hnin hni
                go_wp2_with (first
                  | (at_builtin; refine wpList_append_tx rfl (.tmp 46) (.tmp 49) rfl wr.heap.size (.slice none 0 0) 0 [] rfl (Row.nil _ _ _ _) (.slice (some ⟨g, 0, none⟩) j c) j (ss.take j) rfl (rd_take HROW.out j (Nat.le_refl _)) (by omega) (by omega) (Nat.le_refl _) ?_; intro v2 w2 hr2 hb2; rw [Nat.zero_add, List.nil_append] at hr2; obtain ⟨A2, c2, hv2⟩ := row_form1 hr2; subst hv2; have HR2 := Go.Lib.hid hr2; have HB2 := Go.Lib.hid hb2; clear hr2 hb2)
                  | (at_builtin; refine wpList_append_row1 rfl (.tmp 51) (.tmp 53) _ rfl wr.heap.size 9 i0 (.string ⟨#[]⟩) 16 Try.underlying33 hi hz0 hz1 hz2 rfl (.slice A2 j c2) j _ rfl HR2.out (.string (BS s)) 9 rfl rfl (by unfold maxLen; omega) (by omega) HB2.out.size ?_; intro v3 w3 hr3 hb3; obtain ⟨A3, c3, hv3⟩ := row_form1 hr3; subst hv3; have hr4 : Row w3 wr.heap.size 9 1 (.slice A3 (j + 1) c3) (j + 1) ((ss.take j ++ [s]).map tx) := by { simpa [tx] using hr3 }; have HR3 := Go.Lib.hid hr4; have HB3 := Go.Lib.hid (HB2.out.trans hb3); clear hr3 hb3 hr4)
                  | (at_builtin; refine wpList_append_tx rfl (.tmp 55) (.tmp 58) rfl wr.heap.size (.slice A3 (j + 1) c3) (j + 1) _ rfl HR3.out (.slice (some ⟨g, j, none⟩) 0 (c - j)) 0 [] rfl ⟨rfl, .inr ⟨_, _, rfl, fun j u hu => by simp at hu⟩⟩ (by omega) (by omega) HB3.out.size ?_; intro v4 w4 hr4 hb4; have HR4 := Go.Lib.hid hr4; have HB4 := Go.Lib.hid (HB3.out.trans hb4); clear hr4 hb4))
                go_ret
                refine ⟨_, j + 1 + 0, rfl, by omega, ?_, HB4.out⟩
                have h4 := HR4.out.weaken hb
                rw [← HRR.out]
                simpa [List.drop_of_length_le (Nat.le_of_eq hlen)] using h4
end Go.Proofs.Ytkohcibhefejfaa.W
