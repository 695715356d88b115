/- The program's filters: included, ofType, Match. -/
import Derived.Test.YtkohcibhefejfaaDoorGlobPD
import Derived.Test.YtkohcibhefejfaaDoorGlobU
namespace Go.Proofs.YtkohcibhefejfaaDoor.W
set_option maxRecDepth 20000
set_option linter.unusedVariables false
open Go.RowKit Go.Proofs Arb

/-- What 'decides' and 'longest' hold. -/
def IncAt (B : Option Rul) (dv lv : Int) : Prop := (B = none ∧ dv = 2 ∧ lv = -1) ∨ ∃ y : Rul, B = some y ∧ dv = y.kind ∧ lv = longOf y.text + 1
def incOf (p : List UInt8) (l : List Rul) : Bool := match bestOf p l with
  | none => false
  | some y => decide (y.kind = 1)
theorem match_inc (l : List Rul) (p : List UInt8) (d : Bool) : matchOf l p d = (incOf p l && (d || typesOk l (ext (lastOf p)))) := by
  unfold matchOf incOf
  rcases best_tops p l with ⟨h1, _⟩ | ⟨x, h1, h2⟩
  · rw [h1]; rfl
  · rw [h1]
    simp only
    have hc := h2.cand
    unfold candOf at hc
    rw [Bool.and_eq_true, decide_eq_true_eq] at hc
    rcases hc.1 with h | h
    · rw [if_neg (by omega), decide_eq_true h, Bool.true_and]
    · rw [if_pos h, decide_eq_false (by omega), Bool.false_and]
theorem long_ge (s : List UInt8) : -1 ≤ longOf s := by unfold longOf; split <;> omega

set_option maxHeartbeats 16000000 in
theorem pinc_any (v : Value) (l : List Rul) (p : List UInt8) (w : World) (h : Ruls w v l) (ht : ∀ x ∈ l, x.text.length ≤ 100000) (hn6 : l.length ≤ 100000) (hp : p.length ≤ 100000) :
    Calls Tryd.prog 17 #[v, .string (BS p)] w fun e w' => e = .returned (.bool (incOf p l)) ∧ Below w.heap.size w w' := by
  obtain ⟨r, hr⟩ : ∃ r, incOf p l = r := ⟨_, rfl⟩
  rw [hr]
  have h' := h
  obtain ⟨A, n, c, rfl, hn, hc, -⟩ := h'
  unfold incOf at hr
  rw [hn] at hn6
  have hwi := fun (x : Rul) (hx : x.text.length ≤ 100000) W => gwithin_any p x.text W hp hx
  have hlo := fun (x : Rul) (hx : x.text.length ≤ 100000) W => prank_any x.text W hx
  have HL := Go.Lib.hid h; have HN := Go.Lib.hid hn; have HT := Go.Lib.hid ht; have HR := Go.Lib.hid hr; have HWI := Go.Lib.hid hwi; have HLO := Go.Lib.hid hlo
  clear h hn ht hr hwi hlo
  go_enter Tryd.func17, Tryd.ntmps17
  go_wp2_with fail
  go_loopw [5, 6, 8, 9, 12, 13, 14, 15, 16, 17, 18, 19, 20, 21, 22, 23, 24, 25, 26, 27, 28, 29, 30, 31, 32, 33, 34, 35, 36, 37, 38, 39, 40, 41, 42, 43, 44, 45, 46, 47, 48, 49, 50] (fun dd ll _ _ i _ _ _ _ _ _ _ _ _ _ _ _ _ _ _ _ _ _ _ _ _ _ _ _ _ _ _ _ _ _ _ _ _ _ _ _ _ _ wr => ∃ (k : Nat) (dv lv : Int), k ≤ n ∧ dd = .int .i64 dv ∧ ll = .int .i64 lv ∧ i = .int .i64 (k : Int) ∧ IncAt (bestOf p (l.take k)) dv lv ∧ Below w.heap.size w wr) (fun _ _ _ _ i _ _ _ _ _ _ _ _ _ _ _ _ _ _ _ _ _ _ _ _ _ _ _ _ _ _ _ _ _ _ _ _ _ _ _ _ _ _ _ => n - (intOf i).toNat)
  case atStart => exact ⟨0, 2, -1, by omega, rfl, rfl, rfl, .inl ⟨rfl, rfl, rfl⟩, Below.refl _ _⟩
  case round =>
    obtain ⟨k, dv, lv, hk, rfl, rfl, rfl, hB, hb⟩ := hrel
    by_cases hkn : k < n
    · have hki : (k : Int) < (n : Int) := by omega
      obtain ⟨g, o, x, rfl, hx, hx0⟩ := (HL.out.below hb).at k hkn
      obtain ⟨c0, c1⟩ := rl_cells hx0
      have hxt := HT.out x (List.mem_of_getElem? hx)
      have hnx : bestOf p (l.take (k + 1)) = bestStep p (bestOf p (l.take k)) x := best_take hx
      unfold bestStep candOf at hnx
      obtain ⟨W2, hW2⟩ : ∃ W, wr.alloc (.cells #[.int .i64 x.kind, .string (BS x.text)] 29) = W := ⟨_, rfl⟩
      have hb2 : Below w.heap.size w W2 := by rw [← hW2]; exact hb.alloc hb.size _
      have hx2 : RulAt W2 wr.heap.size 0 x := by rw [← hW2]; exact RulAt.new _ _ _
      have HX := Go.Lib.hid hx; have HX2 := Go.Lib.hid hx2; have HB := Go.Lib.hid hB; have HB2 := Go.Lib.hid hb2; have HW2 := Go.Lib.hid hW2; have HNX := Go.Lib.hid hnx
      clear hx hx2 hB hb hb2 hW2 hnx hx0
      obtain ⟨t1, ht1⟩ : ∃ d, (x.kind == 1) = d := ⟨_, rfl⟩
      obtain ⟨t2, ht2⟩ : ∃ d, (x.kind == 2) = d := ⟨_, rfl⟩
      have ht1' : (x.kind != 1) = !t1 := by unfold bne; rw [ht1]
      have ht2' : (x.kind != 2) = !t2 := by unfold bne; rw [ht2]
      have hd1 : decide (x.kind = 1) = t1 := ht1
      have hd2 : decide (x.kind = 2) = t2 := ht2
      have HD2 := Go.Lib.hid hd2
      by_cases h12 : x.kind = 1 ∨ x.kind = 2
      · obtain ⟨wv, hwv⟩ : ∃ d, withinB p x.text = d := ⟨_, rfl⟩
        have hwx := HWI.out x hxt
        rw [hwv] at hwx
        have hnx := HNX.out
        rw [decide_eq_true h12, Bool.true_and, hwv] at hnx
        have HNX := Go.Lib.hid hnx; have HWX := Go.Lib.hid hwx
        have h3 : t1 = true ∨ (t1 = false ∧ t2 = true) := by
          rcases h12 with h | h
          · left; rw [← ht1, h]; rfl
          · right; rw [← ht1, ← ht2, h]; exact ⟨rfl, rfl⟩
        clear hnx hwx hwv h12 hd1 hd2 ht1
        rcases h3 with rfl | ⟨rfl, rfl⟩
        all_goals (
          go_wp2_with fail
          rw [HW2.out]
          obtain ⟨d0, d1⟩ := rl_cells0 HX2.out
          clear c0 c1
          go_wp2_with fail
          refine (HWX.out _).mono ?_; rintro e w3 ⟨rfl, hb3⟩
          have hx3 := HX2.out.below hb3
          have hb4 : Below w.heap.size w w3 := HB2.out.trans (hb3.mono HB2.out.size)
          have HX3 := Go.Lib.hid hx3; have HB3 := Go.Lib.hid hb4
          clear hb3 hx3 hb4 d0 d1
          cases wv with
          | false =>
            have hnx2 : bestOf p (l.take (k + 1)) = bestOf p (l.take k) := HNX.out
            have HN2 := Go.Lib.hid hnx2
            clear hnx2
            go_wp2_with fail
            exact ⟨⟨k + 1, dv, lv, by omega, rfl, rfl, by simp, by rw [HN2.out]; exact HB.out, HB3.out⟩, by simp [intOf]; omega⟩
          | true =>
            have hnx2 : bestOf p (l.take (k + 1)) = (match bestOf p (l.take k) with | none => some x | some y => if betterOf x y then some x else some y) := HNX.out
            obtain ⟨p0, p1⟩ := rl_cells0 HX3.out
            have hlx := HLO.out x hxt
            obtain ⟨sz, hsz⟩ : ∃ m, longOf x.text + 1 = m := ⟨_, rfl⟩
            rw [hsz] at hlx
            have hszp : 0 ≤ sz := by have := long_ge x.text; omega
            have HLX := Go.Lib.hid hlx; have HSZ := Go.Lib.hid hsz
            clear hlx hsz
            rcases HB.out with ⟨e1, rfl, rfl⟩ | ⟨y, e1, rfl, rfl⟩
            · rw [e1] at hnx2
              have HN2 := Go.Lib.hid hnx2
              have tg : decide (-1 < sz) = true := decide_eq_true (by omega)
              have tg' : -1 < sz := by omega
              clear hnx2 e1
              go_wp2_with fail
              refine (HLX.out _).mono ?_; rintro e w4 ⟨rfl, hw4⟩
              rw [hw4]
              clear hw4 w4
              go_wp2_with fail
              exact ⟨⟨k + 1, x.kind, sz, by omega, rfl, rfl, by simp, .inr ⟨x, HN2.out, rfl, HSZ.out.symm⟩, HB3.out⟩, by simp [intOf]; omega⟩
            · rw [e1] at hnx2
              replace hnx2 : bestOf p (l.take (k + 1)) = (if betterOf x y = true then some x else some y) := hnx2
              unfold betterOf at hnx2
              obtain ⟨lv, hlv⟩ : ∃ m, longOf y.text + 1 = m := ⟨_, rfl⟩
              have e2 : decide (longOf y.text < longOf x.text) = decide (lv < sz) := by rw [decide_eq_decide]; have := HSZ.out; omega
              have e3 : decide (longOf x.text = longOf y.text) = decide (sz = lv) := by rw [decide_eq_decide]; have := HSZ.out; omega
              rw [e2, e3, HD2.out] at hnx2
              rw [hlv] at HB ⊢
              obtain ⟨tg, htg⟩ : ∃ d, decide (lv < sz) = d := ⟨_, rfl⟩
              obtain ⟨te, hte⟩ : ∃ d, decide (sz = lv) = d := ⟨_, rfl⟩
              rw [htg, hte] at hnx2
              have hte' : (sz == lv) = te := hte
              have HLV := Go.Lib.hid hlv; have HE1 := Go.Lib.hid e1
              clear hte e2 e3 e1 hlv
              cases tg
              all_goals cases te
              all_goals try cases t2
              all_goals (
                have HN2 := Go.Lib.hid hnx2
                clear hnx2
                go_wp2_with fail
                refine (HLX.out _).mono ?_; rintro e w4 ⟨rfl, hw4⟩
                rw [hw4]
                clear hw4 w4
                go_wp2_with fail
                refine ⟨⟨k + 1, _, _, by omega, rfl, rfl, by simp, .inr ?_, HB3.out⟩, by simp [intOf]; omega⟩
                first
                  | exact ⟨x, HN2.out, rfl, HSZ.out.symm⟩
                  | exact ⟨y, HN2.out, rfl, HLV.out.symm⟩))
      · have hnx : bestOf p (l.take (k + 1)) = bestOf p (l.take k) := by rw [HNX.out, decide_eq_false h12]; rfl
        have HNX := Go.Lib.hid hnx
        have f1 : t1 = false := by rw [← ht1]; simpa using fun h => h12 (.inl h)
        have f2 : t2 = false := by rw [← ht2]; simpa using fun h => h12 (.inr h)
        subst f1
        subst f2
        clear hnx h12 hd1 hd2 ht1
        go_wp2_with fail
        rw [HW2.out]
        obtain ⟨d0, d1⟩ := rl_cells0 HX2.out
        clear c0 c1
        go_wp2_with fail
        exact ⟨⟨k + 1, dv, lv, by omega, rfl, rfl, by simp, by rw [HNX.out]; exact HB.out, HB2.out⟩, by simp [intOf]; omega⟩
    · obtain rfl : k = n := by omega
      have HB := Go.Lib.hid hB; have HBB := Go.Lib.hid hb
      have hres : (dv == 1) = r := by
        rw [List.take_of_length_le (by have := HN.out; omega)] at hB
        rcases hB with ⟨e1, rfl, rfl⟩ | ⟨y, e1, rfl, rfl⟩
        · have := HR.out; rw [e1] at this; rw [← this]; rfl
        · have := HR.out; rw [e1] at this; rw [← this]; rfl
      clear hB hb
      go_wp2_with fail
      go_ret
      exact ⟨rfl, HBB.out⟩

theorem spl_append (c : UInt8) : ∀ x y : List UInt8, spl c (x ++ c :: y) = spl c x ++ spl c y
  | [], y => by simp [spl]
  | b :: x, y => by
    have ih := spl_append c x y
    rw [List.cons_append]
    by_cases h : b = c
    · subst h
      rw [spl, if_pos rfl, ih]
      conv => rhs; rw [spl, if_pos rfl]
      rfl
    · rw [spl, if_neg h, ih]
      conv => rhs; rw [spl, if_neg h]
      rcases h' : spl c x with _ | ⟨a, t⟩
      · exact absurd h' (spl_ne c x)
      · rfl
theorem last_at (p : List UInt8) (hp : p.length ≤ 100000) : ∃ (d : Int) (q : Nat), Go.Lib.lastIndexByte (BS p) 47 = d ∧ IntKind.i64.wrap (d + 1) = (q : Int) ∧ q ≤ p.length ∧ p.drop q = lastOf p := by
  have hsz : (BS p).size = p.length := BS_size p
  rcases Go.Lib.lastIndexByte_spec (BS p) 47 with ⟨he, hn⟩ | ⟨i, hi, he, hc, hn⟩
  · refine ⟨-1, 0, he, by rw [IntKind.wrap_i64]; omega, by omega, ?_⟩
    have : (47 : UInt8) ∉ p := by
      intro hm
      obtain ⟨j, hj, e⟩ := List.getElem_of_mem hm
      refine hn j (by omega) ?_
      rw [BS_at p j hj, e]; rfl
    unfold lastOf
    simp [spl_none this]
  · have hil : i < p.length := by omega
    refine ⟨i, i + 1, he, by rw [IntKind.wrap_i64]; omega, by omega, ?_⟩
    have e1 : p[i] = 47 := by
      rw [BS_at p i hil] at hc
      exact UInt8.toNat_inj.1 (by show (p[i]).toNat = 47; omega)
    have e2 : (47 : UInt8) ∉ p.drop (i + 1) := by
      intro hm
      obtain ⟨j, hj, e⟩ := List.getElem_of_mem hm
      rw [List.getElem_drop] at e
      rw [List.length_drop] at hj
      refine hn (i + 1 + j) (by omega) (by omega) ?_
      rw [BS_at p _ (by omega), e]; rfl
    have e3 : p = p.take i ++ 47 :: p.drop (i + 1) := by
      rw [← e1, ← List.drop_eq_getElem_cons hil, List.take_append_drop]
    have e4 : spl 47 p = spl 47 (p.take i) ++ [p.drop (i + 1)] := by
      conv => lhs; rw [e3, spl_append, spl_none e2]
    unfold lastOf
    simp [e4]
set_option maxHeartbeats 8000000 in
theorem ptypes_any (v : Value) (l : List Rul) (p : List UInt8) (w : World) (h : Ruls w v l) (hn6 : l.length ≤ 100000) (hp : p.length ≤ 100000) :
    Calls Tryd.prog 18 #[v, .string (BS p)] w fun e w' => e = .returned (.bool (typesOk l (ext (lastOf p)))) ∧ Below w.heap.size w w' := by
  have hsz : (BS p).size = p.length := BS_size p
  have hty : ∀ e, typesOk l e = (!(l.any fun x => decide (x.kind = 3)) || l.any fun x => decide (x.kind = 3) && decide (x.text = e)) := fun _ => rfl
  have h' := h
  obtain ⟨A, n, c, rfl, hn, hc, -⟩ := h'
  obtain ⟨d, q, hd, hq, hql, hdr⟩ := last_at p hp
  have hli := fun W => Tryd.strings_LastIndexByte (BS p) 47 (by omega) W
  rw [hd] at hli
  have hxl : (lastOf p).length ≤ 140737488351232 := by rw [← hdr, List.length_drop]; omega
  have hex := fun W => pnext_name (lastOf p) W hxl
  have hcut : (BS p).extract q p.length = BS (lastOf p) := by rw [← hsz, BS_tail, hdr]
  obtain ⟨e, he⟩ : ∃ e, ext (lastOf p) = e := ⟨_, rfl⟩
  rw [he] at hex ⊢
  obtain ⟨la, hla⟩ : ∃ a, lastOf p = a := ⟨_, rfl⟩
  rw [hla] at hex hcut
  have hte := hty e
  obtain ⟨r, hr⟩ : ∃ r, typesOk l e = r := ⟨_, rfl⟩
  rw [hr] at hte ⊢
  obtain ⟨np, hnp⟩ : ∃ m, p.length = m := ⟨_, rfl⟩
  rw [hnp] at hsz hql hcut hp
  rw [hn] at hn6
  have hqi : (q : Int) ≤ (np : Int) := by omega
  have HL := Go.Lib.hid h; have HN := Go.Lib.hid hn; have HR := Go.Lib.hid hte; have HLI := Go.Lib.hid hli; have HEX := Go.Lib.hid hex
  clear h hn hte hr hli hex hty hd hdr hxl he hla hnp
  go_enter Tryd.func18, Tryd.ntmps18
  go_wp2_with fail
  refine (HLI.out _).mono ?_; rintro e1 w1 ⟨rfl, hw1⟩
  rw [hw1]
  clear hw1 w1
  go_wp2_with fail
  refine (HEX.out _).mono ?_; rintro e1 w1 ⟨rfl, hb1⟩
  have HB1 := Go.Lib.hid hb1; clear hb1
  go_wp2_with fail
  go_loopw [6, 8, 17, 18, 19, 20, 21, 22, 23, 24, 25, 26, 27, 28] (fun all _ i _ _ _ _ _ _ _ _ _ _ _ wr => ∃ (k : Nat), k ≤ n ∧ all = .bool (!((l.take k).any fun x => decide (x.kind = 3))) ∧ i = .int .i64 (k : Int) ∧ (∀ x ∈ l.take k, x.kind = 3 → x.text ≠ e) ∧ Below w.heap.size w wr) (fun _ _ i _ _ _ _ _ _ _ _ _ _ _ _ => n - (intOf i).toNat)
  case atStart => exact ⟨0, by omega, rfl, rfl, by simp, HB1.out⟩
  case round =>
    obtain ⟨k, hk, rfl, rfl, hall, hb⟩ := hrel
    obtain ⟨ba, hba⟩ : ∃ b, (!((l.take k).any fun x => decide (x.kind = 3))) = b := ⟨_, rfl⟩
    rw [hba]
    by_cases hkn : k < n
    · have hki : (k : Int) < (n : Int) := by omega
      obtain ⟨g, o, x, rfl, hx, hx0⟩ := (HL.out.below hb).at k hkn
      obtain ⟨c0, c1⟩ := rl_cells hx0
      obtain ⟨W2, hW2⟩ : ∃ W, wr.alloc (.cells #[.int .i64 x.kind, .string (BS x.text)] 29) = W := ⟨_, rfl⟩
      have hb2 : Below w.heap.size w W2 := by rw [← hW2]; exact hb.alloc hb.size _
      have hx2 : RulAt W2 wr.heap.size 0 x := by rw [← hW2]; exact RulAt.new _ _ _
      have hany : ((l.take (k + 1)).any fun x => decide (x.kind = 3)) = (((l.take k).any fun x => decide (x.kind = 3)) || decide (x.kind = 3)) := by
        rw [List.take_add_one, hx]
        simp
      have hmem : ∀ y ∈ l.take (k + 1), y ∈ l.take k ∨ y = x := fun y hy => by
        rw [List.take_add_one, hx] at hy
        rcases List.mem_append.1 hy with hy | hy
        · exact .inl hy
        · simp at hy; exact .inr hy
      have HX := Go.Lib.hid hx; have HX2 := Go.Lib.hid hx2; have HB2 := Go.Lib.hid hb2; have HW2 := Go.Lib.hid hW2; have HALL := Go.Lib.hid hall; have HANY := Go.Lib.hid hany; have HMEM := Go.Lib.hid hmem; have HBA := Go.Lib.hid hba
      clear hx hx2 hb hb2 hW2 hx0 hall hany hmem hba
      by_cases h3 : x.kind = 3
      · have t3 : (x.kind != 3) = false := by simpa using h3
        have q4 := bs_eq x.text e
        by_cases hxe : x.text = e
        · rw [decide_eq_true hxe] at q4
          have hres : r = true := by
            rw [HR.out, Bool.or_eq_true]
            right
            rw [List.any_eq_true]
            exact ⟨x, List.mem_of_getElem? HX.out, by rw [decide_eq_true h3, decide_eq_true hxe]; rfl⟩
          subst hres
          clear h3 hxe
          go_wp2_with fail
          rw [HW2.out]
          obtain ⟨d0, d1⟩ := rl_cells0 HX2.out
          clear c0 c1
          go_wp2_with fail
          go_ret
          exact ⟨rfl, HB2.out⟩
        · rw [decide_eq_false hxe] at q4
          have H3 := Go.Lib.hid h3; have HXE := Go.Lib.hid hxe
          clear h3 hxe
          go_wp2_with fail
          rw [HW2.out]
          obtain ⟨d0, d1⟩ := rl_cells0 HX2.out
          clear c0 c1
          go_wp2_with fail
          refine ⟨⟨k + 1, by omega, by rw [HANY.out, decide_eq_true H3.out, Bool.or_true]; rfl, by simp, fun y hy h => ?_, HB2.out⟩, by simp [intOf]; omega⟩
          rcases HMEM.out y hy with hy | rfl
          · exact HALL.out y hy h
          · exact HXE.out
      · have t3 : (x.kind != 3) = true := by simpa using h3
        have H3 := Go.Lib.hid h3
        clear h3
        go_wp2_with fail
        rw [HW2.out]
        obtain ⟨d0, d1⟩ := rl_cells0 HX2.out
        clear c0 c1
        go_wp2_with fail
        refine ⟨⟨k + 1, by omega, by rw [HANY.out, decide_eq_false H3.out, Bool.or_false, HBA.out], by simp, fun y hy h => ?_, HB2.out⟩, by simp [intOf]; omega⟩
        rcases HMEM.out y hy with hy | rfl
        · exact HALL.out y hy h
        · exact absurd h H3.out
    · obtain rfl : k = n := by omega
      have hres : ba = r := by
        rw [List.take_of_length_le (by have := HN.out; omega)] at hall hba
        rw [HR.out, hba]
        have : (l.any fun x => decide (x.kind = 3) && decide (x.text = e)) = false := by
          rw [List.any_eq_false]
          intro x hx
          rw [Bool.and_eq_true, decide_eq_true_eq, decide_eq_true_eq]
          exact fun h => hall x hx h.1 h.2
        rw [this, Bool.or_false]
      subst hres
      have HBB := Go.Lib.hid hb
      clear hb hall hba
      go_wp2_with fail
      go_ret
      exact ⟨rfl, HBB.out⟩

set_option maxHeartbeats 2000000 in
theorem gmatch_any (v : Value) (l : List Rul) (p : List UInt8) (dir : Bool) (w : World) (h : Ruls w v l) (ht : ∀ x ∈ l, x.text.length ≤ 100000) (hn : l.length ≤ 100000) (hp : p.length ≤ 100000) :
    Calls Tryd.prog 9 #[v, .string (BS p), .bool dir] w fun e w' => e = .returned (.bool (matchOf l p dir)) ∧ Below w.heap.size w w' := by
  have hr := match_inc l p dir
  have h1 := pinc_any v l p w h ht hn hp
  have h2 := fun (W : World) (hb : Below w.heap.size w W) => ptypes_any v l p W (h.below hb) hn hp
  obtain ⟨r, hr0⟩ : ∃ r, matchOf l p dir = r := ⟨_, rfl⟩
  rw [hr0] at hr ⊢
  obtain ⟨a, ha⟩ : ∃ a, incOf p l = a := ⟨_, rfl⟩
  rw [ha] at h1 hr
  obtain ⟨b, hb⟩ : ∃ a, typesOk l (ext (lastOf p)) = a := ⟨_, rfl⟩
  rw [hb] at h2 hr
  obtain ⟨A, c, rfl, _⟩ := h.len
  have H1 := Go.Lib.hid h1; have H2 := Go.Lib.hid h2
  clear h1 h2 hr0 ha hb h ht
  subst hr
  cases a <;> cases dir
  all_goals (
    go_enter Tryd.func9, Tryd.ntmps9
    go_wp2_with fail
    refine H1.out.mono ?_; rintro e w1 ⟨rfl, hb1⟩
    have HB1 := Go.Lib.hid hb1; clear hb1
    go_wp2_with fail
    first
      | (refine (H2.out _ HB1.out).mono ?_; rintro e w2 ⟨rfl, hb2⟩
         have HB2 := Go.Lib.hid (HB1.out.trans (hb2.mono HB1.out.size)); clear hb2
         go_wp2_with fail
         go_ret
         exact ⟨rfl, HB2.out⟩)
      | (go_ret
         exact ⟨rfl, HB1.out⟩))
end Go.Proofs.YtkohcibhefejfaaDoor.W
