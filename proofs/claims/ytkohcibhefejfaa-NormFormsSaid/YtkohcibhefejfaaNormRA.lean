/- The reference of forms: long, kind, above. -/
import Derived.Test.YtkohcibhefejfaaNormN
import Derived.Test.YtkohcibhefejfaaGlobRW
namespace Go.Proofs.Ytkohcibhefejfaa.W
set_option maxRecDepth 20000
set_option linter.unusedVariables false
open Go.RowKit Go.Proofs Arb

theorem rlong10_any (s : List UInt8) (w : World) (hl : s.length ≤ 140737488351232) : Calls Try.prog 25 #[.string (BS s)] w fun e w' => e = .returned (.int .i64 (longOf s)) ∧ w' = w := by
  have hsz : (BS s).size = s.length := BS_size s
  have q1 := BS_beq s [46]
  have hr : longOf s = if decide (s = [46]) = true then -1 else (s.length : Int) := by
    unfold longOf
    by_cases h : s = [46]
    · rw [if_pos h, if_pos (decide_eq_true h)]
    · rw [if_neg h, if_neg (by simpa using h)]
  rw [hr]
  obtain ⟨d1, hd1⟩ : ∃ d, decide (s = [46]) = d := ⟨_, rfl⟩
  rw [hd1] at q1 ⊢
  clear hd1 hr
  cases d1 <;> (
    go_enter Try.func25, Try.ntmps25
    go_wp2_with fail
    go_ret
    exact ⟨rfl, rfl⟩)

set_option maxHeartbeats 8000000 in
theorem rkind10_any (v : Value) (l : List Rul) (p : List UInt8) (w : World) (h : Ruls w v l) (hn6 : l.length ≤ 100000) :
    Calls Try.prog 15 #[v, .string (BS p)] w fun e w' => e = .returned (.int .i64 (kindAt l p)) ∧ w' = w := by
  obtain ⟨r, hr⟩ : ∃ r, kindAt l p = r := ⟨_, rfl⟩
  rw [hr]
  have h' := h
  obtain ⟨A, n, c, rfl, hn, hc, -⟩ := h'
  rw [hn] at hn6
  have HL := Go.Lib.hid h; have HN := Go.Lib.hid hn; have HR := Go.Lib.hid hr
  clear h hn hr
  go_enter Try.func15, Try.ntmps15
  go_wp2_with fail
  go_loopw [5, 6, 7, 8, 9, 10, 11, 12, 13, 14, 15, 16, 17, 18, 19, 20, 21, 22, 23, 24, 25, 26, 27, 28, 29, 30, 31, 32, 33, 34, 35, 36, 37, 38, 39, 40, 41, 42, 43, 44] (fun kk i _ _ _ _ _ _ _ _ _ _ _ _ _ _ _ _ _ _ _ _ _ _ _ _ _ _ _ _ _ _ _ _ _ _ _ _ _ _ wr => ∃ (k : Nat) (kv : Int), k ≤ n ∧ kk = .int .i64 kv ∧ i = .int .i64 (k : Int) ∧ kindAt (l.take k) p = kv ∧ wr = w) (fun _ i _ _ _ _ _ _ _ _ _ _ _ _ _ _ _ _ _ _ _ _ _ _ _ _ _ _ _ _ _ _ _ _ _ _ _ _ _ _ _ => n - (intOf i).toNat)
  case atStart => exact ⟨0, 0, by omega, rfl, rfl, rfl, rfl⟩
  case round =>
    obtain ⟨k, kv, hk, rfl, rfl, hB, rfl⟩ := hrel
    by_cases hkn : k < n
    · have hki : (k : Int) < (n : Int) := by omega
      obtain ⟨g, o, x, rfl, hx, hx0⟩ := HL.out.at k hkn
      obtain ⟨c0, c1⟩ := rl_cells hx0
      have hnx : kindAt (l.take (k + 1)) p = kindStep p kv x := by
        unfold kindAt at hB ⊢
        rw [List.take_add_one, hx]
        simp [hB]
      unfold kindStep at hnx
      have q0 := bs_eq x.text p
      obtain ⟨t1, ht1⟩ : ∃ d, (x.kind == 1) = d := ⟨_, rfl⟩
      obtain ⟨t2, ht2⟩ : ∃ d, (x.kind == 2) = d := ⟨_, rfl⟩
      obtain ⟨t3, ht3⟩ : ∃ d, (kv == 0) = d := ⟨_, rfl⟩
      obtain ⟨t0, ht0⟩ : ∃ d, decide (x.text = p) = d := ⟨_, rfl⟩
      have e : (if x.text = p ∧ (x.kind = 2 ∨ (x.kind = 1 ∧ kv = 0)) then x.kind else kv) = if (t0 && (t2 || (t1 && t3))) = true then x.kind else kv := by
        rw [← ht0, ← ht1, ← ht2, ← ht3]
        simp
      rw [e] at hnx
      rw [ht0] at q0
      have HNX := Go.Lib.hid hnx
      clear hx hx0 hB hnx e ht0
      cases t0
      all_goals try cases t2
      all_goals try cases t1
      all_goals try cases t3
      all_goals (
        have HN2 := Go.Lib.hid (show kindAt (l.take (k + 1)) p = _ from HNX.out)
        clear HNX
        go_wp2_with fail
        exact ⟨⟨k + 1, _, by omega, rfl, by simp, HN2.out, (by first | trivial | rfl)⟩, by simp [intOf]; omega⟩)
    · obtain rfl : k = n := by omega
      rw [List.take_of_length_le (by have := HN.out; omega), HR.out] at hB
      subst hB
      go_wp2_with fail
      go_ret
      exact ⟨rfl, (by first | trivial | rfl)⟩

/-- What 'best' and 'found' hold. -/
def NearAt (B : Option (List UInt8)) (bt : List UInt8) (fb : Bool) : Prop := (B = none ∧ fb = false) ∨ (B = some bt ∧ fb = true)
theorem near_take {p : List UInt8} {l : List Rul} {k : Nat} {x : Rul} (h : l[k]? = some x) : nearOf (l.take (k + 1)) p = nearStep p (nearOf (l.take k) p) x := by
  rw [List.take_add_one, h]
  simp [nearOf]
set_option maxHeartbeats 16000000 in
theorem rabove10_any (v : Value) (l : List Rul) (p : List UInt8) (w : World) (h : Ruls w v l) (ht : ∀ x ∈ l, x.text.length ≤ 100000) (hn6 : l.length ≤ 100000) (hp : p.length ≤ 100000) :
    Calls Try.prog 16 #[v, .string (BS p)] w fun e w' => e = .returned (.int .i64 (aboveOf l p)) ∧ Below w.heap.size w w' := by
  obtain ⟨r, hr⟩ : ∃ r, aboveOf l p = r := ⟨_, rfl⟩
  rw [hr]
  have h' := h
  obtain ⟨A, n, c, rfl, hn, hc, -⟩ := h'
  unfold aboveOf at hr
  have hkd := fun (t : List UInt8) (W : World) (hb : Below w.heap.size w W) => rkind10_any (.slice A n c) l t W (h.below hb) hn6
  rw [hn] at hn6
  have hwi := fun (x : Rul) (hx : x.text.length ≤ 100000) W => rwithin_any p x.text W hp hx
  have hlo := fun (t : List UInt8) (hx : t.length ≤ 100000) W => rlong10_any t W (by omega)
  have q5 := BS_beq p [46]
  obtain ⟨dp, hdp⟩ : ∃ d, decide (p = [46]) = d := ⟨_, rfl⟩
  rw [hdp] at q5
  have HL := Go.Lib.hid h; have HN := Go.Lib.hid hn; have HT := Go.Lib.hid ht; have HR := Go.Lib.hid hr; have HWI := Go.Lib.hid hwi; have HLO := Go.Lib.hid hlo; have HDP := Go.Lib.hid hdp; have HKD := Go.Lib.hid hkd
  clear h hn ht hr hwi hlo hdp hkd
  go_enter Try.func16, Try.ntmps16
  go_wp2_with fail
  go_loopw [5, 6, 7, 8, 9, 10, 11, 12, 13, 14, 15, 16, 17, 18, 19, 20, 21, 22, 23, 24, 25, 26, 27, 28, 29, 30, 31, 32, 33, 34, 35, 36, 37, 38, 39, 40, 41, 42, 43, 44, 45, 46, 47, 48, 49, 50, 51, 52, 53, 54, 55, 56, 57, 58] (fun bb ff i _ _ _ _ _ _ _ _ _ _ _ _ _ _ _ _ _ _ _ _ _ _ _ _ _ _ _ _ _ _ _ _ _ _ _ _ _ _ _ _ _ _ _ _ _ _ _ _ _ _ _ wr => ∃ (k : Nat) (bt : List UInt8) (fb : Bool), k ≤ n ∧ bb = .string (BS bt) ∧ ff = .bool fb ∧ i = .int .i64 (k : Int) ∧ bt.length ≤ 100000 ∧ NearAt (nearOf (l.take k) p) bt fb ∧ Below w.heap.size w wr) (fun _ _ i _ _ _ _ _ _ _ _ _ _ _ _ _ _ _ _ _ _ _ _ _ _ _ _ _ _ _ _ _ _ _ _ _ _ _ _ _ _ _ _ _ _ _ _ _ _ _ _ _ _ _ _ => n - (intOf i).toNat)
  case atStart => exact ⟨0, [], false, by omega, rfl, rfl, rfl, by simp, .inl ⟨rfl, rfl⟩, Below.refl _ _⟩
  case round =>
    obtain ⟨k, bt, fb, hk, rfl, rfl, rfl, hbl, hB, hb⟩ := hrel
    by_cases hkn : k < n
    · have hki : (k : Int) < (n : Int) := by omega
      obtain ⟨g, o, x, rfl, hx, hx0⟩ := (HL.out.below hb).at k hkn
      obtain ⟨c0, c1⟩ := rl_cells hx0
      have hxt := HT.out x (List.mem_of_getElem? hx)
      have hnx := near_take (p := p) hx
      unfold nearStep at hnx
      have q0 := bs_eq x.text p
      obtain ⟨t1, ht1⟩ : ∃ d, (x.kind == 1) = d := ⟨_, rfl⟩
      obtain ⟨t2, ht2⟩ : ∃ d, (x.kind == 2) = d := ⟨_, rfl⟩
      obtain ⟨t0, ht0⟩ : ∃ d, decide (x.text = p) = d := ⟨_, rfl⟩
      obtain ⟨wv, hwv⟩ : ∃ d, withinB p x.text = d := ⟨_, rfl⟩
      have ht1' : (x.kind != 1) = !t1 := by unfold bne; rw [ht1]
      have ht2' : (x.kind != 2) = !t2 := by unfold bne; rw [ht2]
      have hov : overP p x ↔ ((t1 || t2) && !t0 && !dp && wv) = true := by
        rw [← ht0, ← ht1, ← ht2, ← hwv, ← HDP.out]
        unfold overP isPl
        simp [and_assoc]
      have hwx := HWI.out x hxt
      rw [hwv] at hwx
      rw [ht0] at q0
      have HX := Go.Lib.hid hx; have HB := Go.Lib.hid hB; have HBB := Go.Lib.hid hb; have HNX := Go.Lib.hid hnx; have HOV := Go.Lib.hid hov; have HWX := Go.Lib.hid hwx
      clear hx hx0 hB hb hnx hov hwx ht0 ht1 ht2 hwv
      have skip : ((t1 || t2) && !t0 && !dp && wv) = false → nearOf (l.take (k + 1)) p = nearOf (l.take k) p := fun h => by
        rw [HNX.out, if_neg]
        rw [HOV.out, h]; simp
      have HSK := Go.Lib.hid skip
      clear skip
      by_cases hpl : (t1 || t2) = true
      · cases t0 with
        | true =>
          have hnx2 := HSK.out (by simp)
          have HN2 := Go.Lib.hid hnx2
          clear hnx2
          cases t1
          · simp only [Bool.false_or] at hpl
            subst hpl
            go_wp2_with fail
            exact ⟨⟨k + 1, bt, fb, by omega, rfl, rfl, by simp, hbl, by rw [HN2.out]; exact HB.out, HBB.out⟩, by simp [intOf]; omega⟩
          · clear hpl ht2'
            go_wp2_with fail
            exact ⟨⟨k + 1, bt, fb, by omega, rfl, rfl, by simp, hbl, by rw [HN2.out]; exact HB.out, HBB.out⟩, by simp [intOf]; omega⟩
        | false =>
          cases dp with
          | true =>
            have hnx2 := HSK.out (by simp)
            have HN2 := Go.Lib.hid hnx2
            clear hnx2
            cases t1
            · simp only [Bool.false_or] at hpl
              subst hpl
              go_wp2_with fail
              exact ⟨⟨k + 1, bt, fb, by omega, rfl, rfl, by simp, hbl, by rw [HN2.out]; exact HB.out, HBB.out⟩, by simp [intOf]; omega⟩
            · clear hpl ht2'
              go_wp2_with fail
              exact ⟨⟨k + 1, bt, fb, by omega, rfl, rfl, by simp, hbl, by rw [HN2.out]; exact HB.out, HBB.out⟩, by simp [intOf]; omega⟩
          | false =>
            have hgo : wv = true → nearOf (l.take (k + 1)) p = (match nearOf (l.take k) p with | none => some x.text | some t => if longOf t < longOf x.text then some x.text else some t) := fun h => by
              refine HNX.out.trans ((if_pos (HOV.out.2 (by rw [h, hpl]; rfl))).trans ?_)
              cases nearOf (l.take k) p <;> rfl
            have HGO := Go.Lib.hid hgo
            clear hgo HNX HOV
            have hpl2 : t1 = true ∨ (t1 = false ∧ t2 = true) := by cases t1 <;> simp_all
            clear hpl
            rcases hpl2 with rfl | ⟨rfl, rfl⟩
            all_goals (
              go_wp2_with fail
              refine HWX.out wr |>.mono ?_; rintro e w3 ⟨rfl, hb3⟩
              have hb4 : Below w.heap.size w w3 := HBB.out.trans (hb3.mono HBB.out.size)
              have HB3 := Go.Lib.hid hb4
              clear hb3 hb4 c0 c1
              cases wv with
              | false =>
                have hnx2 := HSK.out (by simp)
                have HN2 := Go.Lib.hid hnx2
                clear hnx2
                go_wp2_with fail
                exact ⟨⟨k + 1, bt, fb, by omega, rfl, rfl, by simp, hbl, by rw [HN2.out]; exact HB.out, HB3.out⟩, by simp [intOf]; omega⟩
              | true =>
                have hnx2 := HGO.out rfl
                rcases HB.out with ⟨e1, rfl⟩ | ⟨e1, rfl⟩
                · rw [e1] at hnx2
                  have HN2 := Go.Lib.hid hnx2
                  clear hnx2 e1
                  go_wp2_with fail
                  exact ⟨⟨k + 1, x.text, true, by omega, rfl, rfl, by simp, hxt, .inr ⟨HN2.out, rfl⟩, HB3.out⟩, by simp [intOf]; omega⟩
                · rw [e1] at hnx2
                  simp only at hnx2
                  have hlx := HLO.out x.text hxt
                  have hlb := HLO.out bt hbl
                  obtain ⟨lx, hlxe⟩ : ∃ m, longOf x.text = m := ⟨_, rfl⟩
                  obtain ⟨lb, hlbe⟩ : ∃ m, longOf bt = m := ⟨_, rfl⟩
                  rw [hlxe, hlbe] at hnx2
                  rw [hlxe] at hlx
                  rw [hlbe] at hlb
                  have HLX := Go.Lib.hid hlx; have HLB := Go.Lib.hid hlb
                  clear hlx hlb hlxe hlbe e1
                  by_cases hlt : lb < lx
                  · rw [if_pos hlt] at hnx2
                    have hlt' : decide (lb < lx) = true := decide_eq_true hlt
                    have HN2 := Go.Lib.hid hnx2
                    clear hnx2 hlt
                    go_wp2_with fail
                    refine (HLX.out _).mono ?_; rintro e w4 ⟨rfl, hw4⟩
                    rw [hw4]
                    clear hw4 w4
                    go_wp2_with fail
                    refine (HLB.out _).mono ?_; rintro e w4 ⟨rfl, hw4⟩
                    rw [hw4]
                    clear hw4 w4
                    go_wp2_with fail
                    exact ⟨⟨k + 1, x.text, true, by omega, rfl, rfl, by simp, hxt, .inr ⟨HN2.out, rfl⟩, HB3.out⟩, by simp [intOf]; omega⟩
                  · rw [if_neg hlt] at hnx2
                    have hlt' : decide (lb < lx) = false := decide_eq_false hlt
                    have HN2 := Go.Lib.hid hnx2
                    clear hnx2 hlt
                    go_wp2_with fail
                    refine (HLX.out _).mono ?_; rintro e w4 ⟨rfl, hw4⟩
                    rw [hw4]
                    clear hw4 w4
                    go_wp2_with fail
                    refine (HLB.out _).mono ?_; rintro e w4 ⟨rfl, hw4⟩
                    rw [hw4]
                    clear hw4 w4
                    go_wp2_with fail
                    exact ⟨⟨k + 1, bt, true, by omega, rfl, rfl, by simp, hbl, .inr ⟨HN2.out, rfl⟩, HB3.out⟩, by simp [intOf]; omega⟩)
      · have hpl0 : (t1 || t2) = false := by simpa using hpl
        have hnx2 := HSK.out (by rw [hpl0]; rfl)
        have HN2 := Go.Lib.hid hnx2
        rw [Bool.or_eq_false_iff] at hpl0
        obtain ⟨rfl, rfl⟩ := hpl0
        clear hnx2 hpl
        go_wp2_with fail
        exact ⟨⟨k + 1, bt, fb, by omega, rfl, rfl, by simp, hbl, by rw [HN2.out]; exact HB.out, HBB.out⟩, by simp [intOf]; omega⟩
    · obtain rfl : k = n := by omega
      rw [List.take_of_length_le (by have := HN.out; omega)] at hB
      have HBB := Go.Lib.hid hb
      have hr := HR.out
      rcases hB with ⟨e1, rfl⟩ | ⟨e1, rfl⟩
      · rw [e1] at hr
        simp only at hr
        subst hr
        clear hb e1
        go_wp2_with fail
        go_ret
        exact ⟨rfl, HBB.out⟩
      · rw [e1] at hr
        simp only at hr
        have hkd := HKD.out bt wr HBB.out
        rw [hr] at hkd
        have HK2 := Go.Lib.hid hkd
        clear hkd hb e1 hr
        go_wp2_with fail
        refine HK2.out.mono ?_; rintro e w4 ⟨rfl, hw4⟩
        rw [hw4]
        clear hw4 w4
        go_wp2_with fail
        go_ret
        exact ⟨rfl, HBB.out⟩
end Go.Proofs.Ytkohcibhefejfaa.W
