/- The program's forms: the kind above a place, out of the map of kinds. -/
import Derived.Test.YtkohcibhefejfaaDoorNormPB
import Derived.Lib.LastIndexByte
namespace Arb
set_option maxRecDepth 20000
set_option linter.unusedVariables false
theorem BS_at10 (l : List UInt8) (j : Nat) (hj : j < l.length) : (BS l).data[j]! = l[j] := by
  show l.toArray[j]! = l[j]
  rw [getElem!_pos l.toArray j (by simpa using hj)]
  simp
theorem nat47 (b : UInt8) : ((b.toNat : Int) = 47) ↔ b = 47 := by
  constructor
  · intro h
    exact UInt8.toNat_inj.1 (by show b.toNat = 47; omega)
  · rintro rfl; rfl
theorem last_slash (q : List UInt8) : (Go.Lib.lastIndexByte (BS q) 47 = -1 ∧ ∀ j : Nat, q[j]? ≠ some (47 : UInt8)) ∨ ∃ i : Nat, Go.Lib.lastIndexByte (BS q) 47 = (i : Int) ∧ i < q.length ∧ q[i]? = some (47 : UInt8) ∧ ∀ j : Nat, i < j → q[j]? ≠ some (47 : UInt8) := by
  have hsz : (BS q).size = q.length := BS_size q
  have key : ∀ j : Nat, (∀ (hj : j < q.length), ¬ (((BS q).data[j]!).toNat : Int) = 47) → q[j]? ≠ some (47 : UInt8) := fun j h e => by
    obtain ⟨hj, he⟩ := List.getElem?_eq_some_iff.1 e
    exact h hj (by rw [BS_at10 q j hj, nat47]; exact he)
  rcases Go.Lib.lastIndexByte_spec (BS q) 47 with ⟨he, hn⟩ | ⟨i, hi, he, hc, hn⟩
  · exact .inl ⟨he, fun j => key j fun hj => hn j (by omega)⟩
  · have hil : i < q.length := by omega
    refine .inr ⟨i, he, hil, ?_, fun j hij => key j fun hj => hn j hij (by omega)⟩
    rw [BS_at10 q i hil, nat47] at hc
    rw [List.getElem?_eq_getElem hil, hc]
/-- The part ahead of a slash is a place above. -/
def candA (S : List (List UInt8)) (p : List UInt8) (j : Nat) : Prop := p[j]? = some 47 ∧ p.take j ∈ S ∧ withinB p (p.take j) = true
def AtI (S : List (List UInt8)) (p : List UInt8) (d : Int) : Prop := (d = -1 ∧ ∀ j, ¬ candA S p j) ∨ ∃ i : Nat, d = (i : Int) ∧ i < p.length ∧ p[i]? = some 47 ∧ ∀ j, i < j → ¬ candA S p j
theorem AtI.start (S : List (List UInt8)) (p : List UInt8) : AtI S p (Go.Lib.lastIndexByte (BS p) 47) := by
  rcases last_slash p with ⟨h, h1⟩ | ⟨i, h, h1, h2, h3⟩
  · exact .inl ⟨h, fun j hc => h1 j hc.1⟩
  · exact .inr ⟨i, h, h1, h2, fun j hj hc => h3 j hj hc.1⟩
theorem AtI.step {S : List (List UInt8)} {p : List UInt8} {i : Nat} (hi : i < p.length) (hno : ∀ j, i < j → ¬ candA S p j) (hc : ¬ candA S p i) : AtI S p (Go.Lib.lastIndexByte (BS (p.take i)) 47) := by
  have ht : ∀ j, j < i → (p.take i)[j]? = p[j]? := fun j hj => by rw [List.getElem?_take, if_pos hj]
  have hall : ∀ j, i ≤ j → ¬ candA S p j := fun j hj => by
    rcases Nat.lt_or_ge i j with h | h
    · exact hno j h
    · have : j = i := by omega
      rw [this]; exact hc
  rcases last_slash (p.take i) with ⟨h, h1⟩ | ⟨m, h, h1, h2, h3⟩
  · refine .inl ⟨h, fun j hcj => ?_⟩
    rcases Nat.lt_or_ge j i with hj | hj
    · exact h1 j (by rw [ht j hj]; exact hcj.1)
    · exact hall j hj hcj
  · rw [List.length_take] at h1
    refine .inr ⟨m, h, by omega, by rw [← ht m (by omega)]; exact h2, fun j hj hcj => ?_⟩
    rcases Nat.lt_or_ge j i with hji | hji
    · exact h3 j hj (by rw [ht j hji]; exact hcj.1)
    · exact hall j hji hcj
theorem last_lt (p : List UInt8) (i : Nat) (hi : i < p.length) : Go.Lib.lastIndexByte (BS (p.take i)) 47 < (i : Int) ∧ -1 ≤ Go.Lib.lastIndexByte (BS (p.take i)) 47 := by
  rcases last_slash (p.take i) with ⟨h, h1⟩ | ⟨m, h, h1, h2, h3⟩
  · rw [h]; omega
  · rw [h]; rw [List.length_take] at h1; omega
/-- What is above a place, but for '.', is a candidate. -/
theorem over_cand {l : List Rul} {S : List (List UInt8)} {val : List UInt8 → Int} (h : Kinds l S val) {p : List UInt8} {x : Rul} (hx : x ∈ l) (ho : overP p x) (hd : x.text ≠ [46]) : candA S p x.text.length ∧ p.take x.text.length = x.text := by
  obtain ⟨h1, h2, h3, h4⟩ := ho
  rcases (within_spec p x.text).1 h4 with h5 | h5 | ⟨r, hr, h5⟩
  · exact absurd h5 hd
  · exact absurd h5.symm h2
  · have ht : p.take x.text.length = x.text := by rw [h5]; simp
    refine ⟨⟨by rw [h5]; simp, ?_, by rw [ht]; exact h4⟩, ht⟩
    rw [ht, h.mem]
    exact ⟨x, hx, h1, rfl⟩
theorem above_found {l : List Rul} {S : List (List UInt8)} {val : List UInt8 → Int} (h : Kinds l S val) {p : List UInt8} {i : Nat} (hi : i < p.length) (hno : ∀ j, i < j → ¬ candA S p j) (hc : candA S p i) : aboveOf l p = val (p.take i) := by
  obtain ⟨h1, h2, h3⟩ := hc
  obtain ⟨x, hx, hpl, hxt⟩ := (h.mem _).1 h2
  have hlen : (p.take i).length = i := by rw [List.length_take]; omega
  have hne : p ≠ [46] := by
    rintro rfl
    have : i = 0 := by simp at hi; exact hi
    subst this
    simp at h1
  have hov : overP p x := ⟨hpl, by rw [hxt]; intro e; have := congrArg List.length e; rw [hlen] at this; omega, hne, by rw [hxt]; exact h3⟩
  have hs : NSpec l p (some (p.take i)) := by
    refine .inr ⟨_, rfl, ⟨x, hx, hov, hxt⟩, fun y hy ho => ?_⟩
    by_cases hd : y.text = [46]
    · rw [hd]
      exact long_ge9 _
    · obtain ⟨hcy, hty⟩ := over_cand h hy ho hd
      have hle : y.text.length ≤ i := by
        rcases Nat.lt_or_ge i y.text.length with h5 | h5
        · exact absurd hcy (hno _ h5)
        · exact h5
      rw [long_len hd]
      by_cases hdt : p.take i = [46]
      · exfalso
        have hi1 : i = 1 := by rw [hdt] at hlen; simpa using hlen.symm
        subst hi1
        rcases Nat.lt_or_ge y.text.length 1 with h6 | h6
        · have h7 : y.text.length = 0 := by omega
          have h8 := hcy.1
          rw [h7] at h8
          have h9 : (p.take 1)[0]? = p[0]? := by rw [List.getElem?_take, if_pos (by omega)]
          rw [h8, hdt] at h9
          simp at h9
        · have h7 : y.text.length = 1 := by omega
          rw [h7, hdt] at hty
          exact hd hty.symm
      · rw [long_len hdt, hlen]
        omega
  unfold aboveOf
  rw [near_uniq (near_spec l p) hs, h.val]
theorem above_dot {l : List Rul} {S : List (List UInt8)} {val : List UInt8 → Int} (h : Kinds l S val) {p : List UInt8} (hno : ∀ j, ¬ candA S p j) (hd : [46] ∈ S) (hp : p ≠ [46]) : aboveOf l p = val [46] := by
  obtain ⟨x, hx, hpl, hxt⟩ := (h.mem _).1 hd
  have hs : NSpec l p (some [46]) := by
    refine .inr ⟨_, rfl, ⟨x, hx, ⟨hpl, by rw [hxt]; exact fun e => hp e.symm, hp, by rw [hxt]; exact within_dot p⟩, hxt⟩, fun y hy ho => ?_⟩
    by_cases hy46 : y.text = [46]
    · rw [hy46]; exact Int.le_refl _
    · exact absurd (over_cand h hy ho hy46).1 (hno _)
  unfold aboveOf
  rw [near_uniq (near_spec l p) hs, h.val]
theorem above_none {l : List Rul} {S : List (List UInt8)} {val : List UInt8 → Int} (h : Kinds l S val) {p : List UInt8} (hno : ∀ j, ¬ candA S p j) (hd : [46] ∉ S ∨ p = [46]) : aboveOf l p = 2 := by
  have hs : NSpec l p none := by
    refine .inl ⟨rfl, fun y hy ho => ?_⟩
    by_cases hy46 : y.text = [46]
    · rcases hd with hd | hd
      · exact hd ((h.mem _).2 ⟨y, hy, ho.1, hy46⟩)
      · exact ho.2.2.1 hd
    · exact absurd (over_cand h hy ho hy46).1 (hno _)
  unfold aboveOf
  rw [near_uniq (near_spec l p) hs]
end Arb
namespace Go.Proofs.YtkohcibhefejfaaDoor.W
set_option maxRecDepth 20000
set_option linter.unusedVariables false
open Go.RowKit Go.Proofs Arb

theorem plast_any (q : List UInt8) (w : World) (hq : q.length ≤ 1000000) : Calls Tryd.prog 31 #[.string (BS q), .int .u8 47] w fun e w' => e = .returned (.int .i64 (Go.Lib.lastIndexByte (BS q) 47)) ∧ w' = w :=
  Tryd.strings_LastIndexByte (BS q) 47 (by rw [BS_size]; omega) w

set_option maxHeartbeats 8000000 in
theorem pabove_any (b n : Nat) (l : List Rul) (S : List (List UInt8)) (val : List UInt8 → Int) (p : List UInt8) (w : World) (h : KMap w b n S val) (hK : Kinds l S val) (hp : p.length ≤ 100000) :
    Calls Tryd.prog 32 #[.map (some b), .string (BS p)] w fun e w' => e = .returned (.int .i64 (aboveOf l p)) ∧ Below w.heap.size w w' := by
  have hlk : ∀ (q : List UInt8) W, q.length ≤ 1000000 → Below w.heap.size w W → (Instr.lookup 42 (.map (some b)) (.string (BS q)) true).run Tryd.prog W = .ok (.tuple #[.int .i64 (val q), .bool (decide (q ∈ S))]) W :=
    fun q W hq hb => (h.below hb).look_ok Tryd.underlying9 Tryd.underlying42 Tryd.underlying3 (zeroI10 W) _ (by unfold maxLen; omega)
  have hL := fun (q : List UInt8) W (hq : q.length ≤ 1000000) => plast_any q W hq
  have hst := AtI.start S p
  obtain ⟨d0, hd0⟩ : ∃ d, Go.Lib.lastIndexByte (BS p) 47 = d := ⟨_, rfl⟩
  have hL0 := hL p w (by omega)
  rw [hd0] at hst hL0
  obtain ⟨r, hr⟩ : ∃ r, aboveOf l p = r := ⟨_, rfl⟩
  rw [hr]
  have HLK := Go.Lib.hid hlk; have HL := Go.Lib.hid hL; have HST := Go.Lib.hid hst; have HL0 := Go.Lib.hid hL0; have HR := Go.Lib.hid hr; have HKD := Go.Lib.hid hK
  have HWI := Go.Lib.hid (fun (o : List UInt8) W (ho : o.length ≤ 100000) => nwithin_any p o W hp ho)
  clear h hlk hL hst hL0 hr hK hd0
  go_enter Tryd.func32, Tryd.ntmps32
  go_wp2_with fail
  refine HL0.out.mono ?_; rintro e w1 ⟨rfl, hw1⟩; rw [hw1]
  clear hw1 w1
  go_wp2_with fail
  go_loopw [5, 6, 7, 8, 13, 14, 15, 16, 17, 18, 19, 20, 21, 22, 23, 24, 25, 26, 27, 28, 29, 30, 31, 32, 33] (fun d _ _ _ _ _ _ _ _ _ _ _ _ _ _ _ _ _ _ _ _ _ _ _ _ wr => ∃ q : Int, d = .int .i64 q ∧ -1 ≤ q ∧ AtI S p q ∧ Below w.heap.size w wr) (fun d _ _ _ _ _ _ _ _ _ _ _ _ _ _ _ _ _ _ _ _ _ _ _ _ _ => (intOf d + 1).toNat)
  case atStart => exact ⟨d0, rfl, by rcases HST.out with ⟨h, _⟩ | ⟨i, h, _⟩ <;> omega, HST.out, Below.refl _ _⟩
  case round =>
    obtain ⟨q, rfl, hq1, hAt, hbel⟩ := hrel
    have HB := Go.Lib.hid hbel; clear hbel
    rcases hAt with ⟨rfl, hno⟩ | ⟨i, rfl, hi, hsl, hno⟩
    · have HNO := Go.Lib.hid hno; clear hno
      have hl : (Instr.lookup 42 (.map (some b)) (.string ⟨#[46]⟩) true).run Tryd.prog wr = .ok (.tuple #[.int .i64 (val [46]), .bool (decide ([46] ∈ S))]) wr := HLK.out [46] wr (by decide) HB.out
      have q1 := BS_beq p [46]
      by_cases hd : [46] ∈ S
      · by_cases hpd : p = [46]
        · have hres := above_none HKD.out HNO.out (.inr hpd)
          rw [HR.out] at hres
          subst hres
          rw [decide_eq_true hd] at hl
          rw [decide_eq_true hpd] at q1
          clear hd hpd
          go_wp2_with fail
          go_ret
          exact ⟨rfl, HB.out⟩
        · have hres := above_dot HKD.out HNO.out hd hpd
          rw [HR.out] at hres
          subst hres
          rw [decide_eq_true hd] at hl
          rw [decide_eq_false hpd] at q1
          clear hd hpd
          go_wp2_with fail
          go_ret
          exact ⟨rfl, HB.out⟩
      · have hres := above_none HKD.out HNO.out (.inl hd)
        rw [HR.out] at hres
        subst hres
        rw [decide_eq_false hd] at hl
        clear hd q1
        go_wp2_with fail
        go_ret
        exact ⟨rfl, HB.out⟩
    · have hil : (i : Int) ≤ (p.length : Int) := by omega
      have hsz : (BS p).size = p.length := BS_size p
      have hex : (BS p).extract 0 i = BS (p.take i) := by rw [BS_extract]; simp
      obtain ⟨o, ho⟩ : ∃ o, p.take i = o := ⟨_, rfl⟩
      have hol : o.length ≤ 100000 := by rw [← ho, List.length_take]; omega
      have hl := HLK.out o wr (by omega) HB.out
      have hnx := last_lt p i hi
      have hstep := fun hc => AtI.step hi hno (S := S) hc
      have hfound := fun hc => above_found HKD.out hi hno hc
      rw [ho] at hex hnx hstep hfound
      obtain ⟨d, hd⟩ : ∃ d, Go.Lib.lastIndexByte (BS o) 47 = d := ⟨_, rfl⟩
      have hLo := fun W => HL.out o W (by omega)
      rw [hd] at hLo hstep hnx
      have hcd : candA S p i ↔ (o ∈ S ∧ withinB p o = true) := by unfold candA; rw [ho]; exact ⟨fun h => h.2, fun h => ⟨hsl, h⟩⟩
      have HLO := Go.Lib.hid hLo; have HSTEP := Go.Lib.hid hstep; have HFOUND := Go.Lib.hid hfound; have HCD := Go.Lib.hid hcd; have HNX := Go.Lib.hid hnx
      clear hLo hstep hfound hcd hno hsl ho hd hnx
      have hge : (0 : Int) ≤ (i : Int) := by omega
      have hnext : ∀ W, ¬ candA S p i → Below w.heap.size w W → (∃ q : Int, Value.int .i64 d = .int .i64 q ∧ -1 ≤ q ∧ AtI S p q ∧ Below w.heap.size w W) ∧ (intOf (.int .i64 d) + 1).toNat < (intOf (.int .i64 (i : Int)) + 1).toNat :=
        fun W hc hb => ⟨⟨d, rfl, HNX.out.2, HSTEP.out hc, hb⟩, by have := HNX.out; simp only [intOf]; omega⟩
      have HN := Go.Lib.hid hnext; clear hnext
      by_cases hin : o ∈ S
      · rw [decide_eq_true hin] at hl
        have hwi := HWI.out o wr hol
        obtain ⟨b5, hb5⟩ : ∃ b, withinB p o = b := ⟨_, rfl⟩
        rw [hb5] at hwi
        have HW5 := Go.Lib.hid hwi; clear hwi
        cases b5 with
        | true =>
          have hres := HFOUND.out (HCD.out.2 ⟨hin, hb5⟩)
          rw [HR.out] at hres
          subst hres
          clear hin hb5
          go_wp2_with fail
          refine HW5.out.mono ?_; rintro e w5 ⟨rfl, hb⟩
          have HB5 := Go.Lib.hid (bstep HB.out hb); clear hb hl
          go_wp2_with fail
          go_ret
          exact ⟨rfl, HB5.out⟩
        | false =>
          have hnc : ¬ candA S p i := fun hc => by rw [(HCD.out.1 hc).2] at hb5; cases hb5
          have HNC := Go.Lib.hid hnc
          clear hin hb5 hnc
          go_wp2_with fail
          refine HW5.out.mono ?_; rintro e w5 ⟨rfl, hb⟩
          have HB5 := Go.Lib.hid (bstep HB.out hb); clear hb hl
          go_wp2_with fail
          refine (HLO.out _).mono ?_; rintro e w6 ⟨rfl, hw6⟩; rw [hw6]
          clear hw6 w6
          go_wp2_with fail
          exact HN.out _ HNC.out HB5.out
      · have hnc : ¬ candA S p i := fun hc => hin (HCD.out.1 hc).1
        rw [decide_eq_false hin] at hl
        have HNC := Go.Lib.hid hnc
        clear hin hnc
        go_wp2_with fail
        refine (HLO.out _).mono ?_; rintro e w6 ⟨rfl, hw6⟩; rw [hw6]
        clear hw6 w6
        go_wp2_with fail
        exact HN.out _ HNC.out HB.out
end Go.Proofs.YtkohcibhefejfaaDoor.W
