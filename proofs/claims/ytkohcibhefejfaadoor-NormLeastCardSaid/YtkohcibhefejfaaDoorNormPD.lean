/- The program's forms: the rules at the places that another kind stands above (turns). -/
import Derived.Test.YtkohcibhefejfaaDoorNormPC
import Derived.Test.YtkohcibhefejfaaDoorNormPS
import Derived.Maps.RangeWalk
import Derived.StringKeys
namespace Arb
set_option maxRecDepth 20000
set_option linter.unusedVariables false
open Go Go.Maps Go.WideMaps
theorem nodup_le : ∀ {C m : List (List UInt8)}, C.Nodup → (∀ x ∈ C, x ∈ m) → C.length ≤ m.length
  | [], _, _, _ => by simp
  | c :: C, m, hn, hs => by
    obtain ⟨h1, h2⟩ := List.nodup_cons.1 hn
    have hc := hs c (by simp)
    have ih := nodup_le (C := C) (m := m.erase c) h2 fun x hx => (List.mem_erase_of_ne (by rintro rfl; exact h1 hx)).2 (hs x (List.mem_cons_of_mem _ hx))
    have := List.length_erase_of_mem hc
    have hp := List.length_pos_of_mem hc
    rw [List.length_cons]
    omega
/-- Of a map's texts, C have come; those that 'left' says are still to come. -/
structure Gone (S C : List (List UInt8)) (left : Lit → Bool) : Prop where
  sub : ∀ t, left (.string t) = true → t ∈ S
  nd : C.Nodup
  all : ∀ t ∈ S, t ∈ C ∨ left (.string t) = true
  come : ∀ t ∈ C, t ∈ S ∧ left (.string t) = false
theorem Gone.start {S : List (List UInt8)} {left : Lit → Bool} (h : ∀ t, left (.string t) = decide (t ∈ S)) : Gone S [] left :=
  ⟨fun t ht => by rw [h] at ht; simpa using ht, List.nodup_nil, fun t ht => .inr (by rw [h]; simpa using ht), fun t ht => by cases ht⟩
theorem same_self (t : List UInt8) : (Lit.string t).sameKey (.string t) = true := by simp [Lit.sameKey]
theorem same_text {t u : List UInt8} (h : u ≠ t) : (Lit.string u).sameKey (.string t) = false := sameKey_ne (by intro e; cases e; exact h rfl)
theorem Gone.step {S C : List (List UInt8)} {left : Lit → Bool} (h : Gone S C left) {t : List UInt8} (ht : left (.string t) = true) : t ∈ S ∧ Gone S (C ++ [t]) (fun z => left z && !z.sameKey (.string t)) := by
  have hS := h.sub t ht
  have hC : t ∉ C := fun hc => by have := (h.come t hc).2; rw [ht] at this; cases this
  refine ⟨hS, fun u hu => h.sub u (by rw [Bool.and_eq_true] at hu; exact hu.1), ?_, fun u hu => ?_, fun u hu => ?_⟩
  · rw [List.nodup_append]
    refine ⟨h.nd, by simp, fun a ha b hb => ?_⟩
    simp at hb
    subst hb
    rintro rfl
    exact hC ha
  · by_cases e : u = t
    · subst e; exact .inl (by simp)
    · rcases h.all u hu with h1 | h1
      · exact .inl (List.mem_append_left _ h1)
      · exact .inr (by rw [h1, same_text e]; rfl)
  · rcases List.mem_append.1 hu with h1 | h1
    · obtain ⟨h2, h3⟩ := h.come u h1
      exact ⟨h2, by rw [h3]; rfl⟩
    · simp at h1
      subst h1
      exact ⟨hS, by rw [same_self]; simp⟩
theorem Gone.done {S C : List (List UInt8)} {left : Lit → Bool} (h : Gone S C left) (h0 : ∀ kl, left kl = false) (t : List UInt8) : t ∈ C ↔ t ∈ S := by
  constructor
  · exact fun ht => (h.come t ht).1
  · intro ht
    rcases h.all t ht with h1 | h1
    · exact h1
    · rw [h0] at h1; cases h1
/-- The rules of the form at these places. -/
def pickOf (l : List Rul) (C : List (List UInt8)) : List Rul := (C.filter fun t => decide (kindAt l t ≠ aboveOf l t)).map fun t => ⟨kindAt l t, t⟩
theorem pick_len (l : List Rul) (C : List (List UInt8)) : (pickOf l C).length ≤ C.length := by
  unfold pickOf
  rw [List.length_map]
  exact List.length_filter_le _ _
theorem pick_snoc (l : List Rul) (C : List (List UInt8)) (t : List UInt8) : pickOf l (C ++ [t]) = if kindAt l t = aboveOf l t then pickOf l C else pickOf l C ++ [⟨kindAt l t, t⟩] := by
  unfold pickOf
  rw [List.filter_append, List.map_append]
  split
  · rename_i h; simp [h]
  · rename_i h; simp [h]
end Arb
namespace Go.Proofs.YtkohcibhefejfaaDoor.W
set_option maxRecDepth 20000
set_option linter.unusedVariables false
open Go.RowKit Go.Proofs Arb Go.Maps Go.WideMaps

/-- 'append(s, x)' of one rule, with the block that turns. -/
theorem wpList_append_rl_g {ops : Array Oper} {rest : List Oper} {o : Oper} {a : Act} {w : World} {Q : Exit → Act → World → Prop} (hgd : o.guard = none) (s x : Operand)
    (ho : o.op = .call { callee := .builtin .append, args := #[s, x], argTypes := #[22, 22] })
    (base : Nat) (v : Value) (n : Nat) (l : List Rul) (hs : a.eval s = v) (hown : Row w base 29 2 v n (rlsCells l))
    (y : Rul) (cs : Array Value) (hcs : cs = rlArr y) (hx : a.eval x = .slice (some ⟨w.heap.size, 0, none⟩) 1 1)
    (h63 : n ≤ 1000000) (hbase : base ≤ w.heap.size)
    (h : ∀ v' w', Row w' base 29 2 v' (n + 1) (rlsCells (l ++ [y])) → Below base w w' → (w.alloc (.cells cs 29)).grownBy w' v.ownBlock → (∀ k, v'.ownBlock = some k → v.ownBlock = some k ∨ w.heap.size ≤ k) → wpList Tryd.prog ops Q rest (a.put o.dst v') w') :
    wpList Tryd.prog ops Q (o :: rest) a (w.alloc (.cells cs 29)) := by
  subst hcs
  obtain ⟨i0, hi, hz0, hz1, hz2⟩ := info_parts info_rl
  refine wpList_append_row hgd s x 22 ho base 29 i0 _ 2 24 Tryd.underlying22 hi hz0 hz1 hz2 rfl (by decide) v n _ hs (hown.alloc _) _ 1 (rlsCells [y]) hx ?_ (rls_oneCell _) (by unfold maxLen; omega) (by omega) (by simp; omega) ?_
  · have := Rd.new w (rlArr y) 29 1 1 2 rfl
    rw [rlsCells_one]
    simpa [rlArr] using this
  · intro v' w' hr hg hv
    refine h v' w' (by rw [rlsCells_append]; exact hr) (((Below.refl base w).alloc hbase _).grown hg (by simp; omega) fun k hk => (hown.lt k hk).1) hg fun k hk => ?_
    rcases hv with hv | hv
    · exact .inl (hv.symm.trans hk)
    · rw [hv] at hk
      injection hk with hk
      simp at hk
      exact .inr (by omega)

/-- Where a round of the loop stands. -/
structure Picks (w wr : World) (b r n : Nat) (D : DataW Unit) (S : List (List UInt8)) (l : List Rul) (C : List (List UInt8)) (left : Lit → Bool) (cnt : Nat) (vo : Value) : Prop where
  rng : wr.ranges Tryd.prog 9 (plainElem Tryd.prog 3) b r n D left cnt
  gone : Gone S C left
  row : Row wr w.heap.size 29 2 vo (pickOf l C).length (rlsCells (pickOf l C))
  ne : ∀ k, vo.ownBlock = some k → k ≠ r
  below : Below w.heap.size w wr
  map : b < w.heap.size
  far : w.heap.size ≤ r
/-- The map's step has turned its iterator alone. -/
theorem Picks.step {w wr w3 : World} {b r n cnt : Nat} {D : DataW Unit} {S C : List (List UInt8)} {l : List Rul} {left : Lit → Bool} {vo : Value} (h : Picks w wr b r n D S l C left cnt vo) (hg : wr.grownBy w3 (some r)) :
    Row w3 w.heap.size 29 2 vo (pickOf l C).length (rlsCells (pickOf l C)) ∧ Below w.heap.size w w3 :=
  ⟨h.row.kept hg (by
    rcases hv : vo.ownBlock with _ | k
    · exact .inl rfl
    · exact .inr fun e => h.ne k hv (Option.some.inj e)), h.below.grown hg h.below.size fun k e => by cases e; exact h.far⟩
theorem grown_of_below {w w' : World} (h : Below w.heap.size w w') (r : Option Nat) : w.grownBy w' r := ⟨h.os, h.tape, h.output, h.size, fun k hk _ => h.block k hk⟩
/-- A place has come whose kind stands above it, too. -/
theorem Picks.pass {w w3 w5 : World} {b r n cnt3 : Nat} {D : DataW Unit} {S C : List (List UInt8)} {l : List Rul} {left' : Lit → Bool} {vo : Value} {t : List UInt8} (hrg : w3.ranges Tryd.prog 9 (plainElem Tryd.prog 3) b r n D left' cnt3) (hb5 : Below w3.heap.size w3 w5)
    (hgone : Gone S (C ++ [t]) left') (heq : kindAt l t = aboveOf l t) (hrow : Row w3 w.heap.size 29 2 vo (pickOf l C).length (rlsCells (pickOf l C))) (hne : ∀ k, vo.ownBlock = some k → k ≠ r) (hbel : Below w.heap.size w w3) (hmb : b < w.heap.size) (hfar : w.heap.size ≤ r) :
    Picks w w5 b r n D S l (C ++ [t]) left' cnt3 vo := by
  refine ⟨hrg.kept (grown_of_below hb5 none) (by simp) (by simp), hgone, ?_, hne, bstep hbel hb5, hmb, hfar⟩
  rw [pick_snoc, if_pos heq]
  exact hrow.below hb5
/-- A rule has been laid behind the others. -/
theorem Picks.next {w w3 w5 w6 : World} {b r n cnt3 : Nat} {D : DataW Unit} {S C : List (List UInt8)} {l : List Rul} {left' : Lit → Bool} {vo v6 : Value} {t : List UInt8} {o : Obj} (hrg : w3.ranges Tryd.prog 9 (plainElem Tryd.prog 3) b r n D left' cnt3) (hb5 : Below w3.heap.size w3 w5)
    (hg6 : (w5.alloc o).grownBy w6 vo.ownBlock) (hv6 : ∀ k, v6.ownBlock = some k → vo.ownBlock = some k ∨ w5.heap.size ≤ k)
    (hgone : Gone S (C ++ [t]) left') (heq : kindAt l t ≠ aboveOf l t) (hrow : Row w6 w.heap.size 29 2 v6 ((pickOf l C).length + 1) (rlsCells (pickOf l C ++ [⟨kindAt l t, t⟩])))
    (hne : ∀ k, vo.ownBlock = some k → w.heap.size ≤ k ∧ k ≠ r) (hbel : Below w.heap.size w w6) (hmb : b < w.heap.size) (hfar : w.heap.size ≤ r) :
    Picks w w6 b r n D S l (C ++ [t]) left' cnt3 v6 := by
  have r5 := hrg.kept (grown_of_below hb5 none) (by simp) (by simp)
  have hr5 := r5.lt
  refine ⟨(r5.alloc o).kept hg6 (fun e => ?_) (fun e => ?_), hgone, ?_, fun k hk => ?_, hbel, hmb, hfar⟩
  · have := (hne b e.symm).1; omega
  · exact (hne r e.symm).2 rfl
  · rw [pick_snoc, if_neg heq, List.length_append]
    exact hrow
  · rcases hv6 k hk with h | h
    · exact (hne k h).2
    · omega

set_option maxHeartbeats 8000000 in
theorem pturns_any (b n : Nat) (l : List Rul) (S : List (List UInt8)) (val : List UInt8 → Int) (w : World) (h : KMap w b n S val) (hK : Kinds l S val) (ht : ∀ x ∈ l, x.text.length ≤ 100000) (hn : l.length ≤ 100000) :
    Calls Tryd.prog 19 #[.map (some b)] w fun e w' => ∃ v, e = .returned v ∧ Row w' w.heap.size 29 2 v (formP l).length (rlsCells (formP l)) ∧ Below w.heap.size w w' := by
  obtain ⟨D, hown, hD, hat, hhas⟩ := id h
  have hmb := h.lt
  have hall : ∀ t ∈ S, t.length ≤ 100000 := fun t hS => by
    obtain ⟨x, hx, _, rfl⟩ := (hK.mem t).1 hS
    exact ht x hx
  have hfit : ∀ C, C.Nodup → (∀ t ∈ C, t ∈ S) → (pickOf l C).length ≤ 100000 := fun C hC hs => by
    have h1 := pick_len l C
    have h2 := nodup_le (m := l.map (·.text)) hC fun t ht => by
      obtain ⟨x, hx, _, rfl⟩ := (hK.mem t).1 (hs t ht)
      exact List.mem_map.2 ⟨x, hx, rfl⟩
    rw [List.length_map] at h2
    omega
  have hab := fun (t : List UInt8) W (hW : Below w.heap.size w W) (hS : t ∈ S) => pabove_any b n l S val t W (h.below hW) hK (hall t hS)
  have hfr := fun (t : List UInt8) W (hS : t ∈ S) => pfresh_any (kindAt l t) t W (by have := hall t hS; omega)
  have hso := fun v C W (hr : Row W w.heap.size 29 2 v (pickOf l C).length (rlsCells (pickOf l C))) (hl : (pickOf l C).length ≤ 100000) (hb : w.heap.size ≤ W.heap.size) => psort_rls w.heap.size v (pickOf l C) W hr (by omega) hb
  have HOWN := Go.Lib.hid hown; have HAT := Go.Lib.hid hat; have HHAS := Go.Lib.hid hhas; have HFIT := Go.Lib.hid hfit; have HAB := Go.Lib.hid hab; have HFR := Go.Lib.hid hfr; have HSO := Go.Lib.hid hso; have HKD := Go.Lib.hid hK
  clear h hown hD hat hhas hall hfit hab hfr hso hK ht
  go_enter Tryd.func19, Tryd.ntmps19
  go_wp2_with (at_range; refine wpList_range_own _ rfl _ 42 rfl 9 3 (string_keyed Tryd.underlying9) Tryd.underlying42 (plainElem Tryd.prog 3) b n D rfl HOWN.out ?_; intro w2 hrg2 hg2 hs2; have hb2 : Below w.heap.size w w2 := (Below.refl _ _).grown hg2 (Nat.le_refl _) (fun _ e => by cases e)); go_frame
  have hst : Picks w w2 b w.heap.size n D S l [] (Maps.has D) (Maps.size D) (.slice none 0 0) :=
    ⟨hrg2, Gone.start HHAS.out, Row.nil _ _ _ _, fun k hk => by simp [Value.ownBlock] at hk, hb2, hmb, Nat.le_refl _⟩
  have HST := Go.Lib.hid hst
  clear hst hrg2 hg2 hs2 hb2
  go_loopw [3, 4, 5, 8, 9, 10, 11, 12, 13, 14, 15, 16, 17, 18, 19, 20, 21, 22, 23] (fun vo _ _ _ _ _ _ _ _ _ _ _ _ _ _ _ _ _ _ wr => ∃ left cnt C, Picks w wr b w.heap.size n D S l C left cnt vo) (fun _ _ _ _ _ _ _ _ _ _ _ _ _ _ _ _ _ _ _ wr => wr.rangeLeft b w.heap.size)
  case atStart => exact ⟨_, _, _, HST.out⟩
  case round =>
    obtain ⟨left, cnt, C, hR⟩ := hrel
    obtain ⟨A, cc, rfl⟩ := row_form hR.row
    have HR := Go.Lib.hid hR
    clear hR
    go_wp2_with (at_next; refine wpList_next_ranges _ rfl (.tmp 7) rfl 9 (string_keyed Tryd.underlying9) (plainElem Tryd.prog 3) (fun t : List UInt8 => Value.string (BS t)) (Value.int .i64) (fun key kl hk => by obtain ⟨s, rfl, -, -⟩ := string_of_keyOf Tryd.underlying9 hk; exact ⟨s.data.toList, by rw [BS_data]⟩) (fun v y hv => by obtain ⟨c, rfl, _⟩ := plainElem_int_inv Tryd.underlying3 hv; exact ⟨c, rfl⟩) b w.heap.size n D left cnt rfl HR.out.rng ?_ ?_)
    · intro hc0 hl0
      have hdone := HR.out.gone.done hl0
      have hfit := HFIT.out C HR.out.gone.nd fun t ht => (hdone t).1 ht
      have hso := HSO.out _ C wr HR.out.row hfit HR.out.below.size
      have hnd := HR.out.gone.nd
      have HDN := Go.Lib.hid hdone; have HS := Go.Lib.hid hso; have HND := Go.Lib.hid hnd
      clear hc0 hl0 hdone hso hnd
      go_wp2_with fail
      refine HS.out.mono ?_; rintro e w5 ⟨rfl, R, hp, hs, hr5, hb5⟩
      have hT : ∀ t, t ∈ C ↔ t ∈ placesOf l := fun t => by rw [HDN.out t, HKD.out.mem t, place_mem]
      obtain rfl : R = formP l := formP_eq HND.out hT hp hs
      have hlen : (pickOf l C).length = (formP l).length := hp.length_eq.symm
      have hfin : ∃ v, Ending.returned (.slice A (pickOf l C).length cc) = Ending.returned v ∧ Row w5 w.heap.size 29 2 v (formP l).length (rlsCells (formP l)) ∧ Below w.heap.size w w5 := ⟨_, rfl, hr5, HR.out.below.trans hb5⟩
      have HF := Go.Lib.hid hfin
      clear hp hs hr5 hb5 hT hlen hfin
      go_wp2_with fail
      go_ret
      exact HF.out
    · intro t c kl y1 y2 w3 cnt3 hkey hlk hrn hat3 hrg3 hlt3 hg3 hs3 hen
      obtain ⟨s, e1, e2, -⟩ := string_of_keyOf Tryd.underlying9 hkey
      obtain rfl : BS t = s := by injection e1
      rw [BS_list] at e2
      subst e2
      obtain ⟨c', e3, e4, -⟩ := plainElem_int_inv Tryd.underlying3 hrn
      obtain rfl : c = c' := by injection e3
      obtain ⟨htS, hgone⟩ := HR.out.gone.step hlk
      have hcv : c = kindAt l t := by
        have h1 := hat3 (.lit (.int .i64 0))
        rw [HAT.out t, (Prod.mk.inj e4).1] at h1
        simp only [DataW.lit.injEq, Lit.int.injEq, true_and] at h1
        rw [← h1]
        exact HKD.out.val t
      subst hcv
      obtain ⟨hrow3, hbel3⟩ := HR.out.step hg3
      have ha := HAB.out t w3 hbel3 htS
      have hfr := fun W => HFR.out t W htS
      have hfitC : (pickOf l C).length ≤ 1000000 := by have := HFIT.out C HR.out.gone.nd fun t ht => (HR.out.gone.come t ht).1; omega
      have hmeas : ∀ W vo C', Picks w W b w.heap.size n D S l C' (fun z => left z && !z.sameKey (.string t)) cnt3 vo → (∃ left cnt C, Picks w W b w.heap.size n D S l C left cnt vo) ∧ W.rangeLeft b w.heap.size < wr.rangeLeft b w.heap.size := fun W vo C' hP => ⟨⟨_, _, _, hP⟩, by rw [hP.rng.left_eq, HR.out.rng.left_eq]; exact hlt3⟩
      obtain ⟨k, hk⟩ : ∃ k, kindAt l t = k := ⟨_, rfl⟩
      obtain ⟨q, hq⟩ : ∃ q, aboveOf l t = q := ⟨_, rfl⟩
      rw [hq] at ha
      rw [hk] at hfr hen
      have HA := Go.Lib.hid ha; have HF := Go.Lib.hid hfr; have HRG := Go.Lib.hid hrg3; have HGO := Go.Lib.hid hgone; have HRW := Go.Lib.hid hrow3; have HBL := Go.Lib.hid hbel3; have HM := Go.Lib.hid hmeas; have HK := Go.Lib.hid hk; have HQ := Go.Lib.hid hq
      rw [hk]
      clear hkey hlk hrn hat3 hrg3 hlt3 hg3 hs3 e1 e3 e4 htS hgone hrow3 hbel3 ha hfr hmeas hk hq
      by_cases heq : k = q
      · have hb1 : (k != q) = false := by simpa using heq
        have HEQ := Go.Lib.hid heq
        clear heq
        go_wp2_with fail
        refine HA.out.mono ?_; rintro e w5 ⟨rfl, hb5⟩
        have hP := Picks.pass HRG.out hb5 HGO.out (by rw [HK.out, HQ.out]; exact HEQ.out) HRW.out HR.out.ne HBL.out HR.out.map HR.out.far
        have HP := Go.Lib.hid hP
        clear hP hb5 hen
        go_wp2_with fail
        exact HM.out _ _ _ HP.out
      · have hb1 : (k != q) = true := by simpa using heq
        have HEQ := Go.Lib.hid heq
        clear heq
        go_wp2_with fail
        refine HA.out.mono ?_; rintro e w5 ⟨rfl, hb5⟩
        have HB5 := Go.Lib.hid hb5
        clear hb5 hen
        go_wp2_with fail
        refine (HF.out _).mono ?_; rintro e w6 ⟨rfl, hb6⟩
        have hb56 := bstep HB5.out hb6
        have hr6 := HRW.out.below hb56
        have hbl6 := bstep HBL.out hb56
        have HB6 := Go.Lib.hid hb56; have HR6 := Go.Lib.hid hr6; have HL6 := Go.Lib.hid hbl6
        clear hb6 hb56 hr6 hbl6
        go_wp2_with (at_builtin; refine wpList_append_rl_g rfl (.tmp 18) (.tmp 22) rfl w.heap.size (.slice A (pickOf l C).length cc) (pickOf l C).length (pickOf l C) rfl HR6.out ⟨k, t⟩ _ rfl rfl hfitC HL6.out.size ?_; intro v7 w7 hr7 hb7 hg7 hv7)
        have hP := Picks.next HRG.out HB6.out hg7 hv7 HGO.out (by rw [HK.out, HQ.out]; exact HEQ.out) (by rw [HK.out]; exact hr7) (fun k hk => ⟨(HR.out.row.lt k hk).1, HR.out.ne k hk⟩) (HL6.out.trans hb7) HR.out.map HR.out.far
        exact HM.out _ _ _ hP
end Go.Proofs.YtkohcibhefejfaaDoor.W
