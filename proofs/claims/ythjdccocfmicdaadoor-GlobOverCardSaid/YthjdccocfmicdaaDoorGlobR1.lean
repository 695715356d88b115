/- The reference of filters: Path, Within, word, long. -/
import Derived.Test.YthjdccocfmicdaaDoorGlobR
namespace Go.Proofs.YthjdccocfmicdaaDoor.W
set_option maxRecDepth 20000
set_option linter.unusedVariables false
open Go.RowKit Go.Proofs Arb

theorem bs_eq (a b : List UInt8) : ((BS a).toList == (BS b).toList) = decide (a = b) := by
  rw [Go.Lib.toList_data, Go.Lib.toList_data, BS_list, BS_list]
  by_cases h : a = b
  · subst h; simp
  · simp [h]
theorem part_len {c : UInt8} : ∀ {l : List UInt8}, ∀ x ∈ spl c l, x.length ≤ l.length
  | [], x, h => by simp [spl] at h; subst h; simp
  | b :: l, x, h => by
    unfold spl at h
    split at h
    · rcases List.mem_cons.1 h with rfl | h
      · simp
      · have := part_len x h; simp; omega
    · rcases h' : spl c l with _ | ⟨h1, t⟩
      · exact absurd h' (spl_ne c l)
      · rw [h'] at h
        rcases List.mem_cons.1 h with rfl | h
        · have := part_len (l := l) h1 (by rw [h']; exact List.mem_cons_self ..)
          simp; omega
        · have := part_len (l := l) x (by rw [h']; exact List.mem_cons_of_mem _ h)
          simp; omega
theorem right_zero (l : List UInt8) : (nmRight l == 0) = nmOk l := by
  unfold nmRight
  cases nmOk l <;> rfl
theorem right_ne (l : List UInt8) : (nmRight l != 0) = !nmOk l := by
  unfold nmRight
  cases nmOk l <;> rfl

set_option maxHeartbeats 4000000 in
theorem rpath_any (s : List UInt8) (w : World) (hl : s.length ≤ 100000) :
    Calls Tryd.prog 19 #[.string (BS s)] w fun e w' => e = .returned (.bool (pathOk s)) ∧ Below w.heap.size w w' := by
  have hsp := rsplit_any 47 s w hl
  have hpl : ∀ x ∈ spl 47 s, x.length ≤ s.length := fun x hx => part_len x hx
  have hr : pathOk s = (decide ((spl 47 s).length ≤ 16) && (spl 47 s).all nmOk) := rfl
  obtain ⟨L, hL⟩ : ∃ L, spl 47 s = L := ⟨_, rfl⟩
  rw [hL] at hsp hpl hr
  obtain ⟨r, hr0⟩ : ∃ r, pathOk s = r := ⟨_, rfl⟩
  rw [hr0] at hr
  rw [hr0]
  have HSP := Go.Lib.hid hsp; have HPL := Go.Lib.hid hpl; have HR := Go.Lib.hid hr
  clear hsp hpl hr hL hr0
  go_enter Tryd.func19, Tryd.ntmps19
  go_wp2_with fail
  refine HSP.out.mono ?_; rintro e w1 ⟨v, rfl, hT, hb1⟩
  have hT' := hT
  obtain ⟨A, n, c, rfl, hn, hc, -⟩ := hT'
  have HT := Go.Lib.hid hT; have HB1 := Go.Lib.hid hb1; have HN := Go.Lib.hid hn
  clear hT hb1 hn
  by_cases h16 : n ≤ 16
  · have h16' : ¬ ((16 : Int) < (n : Int)) := by omega
    have hra : L.all nmOk = r := by rw [HR.out, HN.out, decide_eq_true h16, Bool.true_and]
    have HR := Go.Lib.hid hra; clear hra
    go_wp2_with fail
    go_loopw [4, 10, 11, 12, 13, 14, 15, 16, 17, 18, 19, 20, 21] (fun i _ _ _ _ _ _ _ _ _ _ _ _ wr => ∃ k : Nat, k ≤ n ∧ i = .int .i64 (k : Int) ∧ (∀ x ∈ L.take k, nmOk x = true) ∧ wr = w1) (fun i _ _ _ _ _ _ _ _ _ _ _ _ _ => n - (intOf i).toNat)
    case atStart => exact ⟨0, by omega, rfl, by simp, rfl⟩
    case round =>
      obtain ⟨k, hk, rfl, hall, rfl⟩ := hrel
      by_cases hkn : k < n
      · have hki : (k : Int) < (n : Int) := by omega
        obtain ⟨g, o, x, rfl, hx, hcell⟩ := HT.out.at k hkn
        have hxm := List.mem_of_getElem? hx
        have hrn := rnright_any x wr (by have := HPL.out x hxm; omega)
        have hq := right_ne x
        cases hok : nmOk x with
        | true =>
          rw [hok] at hq
          have hnext : ∀ y ∈ L.take (k + 1), nmOk y = true := fun y hy => by
            rw [List.take_add_one, hx] at hy
            rcases List.mem_append.1 hy with hy | hy
            · exact hall y hy
            · simp at hy; rw [hy]; exact hok
          obtain ⟨z, hz⟩ : ∃ z, nmRight x = z := ⟨_, rfl⟩
          rw [hz] at hq hrn
          have HRN := Go.Lib.hid hrn; have HNX := Go.Lib.hid hnext
          clear hrn hnext hall hx hxm hz hok
          go_wp2_with fail
          refine HRN.out.mono ?_; rintro e _ ⟨rfl, rfl⟩
          go_wp2_with fail
          exact ⟨⟨k + 1, by omega, by simp, HNX.out, (by first | trivial | rfl)⟩, by simp [intOf]; omega⟩
        | false =>
          rw [hok] at hq
          have hres : r = false := by
            rw [← HR.out, List.all_eq_false]
            exact ⟨x, hxm, by rw [hok]; simp⟩
          subst hres
          obtain ⟨z, hz⟩ : ∃ z, nmRight x = z := ⟨_, rfl⟩
          rw [hz] at hq hrn
          have HRN := Go.Lib.hid hrn
          clear hrn hall hx hxm hz hok
          go_wp2_with fail
          refine HRN.out.mono ?_; rintro e _ ⟨rfl, rfl⟩
          go_wp2_with fail
          go_ret
          exact ⟨rfl, HB1.out⟩
      · obtain rfl : k = n := by omega
        have hres : r = true := by
          rw [← HR.out, List.all_eq_true]
          intro y hy
          refine hall y ?_
          rwa [List.take_of_length_le (by have := HN.out; omega)]
        subst hres
        clear hall
        go_wp2_with fail
        go_ret
        exact ⟨rfl, HB1.out⟩
  · have h16' : (16 : Int) < (n : Int) := by omega
    have hra : r = false := by rw [HR.out, HN.out, decide_eq_false h16, Bool.false_and]
    subst hra
    go_wp2_with fail
    go_ret
    exact ⟨rfl, HB1.out⟩

set_option maxHeartbeats 2000000 in
theorem rwithin_any (p o : List UInt8) (w : World) (hp : p.length ≤ 100000) (ho : o.length ≤ 100000) :
    Calls Tryd.prog 21 #[.string (BS p), .string (BS o)] w fun e w' => e = .returned (.bool (withinB p o)) ∧ Below w.heap.size w w' := by
  have hsp : (BS p).size = p.length := BS_size p
  have hso : (BS o).size = o.length := BS_size o
  have q1 := BS_beq o [46]
  have q2 := bs_eq p o
  have hr : withinB p o = (decide (o = [46]) || decide (p = o) || (decide (o.length + 1 < p.length) && decide (p.take o.length = o) && decide (p[o.length]? = some 47))) := rfl
  obtain ⟨r, hr2⟩ : ∃ r, withinB p o = r := ⟨_, rfl⟩
  rw [hr2] at hr
  rw [hr2]
  have hex : (BS p).extract 0 o.length = BS (p.take o.length) := by rw [BS_extract]; simp
  have q4 := bs_eq (p.take o.length) o
  obtain ⟨t, ht⟩ : ∃ t, p.take o.length = t := ⟨_, rfl⟩
  rw [ht] at hex q4 hr
  clear ht hr2
  obtain ⟨d1, hd1⟩ : ∃ d, decide (o = [46]) = d := ⟨_, rfl⟩
  obtain ⟨d2, hd2⟩ : ∃ d, decide (p = o) = d := ⟨_, rfl⟩
  obtain ⟨d4, hd4⟩ : ∃ d, decide (t = o) = d := ⟨_, rfl⟩
  rw [hd1] at q1 hr
  rw [hd2] at q2 hr
  rw [hd4] at q4 hr
  clear hd1 hd2 hd4
  by_cases h3 : o.length + 1 < p.length
  · have h3' : (o.length : Int) + 1 < (p.length : Int) := by omega
    have hlt : o.length < (BS p).size := by omega
    have hlt' : (o.length : Int) < (p.length : Int) := by omega
    have hle' : (o.length : Int) ≤ (p.length : Int) := by omega
    rw [decide_eq_true h3, Bool.true_and, List.getElem?_eq_getElem (show o.length < p.length by omega)] at hr
    obtain ⟨d5, hd5⟩ : ∃ d, decide (some (p[o.length]'(by omega)) = some (47 : UInt8)) = d := ⟨_, rfl⟩
    rw [hd5] at hr
    have q5 : ((((BS p)[o.length]'hlt).toNat : Int) == 47) = d5 := by
      rw [BS_get, ← hd5]
      by_cases h : p[o.length]'(by omega) = 47
      · rw [h]; rfl
      · rw [decide_eq_false (by simpa using h), beq_eq_false_iff_ne]
        intro e
        exact h (UInt8.toNat_inj.1 (by show (p[o.length]'(by omega)).toNat = 47; omega))
    have w1 : IntKind.i64.wrap ((o.length : Int) + 1) = (o.length : Int) + 1 := by rw [IntKind.wrap_i64]; omega
    clear hd5
    subst hr
    cases d1 <;> cases d2 <;> cases d4 <;> cases d5 <;> (
      go_enter Tryd.func21, Tryd.ntmps21
      go_wp2_with fail
      go_ret
      exact ⟨rfl, Below.refl _ _⟩)
  · have h3' : ¬ ((o.length : Int) + 1 < (p.length : Int)) := by omega
    have w1 : IntKind.i64.wrap ((o.length : Int) + 1) = (o.length : Int) + 1 := by rw [IntKind.wrap_i64]; omega
    rw [decide_eq_false h3, Bool.false_and, Bool.false_and, Bool.or_false] at hr
    subst hr
    cases d1 <;> cases d2 <;> (
      go_enter Tryd.func21, Tryd.ntmps21
      go_wp2_with fail
      go_ret
      exact ⟨rfl, Below.refl _ _⟩)

theorem rword_any (k : Int) (w : World) : Calls Tryd.prog 29 #[.int .i64 k] w fun e w' => e = .returned (.string (BS (wordOf k))) ∧ Below w.heap.size w w' := by
  by_cases h1 : k = 1
  · subst h1
    go_enter Tryd.func29, Tryd.ntmps29
    go_wp2_with fail
    go_ret
    exact ⟨rfl, Below.refl _ _⟩
  · have hb1 : (k == 1) = false := by simpa using h1
    by_cases h2 : k = 2
    · subst h2
      go_enter Tryd.func29, Tryd.ntmps29
      go_wp2_with fail
      go_ret
      exact ⟨rfl, Below.refl _ _⟩
    · have hb2 : (k == 2) = false := by simpa using h2
      have hw : wordOf k = [116, 121, 112, 101, 32] := by unfold wordOf; rw [if_neg h1, if_neg h2]
      rw [hw]
      clear h1 h2 hw
      go_enter Tryd.func29, Tryd.ntmps29
      go_wp2_with fail
      go_ret
      exact ⟨rfl, Below.refl _ _⟩
theorem rlong_any (s : List UInt8) (w : World) (hl : s.length ≤ 140737488351232) : Calls Tryd.prog 39 #[.string (BS s)] w fun e w' => e = .returned (.int .i64 (longOf s)) ∧ Below w.heap.size w w' := by
  have hsz : (BS s).size = s.length := BS_size s
  have q1 := BS_beq s [46]
  by_cases h : s = [46]
  · rw [decide_eq_true h] at q1
    have hw : longOf s = -1 := by unfold longOf; rw [if_pos h]
    rw [hw]
    clear h hw
    go_enter Tryd.func39, Tryd.ntmps39
    go_wp2_with fail
    go_ret
    exact ⟨rfl, Below.refl _ _⟩
  · rw [decide_eq_false h] at q1
    have hw : longOf s = s.length := by unfold longOf; rw [if_neg h]
    rw [hw]
    clear h hw
    go_enter Tryd.func39, Tryd.ntmps39
    go_wp2_with fail
    go_ret
    exact ⟨rfl, Below.refl _ _⟩
end Go.Proofs.YthjdccocfmicdaaDoor.W
