/- The laws of filters: GlobParses, GlobPrints, GlobMatches. -/
import Derived.Test.YthjdccocfmicdaaDoorGlobA
namespace Go.Proofs.YthjdccocfmicdaaDoor.W
set_option maxRecDepth 20000
set_option linter.unusedVariables false
open Go.RowKit Go.Proofs Arb

theorem parse_parts (t : List UInt8) : (parseOf t).1.length ≤ 16 ∧ ∀ x ∈ (parseOf t).1, x.text.length ≤ t.length := by
  unfold parseOf
  split
  · simp
  · split
    · simp
    · split
      · simp
      · split
        · simp
        · rename_i h16 _ l hl
          obtain ⟨h1, h2⟩ := rules_back _ _ hl
          have hlen : l.length = (spl 10 t.dropLast).length := by rw [← h2]; simp
          refine ⟨by show l.length ≤ 16; omega, fun x hx => ?_⟩
          have hm : lineOf x ∈ spl 10 t.dropLast := by rw [← h2]; exact List.mem_map_of_mem hx
          have h3 := part_len _ hm
          unfold lineOf at h3
          simp at h3
          omega
theorem few_texts {l : List Rul} (h : few9 l = true) : l.length ≤ 100 ∧ ∀ x ∈ l, x.text.length ≤ 1000 := by
  unfold few9 at h
  rw [Bool.and_eq_true, decide_eq_true_eq, List.all_eq_true] at h
  exact ⟨h.1, fun x hx => of_decide_eq_true (h.2 x hx)⟩

set_option maxHeartbeats 2000000 in
theorem globParses_walk (s : List UInt8) (hs : s.length ≤ 140737488351232) (w : World) :
    Calls Tryd.prog 3 #[.string (BS s)] w fun e w' => e = .returned (.bool true) ∧ Below w.heap.size w w' := by
  have hsz : (BS s).size = s.length := BS_size s
  have HA := Go.Lib.hid (fun W => awake9_any W)
  by_cases h : 10000 < s.length
  · have h' : (10000 : Int) < (s.length : Int) := by omega
    go_enter Tryd.func3, Tryd.ntmps3
    go_wp2_with fail
    refine (HA.out _).mono ?_; rintro e w2 ⟨rfl, hb⟩
    have HB := Go.Lib.hid hb; clear hb
    go_wp2_with fail
    go_ret
    exact ⟨rfl, HB.out⟩
  · have h' : ¬ (10000 : Int) < (s.length : Int) := by omega
    have hg := fun W => gparse_any s W (by omega)
    have hr := fun W => rparse_any s W (by omega)
    have hf := (parse_parts s).1
    obtain ⟨L, hL⟩ : ∃ L, (parseOf s).1 = L := ⟨_, rfl⟩
    obtain ⟨E, hE⟩ : ∃ E, (parseOf s).2 = E := ⟨_, rfl⟩
    rw [hL, hE] at hg hr
    rw [hL] at hf
    have HG := Go.Lib.hid hg; have HR := Go.Lib.hid hr
    clear hg hr hL hE
    go_enter Tryd.func3, Tryd.ntmps3
    go_wp2_with fail
    refine Calls.mono (HG.out _) ?_; rintro e w2 ⟨v, rfl, hR2, hb⟩
    have HR2 := Go.Lib.hid hR2; have HB2 := Go.Lib.hid hb; clear hb hR2
    go_wp2_with fail
    refine Calls.mono (HR.out _) ?_; rintro e w3 ⟨v3, rfl, hR3, hb⟩
    have hsm := rsame9_any v v3 L L w3 (HR2.out.below hb) hR3 (by omega) (by omega)
    rw [decide_eq_true rfl] at hsm
    have HSM := Go.Lib.hid hsm; have HB3 := Go.Lib.hid (bstep HB2.out hb); clear hb hR3 hsm
    go_wp2_with fail
    refine HSM.out.mono ?_; rintro e w4 ⟨rfl, hb⟩
    have HB4 := Go.Lib.hid (bstep HB3.out hb); clear hb
    go_wp2_with fail
    refine (HA.out _).mono ?_; rintro e w5 ⟨rfl, hb⟩
    have HB5 := Go.Lib.hid (bstep HB4.out hb); clear hb
    go_wp2_with fail
    go_ret
    exact ⟨rfl, HB5.out⟩

set_option maxHeartbeats 2000000 in
theorem globPrints_walk (A : Option Addr) (n c : Nat) (l : List Rul) (w : World) (hs : Sl w 2 A n c (l.map rlCells)) (_ : c * 24 ≤ 140737488351232) (hl : ∀ y ∈ l, rlWf y) (_ : l.length = n) :
    Calls Tryd.prog 4 #[.slice A n c] w fun e w' => e = .returned (.bool true) ∧ Below w.heap.size w w' := by
  have hR := Ruls.of_sl hs
  have hfw := fun W (h : Ruls W (.slice A n c) l) => few9_any (.slice A n c) l W h hl
  have HA := Go.Lib.hid (fun W => awake9_any W)
  obtain ⟨d, hd⟩ : ∃ d, few9 l = d := ⟨_, rfl⟩
  rw [hd] at hfw
  have HF := Go.Lib.hid hfw; have HR := Go.Lib.hid hR
  clear hfw hR hs
  cases d
  · clear hd
    go_enter Tryd.func4, Tryd.ntmps4
    go_wp2_with fail
    refine (HF.out _ HR.out).mono ?_; rintro e w1 ⟨rfl, rfl⟩
    go_wp2_with fail
    refine (HA.out _).mono ?_; rintro e w2 ⟨rfl, hb⟩
    have HB := Go.Lib.hid hb; clear hb
    go_wp2_with fail
    go_ret
    exact ⟨rfl, HB.out⟩
  · obtain ⟨h1, h2⟩ := few_texts hd
    have hg := fun W (h : Ruls W (.slice A n c) l) => gprint_any (.slice A n c) l W h (fun x hx => by have := h2 x hx; omega) (by omega)
    have hr := fun W (h : Ruls W (.slice A n c) l) => rprint_any (.slice A n c) l W h (fun x hx => by have := h2 x hx; omega)
    obtain ⟨P, hP⟩ : ∃ L, (printOf l).1 = L := ⟨_, rfl⟩
    obtain ⟨E, hE⟩ : ∃ E, (printOf l).2 = E := ⟨_, rfl⟩
    rw [hP, hE] at hg hr
    have HG := Go.Lib.hid hg; have HRR := Go.Lib.hid hr
    clear hg hr hP hE hd h1 h2 hl
    go_enter Tryd.func4, Tryd.ntmps4
    go_wp2_with fail
    refine (HF.out _ HR.out).mono ?_; rintro e w1 ⟨rfl, rfl⟩
    go_wp2_with fail
    refine (HG.out _ HR.out).mono ?_; rintro e w2 ⟨rfl, hb⟩
    have HR2 := Go.Lib.hid (HR.out.below hb); have HB2 := Go.Lib.hid hb; clear hb
    go_wp2_with fail
    refine (HRR.out _ HR2.out).mono ?_; rintro e w3 ⟨rfl, hb⟩
    have HB3 := Go.Lib.hid (bstep HB2.out hb); clear hb
    go_wp2_with fail
    refine (HA.out _).mono ?_; rintro e w4 ⟨rfl, hb⟩
    have HB4 := Go.Lib.hid (bstep HB3.out hb); clear hb
    go_wp2_with fail
    go_ret
    exact ⟨rfl, HB4.out⟩

set_option maxHeartbeats 2000000 in
theorem globMatches_walk (A : Option Addr) (n c : Nat) (l : List Rul) (w : World) (hs : Sl w 2 A n c (l.map rlCells)) (_ : c * 24 ≤ 140737488351232) (hl : ∀ y ∈ l, rlWf y) (_ : l.length = n) (p : List UInt8) (hp : p.length ≤ 140737488351232) (dir : Bool) :
    Calls Tryd.prog 7 #[.slice A n c, .string (BS p), .bool dir] w fun e w' => e = .returned (.bool true) ∧ Below w.heap.size w w' := by
  have hR := Ruls.of_sl hs
  have hsz : (BS p).size = p.length := BS_size p
  have hfw := fun W (h : Ruls W (.slice A n c) l) => few9_any (.slice A n c) l W h hl
  have HA := Go.Lib.hid (fun W => awake9_any W)
  obtain ⟨d, hd⟩ : ∃ d, few9 l = d := ⟨_, rfl⟩
  rw [hd] at hfw
  have HF := Go.Lib.hid hfw; have HR := Go.Lib.hid hR
  clear hfw hR hs
  cases d
  · clear hd
    go_enter Tryd.func7, Tryd.ntmps7
    go_wp2_with fail
    refine (HF.out _ HR.out).mono ?_; rintro e w1 ⟨rfl, rfl⟩
    go_wp2_with fail
    refine (HA.out _).mono ?_; rintro e w2 ⟨rfl, hb⟩
    have HB := Go.Lib.hid hb; clear hb
    go_wp2_with fail
    go_ret
    exact ⟨rfl, HB.out⟩
  · obtain ⟨h1, h2⟩ := few_texts hd
    by_cases h : 1000 < p.length
    · have h' : decide ((1000 : Int) < (p.length : Int)) = true := decide_eq_true (by omega)
      clear hd h1 h2 hl
      go_enter Tryd.func7, Tryd.ntmps7
      go_wp2_with fail
      refine (HF.out _ HR.out).mono ?_; rintro e w1 ⟨rfl, rfl⟩
      go_wp2_with fail
      refine (HA.out _).mono ?_; rintro e w2 ⟨rfl, hb⟩
      have HB := Go.Lib.hid hb; clear hb
      go_wp2_with fail
      go_ret
      exact ⟨rfl, HB.out⟩
    · have h' : decide ((1000 : Int) < (p.length : Int)) = false := decide_eq_false (by omega)
      have hg := fun W (k : Ruls W (.slice A n c) l) => gmatch_any (.slice A n c) l p dir W k (fun x hx => by have := h2 x hx; omega) (by omega) (by omega)
      have hr := fun W (k : Ruls W (.slice A n c) l) => rmatch_any (.slice A n c) l p dir W k (fun x hx => by have := h2 x hx; omega) (by omega) (by omega)
      obtain ⟨M, hM⟩ : ∃ L, matchOf l p dir = L := ⟨_, rfl⟩
      rw [hM] at hg hr
      have HG := Go.Lib.hid hg; have HRR := Go.Lib.hid hr
      clear hg hr hM hd h1 h2 hl
      cases M
      all_goals (
        go_enter Tryd.func7, Tryd.ntmps7
        go_wp2_with fail
        refine (HF.out _ HR.out).mono ?_; rintro e w1 ⟨rfl, rfl⟩
        go_wp2_with fail
        refine (HG.out _ HR.out).mono ?_; rintro e w2 ⟨rfl, hb⟩
        have HR2 := Go.Lib.hid (HR.out.below hb); have HB2 := Go.Lib.hid hb; clear hb
        go_wp2_with fail
        refine (HRR.out _ HR2.out).mono ?_; rintro e w3 ⟨rfl, hb⟩
        have HB3 := Go.Lib.hid (bstep HB2.out hb); clear hb
        go_wp2_with fail
        refine (HA.out _).mono ?_; rintro e w4 ⟨rfl, hb⟩
        have HB4 := Go.Lib.hid (bstep HB3.out hb); clear hb
        go_wp2_with fail
        go_ret
        exact ⟨rfl, HB4.out⟩)
end Go.Proofs.YthjdccocfmicdaaDoor.W
