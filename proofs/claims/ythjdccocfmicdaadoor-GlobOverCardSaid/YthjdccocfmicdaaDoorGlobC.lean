/- The laws of filters: GlobOver. -/
import Derived.Test.YthjdccocfmicdaaDoorGlobB
namespace Go.Proofs.YthjdccocfmicdaaDoor.W
set_option maxRecDepth 20000
set_option linter.unusedVariables false
open Go.RowKit Go.Proofs Arb

set_option maxHeartbeats 4000000 in
theorem globOver_walk (a : List UInt8) (ha : a.length ≤ 140737488351232) (b : List UInt8) (hb : b.length ≤ 140737488351232) (c : List UInt8) (hc : c.length ≤ 140737488351232) (w : World) :
    Calls Tryd.prog 10 #[.string (BS a), .string (BS b), .string (BS c)] w fun e w' => e = .returned (.bool true) ∧ Below w.heap.size w w' := by
  have hs1 : (BS a).size = a.length := BS_size a
  have hs2 : (BS b).size = b.length := BS_size b
  have hs3 : (BS c).size = c.length := BS_size c
  have HA := Go.Lib.hid (fun W => awake9_any W)
  have HB := Go.Lib.hid (Below.refl w.heap.size w)
  by_cases h : 1000 < a.length
  · have h' : decide ((1000 : Int) < (a.length : Int)) = true := decide_eq_true (by omega)
    go_enter Tryd.func10, Tryd.ntmps10
    go_wp2_with fail
    iterate 2 (first
      | (go_ret; exact ⟨rfl, HB.out⟩)
      | (with_reducible refine (HA.out _).mono ?_; rintro e w' ⟨rfl, hb⟩; have HB := Go.Lib.hid (bstep HB.out hb); clear hb; go_wp2_with fail))
  have h' : decide ((1000 : Int) < (a.length : Int)) = false := decide_eq_false (by omega)
  by_cases k : 1000 < b.length
  · have k' : decide ((1000 : Int) < (b.length : Int)) = true := decide_eq_true (by omega)
    go_enter Tryd.func10, Tryd.ntmps10
    go_wp2_with fail
    iterate 2 (first
      | (go_ret; exact ⟨rfl, HB.out⟩)
      | (with_reducible refine (HA.out _).mono ?_; rintro e w' ⟨rfl, hb⟩; have HB := Go.Lib.hid (bstep HB.out hb); clear hb; go_wp2_with fail))
  have k' : decide ((1000 : Int) < (b.length : Int)) = false := decide_eq_false (by omega)
  by_cases m : 1000 < c.length
  · have m' : decide ((1000 : Int) < (c.length : Int)) = true := decide_eq_true (by omega)
    go_enter Tryd.func10, Tryd.ntmps10
    go_wp2_with fail
    iterate 2 (first
      | (go_ret; exact ⟨rfl, HB.out⟩)
      | (with_reducible refine (HA.out _).mono ?_; rintro e w' ⟨rfl, hb⟩; have HB := Go.Lib.hid (bstep HB.out hb); clear hb; go_wp2_with fail))
  have m' : decide ((1000 : Int) < (c.length : Int)) = false := decide_eq_false (by omega)
  have q := BS_beq b [46]
  by_cases hd : b = [46]
  · rw [decide_eq_true hd] at q
    clear hd
    go_enter Tryd.func10, Tryd.ntmps10
    go_wp2_with fail
    iterate 2 (first
      | (go_ret; exact ⟨rfl, HB.out⟩)
      | (with_reducible refine (HA.out _).mono ?_; rintro e w' ⟨rfl, hb⟩; have HB := Go.Lib.hid (bstep HB.out hb); clear hb; go_wp2_with fail))
  rw [decide_eq_false hd] at q
  have g1 := fun W => gwithin_any a b W (by omega) (by omega)
  have g2 := fun W => gwithin_any b c W (by omega) (by omega)
  have g3 := fun W => gwithin_any a c W (by omega) (by omega)
  have g4 := fun W => gwithin_any a a W (by omega) (by omega)
  have g5 := fun W => gwithin_any a [46] W (by omega) (by decide)
  have g6 := fun W => gwithin_any (a ++ 47 :: b) a W (by simp; omega) (by omega)
  have g7 := fun W => gpath_any a W (by omega)
  have g8 := fun W => gpath_any b W (by omega)
  rw [within_refl] at g4
  rw [within_dot] at g5
  replace g5 : ∀ W, Calls Tryd.prog 20 #[.string (BS a), .string { data := #[46] }] W (fun e w' => e = .returned (.bool true) ∧ Below W.heap.size W w') := g5
  have htr := fun (x : withinB a b = true) (y : withinB b c = true) => within_trans hd x y
  have hbl := fun (x : pathOk b = true) => within_below (a := a) x
  obtain ⟨d1, e1⟩ : ∃ d, withinB a b = d := ⟨_, rfl⟩
  obtain ⟨d2, e2⟩ : ∃ d, withinB b c = d := ⟨_, rfl⟩
  obtain ⟨d3, e3⟩ : ∃ d, withinB a c = d := ⟨_, rfl⟩
  obtain ⟨d6, e6⟩ : ∃ d, withinB (a ++ 47 :: b) a = d := ⟨_, rfl⟩
  obtain ⟨d7, e7⟩ : ∃ d, pathOk a = d := ⟨_, rfl⟩
  obtain ⟨d8, e8⟩ : ∃ d, pathOk b = d := ⟨_, rfl⟩
  rw [e1, e2, e3] at htr
  rw [e8, e6] at hbl
  rw [e1] at g1
  rw [e2] at g2
  rw [e3] at g3
  rw [e6] at g6
  rw [e7] at g7
  rw [e8] at g8
  have c1 : BS a ++ ({ data := #[47] } : ByteArray) = BS (a ++ [47]) := bs_append a [47]
  have c2 : BS (a ++ [47]) ++ BS b = BS (a ++ 47 :: b) := (bs_append _ _).trans (by simp)
  obtain ⟨Q, hQ⟩ : ∃ Q, a ++ [47] = Q := ⟨_, rfl⟩
  rw [hQ] at c1 c2
  have hql : Q.length = a.length + 1 := by rw [← hQ]; simp
  have z1 : (BS Q).size = Q.length := BS_size Q
  have b1 : ¬ 9223372036854775807 < a.length + 1 := by omega
  have b2 : ¬ 9223372036854775807 < Q.length + b.length := by omega
  obtain ⟨QQ, hQQ⟩ : ∃ Q, a ++ 47 :: b = Q := ⟨_, rfl⟩
  rw [hQQ] at c2 g6
  have W1 := Go.Lib.hid g1; have W2 := Go.Lib.hid g2; have W3 := Go.Lib.hid g3; have W4 := Go.Lib.hid g4; have W5 := Go.Lib.hid g5; have W6 := Go.Lib.hid g6; have P1 := Go.Lib.hid g7; have P2 := Go.Lib.hid g8
  clear g1 g2 g3 g4 g5 g6 g7 g8 e1 e2 e3 e6 e7 e8 hQ hQQ hql hd
  have hcase : (d1 = false ∨ d2 = false ∨ d3 = true) := by
    cases d1
    · exact .inl rfl
    · cases d2
      · exact .inr (.inl rfl)
      · exact .inr (.inr (htr rfl rfl))
  have hcase2 : d8 = false ∨ d6 = true := by
    cases d8
    · exact .inl rfl
    · exact .inr (hbl rfl)
  clear htr hbl
  cases d1 <;> cases d2 <;> cases d3 <;> first | (exfalso; (rcases hcase with h | h | h <;> cases h); done) | skip
  all_goals clear hcase
  all_goals cases d7 <;> cases d8 <;> cases d6 <;> first | (exfalso; (rcases hcase2 with h | h <;> cases h); done) | skip
  all_goals clear hcase2
  all_goals (
    go_enter Tryd.func10, Tryd.ntmps10
    go_wp2_with fail
    repeat (first
      | (go_ret; exact ⟨rfl, HB.out⟩)
      | (with_reducible refine (W1.out _).mono ?_; rintro e w' ⟨rfl, hb⟩; have HB := Go.Lib.hid (bstep HB.out hb); clear hb; go_wp2_with fail)
      | (with_reducible refine (W2.out _).mono ?_; rintro e w' ⟨rfl, hb⟩; have HB := Go.Lib.hid (bstep HB.out hb); clear hb; go_wp2_with fail)
      | (with_reducible refine (W3.out _).mono ?_; rintro e w' ⟨rfl, hb⟩; have HB := Go.Lib.hid (bstep HB.out hb); clear hb; go_wp2_with fail)
      | (with_reducible refine (W4.out _).mono ?_; rintro e w' ⟨rfl, hb⟩; have HB := Go.Lib.hid (bstep HB.out hb); clear hb; go_wp2_with fail)
      | (with_reducible refine (W5.out _).mono ?_; rintro e w' ⟨rfl, hb⟩; have HB := Go.Lib.hid (bstep HB.out hb); clear hb; go_wp2_with fail)
      | (with_reducible refine (W6.out _).mono ?_; rintro e w' ⟨rfl, hb⟩; have HB := Go.Lib.hid (bstep HB.out hb); clear hb; go_wp2_with fail)
      | (with_reducible refine (P1.out _).mono ?_; rintro e w' ⟨rfl, hb⟩; have HB := Go.Lib.hid (bstep HB.out hb); clear hb; go_wp2_with fail)
      | (with_reducible refine (P2.out _).mono ?_; rintro e w' ⟨rfl, hb⟩; have HB := Go.Lib.hid (bstep HB.out hb); clear hb; go_wp2_with fail)
      | (with_reducible refine (HA.out _).mono ?_; rintro e w' ⟨rfl, hb⟩; have HB := Go.Lib.hid (bstep HB.out hb); clear hb; go_wp2_with fail)))
end Go.Proofs.YthjdccocfmicdaaDoor.W
