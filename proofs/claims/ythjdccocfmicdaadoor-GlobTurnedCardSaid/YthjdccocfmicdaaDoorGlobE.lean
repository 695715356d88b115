/- The laws of filters: GlobTurned. -/
import Derived.Test.YthjdccocfmicdaaDoorGlobB
import Derived.Test.YthjdccocfmicdaaDoorGlobE0
namespace Go.Proofs.YthjdccocfmicdaaDoor.W
set_option maxRecDepth 20000
set_option linter.unusedVariables false
open Go.RowKit Go.Proofs Arb

set_option maxHeartbeats 8000000 in
theorem globTurned_walk (A : Option Addr) (n c : Nat) (l : List Rul) (w : World) (hs : Sl w 2 A n c (l.map rlCells)) (_ : c * 24 ≤ 140737488351232) (hl : ∀ y ∈ l, rlWf y) (hln : l.length = n) (p : List UInt8) (hp : p.length ≤ 140737488351232) :
    Calls Tryd.prog 9 #[.slice A n c, .string (BS p)] w fun e w' => e = .returned (.bool true) ∧ Below w.heap.size w w' := by
  have hR := Ruls.of_sl hs
  have hnc := hs.2.1
  have hsz : (BS p).size = p.length := BS_size p
  have hfw := fun W (h : Ruls W (.slice A n c) l) => few9_any (.slice A n c) l W h hl
  have HA := Go.Lib.hid (fun W => awake9_any W)
  have HB := Go.Lib.hid (Below.refl w.heap.size w)
  obtain ⟨d, hd⟩ : ∃ d, few9 l = d := ⟨_, rfl⟩
  rw [hd] at hfw
  have HF := Go.Lib.hid hfw; have HR := Go.Lib.hid hR
  clear hfw hR hs
  cases d
  · clear hd
    go_enter Tryd.func9, Tryd.ntmps9
    go_wp2_with fail
    refine (HF.out _ HR.out).mono ?_; rintro e w1 ⟨rfl, rfl⟩
    go_wp2_with fail
    refine (HA.out _).mono ?_; rintro e w2 ⟨rfl, hb⟩
    have HB := Go.Lib.hid hb; clear hb
    go_wp2_with fail
    go_ret
    exact ⟨rfl, HB.out⟩
  obtain ⟨h1, h2⟩ := few_texts hd
  by_cases h : 1000 < p.length
  · have h' : decide ((1000 : Int) < (p.length : Int)) = true := decide_eq_true (by omega)
    clear hd h1 h2 hl
    go_enter Tryd.func9, Tryd.ntmps9
    go_wp2_with fail
    refine (HF.out _ HR.out).mono ?_; rintro e w1 ⟨rfl, rfl⟩
    go_wp2_with fail
    refine (HA.out _).mono ?_; rintro e w2 ⟨rfl, hb⟩
    have HB := Go.Lib.hid hb; clear hb
    go_wp2_with fail
    go_ret
    exact ⟨rfl, HB.out⟩
  have h' : decide ((1000 : Int) < (p.length : Int)) = false := decide_eq_false (by omega)
  by_cases h0 : n = 0
  · subst h0
    clear hd h1 h2 hl
    go_enter Tryd.func9, Tryd.ntmps9
    go_wp2_with fail
    refine (HF.out _ HR.out).mono ?_; rintro e w1 ⟨rfl, rfl⟩
    go_wp2_with fail
    refine (HA.out _).mono ?_; rintro e w2 ⟨rfl, hb⟩
    have HB := Go.Lib.hid hb; clear hb
    go_wp2_with fail
    go_ret
    exact ⟨rfl, HB.out⟩
  have h0' : ((n : Int) == 0) = false := by simpa using h0
  obtain ⟨r0, hr0⟩ : ∃ r, p.length % n = r := ⟨_, rfl⟩
  have hrl : r0 < n := by rw [← hr0]; exact Nat.mod_lt _ (by omega)
  have hmod : Int.tmod (p.length : Int) (n : Int) = (r0 : Int) := by rw [← hr0]; rfl
  have hri : (r0 : Int) ≤ (n : Int) := by omega
  obtain ⟨g, o, x0, rfl, -, -⟩ := HR.out.at 0 (by omega)
  obtain ⟨L2, hL2⟩ : ∃ L, l.drop r0 ++ l.take r0 = L := ⟨_, rfl⟩
  have hL2n : (l.drop r0).length + r0 = n := by rw [List.length_drop]; omega
  have hset : ∀ z, z ∈ l ↔ z ∈ L2 ++ (l.drop 0).reverse := fun z => by
    rw [← hL2]
    constructor
    · intro hz; simp [hz]
    · intro hz
      rcases List.mem_append.1 hz with hz | hz
      · rcases List.mem_append.1 hz with hz | hz
        · exact List.mem_of_mem_drop hz
        · exact List.mem_of_mem_take hz
      · simpa using hz
  have hL2l : L2.length = n := by rw [← hL2, List.length_append, List.length_drop, List.length_take]; omega
  have hmt := match_set hset p true
  have hmf := match_set hset p false
  have hlt : ∀ x ∈ l, x.text.length ≤ 100000 := fun x hx => by have := h2 x hx; omega
  have g1 := fun dir W (k : Ruls W (.slice (some ⟨g, o, none⟩) n c) l) => gmatch_any _ l p dir W k hlt (by omega) (by omega)
  have g2 := fun dir v W (k : Ruls W v (L2 ++ (l.drop 0).reverse)) => gmatch_any v _ p dir W k (fun x hx => hlt x ((hset x).2 hx)) (by rw [List.length_append, List.length_reverse, List.length_drop]; omega) (by omega)
  have g1t := g1 true
  have g1f := g1 false
  have g2t := g2 true
  have g2f := g2 false
  rw [← hmt] at g2t
  rw [← hmf] at g2f
  obtain ⟨mt, hmt1⟩ : ∃ m, matchOf l p true = m := ⟨_, rfl⟩
  obtain ⟨mf, hmf1⟩ : ∃ m, matchOf l p false = m := ⟨_, rfl⟩
  rw [hmt1] at g1t g2t
  rw [hmf1] at g1f g2f
  have G1T := Go.Lib.hid g1t; have G1F := Go.Lib.hid g1f; have G2T := Go.Lib.hid g2t; have G2F := Go.Lib.hid g2f
  have HL2 := Go.Lib.hid hL2; have HLN := Go.Lib.hid hln; have HL2L := Go.Lib.hid hL2l
  have hnn : n ≤ 100 := by omega
  have hw1 : IntKind.i64.wrap ((n : Int) - 1) = (n : Int) - 1 := by rw [IntKind.wrap_i64]; omega
  clear g1 g2 g1t g1f g2t g2f hmt hmf hset hlt hmt1 hmf1 hd h1 h2 hl hL2 hr0 hln hL2l hL2n
  go_enter Tryd.func9, Tryd.ntmps9
  go_wp2_with fail
  refine (HF.out _ HR.out).mono ?_; rintro e w1 ⟨rfl, rfl⟩
  go_wp2_with (first
    | (at_builtin; refine wpList_append_rls rfl (.tmp 27) (.tmp 30) rfl w1.heap.size (.slice none 0 0) 0 [] rfl (Row.nil _ _ _ _) (.slice (some ⟨g, o + r0 * 2, none⟩) (n - r0) (c - r0)) (n - r0) (l.drop r0) rfl (HR.out.rdDrop r0 (by omega) _ (fun _ => rfl) _ rfl _) (by omega) (by omega) (Nat.le_refl _) ?_; intro v2 w2 hr2 hb2; rw [Nat.zero_add, List.nil_append] at hr2; obtain ⟨A2, c2, rfl⟩ := row_form hr2; have HR2 := Go.Lib.hid hr2; have HB2 := Go.Lib.hid hb2; clear hr2 hb2)
    | (at_builtin; refine wpList_append_rls rfl (.tmp 32) (.tmp 35) rfl w1.heap.size (.slice A2 (n - r0) c2) (n - r0) (l.drop r0) rfl HR2.out (.slice (some ⟨g, o, none⟩) r0 c) r0 (l.take r0) rfl ((HR.out.below HB2.out).rdTake r0 (by omega)) (by omega) (by omega) HB2.out.size ?_; intro v3 w3 hr3 hb3; rw [HL2.out, show n - r0 + r0 = n by omega] at hr3; obtain ⟨A3, c3, rfl⟩ := row_form hr3; have HR3 := Go.Lib.hid hr3; have HB3 := Go.Lib.hid (HB2.out.trans hb3); clear hr3 hb3))
  go_loopw [6, 7, 40, 41, 42, 43, 44, 45, 46, 47, 48, 49, 50] (fun vo i _ _ _ _ _ _ _ _ _ _ _ wr => ∃ q : Nat, q ≤ n ∧ i = .int .i64 ((q : Int) - 1) ∧ Row wr w1.heap.size 37 2 vo (n + (n - q)) (rlsCells (L2 ++ (l.drop q).reverse)) ∧ Below w1.heap.size w1 wr) (fun _ i _ _ _ _ _ _ _ _ _ _ _ _ => (intOf i + 1).toNat)
  case atStart => exact ⟨n, Nat.le_refl _, rfl, by rw [Nat.sub_self, Nat.add_zero, List.drop_of_length_le (by have := HLN.out; omega)]; simpa using HR3.out, HB3.out⟩
  case round =>
    obtain ⟨q, hq, rfl, hrow, hb⟩ := hrel
    by_cases hq0 : 0 < q
    · obtain ⟨j, rfl⟩ : ∃ j, q = j + 1 := ⟨q - 1, by omega⟩
      have hj : ((j + 1 : Nat) : Int) - 1 = (j : Int) := by omega
      rw [hj]
      have hji : (j : Int) < (n : Int) := by omega
      obtain ⟨g3, o3, x, he, hx, hx0⟩ := (HR.out.below hb).at j (by omega)
      injection he with he
      injection he with he1 he2
      subst he1; subst he2
      obtain ⟨p0, p1⟩ := rl_cells hx0
      have hw2 : IntKind.i64.wrap ((j : Int) - 1) = (j : Int) - 1 := by rw [IntKind.wrap_i64]; omega
      have hnx : L2 ++ (l.drop (j + 1)).reverse ++ [x] = L2 ++ (l.drop j).reverse := by
        obtain ⟨hlt, he⟩ := List.getElem?_eq_some_iff.1 hx
        rw [List.drop_eq_getElem_cons hlt, he]
        simp
      have HNX := Go.Lib.hid hnx; have HROW := Go.Lib.hid hrow; have HBB := Go.Lib.hid hb
      clear hx hx0 hnx hrow hb
      go_wp2_with (at_builtin; refine wpList_append_rl rfl (.tmp 44) (.tmp 49) rfl w1.heap.size u6 (n + (n - (j + 1))) (L2 ++ (l.drop (j + 1)).reverse) rfl HROW.out x _ rfl rfl (by omega) HBB.out.size ?_; intro v4 w4 hr4 hb4; rw [HNX.out, show n + (n - (j + 1)) + 1 = n + (n - j) by omega] at hr4; have HR4 := Go.Lib.hid hr4; have HB4 := Go.Lib.hid (HBB.out.trans hb4); clear hr4 hb4)
      exact ⟨⟨j, by omega, by simp, HR4.out, HB4.out⟩, by simp [intOf]⟩
    · obtain rfl : q = 0 := by omega
      have HM := Go.Lib.hid (Ruls.of_row hrow)
      have HBB := Go.Lib.hid hb
      obtain ⟨A5, c5, rfl⟩ := row_form hrow
      clear hrow hb
      cases mt
      all_goals cases mf
      all_goals (
        go_wp2_with fail
        refine (G1T.out _ (HR.out.below HBB.out)).mono ?_; rintro e w5 ⟨rfl, hb⟩
        have HM5 := Go.Lib.hid (HM.out.below hb); have HB5 := Go.Lib.hid (bstep HBB.out hb); clear hb
        go_wp2_with fail
        refine (G2T.out _ _ HM5.out).mono ?_; rintro e w6 ⟨rfl, hb⟩
        have HM6 := Go.Lib.hid (HM5.out.below hb); have HB6 := Go.Lib.hid (bstep HB5.out hb); clear hb
        go_wp2_with fail
        refine (G1F.out _ (HR.out.below HB6.out)).mono ?_; rintro e w7 ⟨rfl, hb⟩
        have HM7 := Go.Lib.hid (HM6.out.below hb); have HB7 := Go.Lib.hid (bstep HB6.out hb); clear hb
        go_wp2_with fail
        refine (G2F.out _ _ HM7.out).mono ?_; rintro e w8 ⟨rfl, hb⟩
        have HB8 := Go.Lib.hid (bstep HB7.out hb); clear hb
        go_wp2_with fail
        refine (HA.out _).mono ?_; rintro e w9 ⟨rfl, hb⟩
        have HB9 := Go.Lib.hid (bstep HB8.out hb); clear hb
        go_wp2_with fail
        go_ret
        exact ⟨rfl, HB9.out⟩)
end Go.Proofs.YthjdccocfmicdaaDoor.W
