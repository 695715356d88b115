/- The program's forms: the kinds at the places of rules, in a map. -/
import Derived.Test.YtkohcibhefejfaaDoorNormPW
import Derived.Test.YtkohcibhefejfaaDoorNums
namespace Arb
set_option maxRecDepth 20000
set_option linter.unusedVariables false
theorem kind_snoc (l : List Rul) (x : Rul) (p : List UInt8) : kindAt (l ++ [x]) p = kindStep p (kindAt l p) x := by
  unfold kindAt
  rw [List.foldl_append]
  rfl
/-- What a map of kinds has: the places of the rules, and each one's kind. -/
structure Kinds (l : List Rul) (S : List (List UInt8)) (val : List UInt8 → Int) : Prop where
  val : ∀ p, val p = kindAt l p
  mem : ∀ p, p ∈ S ↔ ∃ x ∈ l, isPl x ∧ x.text = p
theorem Kinds.start : Kinds [] [] (fun _ => 0) := ⟨fun _ => rfl, fun p => by simp⟩
theorem Kinds.put {l : List Rul} {S : List (List UInt8)} {val : List UInt8 → Int} (h : Kinds l S val) (x : Rul) (hx : x.kind = 2 ∨ (x.kind = 1 ∧ val x.text ≠ 2)) : Kinds (l ++ [x]) (S ++ [x.text]) (setVal val x.text x.kind) := by
  constructor
  · intro p
    rw [kind_snoc]
    unfold setVal kindStep
    rw [h.val] at hx
    by_cases hp : p = x.text
    · subst hp
      rw [if_pos rfl]
      rcases hx with hx | ⟨h1, h2⟩
      · rw [if_pos ⟨rfl, .inl hx⟩]
      · by_cases h0 : kindAt l x.text = 0
        · rw [if_pos ⟨rfl, .inr ⟨h1, h0⟩⟩]
        · rw [if_neg (by rintro ⟨-, h3 | ⟨-, h3⟩⟩ <;> omega)]
          rcases kind_spec l x.text with ⟨h3, _⟩ | ⟨h3, _⟩ | ⟨h3, _⟩ <;> omega
    · rw [if_neg hp, if_neg (by rintro ⟨h3, -⟩; exact hp h3.symm), h.val]
  · intro p
    rw [List.mem_append, h.mem]
    have hpl : isPl x := by
      rcases hx with hx | ⟨hx, _⟩
      · exact .inr hx
      · exact .inl hx
    constructor
    · rintro (⟨y, hy, h1⟩ | h1)
      · exact ⟨y, List.mem_append_left _ hy, h1⟩
      · exact ⟨x, by simp, hpl, (by simpa using h1 : p = x.text).symm⟩
    · rintro ⟨y, hy, h1, h2⟩
      rcases List.mem_append.1 hy with hy | hy
      · exact .inl ⟨y, hy, h1, h2⟩
      · simp at hy; rw [hy] at h2; exact .inr (by simp [h2])
theorem Kinds.keep {l : List Rul} {S : List (List UInt8)} {val : List UInt8 → Int} (h : Kinds l S val) (x : Rul) (h2 : x.kind ≠ 2) (h1 : x.kind = 1 → val x.text = 2) : Kinds (l ++ [x]) S val := by
  constructor
  · intro p
    rw [kind_snoc, h.val]
    unfold kindStep
    by_cases hp : x.text = p
    · subst hp
      rw [if_neg]
      rintro ⟨-, h3 | ⟨h3, h4⟩⟩
      · exact h2 h3
      · have := h1 h3; rw [h.val] at this; omega
    · rw [if_neg (by rintro ⟨h3, -⟩; exact hp h3)]
  · intro p
    rw [h.mem]
    constructor
    · rintro ⟨y, hy, h3⟩
      exact ⟨y, List.mem_append_left _ hy, h3⟩
    · rintro ⟨y, hy, h3, h4⟩
      rcases List.mem_append.1 hy with hy | hy
      · exact ⟨y, hy, h3, h4⟩
      · simp at hy
        subst hy
        rcases h3 with h3 | h3
        · have := h1 h3
          rw [h.val] at this
          rcases kind_spec l y.text with ⟨_, z, hz, h5, h6⟩ | ⟨h5, _⟩ | ⟨h5, _⟩
          · exact ⟨z, hz, .inr h6, h5.trans h4⟩
          · omega
          · omega
        · exact absurd h3 h2
theorem Kinds.range {l : List Rul} {S : List (List UInt8)} {val : List UInt8 → Int} (h : Kinds l S val) (p : List UInt8) : val p = 0 ∨ val p = 1 ∨ val p = 2 := by
  rw [h.val]
  rcases kind_spec l p with ⟨h3, _⟩ | ⟨h3, _⟩ | ⟨h3, _⟩ <;> omega
end Arb
namespace Go.Proofs.YtkohcibhefejfaaDoor.W
set_option maxRecDepth 20000
set_option linter.unusedVariables false
open Go.RowKit Go.Proofs Arb

theorem zeroI10 (w : World) : (zeroValue 3).run Tryd.prog w = .ok (.int .i64 0) w := Tryd.zeroValue3 w
abbrev KMap (w : World) (b n : Nat) (S : List (List UInt8)) (val : List UInt8 → Int) : Prop := NumsIs w Tryd.prog 9 3 b n S val

set_option maxHeartbeats 8000000 in
theorem pkinds_any (v : Value) (l : List Rul) (w : World) (h : Ruls w v l) (ht : ∀ x ∈ l, x.text.length ≤ 100000) (hn : l.length ≤ 1000000) :
    Calls Tryd.prog 20 #[v] w fun e w' => ∃ b S val, e = .returned (.map (some b)) ∧ KMap w' b l.length S val ∧ Kinds l S val ∧ w.heap.size ≤ b ∧ Below w.heap.size w w' := by
  obtain ⟨A, n, c, rfl, hln, hc, -⟩ := id h
  have HL := Go.Lib.hid h; have HN := Go.Lib.hid hln; have HT := Go.Lib.hid ht
  rw [hln] at hn
  have hgoal : ∀ b S val W, KMap W b n S val ∧ Kinds l S val ∧ w.heap.size ≤ b ∧ Below w.heap.size w W → ∃ b' S val, Ending.returned (.map (some b)) = Ending.returned (.map (some b')) ∧ KMap W b' l.length S val ∧ Kinds l S val ∧ w.heap.size ≤ b' ∧ Below w.heap.size w W :=
    fun b S val W ⟨h1, h2⟩ => ⟨b, S, val, rfl, by rw [HN.out]; exact h1, h2⟩
  have HG := Go.Lib.hid hgoal
  clear h hln ht hgoal
  have hmm := @run_makeMap Tryd.prog
  go_enter Tryd.func20, Tryd.ntmps20
  go_wp2_with fail
  clear hmm
  go_loopw [5, 9, 10, 11, 12, 13, 14, 15, 16, 17, 18, 19, 20, 21, 22, 23, 24, 25, 26, 27, 28, 29, 30, 31, 32, 33] (fun _ i _ _ _ _ _ _ _ _ _ _ _ _ _ _ _ _ _ _ _ _ _ _ _ _ wr => ∃ (k : Nat) (S : List (List UInt8)) (val : List UInt8 → Int), k ≤ n ∧ i = .int .i64 (k : Int) ∧ KMap wr w.heap.size k S val ∧ Kinds (l.take k) S val ∧ Below w.heap.size w wr) (fun _ i _ _ _ _ _ _ _ _ _ _ _ _ _ _ _ _ _ _ _ _ _ _ _ _ _ => n - (intOf i).toNat)
  case atStart => exact ⟨0, [], fun _ => 0, by omega, rfl, NumsIs.made w _ _ _, Kinds.start, (Below.refl _ _).alloc (Nat.le_refl _) _⟩
  case round =>
    obtain ⟨k, S, val, hkn, rfl, hm, hK, hbel⟩ := hrel
    have HM := Go.Lib.hid hm; have HKD := Go.Lib.hid hK; have HB := Go.Lib.hid hbel
    clear hm hK hbel
    by_cases hlt : k < n
    · have hki : (k : Int) < (n : Int) := by omega
      obtain ⟨g, o, x, rfl, hx, hx1⟩ := (HL.out.below HB.out).at k hlt
      have htk : l.take (k + 1) = l.take k ++ [x] := by rw [List.take_add_one, hx]; rfl
      have hxl := HT.out x (List.mem_of_getElem? hx)
      obtain ⟨p0, p1⟩ := rl_cells hx1
      have hb1 : Below w.heap.size w (wr.alloc (.cells #[.int .i64 x.kind, .string (BS x.text)] 29)) := HB.out.alloc HB.out.size _
      have hm1 : KMap (wr.alloc (.cells #[.int .i64 x.kind, .string (BS x.text)] 29)) w.heap.size k S val := HM.out.below ((Below.refl _ _).alloc (Nat.le_refl _) _)
      have hl := hm1.look Tryd.underlying9 Tryd.underlying42 Tryd.underlying3 (zeroI10 _) x.text (by unfold maxLen; omega)
      have HM1 := Go.Lib.hid hm1; have HB1 := Go.Lib.hid hb1; have HTK := Go.Lib.hid htk
      have hfin : ∀ S' val' W, KMap W w.heap.size (k + 1) S' val' → Kinds (l.take k ++ [x]) S' val' → Below w.heap.size w W → ∃ (j : Nat) (S : List (List UInt8)) (val : List UInt8 → Int), j ≤ n ∧ Value.int .i64 ((k : Int) + 1) = .int .i64 (j : Int) ∧ KMap W w.heap.size j S val ∧ Kinds (l.take j) S val ∧ Below w.heap.size w W :=
        fun S' val' W h1 h2 h3 => ⟨k + 1, S', val', by omega, by simp, h1, by rw [HTK.out]; exact h2, h3⟩
      have HF := Go.Lib.hid hfin
      clear hx hx1 htk hm1 hb1 hfin
      by_cases h2 : x.kind = 2
      · have hq2 : (x.kind == 2) = true := by simpa using h2
        have hput := HKD.out.put x (.inl h2)
        have HP := Go.Lib.hid hput
        have HXK := Go.Lib.hid (show (Lit.int .i64 x.kind).wf = true by rw [h2]; decide)
        clear hput h2 hl
        go_wp2_with (at_mapUpdate; refine wpList_nums_put HM1.out Tryd.underlying9 Tryd.underlying42 Tryd.underlying3 rfl _ _ _ rfl rfl (by unfold maxLen; omega) x.text (by unfold maxLen; omega) x.kind HXK.out rfl rfl ?_
                     intro w3 hN3 hg3
                     have HN3 := Go.Lib.hid hN3; have HG3 := Go.Lib.hid (HB1.out.grown hg3 HB1.out.size (fun k e => by cases e; exact Nat.le_refl _)); clear hN3 hg3)
        exact ⟨HF.out _ _ _ HN3.out HP.out HG3.out, by simp [intOf]; omega⟩
      · have hq2 : (x.kind == 2) = false := by simpa using h2
        by_cases h1 : x.kind = 1
        · have hq1 : (x.kind == 1) = true := by simpa using h1
          by_cases h3 : val x.text = 2
          · have hq3 : (val x.text != 2) = false := by simpa using h3
            have hput := HKD.out.keep x h2 (fun _ => h3)
            have HP := Go.Lib.hid hput
            clear hput h1 h2 h3
            go_wp2_with fail
            exact ⟨HF.out _ _ _ (HM1.out.mono (Nat.le_succ k)) HP.out HB1.out, by simp [intOf]; omega⟩
          · have hq3 : (val x.text != 2) = true := by simpa using h3
            have hput := HKD.out.put x (.inr ⟨h1, h3⟩)
            have HP := Go.Lib.hid hput
            have HXK := Go.Lib.hid (show (Lit.int .i64 x.kind).wf = true by rw [h1]; decide)
            clear hput h1 h2 h3
            go_wp2_with (at_mapUpdate; refine wpList_nums_put HM1.out Tryd.underlying9 Tryd.underlying42 Tryd.underlying3 rfl _ _ _ rfl rfl (by unfold maxLen; omega) x.text (by unfold maxLen; omega) x.kind HXK.out rfl rfl ?_
                         intro w3 hN3 hg3
                         have HN3 := Go.Lib.hid hN3; have HG3 := Go.Lib.hid (HB1.out.grown hg3 HB1.out.size (fun k e => by cases e; exact Nat.le_refl _)); clear hN3 hg3)
            exact ⟨HF.out _ _ _ HN3.out HP.out HG3.out, by simp [intOf]; omega⟩
        · have hq1 : (x.kind == 1) = false := by simpa using h1
          have hput := HKD.out.keep x h2 (fun h => absurd h h1)
          have HP := Go.Lib.hid hput
          clear hput h1 h2 hl
          go_wp2_with fail
          exact ⟨HF.out _ _ _ (HM1.out.mono (Nat.le_succ k)) HP.out HB1.out, by simp [intOf]; omega⟩
    · obtain rfl : k = n := by omega
      have hK := HKD.out
      rw [List.take_of_length_le (by have := HN.out; omega)] at hK
      have hfin := HG.out _ _ _ _ ⟨HM.out, hK, Nat.le_refl _, HB.out⟩
      have HF := Go.Lib.hid hfin
      clear hK hfin
      go_wp2_with fail
      go_ret
      exact HF.out
end Go.Proofs.YtkohcibhefejfaaDoor.W
