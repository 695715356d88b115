/- The reference of filters: Split, Path, Within, word, long. -/
import Derived.Test.YthjdccocfmicdaaDoorGlobT
import Derived.Test.YthjdccocfmicdaaDoorNamesR
import Derived.Test.YthjdccocfmicdaaDoorCalm
namespace Go.Proofs.YthjdccocfmicdaaDoor.W
set_option maxRecDepth 20000
set_option linter.unusedVariables false
open Go.RowKit Go.Proofs Arb

theorem info_str : (Tryd.prog.info? 9).map (fun i => (i.zero, i.size, i.bytes)) = some (some (.string ⟨#[]⟩), 1, 16) := by kernel_rfl
def tx (l : List UInt8) : Value := .string (BS l)
/-- Where Split's loop stands: the parts O are out, the next one began at a, k is looked at. -/
structure Splits (c : UInt8) (s : List UInt8) (a k : Nat) (O : List (List UInt8)) : Prop where
  le : a ≤ k
  lek : k ≤ s.length
  parts : O ++ spl c (s.drop a) = spl c s
  no : c ∉ (s.drop a).take (k - a)
  few : O.length ≤ a
theorem Splits.start (c : UInt8) (s : List UInt8) : Splits c s 0 0 [] := ⟨Nat.le_refl _, Nat.zero_le _, rfl, by simp, Nat.le_refl _⟩
theorem Splits.pass {c : UInt8} {s : List UInt8} {a k : Nat} {O : List (List UInt8)} (h : Splits c s a k O) (hk : k < s.length) (hne : s[k] ≠ c) : Splits c s a (k + 1) O := by
  refine ⟨by have := h.le; omega, hk, h.parts, ?_, h.few⟩
  have hle := h.le
  rw [show k + 1 - a = (k - a) + 1 by omega, List.take_add_one, List.getElem?_drop, show a + (k - a) = k by omega, List.getElem?_eq_getElem hk]
  intro hm
  rcases List.mem_append.1 hm with hm | hm
  · exact h.no hm
  · simp at hm; exact hne hm.symm
theorem Splits.cut {c : UInt8} {s : List UInt8} {a k : Nat} {O : List (List UInt8)} (h : Splits c s a k O) (hk : k < s.length) (he : s[k] = c) : Splits c s (k + 1) (k + 1) (O ++ [(s.drop a).take (k - a)]) := by
  have hle := h.le
  refine ⟨Nat.le_refl _, hk, ?_, by simp, by have := h.few; simp; omega⟩
  have h1 : s.drop a = (s.drop a).take (k - a) ++ c :: s.drop (k + 1) := by
    have h2 := List.take_append_drop (k - a) (s.drop a)
    rw [List.drop_drop, show a + (k - a) = k by omega, List.drop_eq_getElem_cons hk, he] at h2
    exact h2.symm
  rw [← h.parts]
  conv => rhs; rw [h1, spl_cons h.no]
  simp
theorem Splits.done {c : UInt8} {s : List UInt8} {a : Nat} {O : List (List UInt8)} (h : Splits c s a s.length O) : O ++ [s.drop a] = spl c s := by
  rw [← h.parts]
  have : c ∉ s.drop a := by
    have := h.no
    rwa [List.take_of_length_le (by simp)] at this
  rw [spl_none this]
theorem spl_length (c : UInt8) : ∀ l, (spl c l).length ≤ l.length + 1
  | [] => by simp [spl]
  | b :: l => by
    have ih := spl_length c l
    unfold spl
    split
    · simp; omega
    · split
      · simp
      · rename_i h
        rw [h] at ih
        simp at ih ⊢
        omega

set_option maxHeartbeats 4000000 in
theorem rsplit_any (c : UInt8) (s : List UInt8) (w : World) (hl : s.length ≤ 100000) :
    Calls Tryd.prog 28 #[.string (BS s), .int .u8 (c.toNat : Int)] w fun e w' => ∃ v, e = .returned v ∧ Txts w' v (spl c s) ∧ Below w.heap.size w w' := by
  obtain ⟨i0, hi, hz0, hz1, hz2⟩ := info_parts info_str
  have hsz : (BS s).size = s.length := BS_size s
  obtain ⟨n, hn⟩ : ∃ n, s.length = n := ⟨_, rfl⟩
  rw [hn] at hsz hl
  go_enter Tryd.func28, Tryd.ntmps28
  go_wp2_with fail
  go_loopw [5, 6, 7, 8, 9, 10, 11, 12, 13, 14, 15, 16, 17, 18, 19, 20, 21, 22, 23, 24, 25, 26, 27] (fun vo at' i _ _ _ _ _ _ _ _ _ _ _ _ _ _ _ _ _ _ _ _ wr => ∃ (a k : Nat) (O : List (List UInt8)), at' = .int .i64 (a : Int) ∧ i = .int .i64 (k : Int) ∧ Splits c s a k O ∧ Row wr w.heap.size 9 1 vo O.length (O.map tx) ∧ Below w.heap.size w wr) (fun _ _ i _ _ _ _ _ _ _ _ _ _ _ _ _ _ _ _ _ _ _ _ _ => n - (intOf i).toNat)
  case atStart => exact ⟨0, 0, [], rfl, rfl, Splits.start c s, Row.nil _ _ _ _, Below.refl _ _⟩
  case round =>
    obtain ⟨a, k, O, rfl, rfl, hS, hrow, hb⟩ := hrel
    have hle := hS.le
    have hlk := hS.lek
    have hfew := hS.few
    rw [hn] at hlk
    by_cases hkn : k < n
    · have hki : (k : Int) < (n : Int) := by omega
      have hks : k < s.length := by omega
      have hltk : k < (BS s).size := by omega
      by_cases he : s[k] = c
      · have hq : ((((BS s)[k]'hltk).toNat : Int) == (c.toNat : Int)) = true := by rw [beq_iff_eq, BS_get]; exact congrArg (fun b : UInt8 => (b.toNat : Int)) he
        have hcut := hS.cut hks he
        have hex : (BS s).extract a k = BS ((s.drop a).take (k - a)) := BS_extract s a k
        have hai : (a : Int) ≤ (k : Int) := by omega
        have hka : (k : Int) ≤ (n : Int) := by omega
        obtain ⟨piece, hpc⟩ : ∃ p, (s.drop a).take (k - a) = p := ⟨_, rfl⟩
        rw [hpc] at hcut hex
        have HS := Go.Lib.hid hcut; have HROW := Go.Lib.hid hrow; have HB := Go.Lib.hid hb; have HN := Go.Lib.hid hn
        clear hcut hrow hb hS he hpc hn
        go_wp2_with (at_builtin; refine wpList_append_row1 rfl (.tmp 19) (.tmp 24) _ rfl w.heap.size 9 i0 (.string ⟨#[]⟩) 16 Tryd.underlying45 hi hz0 hz1 hz2 rfl u5 O.length _ rfl HROW.out (.string (BS piece)) 9 rfl rfl (by unfold maxLen; omega) (by omega) HB.out.size ?_; intro v5 w5 hr5 hb5; have HR5 := Go.Lib.hid hr5; have HB5 := Go.Lib.hid (HB.out.trans hb5); clear hr5 hb5)
        exact ⟨⟨k + 1, k + 1, O ++ [piece], by simp, by simp, HS.out, by simpa [tx] using HR5.out, HB5.out⟩, by simp [intOf]; omega⟩
      · have hq : ((((BS s)[k]'hltk).toNat : Int) == (c.toNat : Int)) = false := by
          rw [beq_eq_false_iff_ne, BS_get]
          intro h
          exact he (UInt8.toNat_inj.1 (by show (s[k]).toNat = c.toNat; omega))
        have hps := hS.pass hks he
        have HS := Go.Lib.hid hps; have HROW := Go.Lib.hid hrow; have HB := Go.Lib.hid hb; have HN := Go.Lib.hid hn
        clear hps hrow hb hS he hn
        go_wp2_with fail
        exact ⟨⟨a, k + 1, O, rfl, by simp, HS.out, HROW.out, HB.out⟩, by simp [intOf]; omega⟩
    · obtain rfl : k = n := by omega
      subst hn
      have hd := hS.done
      have hex : (BS s).extract a s.length = BS (s.drop a) := by rw [← hsz]; exact BS_tail s a
      have hai : (a : Int) ≤ (s.length : Int) := by omega
      have hain : a ≤ s.length := by omega
      obtain ⟨piece, hpc⟩ : ∃ p, s.drop a = p := ⟨_, rfl⟩
      rw [hpc] at hd hex
      have HD := Go.Lib.hid hd; have HROW := Go.Lib.hid hrow; have HB := Go.Lib.hid hb
      clear hd hrow hb hS hpc
      go_wp2_with (at_builtin; refine wpList_append_row1 rfl (.tmp 28) (.tmp 32) _ rfl w.heap.size 9 i0 (.string ⟨#[]⟩) 16 Tryd.underlying45 hi hz0 hz1 hz2 rfl u5 O.length _ rfl HROW.out (.string (BS piece)) 9 rfl rfl (by unfold maxLen; omega) (by omega) HB.out.size ?_; intro v5 w5 hr5 hb5; have hr6 : Row w5 w.heap.size 9 1 v5 (O.length + 1) ((O ++ [piece]).map tx) := by { simpa [tx] using hr5 }; rw [HD.out] at hr6; have HR5 := Go.Lib.hid hr6; have HB5 := Go.Lib.hid (HB.out.trans hb5); clear hr5 hb5 hr6)
      go_ret
      exact ⟨_, rfl, Txts.of_row HR5.out, HB5.out⟩
end Go.Proofs.YthjdccocfmicdaaDoor.W
