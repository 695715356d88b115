/- The mathematics of bytes: what is written is read, what is read is written. -/
import Derived.Test.YtmkmahjboocoaaaOpsM
namespace Arb
open Go Go.RowKit
set_option linter.unusedVariables false

def i64ok (z : Int) : Prop := -9223372036854775808 ≤ z ∧ z ≤ 9223372036854775807
theorem wrap_u64_back (z : Int) (h : i64ok z) : wrap64 ((u64 z : Nat) : Int) = z := by
  obtain ⟨h1, h2⟩ := h
  unfold wrap64 u64
  omega
theorem wrap64_ok (n : Int) : i64ok (wrap64 n) := by
  unfold i64ok wrap64
  omega
theorem rNum_enc (z : Int) (h : i64ok z) (t : List UInt8) : rNum (enc (u64 z) ++ t, 0) = (z, (t, 0)) := by
  have hr := rd_of_enc (u64 z) (u64_lt z) t
  unfold rNum stepNum
  simp only [ne_eq, not_true_eq_false, if_false, hr, List.drop_left, wrap_u64_back z h]
theorem rNums_enc : ∀ (ns : List Int) (t : List UInt8), (∀ z ∈ ns, i64ok z) → rNums ns.length (encNums ns ++ t, 0) = (ns, (t, 0))
  | [], t, _ => rfl
  | z :: ns, t, h => by
    have e : encNums (z :: ns) ++ t = enc (u64 z) ++ (encNums ns ++ t) := by simp [encNums]
    rw [e, List.length_cons]
    unfold rNums
    rw [rNum_enc z (h z (by simp)), rNums_enc ns t fun y hy => h y (by simp [hy])]
theorem rText_enc (l t : List UInt8) (h : l.length < 9223372036854775808) : rText (encText l ++ t, 0) = (l, (t, 0)) := by
  have hu : u64 (l.length : Int) = l.length := by unfold u64; omega
  have hr := rd_of_enc (u64 (l.length : Int)) (u64_lt _) (l ++ t)
  unfold rText refText stepNum encText
  rw [List.append_assoc]
  simp only [ne_eq, not_true_eq_false, if_false, hr, List.drop_left]
  unfold refOf
  simp only [ne_eq, not_true_eq_false, if_false]
  rw [hu, if_neg (by rw [List.length_append]; omega), List.take_left, List.drop_left]
def opOk (x : Opn) : Prop := i64ok x.stamp.count ∧ i64ok x.stamp.who ∧ i64ok x.seq ∧ i64ok x.kind ∧ i64ok x.node.count ∧ i64ok x.node.who ∧ i64ok x.parent.count ∧ i64ok x.parent.who
theorem nums_ok (x : Opn) (h : opOk x) : ∀ z ∈ numsOf x, i64ok z := by
  obtain ⟨h1, h2, h3, h4, h5, h6, h7, h8⟩ := h
  intro z hz
  unfold numsOf at hz
  simp only [List.mem_cons, List.not_mem_nil, or_false] at hz
  rcases hz with rfl | rfl | rfl | rfl | rfl | rfl | rfl | rfl | rfl <;> first | assumption | (unfold i64ok; split <;> omega)
theorem opOf_nums (x : Opn) : opOf (numsOf x) x.name x.manifest = x := by
  obtain ⟨⟨a, b⟩, c, d, ⟨e, f⟩, g, ⟨i, j⟩, k, l⟩ := x
  cases g <;> rfl
theorem decode_bytes (x : Opn) (h : opOk x) (hn : x.name.length < 1000000000) (hm : x.manifest.length < 1000000000) (hr : x.right = 0) : decodeOf x.bytes = (x, 0) := by
  have e1 : rNums 9 (x.bytes, 0) = (numsOf x, (encText x.name ++ encText x.manifest, 0)) := by
    have := rNums_enc (numsOf x) (encText x.name ++ encText x.manifest) (nums_ok x h)
    unfold Opn.bytes
    rw [List.append_assoc]
    exact this
  have e2 := rText_enc x.name (encText x.manifest) (by omega)
  have e3 := rText_enc x.manifest [] (by omega)
  rw [List.append_nil] at e3
  unfold decodeOf rOp
  simp only [e1, e2, e3, opOf_nums]
  unfold decodeRes
  have h6 : (numsOf x).getD 6 0 = 0 ∨ (numsOf x).getD 6 0 = 1 := by
    show (if x.dir then (1 : Int) else 0) = 0 ∨ (if x.dir then (1 : Int) else 0) = 1
    cases x.dir <;> simp
  have he : endOf [] 0 = 0 := rfl
  simp only [he, ne_eq, not_true_eq_false, if_false, hr, or_false]
  rw [if_neg (by omega)]

theorem rNum_err (l : List UInt8) (e : Int) (h : e ≠ 0) : (rNum (l, e)).2.2 = e := by
  unfold rNum stepNum
  simp [h]
theorem rNum_back (l l' : List UInt8) (e z : Int) (h : rNum (l, e) = (z, (l', 0))) : e = 0 ∧ l = enc (u64 z) ++ l' ∧ i64ok z := by
  by_cases he : e = 0
  · subst he
    refine ⟨rfl, ?_⟩
    unfold rNum stepNum at h
    simp only [ne_eq, not_true_eq_false, if_false] at h
    injection h with h1 h2
    injection h2 with h2 h3
    have hu := u64_wrap _ (rdNum_lt l)
    rw [h1] at hu
    refine ⟨?_, by rw [← h1]; exact wrap64_ok _⟩
    rw [hu, enc_of_rd l h3, ← h2, List.take_append_drop]
  · have := rNum_err l e he
    rw [h] at this
    exact absurd this.symm he
theorem rNums_back : ∀ (n : Nat) (l l' : List UInt8) (e : Int) (ns : List Int), rNums n (l, e) = (ns, (l', 0)) → e = 0 ∧ l = encNums ns ++ l' ∧ ns.length = n ∧ ∀ z ∈ ns, i64ok z
  | 0, l, l', e, ns, h => by
    unfold rNums at h
    injection h with h1 h2
    injection h2 with h2 h3
    subst h1; subst h2
    exact ⟨h3, by simp [encNums], rfl, by simp⟩
  | n + 1, l, l', e, ns, h => by
    unfold rNums at h
    injection h with h1 h2
    obtain ⟨z, l1, e1, hz⟩ : ∃ z l1 e1, rNum (l, e) = (z, (l1, e1)) := ⟨_, _, _, rfl⟩
    rw [hz] at h1 h2
    obtain ⟨ns', r', hn⟩ : ∃ a r, rNums n (l1, e1) = (a, r) := ⟨_, _, rfl⟩
    simp only [hn] at h1 h2
    subst h2
    obtain ⟨he1, hl1, hlen, hok⟩ := rNums_back n l1 l' e1 ns' hn
    subst he1
    obtain ⟨he, hl, hz2⟩ := rNum_back l l1 e z hz
    refine ⟨he, ?_, ?_, ?_⟩
    · rw [hl, hl1, ← h1]
      simp [encNums]
    · rw [← h1, List.length_cons, hlen]
    · rw [← h1]
      intro y hy
      rcases List.mem_cons.1 hy with rfl | hy
      · exact hz2
      · exact hok y hy
theorem rText_back (l l' a : List UInt8) (e : Int) (hl : l.length < 9223372036854775808) (h : rText (l, e) = (a, (l', 0))) : e = 0 ∧ l = encText a ++ l' := by
  unfold rText refText at h
  obtain ⟨n, l1, e1, hs⟩ : ∃ n l1 e1, stepNum l e = (n, l1, e1) := ⟨_, _, _, rfl⟩
  simp only [hs] at h
  unfold refOf at h
  simp only at h
  by_cases he1 : e1 = 0
  · rw [if_neg (by simp [he1])] at h
    by_cases hn : l1.length < n
    · rw [if_pos hn] at h
      injection h with _ h2
      injection h2 with _ h3
      cases h3
    · rw [if_neg hn] at h
      injection h with h1 h2
      injection h2 with h2 h3
      by_cases he : e = 0
      · refine ⟨he, ?_⟩
        subst he
        unfold stepNum at hs
        simp only [ne_eq, not_true_eq_false, if_false] at hs
        injection hs with s1 s2
        injection s2 with s2 s3
        have hal : a.length = n := by rw [← h1, List.length_take]; omega
        have hll : l1.length ≤ l.length := by rw [← s2]; simp
        have hu : u64 (a.length : Int) = n := by rw [hal]; unfold u64; omega
        unfold encText
        rw [hu, List.append_assoc, ← h1, ← h2, List.take_append_drop, ← s1, enc_of_rd l (by rw [s3]; exact he1), ← s2, List.take_append_drop]
      · unfold stepNum at hs
        rw [if_pos he] at hs
        injection hs with _ s2
        injection s2 with _ s3
        omega
  · rw [if_pos he1] at h
    injection h with _ h2
    injection h2 with _ h3
    exact absurd h3 he1
theorem nums_opOf (ns : List Int) (a b : List UInt8) (hl : ns.length = 9) (h6 : ns.getD 6 0 = 0 ∨ ns.getD 6 0 = 1) : numsOf (opOf ns a b) = ns := by
  match ns, hl with
  | [x0, x1, x2, x3, x4, x5, x6, x7, x8], _ =>
    have h : x6 = 0 ∨ x6 = 1 := h6
    show [x0, x1, x2, x3, x4, x5, if decide (x6 = 1) then (1 : Int) else 0, x7, x8] = _
    rcases h with rfl | rfl <;> rfl
/-- What is decoded is encoded again. -/
theorem decode_good (data : List UInt8) (hd : data.length < 1000000000) (h : (decodeOf data).2 = 0) :
    (decodeOf data).1.right = 0 ∧ (decodeOf data).1.bytes = data ∧ opOk (decodeOf data).1 ∧ (decodeOf data).1.name.length ≤ data.length ∧ (decodeOf data).1.manifest.length ≤ data.length := by
  obtain ⟨ns, r1, h1⟩ : ∃ a r, rNums 9 (data, 0) = (a, r) := ⟨_, _, rfl⟩
  obtain ⟨l1, e1⟩ := r1
  obtain ⟨a, r2, h2⟩ : ∃ a r, rText (l1, e1) = (a, r) := ⟨_, _, rfl⟩
  obtain ⟨l2, e2⟩ := r2
  obtain ⟨b, r3, h3⟩ : ∃ a r, rText (l2, e2) = (a, r) := ⟨_, _, rfl⟩
  obtain ⟨l3, e3⟩ := r3
  have hop : rOp (data, 0) = (opOf ns a b, ns.getD 6 0, (l3, e3)) := by
    unfold rOp
    simp only [h1, h2, h3]
  unfold decodeOf at h ⊢
  rw [hop] at h ⊢
  unfold decodeRes at h ⊢
  simp only at h ⊢
  by_cases he : endOf l3 e3 = 0
  · rw [if_neg (by simp [he])] at h ⊢
    by_cases hc : (ns.getD 6 0 ≠ 0 ∧ ns.getD 6 0 ≠ 1) ∨ (opOf ns a b).right ≠ 0
    · rw [if_pos hc] at h
      cases h
    · rw [if_neg hc]
      have he3 : e3 = 0 := by
        unfold endOf at he
        by_cases h0 : e3 = 0
        · exact h0
        · rw [if_pos h0] at he; exact he
      have hl3 : l3 = [] := by
        unfold endOf at he
        rw [if_neg (by simp [he3])] at he
        by_cases h0 : l3 = []
        · exact h0
        · rw [if_pos h0] at he; cases he
      subst he3; subst hl3
      have hdl : l1.length ≤ data.length ∧ l2.length ≤ l1.length := by
        constructor
        · obtain ⟨_, hl, _⟩ | hne : (e1 = 0 ∧ data = encNums ns ++ l1 ∧ True) ∨ e1 ≠ 0 := by
            by_cases h0 : e1 = 0
            · subst h0
              obtain ⟨_, hl, _⟩ := rNums_back 9 data l1 0 ns h1
              exact .inl ⟨rfl, hl, trivial⟩
            · exact .inr h0
          · rw [hl, List.length_append]; omega
          · exfalso
            unfold rText refText at h2
            obtain ⟨n, k1, g1, hs⟩ : ∃ n k1 g1, stepNum l1 e1 = (n, k1, g1) := ⟨_, _, _, rfl⟩
            have hg : g1 = e1 := by
              unfold stepNum at hs
              rw [if_pos hne] at hs
              injection hs with _ s2
              injection s2 with _ s3
              exact s3.symm
            simp only [hs] at h2
            unfold refOf at h2
            simp only at h2
            rw [if_pos (by rw [hg]; exact hne)] at h2
            injection h2 with _ q2
            injection q2 with _ q3
            have hne2 : e2 ≠ 0 := by rw [← q3, hg]; exact hne
            unfold rText refText at h3
            obtain ⟨n2, k2, g2, hs2⟩ : ∃ n k1 g1, stepNum l2 e2 = (n, k1, g1) := ⟨_, _, _, rfl⟩
            have hg2 : g2 = e2 := by
              unfold stepNum at hs2
              rw [if_pos hne2] at hs2
              injection hs2 with _ s2
              injection s2 with _ s3
              exact s3.symm
            simp only [hs2] at h3
            unfold refOf at h3
            simp only at h3
            rw [if_pos (by rw [hg2]; exact hne2)] at h3
            injection h3 with _ q4
            injection q4 with _ q5
            exact hne2 (by rw [← hg2]; exact q5)
        · unfold rText refText at h2
          injection h2 with _ q2
          injection q2 with q2 _
          rw [← q2]
          unfold refOf
          have := stepNum_len l1 e1
          split
          · exact this
          · split
            · exact this
            · simp only [List.length_drop]; omega
      obtain ⟨he2, hl2⟩ := rText_back l2 [] b e2 (by omega) h3
      subst he2
      obtain ⟨he1, hl1⟩ := rText_back l1 l2 a e1 (by omega) h2
      subst he1
      obtain ⟨_, hdata, hlen, hok⟩ := rNums_back 9 data l1 0 ns h1
      have h6 : ns.getD 6 0 = 0 ∨ ns.getD 6 0 = 1 := by
        rcases Classical.em (ns.getD 6 0 = 0) with h | h
        · exact .inl h
        · rcases Classical.em (ns.getD 6 0 = 1) with h' | h'
          · exact .inr h'
          · exact absurd (.inl ⟨h, h'⟩) hc
      have hr : (opOf ns a b).right = 0 := by
        rcases Classical.em ((opOf ns a b).right = 0) with h | h
        · exact h
        · exact absurd (.inr h) hc
      refine ⟨hr, ?_, ?_, ?_, ?_⟩
      · unfold Opn.bytes
        rw [nums_opOf ns a b hlen h6, hdata, hl1, hl2]
        show encNums ns ++ encText a ++ encText b = _
        simp [List.append_assoc]
      · match ns, hlen with
        | [x0, x1, x2, x3, x4, x5, x6, x7, x8], _ =>
          exact ⟨hok x0 (by simp), hok x1 (by simp), hok x2 (by simp), hok x3 (by simp), hok x4 (by simp), hok x5 (by simp), hok x7 (by simp), hok x8 (by simp)⟩
      · show a.length ≤ _
        rw [hdata, hl1]
        simp only [encText, List.length_append]
        omega
      · show b.length ≤ _
        rw [hdata, hl1, hl2]
        simp only [encText, List.length_append]
        omega
  · rw [if_pos he] at h
    exact absurd h he
theorem decode_bad (data : List UInt8) (h : (decodeOf data).2 ≠ 0) : (decodeOf data).1 = Opn.zero := by
  unfold decodeOf decodeRes at h ⊢
  split
  · rfl
  · split
    · rfl
    · rename_i h1 h2
      rw [if_neg h1, if_neg h2] at h
      exact absurd rfl h
end Arb
