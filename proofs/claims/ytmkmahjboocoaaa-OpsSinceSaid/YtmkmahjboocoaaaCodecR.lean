/- Contracts of the reference's codec over this program. -/
import Derived.Test.YtmkmahjboocoaaaProg
import Derived.Test.YtmkmahjboocoaaaChecked
import Derived.Test.YtmkmahjboocoaaaCodecN
import Derived.WalkKit
import Derived.WalkSpells
import Derived.WalkLawsBesides
import Derived.Outline
import Derived.Lib.Hide
import Derived.Lib.BufferRead
namespace Go.Proofs.Ytmkmahjboocoaaa.W
set_option linter.unusedVariables false
open Go.RowKit Go.Proofs Arb

theorem info5 : (Try.prog.info? 5).map (fun i => (i.zero, i.size, i.bytes)) = some (some (.int .u8 0), 1, 1) := by kernel_rfl

set_option maxHeartbeats 1000000 in
theorem rnum_u (n : Int) (u : Nat) (w : World) (hu : IntKind.u64.wrap n = (u : Int)) (hlt : u < 18446744073709551616) :
    Calls Try.prog 64 #[.int .i64 n] w fun e w' => e = .returned (.string ⟨(enc u).toArray⟩) ∧ Below w.heap.size w w' := by
  obtain ⟨i0, hi, hz0, hz1, hz2⟩ := info_parts info5
  go_enter Try.func64, Try.ntmps64
  go_wp2_with fail
  go_loopw [3, 4] (fun r vo wr => ∃ j : Nat, j ≤ digs u ∧ r = .int .u64 ((u / 256 ^ j : Nat) : Int) ∧ wr.ownsRow w.heap.size 5 1 vo j (Go.Lib.byteCells (be j u)) ∧ Below w.heap.size w wr) (fun r _ _ => (intOf r).toNat)
  case atStart => exact ⟨0, by omega, by simp, World.ownsRow_nil _ _ _ _, Below.refl _ _⟩
  case round =>
    obtain ⟨j, hj, rfl, hown, hbw⟩ := hrel
    have hux : u / 256 ^ j < 18446744073709551616 := Nat.lt_of_le_of_lt (Nat.div_le_self _ _) hlt
    have hx' : u / 256 ^ (j + 1) = (u / 256 ^ j) / 256 := by rw [Nat.pow_succ, Nat.div_div_eq_div_mul]
    generalize hx : u / 256 ^ j = x at hux hx'
    by_cases h0 : 0 < x
    · have hB := hbw.size
      have hjd : j + 1 ≤ digs u := by
        rcases Nat.lt_or_ge j (digs u) with h | h
        · omega
        · have h1 := digs_lt u hlt
          have h2 : j = digs u := by omega
          subst h2
          rw [Nat.div_eq_of_lt h1] at hx
          omega
      have hd8 := digs_le u
      have hbe : be (j + 1) u = UInt8.ofNat (x % 256) :: be j u := by rw [be_cons, hx]
      have HX := Go.Lib.hid hx'; clear hx'
      have HY := Go.Lib.hid hx; clear hx
      have HO := Go.Lib.hid hown; clear hown
      have HE := Go.Lib.hid hbe; clear hbe
      go_wp2_with (first
        | (at_builtin; refine wpList_append_rd rfl (.tmp 11) (.tmp 15) _ rfl w.heap.size 5 i0 (.int .u8 0) 1 1 Try.underlying75 hi hz0 hz1 hz2 rfl (by decide) (.slice none 0 0) 0 [] rfl (World.ownsRow_nil _ _ _ _) _ 1 [.int .u8 ((x : Int) % 256)] rfl (Rd.new wr _ _ 1 1 1 rfl) (one_int _ _) (by decide) (by decide) (by simp; omega) ?_; intro v1 w1 hown1 hg1 ho1)
        | (at_builtin; refine wpList_append_rd rfl (.tmp 17) (.tmp 18) _ rfl w.heap.size 5 i0 (.int .u8 0) 1 1 Try.underlying75 hi hz0 hz1 hz2 rfl (by decide) v1 (0 + 1) _ rfl hown1 u4 j _ rfl (Rd.own (own_kept (HO.out.alloc _) hg1)) (Go.Lib.byteCells_one _) (by unfold maxLen; omega) (by omega) (by have := hg1.size; simp at this; omega) ?_; intro v2 w2 hown2 hg2 ho2))
      go_roundw
      case rel =>
        refine ⟨j + 1, by omega, by rw [HX.out]; go_num, ?_, ?_⟩
        · rw [HE.out]
          have e : 0 + 1 + j = j + 1 := by omega
          simpa [Go.Lib.byteCells, e] using hown2
        · have h1 := (hbw.alloc hB _).grown hg1 (by simp; omega) (by simp [Value.ownBlock])
          refine h1.grown hg2 h1.size fun k hk => ?_
          rcases ho1 with h | h <;> rw [h] at hk <;> simp [Value.ownBlock] at hk
          omega
      case measure => simp [intOf]; omega
    · have hB := hbw.size
      obtain rfl : x = 0 := by omega
      have hjd : j = digs u := by
        rcases Nat.lt_or_ge j (digs u) with h | h
        · have h1 := digs_ge u hlt j h
          have := Nat.div_pos h1 (Nat.pow_pos (by decide))
          omega
        · omega
      have hd8 := digs_le u
      have henc : enc u = UInt8.ofNat j :: be j u := by rw [hjd]; rfl
      clear hjd hx hx'
      have HO := Go.Lib.hid hown; clear hown
      have HE := Go.Lib.hid henc; clear henc
      obtain ⟨A, c, hA⟩ : ∃ A c, u4 = .slice A j c := by
        rcases HO.out.2 with ⟨rfl, rfl⟩ | ⟨g, cap, cur, rfl, _⟩
        · exact ⟨_, _, rfl⟩
        · exact ⟨_, _, rfl⟩
      subst hA
      have hcv : ∀ (v : Value) (W : World), W.ownsRow w.heap.size 5 1 v (0 + 1 + j) ([] ++ [.int .u8 (j : Int)] ++ Go.Lib.byteCells (be j u)) → (convert 75 9 v).run Try.prog W = .ok (.string ⟨(enc u).toArray⟩) W := by
        intro v W hv
        refine run_string_rd 75 9 5 v (0 + 1 + j) (enc u) Try.underlying75 Try.underlying5 Try.underlying9 ?_
        rw [HE.out]
        have e : (j : Int) % 256 = j := by omega
        have h := Rd.own hv
        simpa [Go.Lib.byteCells, e] using h
      go_wp2_with (first
        | (at_builtin; refine wpList_append_rd rfl (.tmp 22) (.tmp 26) _ rfl w.heap.size 5 i0 (.int .u8 0) 1 1 Try.underlying75 hi hz0 hz1 hz2 rfl (by decide) (.slice none 0 0) 0 [] rfl (World.ownsRow_nil _ _ _ _) _ 1 [.int .u8 (j : Int)] rfl (Rd.new wr _ _ 1 1 1 rfl) (one_int _ _) (by decide) (by decide) (by simp; omega) ?_; intro v1 w1 hown1 hg1 ho1)
        | (at_builtin; refine wpList_append_rd rfl (.tmp 28) (.tmp 29) _ rfl w.heap.size 5 i0 (.int .u8 0) 1 1 Try.underlying75 hi hz0 hz1 hz2 rfl (by decide) v1 (0 + 1) _ rfl hown1 (.slice A j c) j _ rfl (Rd.own (own_kept (HO.out.alloc _) hg1)) (Go.Lib.byteCells_one _) (by unfold maxLen; omega) (by omega) (by have := hg1.size; simp at this; omega) ?_; intro v2 w2 hown2 hg2 ho2; have hcv2 := hcv v2 w2 hown2))
      go_ret
      refine ⟨rfl, ?_⟩
      have h1 := (hbw.alloc hB _).grown hg1 (by simp; omega) (by simp [Value.ownBlock])
      refine h1.grown hg2 h1.size fun k hk => ?_
      rcases ho1 with h | h <;> rw [h] at hk <;> simp [Value.ownBlock] at hk
      omega

theorem rnum_any (n : Int) (w : World) :
    Calls Try.prog 64 #[.int .i64 n] w fun e w' => e = .returned (.string ⟨(enc (u64 n)).toArray⟩) ∧ Below w.heap.size w w' :=
  rnum_u n (u64 n) w (wrap_u64 n) (u64_lt n)

set_option maxHeartbeats 1000000 in
theorem rtextn_any (l : List UInt8) (w : World) (hl : l.length ≤ 281474976710656) :
    Calls Try.prog 65 #[.string (BS l)] w fun e w' => e = .returned (.string (BS (enc (u64 l.length) ++ l))) ∧ Below w.heap.size w w' := by
  have hsz : (BS l).size = l.length := BS_size l
  have hap : (BS (enc (u64 l.length)) ++ BS l) = BS (enc (u64 l.length) ++ l) := ByteArray.mk_append_mk _ _
  have hel := enc_length (u64 l.length)
  have HA := Go.Lib.hid hap; clear hap
  have hes : (BS (enc (u64 l.length))).size = (enc (u64 l.length)).length := BS_size _
  have hc : ∀ W : World, Calls Try.prog 64 #[.int .i64 (l.length : Int)] W fun e w' => e = .returned (.string (BS (enc (u64 l.length)))) ∧ Below W.heap.size W w' := fun W => rnum_any _ W
  generalize enc (u64 l.length) = x at *
  have HC := Go.Lib.hid hc; clear hc
  go_enter Try.func65, Try.ntmps65
  go_wp2_with (go_at_call 64; refine (HC.out _).mono ?_; rintro e w1 ⟨rfl, hb⟩)
  go_ret
  rw [← HA.out]
  exact ⟨rfl, hb⟩

end Go.Proofs.Ytmkmahjboocoaaa.W
