/- Contracts of package norm's calls: Norm: the interface that the laws' walks go by. -/
import Derived.Test.YtkohcibhefejfaaDoorNormPT
import Derived.Test.YtkohcibhefejfaaDoorNormO
import Derived.Test.YtkohcibhefejfaaDoorGlobRS
namespace Go.Proofs.YtkohcibhefejfaaDoor.W
set_option maxRecDepth 20000
set_option linter.unusedVariables false
open Go.RowKit Go.Proofs Arb

theorem norm_fits {l : List Rul} (ht : ∀ x ∈ l, x.text.length ≤ 100000) (hn : l.length ≤ 900) : (∀ x ∈ normOf l, x.text.length ≤ 100000) ∧ (normOf l).length ≤ 1800 :=
  ⟨fun x hx => by obtain ⟨y, hy, e⟩ := norm_text hx; rw [← e]; exact ht y hy, by have := norm_len l; omega⟩
/-- 'append(s, t...)' of rules. -/
theorem wpList_append_rls10 {ops : Array Oper} {rest : List Oper} {o : Oper} {a : Act} {w : World} {Q : Exit → Act → World → Prop} (hgd : o.guard = none) (s x : Operand)
    (ho : o.op = .call { callee := .builtin .append, args := #[s, x], argTypes := #[22, 22] })
    (base : Nat) (v : Value) (n : Nat) (l : List Rul) (hs : a.eval s = v) (hown : Row w base 29 2 v n (rlsCells l))
    (u : Value) (m : Nat) (k : List Rul) (hx : a.eval x = u) (hr : Rd w 2 u m (rlsCells k)) (h63 : n + m ≤ 1000000) (hbase : base ≤ w.heap.size)
    (h : ∀ v' w', Row w' base 29 2 v' (n + m) (rlsCells (l ++ k)) → Below base w w' → wpList Tryd.prog ops Q rest (a.put o.dst v') w') :
    wpList Tryd.prog ops Q (o :: rest) a w := by
  obtain ⟨i0, hi, hz0, hz1, hz2⟩ := info_parts info_rl
  refine wpList_append_row hgd s x 22 ho base 29 i0 _ 2 24 Tryd.underlying22 hi hz0 hz1 hz2 rfl (by decide) v n _ hs hown u m (rlsCells k) hx hr (rls_oneCell _) (by unfold maxLen; omega) (by omega) hbase ?_
  intro v' w' hr' hg _
  exact h v' w' (by rw [rlsCells_append]; exact hr') ((Below.refl base w).grown hg hbase fun k hk => (hown.lt k hk).1)

set_option maxHeartbeats 4000000 in
theorem pnorm_any (v : Value) (l : List Rul) (w : World) (h : Ruls w v l) (ht : ∀ x ∈ l, x.text.length ≤ 100000) (hn : l.length ≤ 900) :
    Calls Tryd.prog 10 #[v] w fun e w' => ∃ v', e = .returned v' ∧ Ruls w' v' (normOf l) ∧ Below w.heap.size w w' := by
  have hk := pkinds_any v l w h ht (by omega)
  have htu := fun b n S val W (hm : KMap W b n S val) (hK : Kinds l S val) => pturns_any b n l S val W hm hK ht (by omega)
  have hty := fun W (hb : Below w.heap.size w W) => ntypes_any v l W (h.below hb) ht (by omega)
  have hP : (formP l).length + (formT l).length ≤ 1800 := by have := norm_len l; unfold normOf at this; rw [List.length_append] at this; omega
  obtain ⟨A, c, rfl, _⟩ := h.len
  have HK := Go.Lib.hid hk; have HTU := Go.Lib.hid htu; have HTY := Go.Lib.hid hty
  clear h ht hk htu hty
  go_enter Tryd.func10, Tryd.ntmps10
  go_wp2_with fail
  refine Calls.mono HK.out ?_; rintro e w2 ⟨b, S, val, rfl, hm, hKd, hle, hB⟩
  have hT := HTU.out _ _ _ _ _ hm hKd
  have HT := Go.Lib.hid hT; have HB := Go.Lib.hid hB; clear hm hKd hle hB hT
  go_wp2_with fail
  refine Calls.mono HT.out ?_; rintro e w3 ⟨v3, rfl, hr3, hB⟩
  obtain ⟨A3, c3, rfl⟩ := row_form hr3
  have hr3' := hr3.weaken HB.out.size
  have hB3 := bstep HB.out hB
  have hy := HTY.out w3 hB3
  have HR3 := Go.Lib.hid hr3'; have HB3 := Go.Lib.hid hB3; have HY := Go.Lib.hid hy; clear hr3 hr3' hB hB3 hy
  go_wp2_with fail
  refine Calls.mono HY.out ?_; rintro e w4 ⟨v4, rfl, hr4, hB⟩
  obtain ⟨A4, c4, rfl⟩ := row_form hr4
  have hr3' := HR3.out.below hB
  have hB4 := bstep HB3.out hB
  have hrd := Rd.row hr4
  have HR4 := Go.Lib.hid hr3'; have HB4 := Go.Lib.hid hB4; have HRD := Go.Lib.hid hrd; clear hr4 hr3' hB hB4 hrd
  go_wp2_with (at_builtin; refine wpList_append_rls10 rfl (.tmp 5) (.tmp 7) rfl w.heap.size _ _ (formP l) rfl HR4.out _ _ (formT l) rfl HRD.out (by omega) HB4.out.size ?_; intro v5 w5 hr5 hb5; have HR5 := Go.Lib.hid (Ruls.of_row hr5); have HB5 := Go.Lib.hid (HB4.out.trans hb5); clear hr5 hb5)
  go_ret
  exact ⟨_, rfl, HR5.out, HB5.out⟩
end Go.Proofs.YtkohcibhefejfaaDoor.W
