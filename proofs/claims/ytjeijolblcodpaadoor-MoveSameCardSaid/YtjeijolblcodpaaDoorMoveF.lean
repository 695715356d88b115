/- The walk of MoveSame. -/
import Derived.Test.YtjeijolblcodpaaDoorMoveG
import Derived.Test.YtjeijolblcodpaaDoorMoveS
import Derived.Test.YtjeijolblcodpaaDoorOpsS0
import Derived.Test.YtjeijolblcodpaaDoorMg3
import Derived.Test.YtjeijolblcodpaaDoorMg5
namespace Go.Proofs.YtjeijolblcodpaaDoor.W
set_option maxRecDepth 20000
set_option linter.unusedVariables false
open Go.RowKit Go.Proofs Arb

/-- A list that was answered: no state's block is its. -/
structure Out8 (V : World) (F G : Nat → Prop) (o : Value) (S : List Opn) : Prop where
  ops : Opns V o S
  off : S ≠ [] → InSet (fun k => k < V.heap.size ∧ ¬ F k ∧ ¬ G k) o
theorem Opns.empty {V V' : World} {o : Value} (h : Opns V o []) : Opns V' o [] := by
  obtain ⟨A, n, c, h1, h2, h3, h4, h5⟩ := h
  exact ⟨A, n, c, h1, h2, h3, h4, fun h0 => by simp at h2; omega⟩
theorem opns_block {V : World} {o : Value} {S : List Opn} (h : Opns V o S) (h0 : S ≠ []) : InSet (fun k => k < V.heap.size) o := fun a n c he => by
  obtain ⟨A, n', c', rfl, h2, h3, h4, h5⟩ := h
  cases he
  have hn : 0 < S.length := List.length_pos_iff.2 h0
  obtain ⟨b, off, hA, hz⟩ := h5 (by omega)
  cases hA
  exact (hz 0 _ (List.getElem?_eq_getElem hn)).lt
section
variable {V V' : World} {F G F' : Nat → Prop} {o : Value} {S : List Opn}
theorem Out8.swap (h : Out8 V F G o S) : Out8 V G F o S := ⟨h.ops, fun h0 => (h.off h0).mono fun k hk => ⟨hk.1, hk.2.2, hk.2.1⟩⟩
theorem Out8.turn (h : Out8 V F G o S) (ht : Turned V V' F F') : Out8 V' F' G o S := by
  by_cases h0 : S = []
  · subst h0
    exact ⟨h.ops.empty, fun h => absurd rfl h⟩
  · have hi := h.off h0
    refine ⟨h.ops.kept ht.kept (hi.mono fun k hk => hk.2.1), fun _ => hi.mono fun k hk => ⟨Nat.lt_of_lt_of_le hk.1 ht.size, fun hf => ?_, hk.2.2⟩⟩
    rcases ht.grow k hf with e | e
    · exact hk.2.1 e
    · omega
theorem Out8.more (h : Out8 V F G o S) (hb : Below V.heap.size V V') : Out8 V' F G o S := ⟨h.ops.below hb, fun h0 => (h.off h0).mono fun k hk => ⟨Nat.lt_of_lt_of_le hk.1 hb.size, hk.2⟩⟩
end
theorem rdEnd8 {w : World} {p : Prop} [Decidable p] {a b : Addr} {c2 : Nat} (l : List Opn) (n : Nat) (h : l.length ≤ n) : Rd w 11 (.slice (if p then some a else some b) 0 c2) 0 (opsCells (l.drop n)) := by
  rw [List.drop_eq_nil_of_le h]
  split <;> exact ⟨rfl, .inr ⟨_, c2, rfl, fun j u hu => by cases hu⟩⟩
theorem Row.base_le {w : World} {base b2 : Nat} {e : TypeId} {size : Nat} {v : Value} {n : Nat} {xs : List Value} (h : Row w base e size v n xs) (hb : b2 ≤ base) : Row w b2 e size v n xs := by
  refine ⟨h.1, ?_⟩
  rcases h.2 with hn | ⟨g, cap, cur, fz, rfl, hg0, rest⟩
  · exact .inl hn
  · exact .inr ⟨g, cap, cur, fz, rfl, Nat.le_trans hb hg0, rest⟩
/-- Another list in the old one's place, all of memory that was made behind V. -/
theorem Both8.fresh {W V V' : World} {ab bb : Nat} {Fa Fb : Nat → Prop} {la lb T T' : List Opn} {na nb : Int} {v v' : Value} (h : Both8 W V ab Fa la na bb Fb lb nb v T) (hb : Below V.heap.size V V') (hr : Row V' V.heap.size 35 11 v' T'.length (opsCells T')) : Both8 W V' ab Fa la na bb Fb lb nb v' T' :=
  ⟨h.a.more hb, h.b.more hb, h.apart, Row.base_le hr h.a.bel.size, fun k hk => ⟨(hr.lt k hk).2, fun hf => by have h1 := h.a.st.lt k hf; have h2 := (hr.lt k hk).1; omega, fun hf => by have h1 := h.b.st.lt k hf; have h2 := (hr.lt k hk).1; omega⟩⟩
theorem tmod_pick (z : Int) (m : Nat) (hm : 0 < m) : ∃ (r : Int) (k : Nat), z.tmod (m : Int) = r ∧ -(m : Int) < r ∧ r < (m : Int) ∧ (r + (m : Int)).tmod (m : Int) = (k : Int) ∧ k < m := by
  have h1 : (z.tmod (m : Int)) < (m : Int) := Int.tmod_lt_of_pos z (by omega)
  have h2 : -(m : Int) < z.tmod (m : Int) := by
    have := Int.lt_tmod_of_pos z (b := (m : Int)) (by omega)
    omega
  have h3 : 0 ≤ z.tmod (m : Int) + (m : Int) := by omega
  refine ⟨_, ((z.tmod (m : Int) + (m : Int)).tmod (m : Int)).toNat, rfl, h2, h1, ?_, ?_⟩
  · rw [Int.toNat_of_nonneg]
    exact Int.tmod_nonneg _ h3
  · have h4 := Int.tmod_lt_of_pos (z.tmod (m : Int) + (m : Int)) (b := (m : Int)) (by omega)
    have h5 : 0 ≤ (z.tmod (m : Int) + (m : Int)).tmod (m : Int) := Int.tmod_nonneg _ h3
    omega

set_option maxRecDepth 100000 in
set_option maxHeartbeats 64000000 in
theorem moveSame_go (v : Value) (l : List Opn) (A2 : Option Addr) (n2 c2 : Nat) (zs : List Int) (w : World) (h : Opns w v l) (hwf : ∀ x ∈ l, opWf x) (hz : Sl w 1 A2 n2 c2 (zs.map fun z => [.int .i64 z])) (hzw : ∀ z ∈ zs, (Lit.int .i64 z).wf = true) (hzl : zs.length = n2) (hn63 : n2 ≤ 140737488351232) (hTM : Met w)
    (hFold : ∀ (V : World) (u : Value) (s : List Opn), Below w.heap.size w V → Opns V u s → s.length ≤ 400 → (∀ x ∈ s, opWf x) → Calls Tryd.prog 21 #[u] V fun e w' => ∃ v', e = .returned v' ∧ Nods w' v' (foldOf s) ∧ Below V.heap.size V w') :
    Calls Tryd.prog 4 #[v, .slice A2 n2 c2] w fun e w' => e = .returned (.bool true) ∧ Below w.heap.size w w' := by
  have HTM := Go.Lib.hid hTM; clear hTM
  have hF := fun w h => few8_any v l w h (fun x hx => (hwf x hx).2.2.2.2.2)
  obtain ⟨q, hq⟩ : ∃ b, few8 l = b := ⟨_, rfl⟩
  rw [hq] at hF
  have HF := Go.Lib.hid hF; have HV := Go.Lib.hid h; have HFOLD := Go.Lib.hid hFold
  clear hF hFold
  cases q
  · clear hq h hwf hz hzw hzl
    go_enter Tryd.func4, Tryd.ntmps4
    go_wp2_with fail
    refine (mine_new HTM.out).mono ?_; rintro e V1 ⟨ab, Fa, rfl, hm1⟩
    have HM1 := Go.Lib.hid hm1; clear hm1
    go_wp2_with fail
    refine (mine_new (HTM.out.on HM1.out.bel)).mono ?_; rintro e V2 ⟨bb, Fb, rfl, hm2⟩
    have hb8 : Both8 w V2 ab Fa [] 0 bb Fb [] 0 (.slice none 0 0) [] := ⟨HM1.out.more hm2.bel, ⟨hm2.st, fun k hk => Nat.le_trans HM1.out.bel.size (hm2.new k hk), bstep HM1.out.bel hm2.bel⟩, fun k ha hb => by have h1 := HM1.out.st.lt k ha; have h2 := hm2.new k hb; omega, Row.nil _ _ _ _, fun k hk => by simp [Value.ownBlock] at hk⟩
    have HB8 := Go.Lib.hid hb8; clear hb8 hm2
    go_wp2_with fail
    refine (HF.out _ (HV.out.below HB8.out.a.bel)).mono ?_; rintro e V2' ⟨rfl, rfl⟩
    go_wp2_with fail
    refine (awake8_any _ (HTM.out.on HB8.out.a.bel)).mono ?_; rintro e V3 ⟨rfl, hb⟩
    have HB3 := Go.Lib.hid (bstep HB8.out.a.bel hb); clear hb
    go_wp2_with fail
    go_ret
    exact ⟨rfl, HB3.out⟩
  · by_cases hn0 : n2 = 0
    · subst hn0
      clear hq h hwf hz hzw hzl
      go_enter Tryd.func4, Tryd.ntmps4
      go_wp2_with fail
      refine (mine_new HTM.out).mono ?_; rintro e V1 ⟨ab, Fa, rfl, hm1⟩
      have HM1 := Go.Lib.hid hm1; clear hm1
      go_wp2_with fail
      refine (mine_new (HTM.out.on HM1.out.bel)).mono ?_; rintro e V2 ⟨bb, Fb, rfl, hm2⟩
      have hb8 : Both8 w V2 ab Fa [] 0 bb Fb [] 0 (.slice none 0 0) [] := ⟨HM1.out.more hm2.bel, ⟨hm2.st, fun k hk => Nat.le_trans HM1.out.bel.size (hm2.new k hk), bstep HM1.out.bel hm2.bel⟩, fun k ha hb => by have h1 := HM1.out.st.lt k ha; have h2 := hm2.new k hb; omega, Row.nil _ _ _ _, fun k hk => by simp [Value.ownBlock] at hk⟩
      have HB8 := Go.Lib.hid hb8; clear hb8 hm2
      go_wp2_with fail
      refine (HF.out _ (HV.out.below HB8.out.a.bel)).mono ?_; rintro e V2' ⟨rfl, rfl⟩
      go_wp2_with fail
      refine (awake8_any _ (HTM.out.on HB8.out.a.bel)).mono ?_; rintro e V3 ⟨rfl, hb⟩
      have HB3 := Go.Lib.hid (bstep HB8.out.a.bel hb); clear hb
      go_wp2_with fail
      go_ret
      exact ⟨rfl, HB3.out⟩
    · have hln := (few8_true hq).1
      obtain ⟨A, c, rfl, hc⟩ := h.len
      obtain ⟨N, hN⟩ : ∃ N, l.length = N := ⟨_, rfl⟩
      have htl : l.take N = l := List.take_of_length_le (by omega)
      rw [hN] at HF HV hln hc
      rw [hN]
      have HN := Go.Lib.hid hN; have HWF := Go.Lib.hid hwf; have HTL := Go.Lib.hid htl; have HZ := Go.Lib.hid hz; have HZW := Go.Lib.hid hzw; have HZL := Go.Lib.hid hzl
      have hni : ((n2 : Int) == 0) = false := by simp; omega
      clear hq h hwf hN htl hz hzw hzl
      go_enter Tryd.func4, Tryd.ntmps4
      go_wp2_with fail
      refine (mine_new HTM.out).mono ?_; rintro e V1 ⟨ab, Fa, rfl, hm1⟩
      have HM1 := Go.Lib.hid hm1; clear hm1
      go_wp2_with fail
      refine (mine_new (HTM.out.on HM1.out.bel)).mono ?_; rintro e V2 ⟨bb, Fb, rfl, hm2⟩
      have hb8 : Both8 w V2 ab Fa [] 0 bb Fb [] 0 (.slice none 0 0) [] := ⟨HM1.out.more hm2.bel, ⟨hm2.st, fun k hk => Nat.le_trans HM1.out.bel.size (hm2.new k hk), bstep HM1.out.bel hm2.bel⟩, fun k ha hb => by have h1 := HM1.out.st.lt k ha; have h2 := hm2.new k hb; omega, Row.nil _ _ _ _, fun k hk => by simp [Value.ownBlock] at hk⟩
      have HB8 := Go.Lib.hid hb8; clear hb8 hm2
      go_wp2_with fail
      refine (HF.out _ (HV.out.below HB8.out.a.bel)).mono ?_; rintro e V2' ⟨rfl, rfl⟩
      go_wp2_with fail
      go_loopw [7, 8, 42, 43, 44, 45, 46, 47, 48, 49, 50, 51, 52, 53, 54, 55, 56, 57, 58, 59, 60, 61] (fun u i _ _ _ _ _ _ _ _ _ _ _ _ _ _ _ _ _ _ _ _ wr => ∃ (k : Nat) (Fa : Nat → Prop) (na : Int), k ≤ N ∧ i = .int .i64 (k : Int) ∧ (mvTaken (l.take k)).length ≤ k ∧ Both8 w wr ab Fa (mvBuild (l.take k)) na bb Fb [] 0 u (mvTaken (l.take k))) (fun _ i _ _ _ _ _ _ _ _ _ _ _ _ _ _ _ _ _ _ _ _ _ => N - (intOf i).toNat)
      case atStart => exact ⟨0, Fa, 0, by omega, rfl, Nat.le_refl _, HB8.out⟩
      case round =>
        obtain ⟨k, Fa1, na, hk, rfl, htk, hbo⟩ := hrel
        obtain ⟨Au, cu, rfl⟩ := row_form hbo.row
        by_cases hkn : k < N
        · have hkn' : (k : Int) < (N : Int) := by omega
          obtain ⟨bx, ox, x, rfl, hg1, hx0⟩ := HV.out.at k hkn
          have hxk : ∀ V, Below w.heap.size w V → OpAt V bx (ox + k * 11) x := fun V hb => hx0.below hb
          have hxw := HWF.out x (List.mem_of_getElem? hg1)
          have hst := mvBuild_take l k x hg1
          have htt := mvTaken_take l k x hg1
          obtain ⟨s, hs⟩ : ∃ s, mvBuild (l.take k) = s := ⟨_, rfl⟩
          obtain ⟨T, hT⟩ : ∃ s, mvTaken (l.take k) = s := ⟨_, rfl⟩
          rw [hs] at hbo hst htt
          rw [hT] at hbo htt htk
          rw [hT]
          obtain ⟨er, her⟩ : ∃ r, mvErr s x = r := ⟨_, rfl⟩
          rw [her] at htt
          obtain ⟨t, ht⟩ : ∃ t, T.length = t := ⟨_, rfl⟩
          have hpi : Calls Tryd.prog 12 #[.pointer (some ⟨ab, 0, none⟩), .agg (opCells x).toArray] wr fun e w' => e = .returned (.int .i64 er) ∧ ∃ F', Both8 w w' ab F' (mvAdd s x) (mvRedo s x na) bb Fb [] 0 (.slice Au T.length cu) T :=
            (pinsert_st wr ab Fa1 s na x hbo.a.st hxw (HTM.out.on hbo.a.bel)).mono fun e w' ⟨he, F', h1, h2⟩ => by
              rw [her] at he
              exact ⟨he, F', hbo.onA h1 h2⟩
          unfold opCells at hpi
          obtain ⟨c0, c1, c2', c3, c4, c5, c6, c7, c8, c9, c10⟩ := op_cells (hxk wr hbo.a.bel)
          rw [ht] at hpi htk
          rw [ht]
          have HPI := Go.Lib.hid hpi; have HXK := Go.Lib.hid hxk; have HST := Go.Lib.hid hst; have HT := Go.Lib.hid ht
          clear hpi hxk hst hx0 hg1 hbo hs hT her ht
          by_cases h0 : er = 0
          · rw [if_pos h0] at htt
            have HTT := Go.Lib.hid htt; clear htt
            subst h0
            go_wp2_with fail
            refine HPI.out.mono ?_; rintro e V4 ⟨rfl, F4, hb4⟩
            clear c0 c1 c2' c3 c4 c5 c6 c7 c8 c9 c10
            obtain ⟨c0, c1, c2', c3, c4, c5, c6, c7, c8, c9, c10⟩ := op_cells (HXK.out _ hb4.a.bel)
            have hrow4 := hb4.row
            rw [HT.out] at hrow4
            have hsz4 := hb4.a.bel.size
            have HB4 := Go.Lib.hid hb4; have HROW4 := Go.Lib.hid hrow4; clear hb4 hrow4
            go_wp2_with (at_builtin; refine wpList_append_opg rfl (.tmp 55) (.tmp 60) rfl w.heap.size (.slice Au t cu) t T rfl HROW4.out x _ rfl rfl (by omega) hsz4 ?_; intro v5 V5 hr5 hk5 ho5; have HR5 := Go.Lib.hid hr5; have HK5 := Go.Lib.hid hk5; have HO5 := Go.Lib.hid ho5; clear hr5 hk5 ho5)
            have hl1 : (T ++ [x]).length = t + 1 := by rw [List.length_append, HT.out]; rfl
            have hb5 := HB4.out.list (T' := T ++ [x]) (v' := v5) (u := .slice Au t cu) (fun k hk => (HB4.out.put k hk).2) (fun k hk => (HROW4.out.lt k hk).1) HK5.out (by rw [hl1]; exact HR5.out) HO5.out
            exact ⟨⟨k + 1, F4, _, by omega, by simp, by rw [HTT.out, hl1]; omega, by rw [HST.out, HTT.out]; exact hb5⟩, by simp [intOf]; omega⟩
          · rw [if_neg h0] at htt
            have hb0 : (er == 0) = false := by simp [h0]
            have HTT := Go.Lib.hid htt; clear htt h0
            go_wp2_with fail
            refine HPI.out.mono ?_; rintro e V4 ⟨rfl, F4, hb4⟩
            clear c0 c1 c2' c3 c4 c5 c6 c7 c8 c9 c10
            have HB4 := Go.Lib.hid hb4; clear hb4
            go_wp2_with fail
            have hb5 := HB4.out
            exact ⟨⟨k + 1, F4, _, by omega, by simp, by rw [HTT.out, HT.out]; omega, by rw [HST.out, HTT.out]; exact hb5⟩, by simp [intOf]; omega⟩
        · obtain rfl : k = N := by omega
          rw [HTL.out] at hbo htk ⊢
          have hri := mvBuild_rise l
          have hso := mvTaken_some l
          have hbm := mvBuild_mem l
          have hb400 := (mvBuild_length l).2
          obtain ⟨s, hs⟩ : ∃ s, mvBuild l = s := ⟨_, rfl⟩
          obtain ⟨T, hT⟩ : ∃ s, mvTaken l = s := ⟨_, rfl⟩
          rw [hs] at hbo hri hso hbm hb400
          rw [hT] at hbo hso htk
          rw [hT]
          obtain ⟨t, ht⟩ : ∃ t, T.length = t := ⟨_, rfl⟩
          have hst : s.length = t := by have := hso.len; simp at this; omega
          rw [ht] at htk
          rw [ht]
          have HB400 := Go.Lib.hid hb400; have HBO := Go.Lib.hid hbo; have HRI := Go.Lib.hid hri; have HSO := Go.Lib.hid hso; have HBM := Go.Lib.hid hbm; have HT := Go.Lib.hid ht; have HST := Go.Lib.hid hst
          clear hbo hri hso hbm hs hT ht hst hb400
          go_wp2_with fail
          go_loopw [7, 10, 11, 12, 64, 65, 66, 67, 68, 69, 70, 71, 72, 73, 74, 75, 76, 77, 78, 79, 80, 81, 82, 83, 84, 85, 86, 87, 88, 89, 90, 91, 92, 93, 94, 95, 96, 97, 98, 99, 100, 101, 102] (fun u i _ _ _ _ _ _ _ _ _ _ _ _ _ _ _ _ _ _ _ _ _ _ _ _ _ _ _ _ _ _ _ _ _ _ _ _ _ _ _ _ _ wr => ∃ (j : Nat) (Fb2 : Nat → Prop) (lb : List Opn) (nb : Int) (left : List Opn), j ≤ t ∧ i = .int .i64 (j : Int) ∧ left.length + j = t ∧ Some8 s lb left ∧ Both8 w wr ab Fa1 s na bb Fb2 lb nb u left) (fun _ i _ _ _ _ _ _ _ _ _ _ _ _ _ _ _ _ _ _ _ _ _ _ _ _ _ _ _ _ _ _ _ _ _ _ _ _ _ _ _ _ _ _ => t - (intOf i).toNat)
          case atStart => exact ⟨0, Fb, [], 0, T, by omega, rfl, by rw [HT.out]; rfl, HSO.out, by rw [← HT.out]; exact HBO.out⟩
          case round =>
            obtain ⟨j, Fb2, lb, nb, left, hj, rfl, hlj, hsome, hbo⟩ := hrel
            obtain ⟨Au, cu, rfl⟩ := row_form hbo.row
            obtain ⟨m, hm⟩ : ∃ m, left.length = m := ⟨_, rfl⟩
            rw [hm] at hlj
            by_cases hjt : j < t
            · have hjt' : (j : Int) < (t : Int) := by omega
              have hm0 : 0 < m := by omega
              obtain ⟨jq, hjq⟩ : ∃ q, j % n2 = q := ⟨_, rfl⟩
              have hjq2 : jq < n2 := by rw [← hjq]; exact Nat.mod_lt _ (by omega)
              have e1 : (j : Int).tmod (n2 : Int) = (jq : Int) := by rw [← hjq]; rfl
              obtain ⟨bz, oz, z, rfl, hz1, hz2⟩ := HZ.out.cell1 hjq2
              have hzc : wr.cell? ⟨bz, oz + jq, none⟩ = some (.int .i64 z) := (hbo.a.bel.cell (block_lt_of_cell hz2)).trans hz2
              obtain ⟨r, kk, e2, e3, e4, e5, hkk⟩ := tmod_pick z m hm0
              have e6 : IntKind.i64.wrap (r + (m : Int)) = r + (m : Int) := IntWalk.i64_in _ (by omega)
              have hnm : ((m : Int) == 0) = false := by simp; omega
              have hmn : ¬ m = 0 := by omega
              have hnq : ((n2 : Int) == 0) = false := hni
              have hkx := hsome.next HB400.out kk
              have hol := Opns.of_row hbo.row
              rw [hm] at hol hbo
              rw [hm]
              obtain ⟨bx, ox, x, hAu, hgx, hxx⟩ := hol.at kk (by omega)
              subst hAu
              have hmc : m ≤ cu := by obtain ⟨A', n', c', he, _, h, _⟩ := hol; cases he; exact h
              obtain ⟨hk0, hk1⟩ := hkx x hgx
              have hxw := HWF.out x (HBM.out x ((hsome.mem x).2 (.inr (List.mem_of_getElem? hgx))))
              have hpi : Calls Tryd.prog 12 #[.pointer (some ⟨bb, 0, none⟩), .agg (opCells x).toArray] wr fun e w' => e = .returned (.int .i64 0) ∧ ∃ F', Both8 w w' ab Fa1 s na bb F' (mvAdd lb x) (mvRedo lb x nb) (.slice (some ⟨bx, ox, none⟩) left.length cu) left :=
                (pinsert_st wr bb Fb2 lb nb x hbo.b.st hxw (HTM.out.on hbo.b.bel)).mono fun e w' ⟨he, F', h1, h2⟩ => by
                  rw [hk0] at he
                  rw [hm]
                  exact ⟨he, F', hbo.onB h1 h2⟩
              rw [hm] at hpi
              unfold opCells at hpi
              obtain ⟨c0, c1, c2', c3, c4, c5, c6, c7, c8, c9, c10⟩ := op_cells hxx
              have HPI := Go.Lib.hid hpi; have HK1 := Go.Lib.hid hk1; have HM := Go.Lib.hid hm
              clear hjq hz1 hz2 hpi hk0 hk1 hkx hol hxx hxw hgx hsome hbo hm
              go_wp2_with fail
              refine HPI.out.mono ?_; rintro e V4 ⟨rfl, F4, hb4⟩
              clear c0 c1 c2' c3 c4 c5 c6 c7 c8 c9 c10 hzc
              have hol4 : Opns V4 (.slice (some ⟨bx, ox, none⟩) m cu) left := Opns.of_row (n := m) (by have := hb4.row; rw [HM.out] at this; exact this)
              have HOL4 := Go.Lib.hid hol4; have HB4 := Go.Lib.hid hb4; clear hol4 hb4
              have hsz4 : V4.heap.size ≤ V4.heap.size := Nat.le_refl _
              have hkc : kk ≤ cu := by omega
              have hkc1 : kk + 1 ≤ cu := by omega
              by_cases hk1 : kk + 1 < m
              · go_wp2_with (first | (at_builtin; refine wpList_append_ops rfl (.tmp 92) (.tmp 95) rfl V4.heap.size (.slice none 0 0) 0 [] rfl (Row.nil _ _ _ _) _ kk (left.take kk) rfl (HOL4.out.rdTake kk (by omega)) (by omega) (by omega) hsz4 ?_; intro v6 V6 hr6 hb6; have HR6 := Go.Lib.hid hr6; have HB6 := Go.Lib.hid hb6; have HZ6 := Go.Lib.hid hb6.size; have HV6 := Go.Lib.hid (HOL4.out.below hb6); clear hr6 hb6) | (at_builtin; refine wpList_append_ops rfl (.tmp 97) (.tmp 101) rfl V4.heap.size v6 (0 + kk) ([] ++ left.take kk) rfl HR6.out _ _ (left.drop (kk + 1)) rfl (HV6.out.rdDrop (kk + 1) (by omega) _ (by intro h9; omega) _ (by omega) _) (by omega) (by omega) HZ6.out ?_; intro v8 V8 hr8 hb8; have HR8 := Go.Lib.hid hr8; have HB8n := Go.Lib.hid (HB6.out.trans hb8); clear hr8 hb8))
                have hl8 : (left.take kk ++ left.drop (kk + 1)).length = 0 + kk + (m - (kk + 1)) := by rw [List.length_append, List.length_take, List.length_drop, HM.out]; omega
                have hr9 := HR8.out
                rw [List.nil_append, ← hl8] at hr9
                have hb9 := HB4.out.fresh HB8n.out hr9
                exact ⟨⟨j + 1, F4, _, _, left.take kk ++ left.drop (kk + 1), by omega, by simp, by rw [hl8]; omega, HK1.out, hb9⟩, by simp [intOf]; omega⟩
              · obtain rfl : m = kk + 1 := by omega
                clear e2 e3 e4 e5 e6
                go_wp2_with (first | (at_builtin; refine wpList_append_ops rfl (.tmp 92) (.tmp 95) rfl V4.heap.size (.slice none 0 0) 0 [] rfl (Row.nil _ _ _ _) _ kk (left.take kk) rfl (HOL4.out.rdTake kk (by omega)) (by omega) (by omega) hsz4 ?_; intro v6 V6 hr6 hb6; have HR6 := Go.Lib.hid hr6; have HB6 := Go.Lib.hid hb6; have HZ6 := Go.Lib.hid hb6.size; have HV6 := Go.Lib.hid (HOL4.out.below hb6); clear hr6 hb6) | (at_builtin; refine wpList_append_ops rfl (.tmp 97) (.tmp 101) rfl V4.heap.size v6 (0 + kk) ([] ++ left.take kk) rfl HR6.out _ 0 (left.drop (kk + 1)) rfl (rdEnd8 left (kk + 1) (by rw [HM.out]; omega)) (by omega) (by omega) HZ6.out ?_; intro v8 V8 hr8 hb8; have HR8 := Go.Lib.hid hr8; have HB8n := Go.Lib.hid (HB6.out.trans hb8); clear hr8 hb8))
                have hl8 : (left.take kk ++ left.drop (kk + 1)).length = 0 + kk + 0 := by rw [List.length_append, List.length_take, List.length_drop, HM.out]; omega
                have hr9 := HR8.out
                rw [List.nil_append, ← hl8] at hr9
                have hb9 := HB4.out.fresh HB8n.out hr9
                exact ⟨⟨j + 1, F4, _, _, left.take kk ++ left.drop (kk + 1), by omega, by simp, by rw [hl8]; omega, HK1.out, hb9⟩, by simp [intOf]; omega⟩
            · obtain rfl : j = t := by omega
              obtain rfl : m = 0 := by omega
              obtain rfl : left = [] := List.eq_nil_of_length_eq_zero hm
              rw [hsome.end HRI.out] at hbo
              have hsm : ∀ u v w, Opns w u s → Opns w v s → Calls Tryd.prog 14 #[u, v] w fun e w' => e = .returned (.bool true) ∧ Below w.heap.size w w' := fun u v w h1 h2 => by
                have := rsameops_any u v s s w h1 h2 (by have := HB400.out; omega) (by have := HB400.out; omega)
                rw [decide_eq_true rfl] at this
                exact this
              have hfl := foldOf_length s
              have hsd : ∀ u v w, Nods w u (foldOf s) → Nods w v (foldOf s) → Calls Tryd.prog 17 #[u, v] w fun e w' => e = .returned (.bool true) ∧ Below w.heap.size w w' := fun u v w h1 h2 => by
                have := rsamends_any u v (foldOf s) (foldOf s) w h1 h2 (by have := HB400.out; omega) (by have := HB400.out; omega)
                rw [decide_eq_true rfl] at this
                exact this
              have hpa : ∀ V Fa Fb u, Both8 w V ab Fa s na bb Fb s nb u [] → Calls Tryd.prog 15 #[.pointer (some ⟨ab, 0, none⟩)] V fun e w' => ∃ A c F', e = .returned (.slice A j c) ∧ j ≤ c ∧ Both8 w w' ab F' s na bb Fb s nb u [] ∧ Out8 w' F' Fb (.slice A j c) s := fun V Fa Fb u hb =>
                (pops_st V ab Fa s na hb.a.st (HTM.out.on hb.a.bel)).mono fun e w' ⟨v', F', he, h1, h2, h3, h4⟩ => by
                  obtain ⟨A, c, rfl, hc⟩ := h1.len
                  have hq : Out8 w' F' Fb (.slice A s.length c) s := ⟨h1, fun h0 a n' c' he' => ⟨opns_block h1 h0 a n' c' he', (h2 a n' c' he').2, fun hf => by have g1 := (h2 a n' c' he').1; have g2 := hb.b.st.lt _ hf; omega⟩⟩
                  rw [HST.out] at he hc hq
                  exact ⟨A, c, F', he, hc, hb.onA h3 h4, hq⟩
              have hpb : ∀ V Fa Fb u o, Both8 w V ab Fa s na bb Fb s nb u [] → Out8 V Fa Fb o s → Calls Tryd.prog 15 #[.pointer (some ⟨bb, 0, none⟩)] V fun e w' => ∃ v F', e = .returned v ∧ Opns w' v s ∧ Both8 w w' ab Fa s na bb F' s nb u [] ∧ Out8 w' Fa F' o s := fun V Fa Fb u o hb ho =>
                (pops_st V bb Fb s nb hb.b.st (HTM.out.on hb.b.bel)).mono fun e w' ⟨v', F', he, h1, h2, h3, h4⟩ => ⟨v', F', he, h1, hb.onB h3 h4, (ho.swap.turn h4).swap⟩
              have hna : ∀ V Fa Fb u o, Both8 w V ab Fa s na bb Fb s nb u [] → Out8 V Fa Fb o s → Calls Tryd.prog 18 #[.pointer (some ⟨ab, 0, none⟩)] V fun e w' => ∃ v F', e = .returned v ∧ Nods w' v (foldOf s) ∧ InSet (fun k => ¬ Fb k) v ∧ Both8 w w' ab F' s na bb Fb s nb u [] ∧ Out8 w' F' Fb o s := fun V Fa Fb u o hb ho =>
                (pnodes_st V ab Fa s na hb.a.st (HTM.out.on hb.a.bel)).mono fun e w' ⟨v', F', he, h1, h2, h3, h4⟩ => ⟨v', F', he, h1, h2.mono fun k hk hf => by have g1 := hk.1; have g2 := hb.b.st.lt _ hf; omega, hb.onA h3 h4, ho.turn h4⟩
              have hnb : ∀ V Fa Fb u o n1, Both8 w V ab Fa s na bb Fb s nb u [] → Out8 V Fa Fb o s → Nods V n1 (foldOf s) → InSet (fun k => ¬ Fb k) n1 → Calls Tryd.prog 18 #[.pointer (some ⟨bb, 0, none⟩)] V fun e w' => ∃ v F', e = .returned v ∧ Nods w' v (foldOf s) ∧ Nods w' n1 (foldOf s) ∧ Both8 w w' ab Fa s na bb F' s nb u [] ∧ Out8 w' Fa F' o s := fun V Fa Fb u o n1 hb ho hn1 hi1 =>
                (pnodes_st V bb Fb s nb hb.b.st (HTM.out.on hb.b.bel)).mono fun e w' ⟨v', F', he, h1, h2, h3, h4⟩ => ⟨v', F', he, h1, hn1.kept h4.kept hi1, hb.onB h3 h4, (ho.swap.turn h4).swap⟩
              have hfo : ∀ V o, Below w.heap.size w V → Opns V o s → Calls Tryd.prog 21 #[o] V fun e w' => ∃ v', e = .returned v' ∧ Nods w' v' (foldOf s) ∧ Below V.heap.size V w' := fun V o hb ho =>
                HFOLD.out V o s hb ho HB400.out fun x hx => HWF.out x (HBM.out x hx)
              have HSM := Go.Lib.hid hsm; have HSD := Go.Lib.hid hsd; have HPA := Go.Lib.hid hpa; have HPB := Go.Lib.hid hpb; have HNA := Go.Lib.hid hna; have HNB := Go.Lib.hid hnb; have HFO := Go.Lib.hid hfo; have HBr := Go.Lib.hid hbo
              clear hsm hsd hpa hpb hna hnb hfo hbo hsome hfl hm hlj
              go_wp2_with fail
              refine (HPA.out _ _ _ _ HBr.out).mono ?_; rintro e V5 ⟨A5, c5, F5, rfl, hc5, hb5, ho5⟩
              have HB5 := Go.Lib.hid hb5; have HO5 := Go.Lib.hid ho5; clear hb5 ho5
              go_wp2_with fail
              go_loopw [14, 105, 106, 107, 108, 109, 110, 111, 112, 113, 114, 115, 116, 117, 118, 119, 120, 121, 122, 123] (fun i _ _ _ _ _ _ _ _ _ _ _ _ _ _ _ _ _ _ _ wr => ∃ q : Nat, 1 ≤ q ∧ (q ≤ j ∨ q = 1) ∧ i = .int .i64 (q : Int) ∧ Below V5.heap.size V5 wr) (fun i _ _ _ _ _ _ _ _ _ _ _ _ _ _ _ _ _ _ _ _ => j + 1 - (intOf i).toNat)
              case atStart => exact ⟨1, by omega, by omega, rfl, Below.refl _ _⟩
              case round =>
                obtain ⟨q, hq1, hq, rfl, hbw⟩ := hrel
                by_cases hqj : q < j
                · have hqj' : (q : Int) < (j : Int) := by omega
                  obtain ⟨by1, oy, y, rfl, hgy, hy⟩ := (HO5.out.ops.below hbw).at q hqj
                  obtain ⟨by2, oy2, x, he2, hgx, hx⟩ := (HO5.out.ops.below hbw).at (q - 1) (by omega)
                  cases he2
                  have hyl := hy.lt
                  obtain ⟨c0, c1, -⟩ := op_cells hy
                  obtain ⟨d0, d1, -⟩ := op_cells hx
                  obtain ⟨Vr, hVr⟩ : ∃ V, V = wr := ⟨_, rfl⟩
                  subst hVr
                  have hne := BW.ne Vr.heap.size Vr
                  have p0 := fun z : BW Vr.heap.size Vr => z.cell c0 hyl
                  have p1 := fun z : BW Vr.heap.size Vr => z.cell c1 hyl
                  have r0 := fun z : BW Vr.heap.size Vr => z.cell d0 hyl
                  have r1 := fun z : BW Vr.heap.size Vr => z.cell d1 hyl
                  have hls : x.stamp.less y.stamp = true := by
                    obtain ⟨h1, rfl⟩ := List.getElem?_eq_some_iff.1 hgx
                    obtain ⟨h2, rfl⟩ := List.getElem?_eq_some_iff.1 hgy
                    exact List.pairwise_iff_getElem.1 HRI.out (q - 1) q h1 h2 (by omega)
                  have hl2 := fun w => pless_any x.stamp y.stamp w
                  simp only [stCells] at hl2
                  rw [hls] at hl2
                  have HL2 := Go.Lib.hid hl2; have HBW := Go.Lib.hid hbw
                  have hws : IntKind.i64.wrap ((q : Int) - 1) = ((q - 1 : Nat) : Int) := by rw [IntKind.wrap_i64]; omega
                  have hj2 : ((q - 1 : Nat) : Int) < (j : Int) := by omega
                  have hj1 : q - 1 < j := by omega
                  clear hl2 hls hx hy hgx hgy hbw hq
                  obtain ⟨q1, hq1e⟩ : ∃ p, q - 1 = p := ⟨_, rfl⟩
                  rw [hq1e] at hws hj2 d0 d1 r0 r1 hj1
                  go_wp2_with fail
                  refine wp_region_calm Vr.heap.size Vr (Below.refl _ _) (by kernel_rfl) (by kernel_rfl) ?_
                  repeat (go_big_quiet_step ((go_at_call 20; with_reducible exact bw_of (Nat.le_refl _) (HL2.out _))))
                  refine wpQuiet_nil ?_
                  intro _ hw'
                  obtain ⟨z, rfl⟩ := hw'
                  go_wp2_with fail
                  exact ⟨⟨q + 1, by omega, by omega, by simp, bstep HBW.out z.2⟩, by simp [intOf]; omega⟩
                · have hb6 := HB5.out.more hbw
                  have ho6 := HO5.out.more hbw
                  have HB6 := Go.Lib.hid hb6; have HO6 := Go.Lib.hid ho6; clear hb6 ho6 hbw
                  have hqj' : ¬ (q : Int) < (j : Int) := by omega
                  go_wp2_with fail
                  refine (HPB.out _ _ _ _ _ HB6.out HO6.out).mono ?_; rintro e V7 ⟨v7, F7, rfl, hn7, hb7, ho7⟩
                  have HN7 := Go.Lib.hid hn7; have HB7 := Go.Lib.hid hb7; have HO7 := Go.Lib.hid ho7; clear hn7 hb7 ho7
                  go_wp2_with fail
                  refine (HSM.out _ _ _ HO7.out.ops HN7.out).mono ?_; rintro e V8 ⟨rfl, hb⟩
                  have HB8b := Go.Lib.hid (HB7.out.more hb); have HO8 := Go.Lib.hid (HO7.out.more hb); clear hb
                  go_wp2_with fail
                  refine (HNA.out _ _ _ _ _ HB8b.out HO8.out).mono ?_; rintro e V9 ⟨v9, F9, rfl, hn9, hi9, hb9, ho9⟩
                  have HN9 := Go.Lib.hid hn9; have HI9 := Go.Lib.hid hi9; have HB9 := Go.Lib.hid hb9; have HO9 := Go.Lib.hid ho9; clear hn9 hi9 hb9 ho9
                  go_wp2_with fail
                  refine (HNB.out _ _ _ _ _ _ HB9.out HO9.out HN9.out HI9.out).mono ?_; rintro e Va ⟨va, Fc, rfl, hna, hnb, hba, hoa⟩
                  have HNa := Go.Lib.hid hna; have HNb := Go.Lib.hid hnb; have HBa := Go.Lib.hid hba; have HOa := Go.Lib.hid hoa; clear hna hnb hba hoa
                  go_wp2_with fail
                  refine (HSD.out _ _ _ HNb.out HNa.out).mono ?_; rintro e Vb ⟨rfl, hb⟩
                  have HBb := Go.Lib.hid (HBa.out.more hb); have HOb := Go.Lib.hid (HOa.out.more hb); clear hb
                  go_wp2_with fail
                  refine (HNA.out _ _ _ _ _ HBb.out HOb.out).mono ?_; rintro e Vc ⟨vc, Fd, rfl, hnc, hic, hbc, hoc⟩
                  have HNc := Go.Lib.hid hnc; have HBc := Go.Lib.hid hbc; have HOc := Go.Lib.hid hoc; clear hnc hic hbc hoc
                  go_wp2_with fail
                  refine (HFO.out _ _ HBc.out.a.bel HOc.out.ops).mono ?_; rintro e Vd ⟨vd, rfl, hnd, hbd⟩
                  have HNd := Go.Lib.hid hnd; have HNe := Go.Lib.hid (HNc.out.below hbd); have HBd := Go.Lib.hid (bstep HBc.out.a.bel hbd); clear hnd hbd
                  go_wp2_with fail
                  refine (HSD.out _ _ _ HNe.out HNd.out).mono ?_; rintro e Ve ⟨rfl, hb⟩
                  have HBe := Go.Lib.hid (bstep HBd.out hb); clear hb
                  go_wp2_with fail
                  refine (awake8_any _ (HTM.out.on HBe.out)).mono ?_; rintro e Vf ⟨rfl, hb⟩
                  have HBf := Go.Lib.hid (bstep HBe.out hb); clear hb
                  go_wp2_with fail
                  go_ret
                  exact ⟨rfl, HBf.out⟩
end Go.Proofs.YtjeijolblcodpaaDoor.W
