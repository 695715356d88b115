/- The reference of operations: those above a vector. -/
import Derived.Test.YtmkmahjboocoaaaOpsS
namespace Go.Proofs.Ytmkmahjboocoaaa.W
set_option linter.unusedVariables false
open Go.RowKit Go.Proofs Arb

theorem info_op : (Try.prog.info? 25).map (fun i => (i.zero, i.size, i.bytes)) = some (some (.agg #[.int .i64 0, .int .i64 0, .int .i64 0, .int .i64 0, .int .i64 0, .int .i64 0, .bool false, .int .i64 0, .int .i64 0, .string ⟨#[]⟩, .string ⟨#[]⟩]), 11, 104) := by kernel_rfl
/-- The cells of operations, one behind the other. -/
def opsCells (l : List Opn) : List Value := (l.map opCells).flatten
theorem opsCells_length (l : List Opn) : (opsCells l).length = l.length * 11 := by
  induction l with
  | nil => rfl
  | cons x l ih =>
    show (opCells x ++ opsCells l).length = _
    rw [List.length_append, ih, List.length_cons]
    show 11 + l.length * 11 = _
    omega
theorem opsCells_append (l m : List Opn) : opsCells (l ++ m) = opsCells l ++ opsCells m := by simp [opsCells]
theorem opsCells_one (x : Opn) : opsCells [x] = opCells x := by simp [opsCells]
theorem opsCells_at : ∀ (l : List Opn) (j : Nat) (x : Opn), l[j]? = some x → ∀ (i : Nat) (v : Value), (opCells x)[i]? = some v → (opsCells l)[j * 11 + i]? = some v
  | [], j, x, h, _, _, _ => by simp at h
  | y :: l, j, x, h, i, v, hv => by
    have hi : i < 11 := (List.getElem?_eq_some_iff.1 hv).1
    show (opCells y ++ opsCells l)[j * 11 + i]? = some v
    cases j with
    | zero =>
      simp at h
      subst h
      rw [List.getElem?_append_left (by show 0 * 11 + i < 11; omega), Nat.zero_mul, Nat.zero_add]
      exact hv
    | succ j =>
      have h' : l[j]? = some x := by simpa using h
      have := opsCells_at l j x h' i v hv
      rw [List.getElem?_append_right (by show 11 ≤ _; omega)]
      show (opsCells l)[(j + 1) * 11 + i - 11]? = some v
      rw [show (j + 1) * 11 + i - 11 = j * 11 + i by omega]
      exact this
theorem Opns.of_row {w : World} {base : Nat} {e : TypeId} {v : Value} {n : Nat} {l : List Opn} (h : Row w base e 11 v n (opsCells l)) : Opns w v l := by
  have hl : l.length = n := by have := h.1; rw [opsCells_length] at this; omega
  rcases Nat.eq_zero_or_pos n with h0 | h0
  · subst h0
    rcases h.2 with ⟨rfl, _⟩ | ⟨g, cap, cur, fz, rfl, _⟩
    · exact ⟨none, 0, 0, rfl, hl, Nat.le_refl _, fun _ => rfl, fun h => by omega⟩
    · exact ⟨_, 0, cap, rfl, hl, Nat.zero_le _, nofun, fun h => by omega⟩
  · obtain ⟨g, cap, rfl, hc, _, _, hcell, _⟩ := h.open h0
    refine ⟨_, n, cap, rfl, hl, hc, nofun, fun _ => ⟨g, 0, rfl, fun j x hj => ?_⟩⟩
    intro i v hv
    rw [show 0 + j * 11 + i = j * 11 + i by omega]
    exact hcell _ _ (opsCells_at l j x hj i v hv)
theorem op_oneCell (x : Opn) : ∀ u ∈ opCells x, u.oneCell' = true := by
  intro u hu
  simp only [opCells, List.mem_cons, List.not_mem_nil, or_false] at hu
  rcases hu with rfl | rfl | rfl | rfl | rfl | rfl | rfl | rfl | rfl | rfl | rfl <;> simp [Value.oneCell']
theorem ops_oneCell (l : List Opn) : ∀ u ∈ opsCells l, u.oneCell' = true := by
  intro u hu
  obtain ⟨c, hc, hu⟩ := List.mem_flatten.1 hu
  obtain ⟨x, _, rfl⟩ := List.mem_map.1 hc
  exact op_oneCell x u hu
/-- The first k operations, as a slice that is appended. -/
theorem Opns.rdTake {w : World} {A : Option Addr} {n c : Nat} {l : List Opn} (h : Opns w (.slice A n c) l) (k : Nat) (hk : k ≤ n) : Rd w 11 (.slice A k c) k (opsCells (l.take k)) := by
  obtain ⟨A', n', c', he, hl, hc, hA, hr⟩ := h
  cases he
  refine ⟨by rw [opsCells_length, List.length_take]; omega, ?_⟩
  cases A with
  | none =>
    left
    have := hA rfl
    have h0 : k = 0 := by omega
    rw [this, h0]
    exact ⟨rfl, rfl⟩
  | some a =>
    right
    refine ⟨a, c, rfl, fun j u hu => ?_⟩
    have hj : j < k * 11 := by have := (List.getElem?_eq_some_iff.1 hu).1; rw [opsCells_length, List.length_take] at this; omega
    obtain ⟨b, off, he, hz⟩ := hr (by omega)
    cases he
    have hq : j / 11 < k := by omega
    have hx : (l.take k)[j / 11]? = l[j / 11]? := by rw [List.getElem?_take, if_pos hq]
    have hg := List.getElem?_eq_getElem (l := l) (i := j / 11) (by omega)
    have hop := hz _ _ hg
    have hc := opsCells_at (l.take k) (j / 11) _ (hx.trans hg) (j % 11) ((opCells (l[j / 11]'(by omega)))[j % 11]'(by show j % 11 < 11; omega)) (List.getElem?_eq_getElem _)
    rw [show j / 11 * 11 + j % 11 = j by omega, hu] at hc
    injection hc with hc
    rw [Go.Lib.addr_add, hc]
    have := hop (j % 11) _ (List.getElem?_eq_getElem (by show j % 11 < 11; omega))
    rw [show off + j / 11 * 11 + j % 11 = off + j by omega] at this
    exact this
/-- The operations from the k-th on, as a slice that is appended. -/
theorem Opns.rdDrop {w : World} {b off : Nat} {n c : Nat} {l : List Opn} (h : Opns w (.slice (some ⟨b, off, none⟩) n c) l) (k : Nat) (hk : k ≤ n) (o : Nat) (ho : k < n → o = off + k * 11) (m : Nat) (hm : m = n - k) (c2 : Nat) : Rd w 11 (.slice (some ⟨b, o, none⟩) m c2) m (opsCells (l.drop k)) := by
  obtain ⟨A', n', c', he, hl, hc, hA, hr⟩ := h
  cases he
  subst hm
  refine ⟨by rw [opsCells_length, List.length_drop]; omega, .inr ⟨_, c2, rfl, fun j u hu => ?_⟩⟩
  have hj : j < (n - k) * 11 := by have := (List.getElem?_eq_some_iff.1 hu).1; rw [opsCells_length, List.length_drop] at this; omega
  obtain ⟨b', off', he, hz⟩ := hr (by omega)
  cases he
  rw [ho (by omega)]
  have hg := List.getElem?_eq_getElem (l := l) (i := k + j / 11) (by omega)
  have hx : (l.drop k)[j / 11]? = l[k + j / 11]? := by rw [List.getElem?_drop]
  have hop := hz _ _ hg
  have hc := opsCells_at (l.drop k) (j / 11) _ (hx.trans hg) (j % 11) ((opCells (l[k + j / 11]'(by omega)))[j % 11]'(by show j % 11 < 11; omega)) (List.getElem?_eq_getElem _)
  rw [show j / 11 * 11 + j % 11 = j by omega, hu] at hc
  injection hc with hc
  rw [Go.Lib.addr_add, hc]
  have := hop (j % 11) _ (List.getElem?_eq_getElem (by show j % 11 < 11; omega))
  rw [show off + (k + j / 11) * 11 + j % 11 = off + k * 11 + j by omega] at this
  exact this

/-- 'append(s, l...)' of operations. -/
theorem wpList_append_ops {ops : Array Oper} {rest : List Oper} {o : Oper} {a : Act} {w : World} {Q : Exit → Act → World → Prop} (hgd : o.guard = none) (s x : Operand)
    (ho : o.op = .call { callee := .builtin .append, args := #[s, x], argTypes := #[27, 27] })
    (base : Nat) (v : Value) (n : Nat) (l : List Opn) (hs : a.eval s = v) (hown : Row w base 25 11 v n (opsCells l))
    (vx : Value) (m : Nat) (k : List Opn) (hx : a.eval x = vx) (hr : Rd w 11 vx m (opsCells k))
    (h63 : n ≤ 1000000) (h64 : m ≤ 1000000) (hbase : base ≤ w.heap.size)
    (h : ∀ v' w', Row w' base 25 11 v' (n + m) (opsCells (l ++ k)) → Below base w w' → wpList Try.prog ops Q rest (a.put o.dst v') w') :
    wpList Try.prog ops Q (o :: rest) a w := by
  obtain ⟨i0, hi, hz0, hz1, hz2⟩ := info_parts info_op
  refine wpList_append_row hgd s x 27 ho base 25 i0 _ 11 104 Try.underlying27 hi hz0 hz1 hz2 rfl (by decide) v n _ hs hown vx m (opsCells k) hx hr (ops_oneCell _) (by unfold maxLen; omega) (by omega) hbase ?_
  intro v' w' hr hg _
  exact h v' w' (by rw [opsCells_append]; exact hr) ((Below.refl base w).grown hg hbase fun k hk => (hown.lt k hk).1)

/-- 'append(s, x)' of one operation: x lies in a new block of its own first. -/
theorem wpList_append_op {ops : Array Oper} {rest : List Oper} {o : Oper} {a : Act} {w : World} {Q : Exit → Act → World → Prop} (hgd : o.guard = none) (s x : Operand)
    (ho : o.op = .call { callee := .builtin .append, args := #[s, x], argTypes := #[27, 27] })
    (base : Nat) (v : Value) (n : Nat) (l : List Opn) (hs : a.eval s = v) (hown : Row w base 25 11 v n (opsCells l))
    (y : Opn) (cs : Array Value) (hcs : cs = opArr y) (hx : a.eval x = .slice (some ⟨w.heap.size, 0, none⟩) 1 1)
    (h63 : n ≤ 1000000) (hbase : base ≤ w.heap.size)
    (h : ∀ v' w', Row w' base 25 11 v' (n + 1) (opsCells (l ++ [y])) → Below base w w' → wpList Try.prog ops Q rest (a.put o.dst v') w') :
    wpList Try.prog ops Q (o :: rest) a (w.alloc (.cells cs 25)) := by
  subst hcs
  obtain ⟨i0, hi, hz0, hz1, hz2⟩ := info_parts info_op
  refine wpList_append_row hgd s x 27 ho base 25 i0 _ 11 104 Try.underlying27 hi hz0 hz1 hz2 rfl (by decide) v n _ hs (hown.alloc _) _ 1 (opsCells [y]) hx ?_ (ops_oneCell _) (by unfold maxLen; omega) (by omega) (by simp; omega) ?_
  · have := Rd.new w (opArr y) 25 1 1 11 rfl
    rw [opsCells_one]
    simpa [opArr] using this
  · intro v' w' hr hg _
    exact h v' w' (by rw [opsCells_append]; exact hr) (((Below.refl base w).alloc hbase _).grown hg (by simp; omega) fun k hk => (hown.lt k hk).1)

set_option maxHeartbeats 1000000 in
theorem rat_int (v : Value) (zs : List Int) (k : Int) (w : World) (h : Ints w v zs) (hl : zs.length ≤ 100000) :
    Calls Try.prog 56 #[v, .int .i64 k] w fun e w' => e = .returned (.int .i64 (iAt zs k)) ∧ w = w' := by
  by_cases h0 : k < 0
  · have hv : iAt zs k = 0 := if_pos h0
    have HV := Go.Lib.hid hv; clear hv
    obtain ⟨A, n, c, rfl, rfl, hc, hr⟩ := h
    clear hr
    go_enter Try.func56, Try.ntmps56
    go_wp2_with fail
    go_ret
    rw [HV.out]
    exact ⟨rfl, rfl⟩
  · obtain ⟨j, rfl⟩ : ∃ j : Nat, k = (j : Int) := ⟨k.toNat, by omega⟩
    have hv : iAt zs (j : Int) = vAt zs j := by unfold iAt; rw [if_neg h0, Int.toNat_natCast]
    rw [hv]
    by_cases hj : j ≤ 100000
    · exact rat_any v zs j w h hl hj
    · have hv : vAt zs j = 0 := by unfold vAt; rw [List.getD_eq_getElem?_getD, List.getElem?_eq_none (by omega)]; rfl
      have HV := Go.Lib.hid hv; clear hv
      obtain ⟨A, n, c, rfl, rfl, hc, hr⟩ := h
      have h1 : ¬ ((j : Int) < (zs.length : Int)) := by omega
      clear hr
      go_enter Try.func56, Try.ntmps56
      go_wp2_with fail
      go_ret
      rw [HV.out]
      exact ⟨rfl, rfl⟩

theorem since_take (set : List Opn) (v : List Int) (k : Nat) (x : Opn) (h : set[k]? = some x) : sinceOf (set.take (k + 1)) v = if iAt v x.stamp.who < x.seq then sinceOf (set.take k) v ++ [x] else sinceOf (set.take k) v := by
  unfold sinceOf
  rw [List.take_add_one, h, List.filter_append]
  simp only [Option.toList_some, List.filter_cons, List.filter_nil, decide_eq_true_eq]
  split <;> simp
theorem since_length (set : List Opn) (v : List Int) : (sinceOf set v).length ≤ set.length := List.length_filter_le _ _

set_option maxRecDepth 20000 in
set_option maxHeartbeats 4000000 in
theorem rsince_any (v u : Value) (set : List Opn) (zs : List Int) (w : World) (h : Opns w v set) (hu : Ints w u zs) (hn : set.length ≤ 100000) (hz : zs.length ≤ 100000) :
    Calls Try.prog 27 #[v, u] w fun e w' => ∃ v', e = .returned v' ∧ Opns w' v' (sinceOf set zs) ∧ Below w.heap.size w w' := by
  obtain ⟨r, hr⟩ : ∃ r, sinceOf set zs = r := ⟨_, rfl⟩
  rw [hr]
  obtain ⟨A, c, rfl, hc⟩ := h.len
  obtain ⟨n, hnn⟩ : ∃ n, set.length = n := ⟨_, rfl⟩
  rw [hnn] at h hc hn
  rw [hnn]
  have hu' : ∃ A2 n2 c2, u = .slice A2 n2 c2 := by obtain ⟨A2, n2, c2, h, _⟩ := hu; exact ⟨A2, n2, c2, h⟩
  have HV := Go.Lib.hid h; clear h
  have HU := Go.Lib.hid hu; clear hu
  have HR := Go.Lib.hid hr; clear hr
  have HN := Go.Lib.hid hnn; clear hnn
  go_enter Try.func27, Try.ntmps27
  go_wp2_with fail
  go_loopw [5, 6, 7, 8, 9, 10, 11, 12, 13, 14, 15, 16, 17, 18, 19, 20, 21, 22, 23, 24, 25, 26, 27, 28, 29, 30, 31, 32, 33] (fun vo i _ _ _ _ _ _ _ _ _ _ _ _ _ _ _ _ _ _ _ _ _ _ _ _ _ _ _ wr => ∃ k : Nat, k ≤ n ∧ i = .int .i64 (k : Int) ∧ Row wr w.heap.size 25 11 vo (sinceOf (set.take k) zs).length (opsCells (sinceOf (set.take k) zs)) ∧ Below w.heap.size w wr) (fun _ i _ _ _ _ _ _ _ _ _ _ _ _ _ _ _ _ _ _ _ _ _ _ _ _ _ _ _ _ => n - (intOf i).toNat)
  case atStart => exact ⟨0, by omega, rfl, Row.nil _ _ _ _, Below.refl _ _⟩
  case round =>
    obtain ⟨k, hk, rfl, hrow, hb⟩ := hrel
    have hBs := hb.size
    by_cases hkn : k < n
    · have hkn' : (k : Int) < (n : Int) := by omega
      obtain ⟨b1, o1, x, rfl, hg1, hx⟩ := (HV.out.below hb).at k hkn
      obtain ⟨c0, c1, c2, c3, c4, c5, c6, c7, c8, c9, c10⟩ := op_cells hx
      have hat : ∀ W, Ints W u zs → Calls Try.prog 56 #[u, .int .i64 x.stamp.who] W fun e w' => e = .returned (.int .i64 (iAt zs x.stamp.who)) ∧ w' = W := fun W hW => (rat_int u zs x.stamp.who W hW hz).mono fun e w' h => ⟨h.1, h.2.symm⟩
      have hnx := since_take set zs k x hg1
      have hsl := since_length (set.take k) zs
      have htl : (set.take k).length ≤ n := by rw [List.length_take]; omega
      obtain ⟨y, hy⟩ : ∃ y, iAt zs x.stamp.who = y := ⟨_, rfl⟩
      rw [hy] at hat hnx
      obtain ⟨sk, hsk⟩ : ∃ s, sinceOf (set.take k) zs = s := ⟨_, rfl⟩
      rw [hsk] at hrow hsl hnx
      obtain ⟨m, hm⟩ : ∃ m, sk.length = m := ⟨_, rfl⟩
      rw [hm] at hrow hsl
      have HAT := Go.Lib.hid hat; clear hat
      have HROW := Go.Lib.hid hrow; clear hrow
      have HB := Go.Lib.hid hb; clear hb
      have HM := Go.Lib.hid hm; clear hm
      have HX := Go.Lib.hid hx
      clear hx hy hsk hg1
      by_cases hlt : y < x.seq
      · rw [if_pos hlt] at hnx
        have HNX := Go.Lib.hid hnx; clear hnx
        go_wp2_with fail
        go_quiet ((go_at_call 56; exact Calls.quiet_of_same (HAT.out _ (HU.out.below (below_drewN HB.out _)))))
        have hrq : Row (wr.drewN nq) w.heap.size 25 11 u5 m (opsCells sk) := HROW.out.heap rfl
        have hbq := below_drewN HB.out nq
        have hxq : OpAt (wr.drewN nq) b1 (o1 + k * 11) x := HX.out
        obtain ⟨Wq, hWq⟩ : ∃ W, wr.drewN nq = W := ⟨_, rfl⟩
        rw [hWq] at hrq hbq hxq
        rw [hWq]
        obtain ⟨c0, c1, c2, c3, c4, c5, c6, c7, c8, c9, c10⟩ := op_cells hxq
        have hBq := hbq.size
        have HRQ := Go.Lib.hid hrq; clear hrq
        have HBQ := Go.Lib.hid hbq; clear hbq hxq hWq
        go_wp2_with (at_builtin; refine wpList_append_op rfl (.tmp 27) (.tmp 32) rfl w.heap.size u5 m sk rfl HRQ.out x _ rfl rfl (by omega) hBq ?_; intro v4 W4 hr4 hb4)
        exact ⟨⟨k + 1, by omega, by simp, by rw [HNX.out, List.length_append, HM.out]; exact hr4, HBQ.out.trans hb4⟩, by simp [intOf]; omega⟩
      · rw [if_neg hlt] at hnx
        have HNX := Go.Lib.hid hnx; clear hnx
        go_wp2_with fail
        go_quiet ((go_at_call 56; exact Calls.quiet_of_same (HAT.out _ (HU.out.below (below_drewN HB.out _)))))
        have hrq : Row (wr.drewN nq) w.heap.size 25 11 u5 m (opsCells sk) := HROW.out.heap rfl
        have hbq := below_drewN HB.out nq
        have hxq : OpAt (wr.drewN nq) b1 (o1 + k * 11) x := HX.out
        obtain ⟨Wq, hWq⟩ : ∃ W, wr.drewN nq = W := ⟨_, rfl⟩
        rw [hWq] at hrq hbq hxq
        rw [hWq]
        obtain ⟨c0, c1, c2, c3, c4, c5, c6, c7, c8, c9, c10⟩ := op_cells hxq
        have hBq := hbq.size
        have HRQ := Go.Lib.hid hrq; clear hrq
        have HBQ := Go.Lib.hid hbq; clear hbq hxq hWq
        go_wp2_with fail
        exact ⟨⟨k + 1, by omega, by simp, by rw [HNX.out, HM.out]; exact HRQ.out, HBQ.out⟩, by simp [intOf]; omega⟩
    · obtain rfl : k = n := by omega
      rw [List.take_of_length_le (by rw [HN.out]; omega), HR.out] at hrow
      have hops := Opns.of_row hrow
      have HO := Go.Lib.hid hops; clear hops hrow
      have HB := Go.Lib.hid hb; clear hb
      go_wp2_with fail
      go_ret
      exact ⟨_, rfl, HO.out, HB.out⟩
end Go.Proofs.Ytmkmahjboocoaaa.W
