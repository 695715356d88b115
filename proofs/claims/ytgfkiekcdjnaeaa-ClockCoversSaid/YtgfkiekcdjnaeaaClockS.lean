/- The reference of vectors: whether two are the same, the longest, the cut. -/
import Derived.Test.YtgfkiekcdjnaeaaClockV
namespace Go.Proofs.Ytgfkiekcdjnaeaa.W
set_option linter.unusedVariables false
open Go.RowKit Go.Proofs Arb

theorem Ints.cell {w : World} {b off n c : Nat} {zs : List Int} (h : Ints w (.slice (some ⟨b, off, none⟩) n c) zs) (k : Nat) (hk : k < n) : w.cell? ⟨b, off + k, none⟩ = some (.int .i64 (zs.getD k 0)) := by
  obtain ⟨A, n', c', he, hl, _, hr⟩ := h
  cases he
  obtain ⟨b', off', he, hz⟩ := hr (by omega)
  cases he
  refine hz k _ ?_
  rw [List.getD_eq_getElem?_getD, List.getElem?_eq_getElem (by omega)]
  rfl
theorem Ints.form {w : World} {v : Value} {zs : List Int} (h : Ints w v zs) (h0 : 0 < zs.length) : ∃ b off c, v = .slice (some ⟨b, off, none⟩) zs.length c ∧ zs.length ≤ c := by
  obtain ⟨A, n, c, rfl, rfl, hc, hr⟩ := h
  obtain ⟨b, off, rfl, _⟩ := hr h0
  exact ⟨b, off, c, rfl, hc⟩

theorem same_of (a b : List Int) (hl : a.length = b.length) (h : ∀ j, j < a.length → a.getD j 0 = b.getD j 0) : a = b := by
  apply List.ext_getElem hl
  intro i h1 h2
  have := h i h1
  rw [List.getD_eq_getElem?_getD, List.getD_eq_getElem?_getD, List.getElem?_eq_getElem h1, List.getElem?_eq_getElem h2] at this
  exact this

set_option maxHeartbeats 1000000 in
theorem rsame_any (u v : Value) (a b : List Int) (w : World) (hu : Ints w u a) (hv : Ints w v b) (ha : a.length ≤ 1000000) (hb : b.length ≤ 1000000) :
    Calls Try.prog 20 #[u, v] w fun e w' => e = .returned (.bool (decide (a = b))) ∧ ∃ m, w' = w.drewN m := by
  obtain ⟨r, hr⟩ : ∃ r, decide (a = b) = r := ⟨_, rfl⟩
  rw [hr]
  by_cases hl : a.length = b.length
  · rcases Nat.eq_zero_or_pos a.length with h0 | h0
    · obtain ⟨A, n, c, rfl, hn, _, _⟩ := hu
      obtain ⟨A2, n2, c2, rfl, hn2, _, _⟩ := hv
      obtain rfl : n = 0 := by omega
      obtain rfl : n2 = 0 := by omega
      have hab : a = b := by rw [List.eq_nil_of_length_eq_zero hn, List.eq_nil_of_length_eq_zero hn2]
      have hrt : r = true := by rw [← hr, hab]; simp
      subst hrt
      clear hr hl h0 hn hn2 hab
      go_enter Try.func20, Try.ntmps20
      go_wp2_with fail
      go_loopw [5] (fun i wr => i = .int .i64 0 ∧ wr = w) (fun _ _ => 0)
      case atStart => exact ⟨rfl, rfl⟩
      case round =>
        obtain ⟨rfl, rfl⟩ := hrel
        go_wp2_with fail
        go_ret
        exact ⟨rfl, 0, rfl⟩
    · obtain ⟨b1, o1, c1, rfl, hc1⟩ := hu.form h0
      obtain ⟨b2, o2, c2, rfl, hc2⟩ := hv.form (by omega)
      obtain ⟨n, hn⟩ : ∃ n, a.length = n := ⟨_, rfl⟩
      have hn2 : b.length = n := by omega
      have hnl : n ≤ 1000000 := by omega
      rw [hn2] at hv hc2 ⊢
      rw [hn] at hu hc1 ⊢
      have HU := Go.Lib.hid hu; clear hu
      have HV := Go.Lib.hid hv; clear hv
      have HR := Go.Lib.hid hr; clear hr
      have HN := Go.Lib.hid hn
      have HN2 := Go.Lib.hid hn2
      clear hl hn hn2
      go_enter Try.func20, Try.ntmps20
      go_wp2_with fail
      go_loopw [5] (fun i wr => ∃ k : Nat, k ≤ n ∧ i = .int .i64 (k : Int) ∧ (∀ j, j < k → a.getD j 0 = b.getD j 0) ∧ ∃ m, wr = w.drewN m) (fun i _ => n - (intOf i).toNat)
      case atStart => exact ⟨0, by omega, rfl, fun _ h => by omega, 0, rfl⟩
      case round =>
        obtain ⟨k, hk, rfl, hall, m, rfl⟩ := hrel
        have HALL := Go.Lib.hid hall; clear hall
        by_cases hkn : k < n
        · have hkn' : (k : Int) < (n : Int) := by omega
          have ca := HU.out.cell k hkn
          have cb := HV.out.cell k hkn
          obtain ⟨x, hx⟩ : ∃ x, a.getD k 0 = x := ⟨_, rfl⟩
          obtain ⟨y, hy⟩ : ∃ y, b.getD k 0 = y := ⟨_, rfl⟩
          rw [hx] at ca
          rw [hy] at cb
          have HX := Go.Lib.hid hx; clear hx
          have HY := Go.Lib.hid hy; clear hy
          by_cases hxy : x = y
          · have hne : (x != y) = false := by simp [hxy]
            have HXY := Go.Lib.hid hxy; clear hxy
            go_wp2_with fail
            first | (go_quiet (fail)) | skip
            go_wp2_with fail
            refine ⟨⟨k + 1, by omega, by simp, fun j hj => ?_, _, rfl⟩, by simp [intOf]; omega⟩
            rcases Nat.lt_or_ge j k with h | h
            · exact HALL.out j h
            · obtain rfl : j = k := by omega
              rw [HX.out, HY.out, HXY.out]
          · have hne : (x != y) = true := by simp [hxy]
            go_wp2_with fail
            first | (go_quiet (fail)) | skip
            go_wp2_with fail
            go_ret
            refine ⟨?_, _, World.drewN_drewN _ _ _⟩
            have hab : ¬ a = b := fun h => hxy (by rw [← HX.out, ← HY.out, h])
            rw [← HR.out]; simp [hab]
        · obtain rfl : k = n := by omega
          go_wp2_with fail
          go_ret
          refine ⟨?_, m, rfl⟩
          have hab : a = b := same_of a b (by rw [HN.out, HN2.out]) (by rw [HN.out]; exact HALL.out)
          rw [← HR.out, hab]; simp
  · have hrf : r = false := by rw [← hr]; simp; intro h; exact hl (by rw [h])
    subst hrf
    obtain ⟨A, n, c, rfl, hn, _, _⟩ := hu
    obtain ⟨A2, n2, c2, rfl, hn2, _, _⟩ := hv
    have hne : ((n : Int) != (n2 : Int)) = true := by simp; omega
    clear hr hl hn hn2
    go_enter Try.func20, Try.ntmps20
    go_wp2_with fail
    go_ret
    exact ⟨rfl, 0, rfl⟩

theorem longest_le (l : List (List Int)) (h : ∀ v ∈ l, v.length ≤ 100000) : longestOf l ≤ 100000 := by
  have : ∀ (l : List (List Int)) (n : Nat), n ≤ 100000 → (∀ v ∈ l, v.length ≤ 100000) → l.foldl (fun n v => max n v.length) n ≤ 100000 := by
    intro l
    induction l with
    | nil => intro n h _; exact h
    | cons v l ih => intro n h1 h2; exact ih _ (Nat.max_le.2 ⟨h1, h2 v (by simp)⟩) fun x hx => h2 x (by simp [hx])
  exact this l 0 (by omega) h

/-- The value v is the list of vectors ls. -/
def Vecs (w : World) (v : Value) (ls : List (List Int)) : Prop :=
  ∃ A n c, v = .slice A n c ∧ ls.length = n ∧ n ≤ c ∧ (0 < n → ∃ b off, A = some ⟨b, off, none⟩ ∧ ∀ j l, ls[j]? = some l → ∃ u, w.cell? ⟨b, off + j, none⟩ = some u ∧ Ints w u l)
theorem Vecs.below {w w' : World} {v : Value} {ls : List (List Int)} (h : Vecs w v ls) (hb : Below w.heap.size w w') : Vecs w' v ls := by
  obtain ⟨A, n, c, hv, hl, hc, hr⟩ := h
  refine ⟨A, n, c, hv, hl, hc, fun h0 => ?_⟩
  obtain ⟨b, off, hA, hz⟩ := hr h0
  refine ⟨b, off, hA, fun j l hj => ?_⟩
  obtain ⟨u, hu, hi⟩ := hz j l hj
  exact ⟨u, (hb.cell (p := ⟨b, off + j, none⟩) (World.block_lt_of_cell? w _ hu)).trans hu, hi.below hb⟩
theorem Vecs.at {w : World} {A : Option Addr} {n c : Nat} {ls : List (List Int)} (h : Vecs w (.slice A n c) ls) (k : Nat) (hk : k < n) :
    ∃ b off A' c' l, A = some ⟨b, off, none⟩ ∧ ls[k]? = some l ∧ w.cell? ⟨b, off + k, none⟩ = some (.slice A' l.length c') ∧ Ints w (.slice A' l.length c') l := by
  obtain ⟨A0, n0, c0, he, hl, _, hr⟩ := h
  cases he
  obtain ⟨b, off, hA, hz⟩ := hr (by omega)
  have hkl := List.getElem?_eq_getElem (l := ls) (i := k) (by omega)
  obtain ⟨u, hu, hi⟩ := hz k _ hkl
  obtain ⟨A', n', c', rfl, hn', h3, h4⟩ := hi
  subst hn'
  exact ⟨b, off, A', c', ls[k], hA, hkl, hu, ⟨A', _, c', rfl, rfl, h3, h4⟩⟩

set_option maxHeartbeats 1000000 in
theorem rlongest_any (v : Value) (ls : List (List Int)) (w : World) (h : Vecs w v ls) (hn : ls.length ≤ 100000) (hl : ∀ l ∈ ls, l.length ≤ 100000) :
    Calls Try.prog 30 #[v] w fun e w' => e = .returned (.int .i64 (longestOf ls : Int)) ∧ w = w' := by
  obtain ⟨r, hr⟩ : ∃ r, longestOf ls = r := ⟨_, rfl⟩
  rw [hr]
  have HV := Go.Lib.hid h
  obtain ⟨A, n, c, rfl, hls, _⟩ := h
  have hnl : n ≤ 100000 := by omega
  have HR := Go.Lib.hid hr; clear hr
  have HL := Go.Lib.hid hl; clear hl
  have HN := Go.Lib.hid hls; clear hls
  go_enter Try.func30, Try.ntmps30
  go_wp2_with fail
  go_loop [3, 4] (fun x i => ∃ k : Nat, k ≤ n ∧ i = .int .i64 (k : Int) ∧ x = .int .i64 (longestOf (ls.take k) : Int)) (fun _ i => n - (intOf i).toNat)
  case atStart => exact ⟨0, by omega, rfl, rfl⟩
  case round =>
    obtain ⟨k, hk, rfl, rfl⟩ := hrel
    by_cases hkn : k < n
    · obtain ⟨b, off, A', c', l, rfl, hg, hcell, _⟩ := HV.out.at k hkn
      have hkn' : (k : Int) < (n : Int) := by omega
      have hll : l.length ≤ 100000 := HL.out l (List.mem_of_getElem? hg)
      have hnx : longestOf (ls.take (k + 1)) = max (longestOf (ls.take k)) l.length := by
        unfold longestOf
        rw [List.take_add_one, hg, List.foldl_append]
        rfl
      have hxl : longestOf (ls.take k) ≤ 100000 := longest_le _ fun v hv => HL.out v (List.mem_of_mem_take hv)
      obtain ⟨x, hx⟩ : ∃ x, longestOf (ls.take k) = x := ⟨_, rfl⟩
      rw [hx] at hnx hxl
      rw [hx]
      clear hx hg
      by_cases hxy : x < l.length
      · rw [show max x l.length = l.length by omega] at hnx
        have HNX := Go.Lib.hid hnx; clear hnx
        go_wp2_with fail
        exact ⟨⟨k + 1, by omega, by simp, by rw [HNX.out]⟩, by simp [intOf]; omega⟩
      · rw [show max x l.length = x by omega] at hnx
        have HNX := Go.Lib.hid hnx; clear hnx
        go_wp2_with fail
        exact ⟨⟨k + 1, by omega, by simp, by rw [HNX.out]⟩, by simp [intOf]; omega⟩
    · obtain rfl : k = n := by omega
      go_wp2_with fail
      go_ret
      refine ⟨?_, rfl⟩
      rw [← HR.out, List.take_of_length_le (by rw [HN.out]; omega)]
      rfl
end Go.Proofs.Ytgfkiekcdjnaeaa.W
