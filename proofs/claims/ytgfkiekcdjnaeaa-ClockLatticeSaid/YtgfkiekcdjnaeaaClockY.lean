/- The lesser numbers of vectors: what they are, and a copy of a vector. -/
import Derived.Test.YtgfkiekcdjnaeaaClockE
import Derived.Lib.SliceRun
namespace Go.Proofs.Ytgfkiekcdjnaeaa.W
set_option linter.unusedVariables false
open Go.RowKit Go.Proofs Arb

theorem getD_some (l : List Int) (j : Nat) (h : j < l.length) : l[j]? = some (l.getD j 0) := by
  rw [List.getD_eq_getElem?_getD, List.getElem?_eq_getElem h]
  rfl
/-- A vector's numbers, as far as N, without the zeros at the end: its normal form. -/
theorem trim_up (met : List Int) (N : Nat) (h : met.length ≤ N) : trim ((List.range N).map (vAt met)) = trim (upOf met) := by
  obtain ⟨n, hn, ht, hz, hl⟩ := trim_prefix (upOf met)
  have hul : (upOf met).length = met.length := by simp [upOf]
  have hup : ∀ j, (upOf met).getD j 0 = vAt met j := by
    intro j
    unfold upOf vAt
    rw [List.getD_eq_getElem?_getD, List.getD_eq_getElem?_getD, List.getElem?_map]
    cases met[j]? <;> rfl
  have hrg : ∀ j, j < N → ((List.range N).map (vAt met)).getD j 0 = vAt met j := by
    intro j hj
    rw [List.getD_eq_getElem?_getD, List.getElem?_map, List.getElem?_range hj]
    rfl
  have h1 := trim_take ((List.range N).map (vAt met)) n (by simp; omega) (fun j h1 h2 => by
    rw [hrg j (by simpa using h2), ← hup]
    rcases Nat.lt_or_ge j met.length with h3 | h3
    · exact hz j h1 (by omega)
    · rw [List.getD_eq_getElem?_getD, List.getElem?_eq_none (by omega)]; rfl) (by
    rcases Nat.eq_zero_or_pos n with h0 | h0
    · exact .inl h0
    · right
      rw [hrg (n - 1) (by omega), ← hup]
      exact hl h0)
  rw [h1, ht]
  apply List.ext_getElem?
  intro j
  rw [List.getElem?_take, List.getElem?_take]
  by_cases hj : j < n
  · rw [if_pos hj, if_pos hj, getD_some (upOf met) j (by omega), hup, List.getElem?_map, List.getElem?_range (by omega)]
    rfl
  · rw [if_neg hj, if_neg hj]
/-- The lesser of two vectors, as far as both go. -/
def mt (a b : List Int) : List Int := List.zipWith min a b
theorem mt_at (a b : List Int) (w : Nat) : vAt (mt a b) w = min (vAt a w) (vAt b w) := by
  unfold vAt mt
  simp only [List.getD_eq_getElem?_getD, List.getElem?_zipWith]
  cases h1 : a[w]? with
  | none => cases h2 : b[w]? with
    | none => rfl
    | some y => show max 0 0 = min (max 0 0) (max y 0); omega
  | some x => cases h2 : b[w]? with
    | none => show max 0 0 = min (max x 0) (max 0 0); omega
    | some y => show max (min x y) 0 = min (max x 0) (max y 0); omega
def metOf (v0 : List Int) (l : List (List Int)) : List Int := l.foldl mt v0
theorem metOf_at (w : Nat) : ∀ (l : List (List Int)) (v0 : List Int), vAt (metOf v0 l) w = l.foldl (fun n v => min n (vAt v w)) (vAt v0 w)
  | [], _ => rfl
  | v :: l, v0 => by
    show vAt (metOf (mt v0 v) l) w = _
    rw [metOf_at w l (mt v0 v), mt_at]
    rfl
theorem metOf_length : ∀ (l : List (List Int)) (v0 : List Int), (metOf v0 l).length ≤ v0.length
  | [], _ => Nat.le_refl _
  | v :: l, v0 => by
    refine Nat.le_trans (metOf_length l (mt v0 v)) ?_
    simp only [mt, List.length_zipWith]
    omega
theorem metOf_take (v0 : List Int) (l : List (List Int)) (k : Nat) (v : List Int) (h : l[k]? = some v) : metOf v0 (l.take (k + 1)) = mt (metOf v0 (l.take k)) v := by
  unfold metOf
  rw [List.take_add_one, h, List.foldl_append]
  rfl
theorem meet_met (v0 : List Int) (l : List (List Int)) : trim (upOf (metOf v0 l)) = meetOf (v0 :: l) := by
  have hle : v0.length ≤ longestOf (v0 :: l) := by
    have : ∀ (l : List (List Int)) (n : Nat), n ≤ l.foldl (fun n v => max n v.length) n := by
      intro l
      induction l with
      | nil => intro n; exact Nat.le_refl _
      | cons v l ih => intro n; exact Nat.le_trans (by show n ≤ max n v.length; omega) (ih _)
    exact Nat.le_trans (by show v0.length ≤ max 0 v0.length; omega) (this l _)
  rw [← trim_up (metOf v0 l) (longestOf (v0 :: l)) (Nat.le_trans (metOf_length l v0) hle)]
  unfold meetOf
  congr 1
  apply List.map_congr_left
  intro w _
  rw [metOf_at]
  unfold vMeet
  show _ = List.foldl (fun n v => min n (vAt v w)) (min (vAt v0 w) (vAt v0 w)) l
  rw [show min (vAt v0 w) (vAt v0 w) = vAt v0 w by omega]

/-- i numbers are the lesser ones, the others as they were. -/
def mtOf (a b : List Int) (i : Nat) : List Int := (a.take (min a.length b.length)).mapIdx fun j x => if j < i then min x (b.getD j 0) else x
theorem mtOf_length (a b : List Int) (i : Nat) : (mtOf a b i).length = min a.length b.length := by
  unfold mtOf
  rw [List.length_mapIdx, List.length_take]
  omega
theorem mtOf_zero (a b : List Int) : mtOf a b 0 = a.take (min a.length b.length) := by
  apply List.ext_getElem?
  intro i
  simp [mtOf, List.getElem?_mapIdx]
theorem mtOf_all (a b : List Int) : mtOf a b (min a.length b.length) = mt a b := by
  apply List.ext_getElem?
  intro i
  unfold mtOf mt
  rw [List.getElem?_mapIdx, List.getElem?_take, List.getElem?_zipWith]
  by_cases h : i < min a.length b.length
  · rw [if_pos h, List.getElem?_eq_getElem (show i < a.length by omega), getD_some b i (by omega)]
    show some (if i < min a.length b.length then min a[i] (b.getD i 0) else a[i]) = some (min a[i] (b.getD i 0))
    rw [if_pos h]
  · rw [if_neg h]
    rcases Nat.lt_or_ge i a.length with h1 | h1
    · rw [List.getElem?_eq_none (l := b) (by omega)]
      cases a[i]? <;> rfl
    · rw [List.getElem?_eq_none (l := a) h1]
      rfl
theorem mtOf_at (a b : List Int) (i : Nat) (h : i < min a.length b.length) : (mtOf a b i)[i]? = some (a.getD i 0) := by
  unfold mtOf
  rw [List.getElem?_mapIdx, List.getElem?_take, if_pos h, getD_some a i (by omega)]
  simp
theorem mtOf_set (a b : List Int) (i : Nat) (h : i < min a.length b.length) : (mtOf a b i).set i (min (a.getD i 0) (b.getD i 0)) = mtOf a b (i + 1) := by
  apply List.ext_getElem?
  intro j
  rw [List.getElem?_set, mtOf_length]
  by_cases hj : i = j
  · subst hj
    rw [if_pos rfl, if_pos h]
    unfold mtOf
    rw [List.getElem?_mapIdx, List.getElem?_take, if_pos h, getD_some a i (by omega)]
    simp
  · rw [if_neg hj]
    unfold mtOf
    rw [List.getElem?_mapIdx, List.getElem?_mapIdx]
    congr 1
    funext x
    by_cases h1 : j < i
    · rw [if_pos h1, if_pos (by omega)]
    · rw [if_neg h1, if_neg (by omega)]

/-- A row cut to its first elements. -/
theorem row_cut {w : World} {base : Nat} {e : TypeId} {A : Option Addr} {n c m : Nat} {zs : List Int} (h : Row w base e 1 (.slice A n c) n (zs.map fun z => .int .i64 z)) (hm : m ≤ n) :
    Row w base e 1 (.slice A m c) m ((zs.take m).map fun z => .int .i64 z) := by
  have hl : zs.length = n := by simpa using h.1
  refine ⟨by rw [List.length_map, List.length_take]; omega, ?_⟩
  rcases h.2 with ⟨he, h0⟩ | ⟨g, cap, cur, fz, he, hb, hg, hfz, hnc, hcm, hcs, ht⟩
  · cases he
    obtain rfl : m = 0 := by omega
    exact .inl ⟨rfl, rfl⟩
  · cases he
    refine .inr ⟨g, c, cur, fz, rfl, hb, hg, hfz, by omega, hcm, hcs, ?_⟩
    rw [List.map_take, ← ht, List.take_take]
    congr 1
    omega

set_option maxHeartbeats 1000000 in
theorem pclone_any (v : Value) (zs : List Int) (w : World) (h : Ints w v zs) (hn : zs.length ≤ 100000) :
    Calls Try.prog 33 #[v] w fun e w' => ∃ A c, e = .returned (.slice A zs.length c) ∧ Row w' w.heap.size 3 1 (.slice A zs.length c) zs.length (zs.map fun z => .int .i64 z) ∧ Below w.heap.size w w' := by
  obtain ⟨i0, hi, hz0, hz1, hz2⟩ := info_parts info_int
  obtain ⟨A, n, c, rfl, hl, hc, hr⟩ := h
  rw [hl] at hn ⊢
  have q : ∀ (w : World) (a : Option Addr) (n c n' c' : Nat), (binOp .eql 36 (.slice a n c) (.slice none n' c')).run Try.prog w = .ok (.bool a.isNone) w := fun w a n c n' c' => Go.Lib.run_eql_slice_nil w _ _ a n c n' c' Try.underlying36
  cases A with
  | none =>
    have h0 : n = 0 := by
      rcases Nat.eq_zero_or_pos n with h | h
      · exact h
      · obtain ⟨b, off, h, _⟩ := hr h
        cases h
    subst h0
    have hz : zs = [] := List.eq_nil_of_length_eq_zero hl
    subst hz
    clear hr hl
    go_enter Try.func33, Try.ntmps33
    go_wp2_with fail
    go_ret
    exact ⟨_, _, rfl, Row.nil _ _ _ _, Below.refl _ _⟩
  | some a =>
    have hrd : ∀ w', Below w.heap.size w w' → Rd w' 1 (.slice (some a) n c) n (zs.map fun z => .int .i64 z) := by
      intro w' hb
      refine ⟨by simpa using hl, .inr ⟨a, c, rfl, fun j u hj => ?_⟩⟩
      rw [List.getElem?_map, Option.map_eq_some_iff] at hj
      obtain ⟨z, hz, rfl⟩ := hj
      have hjl := (List.getElem?_eq_some_iff.1 hz).1
      obtain ⟨b, off, he, hcell⟩ := hr (by omega)
      cases he
      have := hcell j z hz
      rw [Go.Lib.addr_add]
      exact (hb.cell (p := ⟨b, off + j, none⟩) (World.block_lt_of_cell? w _ this)).trans this
    have HRD := Go.Lib.hid hrd
    clear hr hrd
    go_enter Try.func33, Try.ntmps33
    go_wp2_with (at_builtin; refine wpList_append_row rfl (.tmp 5) (.tmp 6) _ rfl w.heap.size 3 i0 (.int .i64 0) 1 8 Try.underlying36 hi hz0 hz1 hz2 rfl (by decide) (.slice (some ⟨w.heap.size, 0, none⟩) 0 0) 0 [] rfl (Row.made w #[] 3 0 1 (Nat.le_refl _) (by unfold maxLen; omega) rfl) (.slice (some a) n c) n _ rfl (HRD.out _ ((Below.refl _ _).alloc (Nat.le_refl _) _)) (by simp [Value.oneCell']) (by unfold maxLen; omega) (by omega) (by simp) ?_; intro v4 W4 hr4 hb4 _)
    rw [Nat.zero_add, List.nil_append] at hr4
    have hb5 := ((Below.refl w.heap.size w).alloc (Nat.le_refl _) (.cells #[] 3)).grown hb4 (by simp) (fun k hk => by simp [Value.ownBlock] at hk; omega)
    obtain ⟨A4, c4, rfl⟩ : ∃ A4 c4, v4 = .slice A4 n c4 := by
      rcases hr4.2 with ⟨rfl, rfl⟩ | ⟨g, cap, cur, fz, rfl, _⟩
      · exact ⟨_, _, rfl⟩
      · exact ⟨_, _, rfl⟩
    go_ret
    exact ⟨A4, c4, rfl, hr4, hb5⟩
end Go.Proofs.Ytgfkiekcdjnaeaa.W
