/- The program's forms: rules sorted by their texts. -/
import Derived.Test.YtkohcibhefejfaaDoorNormPW
import Derived.Shelf.SlSortCmp.WholeK
import Derived.Shelf.SlSortCmp.NoneTotal
namespace Go.Proofs.YtkohcibhefejfaaDoor.W
set_option maxRecDepth 20000
set_option linter.unusedVariables false
open Go.RowKit Go.Proofs Arb Go.Sort Go.Lib

instance : Inhabited Rul := ⟨⟨0, []⟩⟩
theorem rl_one (x : Rul) (v : Value) (hv : v ∈ rlCells x) : v.oneCell' = true := by
  simp [rlCells] at hv
  rcases hv with rfl | rfl <;> rfl
theorem flat_rls (d : Array Rul) : (flatK rlCells 2 d).toList = rlsCells d.toList := by
  apply List.ext_getElem?
  intro t
  by_cases ht : t < d.size * 2
  · have hj : t / 2 < d.toList.length := by rw [Array.length_toList]; omega
    obtain ⟨x, hx⟩ : ∃ x, d.toList[t / 2]? = some x := ⟨_, List.getElem?_eq_getElem hj⟩
    have h2 : (rlCells x)[t % 2]? = some ((rlCells x)[t % 2]'(show t % 2 < 2 by omega)) := List.getElem?_eq_getElem _
    have h3 := rlsCells_at d.toList (t / 2) x hx (t % 2) _ h2
    rw [show t / 2 * 2 + t % 2 = t by omega] at h3
    rw [h3]
    have h4 := get_flatK rlCells 2 d t ht
    have hd : d[t / 2]! = x := by
      rw [getElem!_pos d (t / 2) (by simpa using hj)]
      have := (List.getElem?_eq_some_iff.1 hx).2
      simpa using this
    rw [hd, getElem!_pos (rlCells x) (t % 2) (show t % 2 < 2 by omega)] at h4
    rw [Array.getElem?_toList, Array.getElem?_eq_getElem (by rw [size_flatK]; exact ht), ← h4, getElem!_pos]
  · rw [List.getElem?_eq_none (by rw [Array.length_toList, size_flatK]; omega), List.getElem?_eq_none (by rw [rlsCells_length, Array.length_toList]; omega)]
theorem holds_rls {w : World} {base g cap : Nat} {C : List Rul} (h : Row w base 29 2 (.slice (some ⟨g, 0, none⟩) C.length cap) C.length (rlsCells C)) : HoldsK rlCells 2 w g 0 C.toArray := by
  intro t ht
  rw [size_flatK] at ht
  have ht' : t < C.length * 2 := by simpa using ht
  obtain ⟨g', cap', he, -, -, -, hc, hf⟩ := h.open (by omega)
  cases he
  have h1 : (rlsCells C)[t]? = some ((flatK rlCells 2 C.toArray)[t]!) := by
    have := flat_rls C.toArray
    rw [show C.toArray.toList = C by simp] at this
    rw [← this, Array.getElem?_toList, Array.getElem?_eq_getElem (by rw [size_flatK]; exact ht), getElem!_pos]
  rw [Nat.zero_add]
  exact ⟨hc t _ h1, hf t ht'⟩
theorem below_sorted10 {w : World} {base g n : Nat} (d : Array Rul) (os : Array Obj) (hg : base ≤ g) (hb : base ≤ w.heap.size) : Below base w (sortWorldK rlCells 2 w g 0 n d os) := by
  refine ⟨rfl, rfl, rfl, by unfold sortWorldK; rw [size_grow, size_putRowK]; show w.heap.size ≤ w.heap.size + _; omega, fun k hk => ?_⟩
  unfold sortWorldK
  have hkw : k < w.heap.size := by omega
  rw [heap_grow_old _ _ (by rw [size_putRowK]; exact hkw)]
  have : g ≠ k := by omega
  simp [putRowK, putRow, mapBlock, Sort.ahead, Array.getElem?_modify, this]
/-- The row holds other rules, as many. -/
theorem row_sorted {w : World} {base g cap n : Nat} {C : List Rul} (h : Row w base 29 2 (.slice (some ⟨g, 0, none⟩) C.length cap) C.length (rlsCells C)) (d : Array Rul) (os : Array Obj) (hd : d.size = C.length) :
    Row (sortWorldK rlCells 2 w g 0 n d os) base 29 2 (.slice (some ⟨g, 0, none⟩) C.length cap) C.length (rlsCells d.toList) := by
  refine ⟨by rw [rlsCells_length, Array.length_toList, hd], ?_⟩
  rcases h.2 with ⟨h1, _⟩ | ⟨g', cap', cur, fz, h1, hb, hg, hfz, hnc, hcm, hcs, ht⟩
  · cases h1
  · cases h1
    have hw : (sortWorldK rlCells 2 w g 0 n d os).heap[g]? = some (.cells (putCells id 0 (flatK rlCells 2 d) cur) 29 fz) := by
      unfold sortWorldK
      have hgw : g < w.heap.size := (Array.getElem?_eq_some_iff.1 hg).1
      rw [heap_grow_old _ _ (by rw [size_putRowK]; exact hgw)]
      show (w.heap.modify g _)[g]? = _
      rw [Array.getElem?_modify, if_pos rfl, hg]
      rfl
    have hps : (putCells id 0 (flatK rlCells 2 d) cur).size = cur.size := by unfold putCells; simp
    refine .inr ⟨g, cap, _, fz, rfl, hb, hw, by rw [hps]; exact hfz, hnc, hcm, by rw [hps]; exact hcs, ?_⟩
    rw [← flat_rls]
    have hle : C.length * 2 ≤ cur.size := by rw [hcs]; exact Nat.mul_le_mul_right _ hnc
    apply List.ext_getElem?
    intro t
    rw [List.getElem?_take]
    by_cases htl : t < C.length * 2
    · rw [if_pos htl, Array.getElem?_toList, Array.getElem?_toList]
      have hF : t < (flatK rlCells 2 d).size := by rw [size_flatK, hd]; exact htl
      unfold putCells
      rw [Array.getElem?_mapIdx, Array.getElem?_eq_getElem (show t < cur.size by omega), Option.map_some, if_pos ⟨Nat.zero_le _, by omega⟩, Nat.sub_zero, Array.getElem?_eq_getElem hF, getElem!_pos _ t hF]
      rfl
    · rw [if_neg htl, Array.getElem?_toList, Array.getElem?_eq_none (by rw [size_flatK, hd]; omega)]
theorem sorted_le {d : Array Rul} (hs : SortedIn (ltOf cmpR) 0 d.size d) : d.toList.Pairwise leR := by
  rw [List.pairwise_iff_getElem]
  intro i j hi hj hij
  have h1 := hs i j (Nat.zero_le _) hij (by simpa using hj)
  rw [ltOf_rl_false, getElem!_pos d j (by simpa using hj), getElem!_pos d i (by simpa using hi)] at h1
  simpa [leR] using h1

set_option maxHeartbeats 2000000 in
theorem psort_rls (base : Nat) (v : Value) (C : List Rul) (w : World) (h : Row w base 29 2 v C.length (rlsCells C)) (hn : C.length ≤ 1000000) (hb : base ≤ w.heap.size) :
    Calls Tryd.prog 34 #[v, .func (.func 35) #[] #[]] w fun e w' => e = .returned (.tuple #[]) ∧ ∃ S : List Rul, S.Perm C ∧ S.Pairwise leR ∧ Row w' base 29 2 v S.length (rlsCells S) ∧ Below base w w' := by
  rcases (show (v = .slice none 0 0 ∧ C.length = 0) ∨ ∃ g cap, v = .slice (some ⟨g, 0, none⟩) C.length cap by
    rcases h.2 with h1 | ⟨g, cap, _, _, h1, _⟩
    · exact .inl h1
    · exact .inr ⟨g, cap, h1⟩) with ⟨rfl, h0⟩ | ⟨g, cap, rfl⟩
  · have hC : C = [] := List.eq_nil_of_length_eq_zero h0
    subst hC
    have := AnyF.slices_SortFunc_none Tryd.sortRule none 0 (.func (.func 35) #[] #[]) w
    refine Calls.mono (show Calls Tryd.prog 34 _ _ _ from this) ?_
    rintro e w' ⟨rfl, rfl⟩
    exact ⟨rfl, [], List.Perm.nil, List.Pairwise.nil, h, Below.refl _ _⟩
  · have hH := holds_rls h
    have hg := h.lt g rfl
    have eg : ∀ args w, (callFunc 35 args).run Tryd.prog w = .ok (.enter 35 args) w := enters_of Tryd.func35 (by kernel_rfl) rfl
    have hcmp : CmpLays Tryd.prog 35 #[] rlCells 2 cmpR g 0 C.toArray.size w := fun m os dk hs x y => (pby_gr x y _).mono fun e w' ⟨he, os', hw⟩ => ⟨he, 0, os', hw⟩
    have hcon := AnyQ.slices_SortFunc Tryd.sortRule 2 Tryd.isAgg29 Tryd.sizeOf29 rlCells (fun _ => rfl) (fun x v hv => rl_one x v hv) cmpR swo_rl 35 #[] g 0 cap C.toArray w eg hcmp hH hg.2 (by simp; omega)
    rw [List.size_toArray] at hcon
    refine Calls.mono (show Calls Tryd.prog 34 _ _ _ from hcon) ?_
    rintro e w' ⟨he, d', n, os, hp, hs, rfl⟩
    have hsz : d'.size = C.length := by simpa using hp.1
    have hperm : d'.toList.Perm C := by
      have := hp.2.2
      rw [show d'.extract 0 C.length = d' by rw [← hsz]; simp, show C.toArray.extract 0 C.length = C.toArray by simp] at this
      simpa using this
    have hr := row_sorted (n := n) h d' os hsz
    refine ⟨he, d'.toList, hperm, sorted_le (by rw [hsz]; exact hs), ?_, below_sorted10 d' os hg.1 hb⟩
    have e : d'.toList.length = C.length := by simpa using hsz
    rw [e]
    exact hr
end Go.Proofs.YtkohcibhefejfaaDoor.W
