/- Layer 7's law: stamps, own, right. -/
import Derived.Test.YthcoldjncpiffaaDoorTreeA
import Derived.Test.YthcoldjncpiffaaDoorClockI
namespace Go.Proofs.YthcoldjncpiffaaDoor.W
set_option linter.unusedVariables false
open Go.RowKit Go.Proofs Arb

set_option maxRecDepth 20000 in
set_option maxHeartbeats 4000000 in
theorem rstamps_any (u v : Value) (a b : List St) (w : World) (hu : Sts w u a) (hv : Sts w v b) (ha : a.length ≤ 1000000) (hb : b.length ≤ 1000000) :
    Calls Tryd.prog 21 #[u, v] w fun e w' => e = .returned (.bool (decide (a = b))) ∧ Below w.heap.size w w' := by
  obtain ⟨r, hr⟩ : ∃ r, decide (a = b) = r := ⟨_, rfl⟩
  rw [hr]
  obtain ⟨A1, c1, rfl, hc1⟩ := hu.len
  obtain ⟨A2, c2, rfl, hc2⟩ := hv.len
  by_cases hl : a.length = b.length
  · rw [← hl] at hv hc2 ⊢
    obtain ⟨n, hn⟩ : ∃ n, a.length = n := ⟨_, rfl⟩
    have hn2 : b.length = n := by omega
    rw [hn] at hu hv hc1 hc2 ha
    rw [hn]
    have HU := Go.Lib.hid hu; have HV := Go.Lib.hid hv; have HR := Go.Lib.hid hr; have HN := Go.Lib.hid hn; have HN2 := Go.Lib.hid hn2
    clear hu hv hr hl hn hn2 hb
    go_enter Tryd.func21, Tryd.ntmps21
    go_wp2_with fail
    go_loopw [5, 11, 12, 13, 14, 15, 16, 17, 18, 19, 20, 21, 22, 23, 24, 25] (fun i _ _ _ _ _ _ _ _ _ _ _ _ _ _ _ wr => ∃ k : Nat, k ≤ n ∧ i = .int .i64 (k : Int) ∧ (∀ j, j < k → a[j]? = b[j]?) ∧ Below w.heap.size w wr) (fun i _ _ _ _ _ _ _ _ _ _ _ _ _ _ _ _ => n - (intOf i).toNat)
    case atStart => exact ⟨0, by omega, rfl, fun _ h => by omega, Below.refl _ _⟩
    case round =>
      obtain ⟨k, hk, rfl, hall, hbw⟩ := hrel
      have HALL := Go.Lib.hid hall; clear hall
      by_cases hkn : k < n
      · have hkn' : (k : Int) < (n : Int) := by omega
        obtain ⟨b1, o1, x, rfl, hg1, hx⟩ := (HU.out.below hbw).at k hkn
        obtain ⟨b2, o2, y, rfl, hg2, hy⟩ := (HV.out.below hbw).at k hkn
        obtain ⟨c0, c1⟩ := st_cells hx
        obtain ⟨d0, d1⟩ := st_cells hy
        have hq := fun w => ne_st x y w
        obtain ⟨q, hqe⟩ : ∃ q, decide (x = y) = q := ⟨_, rfl⟩
        rw [hqe] at hq
        have HBW := Go.Lib.hid hbw; have HG1 := Go.Lib.hid hg1; have HG2 := Go.Lib.hid hg2; have HQ := Go.Lib.hid hqe
        clear hbw hg1 hg2 hqe hx hy
        cases q
        · go_wp2_with fail
          first | (go_quiet (fail)) | skip
          go_wp2_with fail
          go_ret
          refine ⟨?_, below_drewN HBW.out _⟩
          have hab : ¬ a = b := fun h => by
            have h1 := HG1.out
            rw [h, HG2.out] at h1
            injection h1 with h1
            exact of_decide_eq_false HQ.out h1.symm
          rw [← HR.out, decide_eq_false hab]; rfl
        · go_wp2_with fail
          first | (go_quiet (fail)) | skip
          go_wp2_with fail
          refine ⟨⟨k + 1, by omega, by simp, fun j hj => ?_, below_drewN HBW.out _⟩, by simp [intOf]; omega⟩
          rcases Nat.lt_or_ge j k with h | h
          · exact HALL.out j h
          · obtain rfl : j = k := by omega
            rw [HG1.out, HG2.out, of_decide_eq_true HQ.out]
      · obtain rfl : k = n := by omega
        have HBW := Go.Lib.hid hbw; clear hbw
        go_wp2_with fail
        go_ret
        refine ⟨?_, HBW.out⟩
        have hab : a = b := eq_of_getElem a b (by rw [HN.out, HN2.out]) (by rw [HN.out]; exact HALL.out)
        rw [← HR.out, decide_eq_true hab]; rfl
  · have hrf : r = false := by rw [← hr]; simp; intro h; exact hl (by rw [h])
    subst hrf
    have hne : ((a.length : Int) != (b.length : Int)) = true := by simp; omega
    clear hr hu hv
    go_enter Tryd.func21, Tryd.ntmps21
    go_wp2_with fail
    go_ret
    exact ⟨rfl, Below.refl _ _⟩

/-- Are all operations of right nodes? -/
def ownOf (l : List Opn) : Bool := l.all fun x => decide (x.node.right = 0)
theorem ownOf_true {l : List Opn} (h : ownOf l = true) : ∀ x ∈ l, x.node.right = 0 := by
  unfold ownOf at h
  simpa using h

set_option maxRecDepth 20000 in
set_option maxHeartbeats 4000000 in
theorem rown_any (v : Value) (l : List Opn) (w : World) (h : Opns w v l) (hl : l.length ≤ 1000000) :
    Calls Tryd.prog 26 #[v] w fun e w' => e = .returned (.bool (ownOf l)) ∧ Below w.heap.size w w' := by
  obtain ⟨A, c, rfl, hc⟩ := h.len
  obtain ⟨r, hr⟩ : ∃ r, ownOf l = r := ⟨_, rfl⟩
  rw [hr]
  obtain ⟨n, hnn⟩ : ∃ n, l.length = n := ⟨_, rfl⟩
  rw [hnn] at h hc hl
  rw [hnn]
  have htl : l.take n = l := List.take_of_length_le (by omega)
  have HV := Go.Lib.hid h; have HR := Go.Lib.hid hr; have HTL := Go.Lib.hid htl
  clear h hr hnn htl
  go_enter Tryd.func26, Tryd.ntmps26
  go_wp2_with fail
  go_loopw [3, 4, 5, 6, 7, 8, 9, 10, 11, 12, 13, 14, 15, 16] (fun i _ _ _ _ _ _ _ _ _ _ _ _ _ wr => ∃ k : Nat, k ≤ n ∧ i = .int .i64 (k : Int) ∧ (∀ x ∈ l.take k, x.node.right = 0) ∧ Below w.heap.size w wr) (fun i _ _ _ _ _ _ _ _ _ _ _ _ _ _ => n - (intOf i).toNat)
  case atStart => exact ⟨0, by omega, rfl, by simp, Below.refl _ _⟩
  case round =>
    obtain ⟨k, hk, rfl, hall, hbw⟩ := hrel
    have HALL := Go.Lib.hid hall; clear hall
    by_cases hkn : k < n
    · have hkn' : (k : Int) < (n : Int) := by omega
      obtain ⟨b1, o1, x, rfl, hg1, hx⟩ := (HV.out.below hbw).at k hkn
      obtain ⟨c0, c1, c2, c3, c4, c5, c6, c7, c8, c9, c10⟩ := op_cells hx
      have hc1 := fun w => pright_any x.node w
      simp only [stCells] at hc1
      obtain ⟨q, hq⟩ : ∃ q, x.node.right = q := ⟨_, rfl⟩
      rw [hq] at hc1
      have HC1 := Go.Lib.hid hc1; have HBW := Go.Lib.hid hbw; have HG1 := Go.Lib.hid hg1; have HQ := Go.Lib.hid hq
      clear hc1 hbw hg1 hx hq
      by_cases h0 : q = 0
      · have hb0 : (q != 0) = false := by simp [h0]
        have H0 := Go.Lib.hid h0; clear h0
        go_wp2_with (go_at_call 39; with_reducible refine (HC1.out _).mono ?_; rintro e w1 ⟨rfl, hb⟩; have HB1 := Go.Lib.hid (bstep HBW.out hb); clear hb)
        refine ⟨⟨k + 1, by omega, by simp, fun y hy => ?_, HB1.out⟩, by simp [intOf]; omega⟩
        rcases take_mem' HG1.out hy with h | rfl
        · exact HALL.out y h
        · rw [HQ.out, H0.out]
      · have hb0 : (q != 0) = true := by simp [h0]
        have hrf : r = false := by
          rw [← HR.out]
          unfold ownOf
          rw [List.all_eq_false]
          exact ⟨x, List.mem_of_getElem? HG1.out, by rw [HQ.out]; simpa using h0⟩
        have HRF := Go.Lib.hid hrf; clear hrf h0
        go_wp2_with (go_at_call 39; with_reducible refine (HC1.out _).mono ?_; rintro e w1 ⟨rfl, hb⟩; have HB1 := Go.Lib.hid (bstep HBW.out hb); clear hb)
        go_ret
        exact ⟨by rw [HRF.out]; rfl, HB1.out⟩
    · obtain rfl : k = n := by omega
      have hrt : r = true := by
        rw [← HR.out]
        unfold ownOf
        rw [List.all_eq_true]
        intro y hy
        have := HALL.out y (by rw [HTL.out]; exact hy)
        simpa using this
      have HRT := Go.Lib.hid hrt; have HBW := Go.Lib.hid hbw; clear hrt hbw
      go_wp2_with fail
      go_ret
      exact ⟨by rw [HRT.out]; rfl, HBW.out⟩

/-- What the law's right looks at, in a tree. -/
theorem tree_looks {l : List Nod} (hT : Tree l) {n : Nod} (hn : n ∈ l) : ∃ (m : Nat) (s : St), (chainOf l n.id).length = m + 2 ∧ (chainOf l n.id)[0]? = some n.id ∧ (chainOf l n.id)[1]? = some n.parent ∧ (chainOf l n.id)[m + 1]? = some s ∧ (s = St.zero ∨ s = St.trash) ∧ ((foundOf l n.parent).2 = true → (foundOf l n.parent).1.dir = true) := by
  obtain ⟨r, h1, h2⟩ := hT.chain hn
  have hlast : ∃ s, (n.parent :: r).getLast? = some s ∧ (s = St.zero ∨ s = St.trash) := by
    rcases h2 with h2 | h2
    · exact ⟨_, h2, .inl rfl⟩
    · exact ⟨_, h2, .inr rfl⟩
  obtain ⟨s, hs, hz⟩ := hlast
  refine ⟨r.length, s, by rw [h1]; rfl, by rw [h1]; rfl, by rw [h1]; rfl, ?_, hz, fun hf => ?_⟩
  · rw [h1]
    rw [List.getLast?_eq_getElem?] at hs
    simpa using hs
  · obtain ⟨y, b, hy⟩ : ∃ y b, foundOf l n.parent = (y, b) := ⟨_, _, rfl⟩
    rw [hy] at hf ⊢
    obtain rfl : b = true := hf
    obtain ⟨hm, he⟩ := findOf_some (found_true hy)
    rcases hT.par n hn with h | h | ⟨q, hq, hqi, hqd⟩
    · exact absurd (he.trans h) (right_ne_zero (hT.good y hm))
    · exact absurd (he.trans h) (right_ne_trash (hT.good y hm))
    · rw [hT.rise.uniq y hm q hq (he.trans hqi.symm)]
      exact hqd
theorem rises_less {l : List Nod} (h : Rises l) {j k : Nat} {x y : Nod} (hx : l[j]? = some x) (hy : l[k]? = some y) (hjk : j < k) : x.id.less y.id = true := by
  obtain ⟨h1, rfl⟩ := List.getElem?_eq_some_iff.1 hx
  obtain ⟨h2, rfl⟩ := List.getElem?_eq_some_iff.1 hy
  exact List.pairwise_iff_getElem.1 h j k h1 h2 hjk
end Go.Proofs.YthcoldjncpiffaaDoor.W
