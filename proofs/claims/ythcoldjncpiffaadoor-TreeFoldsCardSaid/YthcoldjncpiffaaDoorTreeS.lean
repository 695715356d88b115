/- The reference of trees: whether two lists of nodes are the same. -/
import Derived.Test.YthcoldjncpiffaaDoorTreeT
import Derived.Test.YthcoldjncpiffaaDoorCalm
import Derived.WalkSpells
import Derived.WalkLawsBesides
import Derived.Outline
import Derived.Lib.Hide
import Derived.Deep.QuietTactic
import Derived.BigQuiet
namespace Go.Proofs.YthcoldjncpiffaaDoor.W
set_option linter.unusedVariables false
open Go.RowKit Go.Proofs Arb

theorem Nods.form {w : World} {v : Value} {l : List Nod} (h : Nods w v l) (h0 : 0 < l.length) : ∃ b off c, v = .slice (some ⟨b, off, none⟩) l.length c ∧ l.length ≤ c ∧ ∀ j x, l[j]? = some x → NodAt w b (off + j * 7) x := by
  obtain ⟨A, n, c, rfl, rfl, hc, _, hr⟩ := h
  obtain ⟨b, off, rfl, hz⟩ := hr h0
  exact ⟨b, off, c, rfl, hc, hz⟩
/-- A value that is nodes, its length told. -/
theorem Nods.len {w : World} {v : Value} {l : List Nod} (h : Nods w v l) : ∃ A c, v = .slice A l.length c ∧ l.length ≤ c := by
  obtain ⟨A, n, c, rfl, rfl, hc, _⟩ := h
  exact ⟨A, c, rfl, hc⟩
theorem Nods.at {w : World} {A : Option Addr} {n c : Nat} {l : List Nod} (h : Nods w (.slice A n c) l) (k : Nat) (hk : k < n) : ∃ b off x, A = some ⟨b, off, none⟩ ∧ l[k]? = some x ∧ NodAt w b (off + k * 7) x := by
  obtain ⟨A', n', c', he, hl, _, _, hr⟩ := h
  cases he
  obtain ⟨b, off, rfl, hz⟩ := hr (by omega)
  have hg := List.getElem?_eq_getElem (l := l) (i := k) (by omega)
  exact ⟨b, off, _, rfl, hg, hz k _ hg⟩
theorem ne_nd' (x y : Nod) (w : World) : (binOp .neq 37 (.agg #[.int .i64 x.id.count, .int .i64 x.id.who, .bool x.dir, .int .i64 x.parent.count, .int .i64 x.parent.who, .string (BS x.name), .string (BS x.manifest)]) (.agg #[.int .i64 y.id.count, .int .i64 y.id.who, .bool y.dir, .int .i64 y.parent.count, .int .i64 y.parent.who, .string (BS y.name), .string (BS y.manifest)])).run Tryd.prog w = .ok (.bool (!decide (x = y))) w := ne_nd x y w
theorem eq_nd' (x y : Nod) (w : World) : (binOp .eql 37 (.agg #[.int .i64 x.id.count, .int .i64 x.id.who, .bool x.dir, .int .i64 x.parent.count, .int .i64 x.parent.who, .string (BS x.name), .string (BS x.manifest)]) (.agg #[.int .i64 y.id.count, .int .i64 y.id.who, .bool y.dir, .int .i64 y.parent.count, .int .i64 y.parent.who, .string (BS y.name), .string (BS y.manifest)])).run Tryd.prog w = .ok (.bool (decide (x = y))) w := eq_nd x y w

set_option maxRecDepth 20000 in
set_option maxHeartbeats 4000000 in
theorem rsamends_any (u v : Value) (a b : List Nod) (w : World) (hu : Nods w u a) (hv : Nods w v b) (ha : a.length ≤ 1000000) (hb : b.length ≤ 1000000) :
    Calls Tryd.prog 12 #[u, v] w fun e w' => e = .returned (.bool (decide (a = b))) ∧ Below w.heap.size w w' := by
  obtain ⟨r, hr⟩ : ∃ r, decide (a = b) = r := ⟨_, rfl⟩
  rw [hr]
  obtain ⟨A1, c1, rfl, hc1⟩ := hu.len
  obtain ⟨A2, c2, rfl, hc2⟩ := hv.len
  by_cases hl : a.length = b.length
  · rw [← hl] at hv hc2 ⊢
    obtain ⟨n, hn⟩ : ∃ n, a.length = n := ⟨_, rfl⟩
    have hn2 : b.length = n := by omega
    rw [hn] at hu hv hc1 hc2 ha
    rw [hn]
    have HU := Go.Lib.hid hu; clear hu
    have HV := Go.Lib.hid hv; clear hv
    have HR := Go.Lib.hid hr; clear hr
    have HN := Go.Lib.hid hn
    have HN2 := Go.Lib.hid hn2
    clear hl hn hn2 hb
    go_enter Tryd.func12, Tryd.ntmps12
    go_wp2_with fail
    go_loopw [5, 11, 12, 13, 14, 15, 16, 17, 18, 19, 20, 21, 22, 23, 24, 25] (fun i _ _ _ _ _ _ _ _ _ _ _ _ _ _ _ wr => ∃ k : Nat, k ≤ n ∧ i = .int .i64 (k : Int) ∧ (∀ j, j < k → a[j]? = b[j]?) ∧ Below w.heap.size w wr) (fun i _ _ _ _ _ _ _ _ _ _ _ _ _ _ _ _ => n - (intOf i).toNat)
    case atStart => exact ⟨0, by omega, rfl, fun _ h => by omega, Below.refl _ _⟩
    case round =>
      obtain ⟨k, hk, rfl, hall, hbw⟩ := hrel
      have HALL := Go.Lib.hid hall; clear hall
      by_cases hkn : k < n
      · have hkn' : (k : Int) < (n : Int) := by omega
        obtain ⟨b1, o1, x, rfl, hg1, hx⟩ := (HU.out.below hbw).at k hkn
        obtain ⟨b2, o2, y, rfl, hg2, hy⟩ := (HV.out.below hbw).at k hkn
        obtain ⟨c0, c1, c2, c3, c4, c5, c6⟩ := nd_cells hx
        obtain ⟨d0, d1, d2, d3, d4, d5, d6⟩ := nd_cells hy
        have hq := fun w => ne_nd' x y w
        obtain ⟨q, hqe⟩ : ∃ q, decide (x = y) = q := ⟨_, rfl⟩
        rw [hqe] at hq
        have HBW := Go.Lib.hid hbw; clear hbw
        have HG1 := Go.Lib.hid hg1; clear hg1
        have HG2 := Go.Lib.hid hg2; clear hg2
        have HQ := Go.Lib.hid hqe; clear hqe
        clear hx hy
        cases q
        · go_wp2_with fail
          first | (go_quiet (fail)) | skip
          go_wp2_with fail
          go_ret
          refine ⟨?_, below_drewN HBW.out _⟩
          have hab : ¬ a = b := fun h => by
            have h1 := HG1.out
            rw [h, HG2.out] at h1
            injection h1 with h1
            exact of_decide_eq_false HQ.out h1.symm
          rw [← HR.out, decide_eq_false hab]; rfl
        · go_wp2_with fail
          first | (go_quiet (fail)) | skip
          go_wp2_with fail
          refine ⟨⟨k + 1, by omega, by simp, fun j hj => ?_, below_drewN HBW.out _⟩, by simp [intOf]; omega⟩
          rcases Nat.lt_or_ge j k with h | h
          · exact HALL.out j h
          · obtain rfl : j = k := by omega
            rw [HG1.out, HG2.out, of_decide_eq_true HQ.out]
      · obtain rfl : k = n := by omega
        have HBW := Go.Lib.hid hbw; clear hbw
        go_wp2_with fail
        go_ret
        refine ⟨?_, HBW.out⟩
        have hab : a = b := eq_of_getElem a b (by rw [HN.out, HN2.out]) (by rw [HN.out]; exact HALL.out)
        rw [← HR.out, decide_eq_true hab]; rfl
  · have hrf : r = false := by rw [← hr]; simp; intro h; exact hl (by rw [h])
    subst hrf
    have hne : ((a.length : Int) != (b.length : Int)) = true := by simp; omega
    clear hr hu hv
    go_enter Tryd.func12, Tryd.ntmps12
    go_wp2_with fail
    go_ret
    exact ⟨rfl, Below.refl _ _⟩
end Go.Proofs.YthcoldjncpiffaaDoor.W
