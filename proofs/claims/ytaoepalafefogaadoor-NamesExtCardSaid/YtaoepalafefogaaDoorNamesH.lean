/- Lists of texts in memory; the law's few and texts, the reference's has. -/
import Derived.Test.YtaoepalafefogaaDoorNamesC
namespace Go.Proofs.YtaoepalafefogaaDoor.W
set_option linter.unusedVariables false
open Go.RowKit Go.Proofs Arb

/-- The value v is the texts ss. -/
def Strs (w : World) (v : Value) (ss : List (List UInt8)) : Prop :=
  ∃ A n c, v = .slice A n c ∧ ss.length = n ∧ n ≤ c ∧ (0 < n → ∃ b off, A = some ⟨b, off, none⟩ ∧ ∀ j s, ss[j]? = some s → w.cell? ⟨b, off + j, none⟩ = some (.string (BS s)))
theorem Strs.below {w w' : World} {v : Value} {ss : List (List UInt8)} (h : Strs w v ss) (hb : Below w.heap.size w w') : Strs w' v ss := by
  obtain ⟨A, n, c, hv, hl, hc, hr⟩ := h
  refine ⟨A, n, c, hv, hl, hc, fun h0 => ?_⟩
  obtain ⟨b, off, hA, hz⟩ := hr h0
  refine ⟨b, off, hA, fun j s hj => ?_⟩
  have h1 := hz j s hj
  exact (hb.cell (p := ⟨b, off + j, none⟩) (World.block_lt_of_cell? w _ h1)).trans h1
theorem Strs.heap {w w' : World} {v : Value} {ss : List (List UInt8)} (h : Strs w v ss) (hh : w'.heap = w.heap) : Strs w' v ss := by
  obtain ⟨A, n, c, hv, hl, hc, hr⟩ := h
  refine ⟨A, n, c, hv, hl, hc, fun h0 => ?_⟩
  obtain ⟨b, off, hA, hz⟩ := hr h0
  refine ⟨b, off, hA, fun j s hj => ?_⟩
  have h1 := hz j s hj
  unfold World.cell? at *
  rw [hh]; exact h1
theorem Strs.of_sl {w : World} {A : Option Addr} {n c : Nat} {ss : List (List UInt8)} (h : Sl w 1 A n c (ss.map fun l => [.string (BS l)])) : Strs w (.slice A n c) ss := by
  refine ⟨A, n, c, rfl, by simpa using h.1, h.2.1, fun h0 => ?_⟩
  obtain ⟨b, off, hA, hr⟩ := h.2.2.2 h0
  refine ⟨b, off, hA, fun j z hj => ?_⟩
  have := (hr j [.string (BS z)] (by simp [hj])).2 0 _ rfl
  simpa using this
theorem Strs.of_row {w : World} {base : Nat} {e : TypeId} {v : Value} {n : Nat} {ss : List (List UInt8)} (h : Row w base e 1 v n (ss.map fun l => .string (BS l))) : Strs w v ss := by
  have hl : ss.length = n := by simpa using h.1
  rcases Nat.eq_zero_or_pos n with h0 | h0
  · subst h0
    rcases h.2 with ⟨rfl, _⟩ | ⟨g, cap, cur, fz, rfl, _⟩
    · exact ⟨none, 0, 0, rfl, hl, Nat.le_refl _, fun h => by omega⟩
    · exact ⟨_, 0, cap, rfl, hl, Nat.zero_le _, fun h => by omega⟩
  · obtain ⟨g, cap, rfl, hc, _, _, hcs, _⟩ := h.open h0
    exact ⟨_, n, cap, rfl, hl, hc, fun _ => ⟨g, 0, rfl, fun j s hj => by rw [Nat.zero_add]; exact hcs j _ (by simp [hj])⟩⟩
/-- The first k of them. -/
theorem Strs.take {w : World} {A : Option Addr} {n c : Nat} {ss : List (List UInt8)} (h : Strs w (.slice A n c) ss) (k : Nat) (hk : k ≤ n) : Strs w (.slice A k c) (ss.take k) := by
  obtain ⟨A', n', c', hv, hl, hc, hr⟩ := h
  cases hv
  refine ⟨A, k, c, rfl, by rw [List.length_take]; omega, by omega, fun h0 => ?_⟩
  obtain ⟨b, off, hA, hz⟩ := hr (by omega)
  refine ⟨b, off, hA, fun j s hj => hz j s ?_⟩
  rw [List.getElem?_take] at hj
  split at hj
  · exact hj
  · cases hj
theorem Strs.open {w : World} {v : Value} {ss : List (List UInt8)} (h : Strs w v ss) : ∃ A c, v = .slice A ss.length c ∧ ss.length ≤ c ∧
    (0 < ss.length → ∃ b off, A = some ⟨b, off, none⟩ ∧ ∀ j (hj : j < ss.length), w.cell? ⟨b, off + j, none⟩ = some (.string (BS ss[j]))) := by
  obtain ⟨A, n, c, rfl, rfl, hc, hr⟩ := h
  refine ⟨A, c, rfl, hc, fun h0 => ?_⟩
  obtain ⟨b, off, hA, hz⟩ := hr h0
  exact ⟨b, off, hA, fun j hj => hz j _ (List.getElem?_eq_getElem hj)⟩

theorem BS_inj {a b : List UInt8} (h : BS a = BS b) : a = b := by have := congrArg (fun x => x.data.toList) h; simpa [BS_list] using this
theorem BS_toList (a b : List UInt8) : ((BS a).toList == (BS b).toList) = decide (a = b) := by
  rw [Go.Lib.toList_data, Go.Lib.toList_data, BS_list, BS_list]
  by_cases h : a = b
  · subst h; simp
  · simp [h]
theorem BS_eq (a b : List UInt8) : decide (BS a = BS b) = decide (a = b) := by
  by_cases h : a = b
  · subst h; simp
  · rw [decide_eq_false h, decide_eq_false (fun e => h (BS_inj e))]

set_option maxHeartbeats 1000000 in
theorem rhas_any (v : Value) (ss : List (List UInt8)) (s : List UInt8) (w : World) (h : Strs w v ss) (hl : ss.length ≤ 100000) :
    Calls Tryd.prog 25 #[v, .string (BS s)] w fun e w' => e = .returned (.bool (decide (s ∈ ss))) ∧ w' = w := by
  obtain ⟨A, c, rfl, hc, hr⟩ := h.open
  obtain ⟨r, hr2⟩ : ∃ r, decide (s ∈ ss) = r := ⟨_, rfl⟩
  rw [hr2]
  obtain ⟨n, hn⟩ : ∃ n, ss.length = n := ⟨_, rfl⟩
  rw [hn]
  have HR := Go.Lib.hid hr; have HR2 := Go.Lib.hid hr2; have HN := Go.Lib.hid hn
  clear hr hr2 h
  rw [hn] at hl hc
  clear hn
  go_enter Tryd.func25, Tryd.ntmps25
  go_wp2_with fail
  go_loop [5] (fun i => ∃ k : Nat, k ≤ n ∧ i = .int .i64 (k : Int) ∧ s ∉ ss.take k) (fun i => n - (intOf i).toNat)
  case atStart => exact ⟨0, by omega, rfl, by simp⟩
  case round =>
    obtain ⟨k, hk, rfl, hnot⟩ := hrel
    have HNOT := Go.Lib.hid hnot; clear hnot
    by_cases hkn : k < n
    · have hkl : k < ss.length := by have := HN.out; omega
      obtain ⟨b, off, rfl, hz⟩ := HR.out (by omega)
      have hcell := hz k hkl
      have hki : (k : Int) < (n : Int) := by omega
      have hq := BS_toList (ss[k]'hkl) s
      by_cases he : ss[k]'hkl = s
      · have hres : r = true := by rw [← HR2.out]; exact decide_eq_true (by rw [← he]; exact List.getElem_mem hkl)
        rw [decide_eq_true he] at hq
        subst hres
        clear hz he
        go_wp2_with fail
        go_ret
        exact ⟨rfl, rfl⟩
      · have hnext : s ∉ ss.take (k + 1) := by
          rw [List.take_succ_eq_append_getElem hkl]
          intro hm
          rcases List.mem_append.1 hm with hm | hm
          · exact HNOT.out hm
          · simp only [List.mem_singleton] at hm; exact he hm.symm
        rw [decide_eq_false he] at hq
        have HNX := Go.Lib.hid hnext
        clear hz he hnext
        go_wp2_with fail
        exact ⟨⟨k + 1, by omega, by simp, HNX.out⟩, by simp [intOf]; omega⟩
    · obtain rfl : k = n := by omega
      have hres : r = false := by
        rw [← HR2.out]
        refine decide_eq_false ?_
        have := HNOT.out
        rwa [List.take_of_length_le (by have := HN.out; omega)] at this
      subst hres
      go_wp2_with fail
      go_ret
      exact ⟨rfl, rfl⟩
end Go.Proofs.YtaoepalafefogaaDoor.W
