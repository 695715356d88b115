/- The walk of the law of one changed byte. -/
import Derived.Test.YtjicfkdggpinkaaCrcL
import Derived.Lib.ConvBytes
namespace Go.Proofs.Ytjicfkdggpinkaa.W
open Go.RowKit Go.Proofs Arb

/-- '[]byte(s)': a new row of the bytes. -/
theorem bytes_made (l : List UInt8) (w : World) : ∃ (cap : Nat) (W1 : World), l.length ≤ cap ∧ (convert 9 28 (.string (BS l))).run Try.prog w = .ok (.slice (some ⟨w.heap.size, 0, none⟩) l.length cap) W1 ∧
    (∀ j (h : j < l.length), W1.cell? ⟨w.heap.size, j, none⟩ = some (.int .u8 ((l[j]).toNat : Int))) ∧ (∀ j, j < l.length → W1.frozen? ⟨w.heap.size, j, none⟩ = false) ∧ Below w.heap.size w W1 ∧ W1.heap.size = w.heap.size + 1 := by
  refine ⟨grownCap w (BS l).size 0 5, Go.Lib.bytesWorld w 5 (BS l), ?_, ?_, ?_, ?_, ?_, Go.Lib.bytesWorld_size _ _ _⟩
  · rw [BS_size]
    exact grownCap_ge _ _ _ _
  · have := Go.Lib.run_convert_string_bytes (P := Try.prog) w 9 28 5 (BS l) Try.underlying9 Try.underlying28 Try.underlying5
    rw [BS_size] at this ⊢
    exact this
  · intro j h
    have := Go.Lib.bytesWorld_cell w 5 (BS l) j (by rw [BS_size]; exact h)
    rw [this, BS_list, List.getD_eq_getElem?_getD, List.getElem?_eq_getElem h]
    rfl
  · intro j h
    unfold World.frozen?
    rw [Go.Lib.bytesWorld_at_new]
    have : (BS l).size ≤ (Go.Lib.bytesCells w 5 (BS l)).size := by
      unfold Go.Lib.bytesCells
      rw [Array.size_append, Array.size_map]
      exact Nat.le_add_right _ _
    rw [BS_size] at this
    simp
    omega
  · exact ⟨rfl, rfl, rfl, by rw [Go.Lib.bytesWorld_size]; omega, fun k hk => Go.Lib.bytesWorld_at_old _ _ _ _ hk⟩

theorem place (p : Int) (n : Nat) (hn : ¬ n = 0) (hl : n ≤ 10000) : ∃ k : Nat, k < n ∧ (wrap64 (p.tmod (n : Int) + (n : Int))).tmod (n : Int) = (k : Int) := by
  have h1 : p.tmod (n : Int) < n := Int.tmod_lt_of_pos _ (by omega)
  have h2 : -(n : Int) < p.tmod (n : Int) := Int.lt_tmod_of_pos _ (by omega)
  have h3 : wrap64 (p.tmod (n : Int) + (n : Int)) = p.tmod (n : Int) + (n : Int) := by unfold wrap64; omega
  rw [h3]
  obtain ⟨m, hm⟩ : ∃ m : Nat, p.tmod (n : Int) + (n : Int) = m := ⟨(p.tmod (n : Int) + (n : Int)).toNat, by omega⟩
  rw [hm]
  exact ⟨m % n, Nat.mod_lt _ (by omega), rfl⟩

theorem byte_of {c : Int} (hc : (Lit.int .u8 c).wf = true) : ∃ b : UInt8, c = (b.toNat : Int) := by
  have h := bounds_u8 hc
  refine ⟨UInt8.ofNat c.toNat, ?_⟩
  rw [UInt8.toNat_ofNat']
  omega

set_option maxRecDepth 20000 in
set_option maxHeartbeats 1600000 in
theorem crcTold_walk (l : List UInt8) (hl0 : l.length ≤ 140737488351232) (p : Int) (_ : (Lit.int .i64 p).wf = true) (c : Int) (hc : (Lit.int .u8 c).wf = true) (w : World) :
    Calls Try.prog 6 #[.string (BS l), .int .i64 p, .int .u8 c] w fun e w' => e = .returned (.bool true) ∧ Below w.heap.size w w' := by
  have hsz : (BS l).size = l.length := BS_size l
  by_cases h0 : l.length = 0
  · rw [h0] at hsz
    go_enter Try.func6, Try.ntmps6
    go_wp2_with fail
    refine (awake_any _).mono ?_; rintro e w3 ⟨rfl, hb3⟩
    have HB3 := Go.Lib.hid hb3; clear hb3
    go_wp2_with fail
    go_ret
    exact ⟨rfl, HB3.out⟩
  · by_cases hl : 10000 < l.length
    · have hne : ((l.length : Int) == 0) = false := beq_eq_false_iff_ne.2 (by omega)
      go_enter Try.func6, Try.ntmps6
      go_wp2_with fail
      refine (awake_any _).mono ?_; rintro e w3 ⟨rfl, hb3⟩
      have HB3 := Go.Lib.hid hb3; clear hb3
      go_wp2_with fail
      go_ret
      exact ⟨rfl, HB3.out⟩
    · have hne : ((l.length : Int) == 0) = false := beq_eq_false_iff_ne.2 (by omega)
      obtain ⟨cap, W1, hcap, hcv, hcell, hfr, hb1, hs1⟩ := bytes_made l w
      have HCE := Go.Lib.hid hcell; clear hcell
      have HFR := Go.Lib.hid hfr; clear hfr
      have HB1 := Go.Lib.hid hb1; clear hb1
      have hnz : ¬ l.length = 0 := h0
      clear h0
      obtain ⟨k, hk, hkp⟩ := place p l.length hnz (by omega)
      obtain ⟨b, rfl⟩ := byte_of hc
      have hck := HCE.out k hk
      have hfk := HFR.out k hk
      obtain ⟨d, hd⟩ : ∃ d, (l[k]).toNat = d := ⟨_, rfl⟩
      rw [hd] at hck
      have hb2 : Below w.heap.size w (W1.setCell ⟨w.heap.size, k, none⟩ (.int .u8 (b.toNat : Int))) := HB1.out.setCell (Nat.le_refl _) _
      have hst : (convert 28 9 (.slice (some ⟨w.heap.size, 0, none⟩) l.length cap)).run Try.prog (W1.setCell ⟨w.heap.size, k, none⟩ (.int .u8 (b.toNat : Int))) = .ok (.string (BS (l.set k b))) (W1.setCell ⟨w.heap.size, k, none⟩ (.int .u8 (b.toNat : Int))) := by
        refine run_string_rd 28 9 5 _ l.length (l.set k b) Try.underlying28 Try.underlying5 Try.underlying9 ⟨by simp [Go.Lib.byteCells_length], .inr ⟨_, cap, rfl, ?_⟩⟩
        intro j u hu
        have hj : j < l.length := by
          have := (List.getElem?_eq_some_iff.1 hu).1
          simpa [Go.Lib.byteCells_length] using this
        rw [Go.Lib.addr_add, Nat.zero_add]
        simp only [Go.Lib.byteCells, List.getElem?_map, List.getElem?_set] at hu
        by_cases hjk : k = j
        · subst hjk
          rw [if_pos rfl, if_pos hj] at hu
          rw [World.cell?_setCell_same _ _ _ (HCE.out k hk)]
          simpa using hu
        · rw [if_neg hjk, List.getElem?_eq_getElem hj] at hu
          rw [World.cell?_setCell_other _ _ _ _ (by simp), HCE.out j hj]
          simpa using hu
      have hset := moreN_set 0 l k hk b
      have hsame : ((moreN 0 (l.set k b) : Int) == (moreN 0 l : Int)) = ((d : Int) == (b.toNat : Int)) := by
        rw [Bool.eq_iff_iff, beq_iff_eq, beq_iff_eq, Int.ofNat_inj, Int.ofNat_inj, hset, ← hd]
        exact UInt8.toNat_inj.symm
      have hlen : (l.set k b).length ≤ 140737488351232 := by rw [List.length_set]; exact hl0
      obtain ⟨m1, hm1⟩ : ∃ m1, moreN 0 (l.set k b) = m1 := ⟨_, rfl⟩
      obtain ⟨m2, hm2⟩ : ∃ m2, moreN 0 l = m2 := ⟨_, rfl⟩
      rw [hm1, hm2] at hsame
      have s1 := fun w => sum_any (l.set k b) w hlen
      have s2 := fun w => sum_any l w hl0
      rw [hm1] at s1
      rw [hm2] at s2
      have S1 := Go.Lib.hid s1; clear s1
      have S2 := Go.Lib.hid s2; clear s2
      have HB2 := Go.Lib.hid hb2; clear hb2
      clear hset hm1 hm2 hd
      go_enter Try.func6, Try.ntmps6
      go_wp2_with fail
      refine (S1.out _).mono ?_; rintro e w1 ⟨rfl, hb1⟩
      have HB3 := Go.Lib.hid hb1; clear hb1
      go_wp2_with fail
      refine (S2.out _).mono ?_; rintro e w2 ⟨rfl, hb2⟩
      have HB4 := Go.Lib.hid hb2; clear hb2
      go_wp2_with fail
      refine (awake_any _).mono ?_; rintro e w3 ⟨rfl, hb3⟩
      have HB5 := Go.Lib.hid hb3; clear hb3
      go_wp2_with fail
      go_ret
      exact ⟨rfl, bstep (bstep (bstep HB2.out HB3.out) HB4.out) HB5.out⟩
end Go.Proofs.Ytjicfkdggpinkaa.W
