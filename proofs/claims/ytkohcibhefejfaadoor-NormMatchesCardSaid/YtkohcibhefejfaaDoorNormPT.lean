/- The program's forms: the Type rules (types). -/
import Derived.Test.YtkohcibhefejfaaDoorNormPD
import Derived.Test.YtkohcibhefejfaaDoorNormPK2
namespace Arb
set_option maxRecDepth 20000
set_option linter.unusedVariables false
def typesIn (l : List Rul) : List Rul := l.filter fun x => decide (x.kind = 3)
theorem typesIn_snoc (l : List Rul) (x : Rul) : typesIn (l ++ [x]) = if x.kind = 3 then typesIn l ++ [⟨3, x.text⟩] else typesIn l := by
  unfold typesIn
  rw [List.filter_append]
  split
  · rename_i h
    obtain ⟨k, t⟩ := x
    simp only at h
    subst h
    simp
  · rename_i h; simp [h]
theorem typesIn_len (l : List Rul) : (typesIn l).length ≤ l.length := List.length_filter_le _ _
end Arb
namespace Go.Proofs.YtkohcibhefejfaaDoor.W
set_option maxRecDepth 20000
set_option linter.unusedVariables false
open Go.RowKit Go.Proofs Arb

set_option maxHeartbeats 8000000 in
theorem ntypes_any (v : Value) (l : List Rul) (w : World) (h : Ruls w v l) (ht : ∀ x ∈ l, x.text.length ≤ 100000) (hn : l.length ≤ 100000) :
    Calls Tryd.prog 21 #[v] w fun e w' => ∃ u, e = .returned u ∧ Row w' w.heap.size 29 2 u (formT l).length (rlsCells (formT l)) ∧ Below w.heap.size w w' := by
  obtain ⟨A, n, c, rfl, hln, hc, -⟩ := id h
  have hfr := fun (x : Rul) (hx : x ∈ l) W => pfresh_any 3 x.text W (by have := ht x hx; omega)
  have hso := fun v W (hr : Row W w.heap.size 29 2 v (typesIn l).length (rlsCells (typesIn l))) (hb : w.heap.size ≤ W.heap.size) => psort_rls w.heap.size v (typesIn l) W hr (by have := typesIn_len l; omega) hb
  have hco := fun v S W (hp : List.Perm S (typesIn l)) (hr : Row W w.heap.size 29 2 v S.length (rlsCells S)) (hb : w.heap.size ≤ W.heap.size) => pcompact_any w.heap.size v S W hr (by have := typesIn_len l; have := hp.length_eq; omega) hb
  have HL := Go.Lib.hid h; have HN := Go.Lib.hid hln; have HFR := Go.Lib.hid hfr; have HSO := Go.Lib.hid hso; have HCO := Go.Lib.hid hco
  rw [hln] at hn
  clear h hln ht hfr hso hco
  go_enter Tryd.func21, Tryd.ntmps21
  go_wp2_with fail
  go_loopw [3, 5, 8, 9, 10, 11, 12, 13, 14, 15, 16, 17, 18, 19, 20, 21, 22, 23] (fun vo _ i _ _ _ _ _ _ _ _ _ _ _ _ _ _ _ wr => ∃ k : Nat, k ≤ n ∧ i = .int .i64 (k : Int) ∧ Row wr w.heap.size 29 2 vo (typesIn (l.take k)).length (rlsCells (typesIn (l.take k))) ∧ Below w.heap.size w wr) (fun _ _ i _ _ _ _ _ _ _ _ _ _ _ _ _ _ _ _ => n - (intOf i).toNat)
  case atStart => exact ⟨0, by omega, rfl, Row.nil _ _ _ _, Below.refl _ _⟩
  case round =>
    obtain ⟨k, hkn, rfl, hrow, hbel⟩ := hrel
    obtain ⟨A', cc, rfl⟩ := row_form hrow
    have HROW := Go.Lib.hid hrow; have HB := Go.Lib.hid hbel
    clear hrow hbel
    by_cases hlt : k < n
    · have hki : (k : Int) < (n : Int) := by omega
      obtain ⟨g, o, x, rfl, hx, hx1⟩ := (HL.out.below HB.out).at k hlt
      have htk : typesIn (l.take (k + 1)) = if x.kind = 3 then typesIn (l.take k) ++ [⟨3, x.text⟩] else typesIn (l.take k) := by rw [List.take_add_one, hx, ← typesIn_snoc]; rfl
      obtain ⟨p0, p1⟩ := rl_cells hx1
      have hb1 : Below w.heap.size w (wr.alloc (.cells #[.int .i64 x.kind, .string (BS x.text)] 29)) := HB.out.alloc HB.out.size _
      have hr1 := HROW.out.alloc (.cells #[.int .i64 x.kind, .string (BS x.text)] 29)
      have hf := HFR.out x (List.mem_of_getElem? hx)
      have hcn : (typesIn (l.take k)).length ≤ 1000000 := by have := typesIn_len (l.take k); rw [List.length_take] at this; omega
      have HTK := Go.Lib.hid htk; have HB1 := Go.Lib.hid hb1; have HR1 := Go.Lib.hid hr1; have HF := Go.Lib.hid hf
      clear hx hx1 htk hb1 hr1 hf
      by_cases h3 : x.kind = 3
      · have hq : (x.kind == 3) = true := by simpa using h3
        have hfin : ∀ u W, Row W w.heap.size 29 2 u ((typesIn (l.take k)).length + 1) (rlsCells (typesIn (l.take k) ++ [⟨3, x.text⟩])) → Below w.heap.size w W → ∃ j : Nat, j ≤ n ∧ Value.int .i64 ((k : Int) + 1) = .int .i64 (j : Int) ∧ Row W w.heap.size 29 2 u (typesIn (l.take j)).length (rlsCells (typesIn (l.take j))) ∧ Below w.heap.size w W :=
          fun u W h1 h2 => ⟨k + 1, by omega, by simp, by rw [HTK.out, if_pos h3, List.length_append]; exact h1, h2⟩
        have HFI := Go.Lib.hid hfin
        have hk3 : x.kind = 3 := h3
        clear hfin h3
        rw [hk3] at p0 hq
        rw [hk3] at HR1 HB1
        clear hk3
        go_wp2_with fail
        refine (HF.out _).mono ?_; rintro e w5 ⟨rfl, hb5⟩
        have hr5 := HR1.out.below hb5
        have hbl5 := bstep HB1.out hb5
        have HR5 := Go.Lib.hid hr5; have HL5 := Go.Lib.hid hbl5
        clear hb5 hr5 hbl5
        go_wp2_with (at_builtin; refine wpList_append_rl rfl (.tmp 15) (.tmp 21) rfl w.heap.size (.slice A' (typesIn (l.take k)).length cc) (typesIn (l.take k)).length (typesIn (l.take k)) rfl HR5.out ⟨3, x.text⟩ _ rfl rfl hcn HL5.out.size ?_; intro v7 w7 hr7 hb7)
        exact ⟨HFI.out _ _ hr7 (HL5.out.trans hb7), by simp [intOf]; omega⟩
      · have hq : (x.kind == 3) = false := by simpa using h3
        have hfin : ∃ j : Nat, j ≤ n ∧ Value.int .i64 ((k : Int) + 1) = .int .i64 (j : Int) ∧ Row (wr.alloc (.cells #[.int .i64 x.kind, .string (BS x.text)] 29)) w.heap.size 29 2 (.slice A' (typesIn (l.take k)).length cc) (typesIn (l.take j)).length (rlsCells (typesIn (l.take j))) ∧ Below w.heap.size w (wr.alloc (.cells #[.int .i64 x.kind, .string (BS x.text)] 29)) :=
          ⟨k + 1, by omega, by simp, by rw [HTK.out, if_neg h3]; exact HR1.out, HB1.out⟩
        have HFI := Go.Lib.hid hfin
        clear hfin h3
        go_wp2_with fail
        exact ⟨HFI.out, by simp [intOf]; omega⟩
    · obtain rfl : k = n := by omega
      have hrow := HROW.out
      have htl : l.take k = l := List.take_of_length_le (by have := HN.out; omega)
      rw [htl] at hrow ⊢
      have hs := HSO.out _ _ hrow HB.out.size
      have HS := Go.Lib.hid hs
      clear hrow hs htl HROW
      go_wp2_with fail
      refine HS.out.mono ?_; rintro e w5 ⟨rfl, S, hp, hle, hr5, hb5⟩
      have hb6 := HB.out.trans hb5
      have hcq := HCO.out _ S w5 hp hr5 hb6.size
      have heq := formT_eq hp hle
      have HC := Go.Lib.hid hcq; have HB6 := Go.Lib.hid hb6; have HEQ := Go.Lib.hid heq
      clear hp hle hr5 hb5 hb6 hcq heq
      go_wp2_with fail
      refine HC.out.mono ?_; rintro e w6 ⟨u, rfl, hr6, hb7⟩
      rw [HEQ.out] at hr6
      have hfin := HB6.out.trans hb7
      have HF1 := Go.Lib.hid hr6; have HF2 := Go.Lib.hid hfin
      clear hr6 hfin hb7
      go_wp2_with fail
      go_ret
      exact ⟨_, rfl, HF1.out, HF2.out⟩
end Go.Proofs.YtkohcibhefejfaaDoor.W
