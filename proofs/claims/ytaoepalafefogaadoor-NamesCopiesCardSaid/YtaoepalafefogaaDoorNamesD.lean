/- The reference of names: digits. -/
import Derived.Test.YtaoepalafefogaaDoorNamesE
import Derived.Deep.RegionWith
namespace Go.Proofs.YtaoepalafefogaaDoor.W
set_option linter.unusedVariables false
open Go.RowKit Go.Proofs Arb

theorem one_string (w : World) (e : TypeId) (d : Nat) (g : Nat) (hg : w.heap[g]? = some (.cells #[.int .u8 ((d : Int) % 256)] e (0, 0))) :
    (convert 44 9 (.slice (some ⟨g, 0, none⟩) 1 1)).run Tryd.prog w = .ok (.string (BS [UInt8.ofNat d])) w := by
  have hb := Go.Lib.byteCells_length [UInt8.ofNat d]
  refine run_string_rd (P := Tryd.prog) 44 9 5 _ 1 [UInt8.ofNat d] Tryd.underlying44 Tryd.underlying5 Tryd.underlying9 ⟨by simpa using hb, .inr ⟨_, 1, rfl, fun j u hu => ?_⟩⟩
  rw [Go.Lib.addr_add, Nat.zero_add, cell_of_row _ _ _ _ _ _ hg]
  match j with
  | 0 =>
    simp [Go.Lib.byteCells] at hu
    subst hu
    simp
  | j + 1 => simp [Go.Lib.byteCells] at hu

set_option maxHeartbeats 1000000 in
theorem rndigits_any : ∀ (n : Nat) (w : World), n ≤ 9999 → Calls Tryd.prog 23 #[.int .i64 (n : Int)] w fun e w' => e = .returned (.string (BS (dg n))) ∧ Below w.heap.size w w' := by
  intro n
  induction n using Nat.strongRecOn with
  | ind n ih =>
    intro w hn
    by_cases h10 : n < 10
    · have hd := dg_one n h10
      have h10' : (n : Int) < 10 := by omega
      have hcv := fun w g hg => one_string w 5 (48 + n) g hg
      have hm : ((48 + n : Nat) : Int) % 256 = (48 : Int) + n := by omega
      rw [hm] at hcv
      have hcell := heap_alloc_new w (.cells #[.int .u8 ((48 : Int) + n)] 5)
      have hcv1 := hcv _ _ hcell
      have HD := Go.Lib.hid hd; clear hd hcv hm hcell
      go_enter Tryd.func23, Tryd.ntmps23
      go_wp2_with fail
      go_ret
      refine ⟨?_, (Below.refl _ _).alloc (Nat.le_refl _) _⟩
      rw [HD.out]
      simp
    · have hd := dg_more n (by omega)
      have h10' : ¬ ((n : Int) < 10) := by omega
      have hq : (n : Int) / 10 = ((n / 10 : Nat) : Int) := by omega
      have hih := fun w => ih (n / 10) (by omega) w (by omega)
      rw [← hq] at hih
      have hcv := fun w g hg => one_string w 5 (48 + n % 10) g hg
      have hm : ((48 + n % 10 : Nat) : Int) % 256 = (48 : Int) + (n : Int) % 10 := by omega
      rw [hm] at hcv
      have hcat : BS (dg (n / 10)) ++ BS [UInt8.ofNat (48 + n % 10)] = BS (dg n) := by rw [hd]; exact ByteArray.mk_append_mk _ _
      obtain ⟨D, hD⟩ : ∃ D, BS (dg (n / 10)) = D := ⟨_, rfl⟩
      obtain ⟨E, hE⟩ : ∃ E, BS [UInt8.ofNat (48 + n % 10)] = E := ⟨_, rfl⟩
      have hDs : D.size ≤ 4 := by rw [← hD, BS_size]; exact dg_len _ (by omega)
      have hEs : E.size = 1 := by rw [← hE, BS_size]; rfl
      rw [hD] at hih hcat
      rw [hE] at hcv hcat
      have hcv1 := hcv (w.alloc (.cells #[.int .u8 ((48 : Int) + (n : Int) % 10)] 5)).drew w.heap.size (heap_alloc_new w _)
      have hno : ¬ 9223372036854775807 < D.size + E.size := by omega
      have v1 : IntKind.i64.wrap ((n : Int) / 10) = (n : Int) / 10 := by rw [IntWalk.i64_in _ (by omega)]
      have v0 : (n : Int).tmod 10 = (n : Int) % 10 := Int.tmod_eq_emod_of_nonneg (by omega)
      have v2 : IntKind.i64.wrap ((48 : Int) + (n : Int) % 10) = (48 : Int) + (n : Int) % 10 := by rw [IntWalk.i64_in _ (by omega)]
      have v3 : IntKind.u8.wrap ((48 : Int) + (n : Int) % 10) = (48 : Int) + (n : Int) % 10 := by rw [IntKind.wrap_u8']; omega
      have HCV := Go.Lib.hid hcv; have HIH := Go.Lib.hid hih; have HC := Go.Lib.hid hcat
      clear hd hcv hm hcat hih hq hE hD
      go_enter Tryd.func23, Tryd.ntmps23
      go_wp2_with fail
      go_region_with (first
        | (go_at_call 23
           refine (HIH.out _).mono ?_
           rintro e w1 ⟨rfl, hb1⟩
           have hcv2 := HCV.out _ _ (heap_alloc_new w1 (.cells #[.int .u8 ((48 : Int) + (n : Int) % 10)] 5))
           (first | (have hcv3 := HCV.out w1 w.heap.size ((hb1.block _ (by simp)).trans (heap_alloc_new _ _))) | skip)
           have HB1 := Go.Lib.hid hb1; clear hb1))
      all_goals
        go_wp2_with fail
        go_ret
        refine ⟨by rw [← HC.out]; rfl, ?_⟩
        first
          | (have h1 : Below w.heap.size w w1 := below_from HB1.out rfl rfl rfl rfl
             exact h1.alloc h1.size _)
          | (have hA0 := (Below.refl w.heap.size w).alloc (Nat.le_refl _) (.cells #[.int .u8 ((48 : Int) + (n : Int) % 10)] 5)
             have hA1 : Below w.heap.size w (w.alloc (.cells #[.int .u8 ((48 : Int) + (n : Int) % 10)] 5)).drew := ⟨hA0.os, hA0.tape, hA0.output, hA0.size, hA0.block⟩
             exact hA1.trans (HB1.out.mono hA1.size))
end Go.Proofs.YtaoepalafefogaaDoor.W
