/- Contracts of package sha's calls over whole blocks, and of what is appended. -/
import Derived.Test.YtlkcmnpcfldbcaaDoorShaG
import Derived.Test.YtlkcmnpcfldbcaaDoorShelf
namespace Go.Proofs.YtlkcmnpcfldbcaaDoor.W
set_option linter.unusedVariables false
open Go.RowKit Go.Proofs Arb

theorem shaRun_snoc : ∀ (b : Nat) (h : List Nat) (s : List UInt8), shaRun (b + 1) h s = compress (shaRun b h s) ((s.drop (128 * b)).take 128)
  | 0, h, s => rfl
  | b + 1, h, s => by
    have := shaRun_snoc b (compress h (s.take 128)) (s.drop 128)
    rw [List.drop_drop, show 128 + 128 * b = 128 * (b + 1) by omega] at this
    exact this
theorem shaRun_length : ∀ (b : Nat) (h : List Nat) (s : List UInt8), h.length = 8 → (shaRun b h s).length = 8
  | 0, _, _, hh => hh
  | b + 1, h, s, hh => shaRun_length b _ _ (addAll_length _ _ hh (rounds_length _ _ hh _))
theorem shaRun_lt : ∀ (b : Nat) (h : List Nat) (s : List UInt8), (∀ x ∈ h, x < 18446744073709551616) → ∀ x ∈ shaRun b h s, x < 18446744073709551616
  | 0, _, _, hh => hh
  | b + 1, h, s, _ => shaRun_lt b _ _ (addAll_lt _ _)

set_option maxRecDepth 20000 in
set_option maxHeartbeats 4000000 in
theorem withBlocks_any (h : List Nat) (s : List UInt8) (n : Nat) (w : World) (hh8 : h.length = 8) (hlt : ∀ x ∈ h, x < 18446744073709551616) (hs : s.length = 128 * n) (hn : n ≤ 100000) (hK : KMet w) :
    Calls Tryd.prog 11 #[.agg (cells64 h), .string (BS s)] w fun e w' => e = .returned (.agg (cells64 (shaRun n h s))) ∧ Below w.heap.size w w' := by
  have hz8 := zero_eight
  have hsz : (BS s).size = 128 * n := by rw [BS_size]; exact hs
  have hlt' : 0 < w.heap.size := hK.lt
  obtain ⟨z8, hz8e⟩ : ∃ z8, cells64 [0, 0, 0, 0, 0, 0, 0, 0] = z8 := ⟨_, rfl⟩
  have hz8s : z8.size = 8 := by rw [← hz8e]; rfl
  obtain ⟨ah, hah⟩ : ∃ ah, cells64 h = ah := ⟨_, rfl⟩
  have k0 : ((w.alloc (.cells ah 26)).alloc (.cells z8 26)).heap[w.heap.size]? = some (.cells ah 26 (0, 0)) := (Below.heap_alloc _ _ _ (by simp)).trans (heap_alloc_new _ _)
  have k1 : ((w.alloc (.cells ah 26)).alloc (.cells z8 26)).heap[w.heap.size + 1]? = some (.cells z8 26 (0, 0)) := by
    have := heap_alloc_new (w.alloc (.cells ah 26)) (.cells z8 26); rwa [World.size_alloc] at this
  have kb : Below w.heap.size w ((w.alloc (.cells ah 26)).alloc (.cells z8 26)) := ((Below.refl _ w).alloc (Nat.le_refl _) _).alloc (by simp) _
  rw [hz8e] at hz8
  rw [← hah] at k0
  rw [hah]
  have HKM := Go.Lib.hid hK; have K0 := Go.Lib.hid k0; have K1 := Go.Lib.hid k1; have KB := Go.Lib.hid kb; have HZ8S := Go.Lib.hid hz8s; have HAH := Go.Lib.hid hah
  clear hK k0 k1 kb hz8s hah hz8e
  go_enter Tryd.func11, Tryd.ntmps11
  go_wp2_with fail
  go_loopw [5] (fun idx wr => ∃ b : Nat, b ≤ n ∧ idx = .int .i64 ((128 * b : Nat) : Int) ∧ wr.heap[w.heap.size]? = some (.cells (cells64 (shaRun b h s)) 26 (0, 0)) ∧
    wr.heap[w.heap.size + 1]? = some (.cells z8 26 (0, 0)) ∧ Below w.heap.size w wr) (fun idx _ => 128 * n - (intOf idx).toNat)
  case atStart => exact ⟨0, by omega, rfl, by rw [← HAH.out] ; exact K0.out, K1.out, KB.out⟩
  case round =>
    obtain ⟨b, hbn, rfl, a0, a1, ab⟩ := hrel
    by_cases hb : b < n
    · have hnext := shaRun_snoc b h s
      have hl8 := shaRun_length b h s hh8
      have hl8' := shaRun_length (b + 1) h s hh8
      have hls := shaRun_lt b h s hlt
      have hbl : ((s.drop (128 * b)).take 128).length = 128 := by rw [List.length_take, List.length_drop, hs]; omega
      obtain ⟨vs, hvs⟩ : ∃ vs, shaRun b h s = vs := ⟨_, rfl⟩
      rw [hvs] at hnext hl8 hls a0
      obtain ⟨x0, x1, x2, x3, x4, x5, x6, x7, rfl⟩ := eight_of vs hl8
      have hwb := fun w => withBlock_any [x0, x1, x2, x3, x4, x5, x6, x7] ((s.drop (128 * b)).take 128) w hl8 hls hbl
      rw [← hnext] at hwb
      obtain ⟨p, hp⟩ : ∃ p, 128 * b = p := ⟨_, rfl⟩
      obtain ⟨q, hq⟩ : ∃ q, p + 128 = q := ⟨_, rfl⟩
      have hext : (BS s).extract p q = BS ((s.drop (128 * b)).take 128) := by rw [BS_extract, ← hq, Nat.add_sub_cancel_left, hp]
      have hwp : IntKind.i64.wrap ((p : Int) + 128) = (q : Int) := by rw [IntWalk.i64_in _ (by omega)]; omega
      have hpq : (p : Int) ≤ (q : Int) := by omega
      have hqs : (q : Int) ≤ 128 * (n : Int) := by omega
      have hps : (p : Int) < 128 * (n : Int) := by omega
      rw [hp]
      have d0 : wr.cell? ⟨w.heap.size, 0, none⟩ = some (.int .u64 (x0 : Int)) := by rw [cell_of_row _ _ _ _ _ _ a0]; rfl
      have d1 : wr.cell? ⟨w.heap.size, 1, none⟩ = some (.int .u64 (x1 : Int)) := by rw [cell_of_row _ _ _ _ _ _ a0]; rfl
      have d2 : wr.cell? ⟨w.heap.size, 2, none⟩ = some (.int .u64 (x2 : Int)) := by rw [cell_of_row _ _ _ _ _ _ a0]; rfl
      have d3 : wr.cell? ⟨w.heap.size, 3, none⟩ = some (.int .u64 (x3 : Int)) := by rw [cell_of_row _ _ _ _ _ _ a0]; rfl
      have d4 : wr.cell? ⟨w.heap.size, 4, none⟩ = some (.int .u64 (x4 : Int)) := by rw [cell_of_row _ _ _ _ _ _ a0]; rfl
      have d5 : wr.cell? ⟨w.heap.size, 5, none⟩ = some (.int .u64 (x5 : Int)) := by rw [cell_of_row _ _ _ _ _ _ a0]; rfl
      have d6 : wr.cell? ⟨w.heap.size, 6, none⟩ = some (.int .u64 (x6 : Int)) := by rw [cell_of_row _ _ _ _ _ _ a0]; rfl
      have d7 : wr.cell? ⟨w.heap.size, 7, none⟩ = some (.int .u64 (x7 : Int)) := by rw [cell_of_row _ _ _ _ _ _ a0]; rfl
      have hkr := HKM.out.below ab hlt'
      have A0 := Go.Lib.hid a0; have A1 := Go.Lib.hid a1; have AB := Go.Lib.hid ab; have HWB := Go.Lib.hid hwb; have HEXT := Go.Lib.hid hext; have HKR := Go.Lib.hid hkr
      have HP := Go.Lib.hid hp; have HQ := Go.Lib.hid hq
      clear a0 a1 ab hwb hext hp hq hs hkr hnext hls hl8 hvs hbl
      go_wp2_with fail
      go_still_tail 6, (by kernel_rfl)
      go_wp2_with fail
      rw [HEXT.out]
      refine (HWB.out _ ?_).mono ?_
      · exact fun t ht => HKR.out t ht
      rintro e w2 ⟨rfl, hb2⟩
      have gl : w.heap.size + 1 < wr.heap.size := (Array.getElem?_eq_some_iff.1 A1.out).1
      have m0 : w2.heap[w.heap.size]? = some (.cells (cells64 [x0, x1, x2, x3, x4, x5, x6, x7]) 26 (0, 0)) := (hb2.block _ (show w.heap.size < wr.heap.size by omega)).trans A0.out
      have m1 : w2.heap[w.heap.size + 1]? = some (.cells z8 26 (0, 0)) := (hb2.block _ gl).trans A1.out
      have mb : Below w.heap.size w w2 := AB.out.trans (below_from (hb2.mono (show w.heap.size ≤ wr.heap.size by omega)) rfl rfl rfl rfl)
      obtain ⟨ac, hac⟩ : ∃ ac, cells64 (shaRun (b + 1) h s) = ac := ⟨_, rfl⟩
      have hacs : ac.size = 8 := by rw [← hac, cells64_size, hl8']
      have haco : ac.all (·.oneCell') = true := by rw [← hac]; exact cells64_all _
      rw [hac]
      have n0 : (w2.setRow w.heap.size ac).heap[w.heap.size]? = some (.cells (cells64 (shaRun (b + 1) h s)) 26 (0, 0)) := by rw [hac]; exact setRow_heap _ _ _ _ _ _ m0
      have n1 : (w2.setRow w.heap.size ac).heap[w.heap.size + 1]? = some (.cells z8 26 (0, 0)) := (setRow_other w2 w.heap.size _ ac (by omega)).trans m1
      have nb : Below w.heap.size w (w2.setRow w.heap.size ac) := below_setRow mb (by omega) _
      have M0 := Go.Lib.hid m0; have N0 := Go.Lib.hid n0; have N1 := Go.Lib.hid n1; have NB := Go.Lib.hid nb; have HACS := Go.Lib.hid hacs; have HACO := Go.Lib.hid haco
      clear m0 m1 mb n0 n1 nb hacs haco hac hb2
      go_wp2_with (refine wpList_store_row rfl 26 (.tmp 2) (.tmp 18) rfl w.heap.size ac rfl rfl 26 _ M0.out (size_eight.trans (by rw [HACS.out])) (by rw [HACS.out]; rfl) HACO.out ?_)
      have hp := HP.out; have hq := HQ.out
      exact ⟨⟨b + 1, by omega, by congr 1; omega, N0.out, N1.out, NB.out⟩, by simp [intOf]; omega⟩
    · obtain rfl : b = n := by omega
      have hl8 := shaRun_length b h s hh8
      obtain ⟨ac, hac⟩ : ∃ ac, cells64 (shaRun b h s) = ac := ⟨_, rfl⟩
      have hacs : ac.size = 8 := by rw [← hac, cells64_size, hl8]
      have haco : ac.all (·.oneCell') = true := by rw [← hac]; exact cells64_all _
      rw [hac] at a0
      have A0 := Go.Lib.hid a0; have A1 := Go.Lib.hid a1; have AB := Go.Lib.hid ab; have HACS := Go.Lib.hid hacs; have HACO := Go.Lib.hid haco; have HAC := Go.Lib.hid hac
      clear a0 a1 ab hacs haco hac
      go_wp2_with (first
        | refine wpList_load_row rfl 26 (.tmp 2) rfl w.heap.size rfl 26 ac (0, 0) _ A0.out Tryd.underlying26 rfl (size_eight.trans (by rw [HACS.out])) ?_
        | refine wpList_store_row rfl 26 (.tmp 4) (.tmp 19) rfl (w.heap.size + 1) ac rfl rfl 26 z8 A1.out (size_eight.trans (by rw [HACS.out])) (by rw [HACS.out, HZ8S.out]) HACO.out ?_)
      refine bodyPost_ret (v := .agg ac) (results_cell_row rfl _ _ (w.heap.size + 1) 26 ac (0, 0) _ rfl (setRow_heap _ _ _ _ _ _ A1.out) Tryd.underlying26 rfl (size_eight.trans (by rw [HACS.out]))) rfl ⟨by rw [HAC.out], ?_⟩
      exact below_setRow AB.out (by omega) _

theorem initial_cells : cells64 shaH = #[.int .u64 7640891576956012808, .int .u64 13503953896175478587, .int .u64 4354685564936845355, .int .u64 11912009170470909681, .int .u64 5840696475078001361, .int .u64 11170449401992604703, .int .u64 2270897969802886507, .int .u64 6620516959819538809] := by kernel_rfl

set_option maxRecDepth 20000 in
set_option maxHeartbeats 1000000 in
theorem initial_any (w : World) :
    Calls Tryd.prog 12 #[] w fun e w' => e = .returned (.agg (cells64 shaH)) ∧ Below w.heap.size w w' := by
  have k0 : (w.alloc (.cells #[.int .u64 0, .int .u64 0, .int .u64 0, .int .u64 0, .int .u64 0, .int .u64 0, .int .u64 0, .int .u64 0] 26)).heap[w.heap.size]? = some (.cells #[.int .u64 0, .int .u64 0, .int .u64 0, .int .u64 0, .int .u64 0, .int .u64 0, .int .u64 0, .int .u64 0] 26 (0, 0)) := heap_alloc_new _ _
  have K0 := Go.Lib.hid k0
  obtain ⟨ai, hai⟩ : ∃ ai, cells64 shaH = ai := ⟨_, rfl⟩
  have hais : ai.size = 8 := by rw [← hai, cells64_size]; rfl
  have haio : ai.all (·.oneCell') = true := by rw [← hai]; exact cells64_all _
  have hail : ai = #[.int .u64 7640891576956012808, .int .u64 13503953896175478587, .int .u64 4354685564936845355, .int .u64 11912009170470909681, .int .u64 5840696475078001361, .int .u64 11170449401992604703, .int .u64 2270897969802886507, .int .u64 6620516959819538809] := by rw [← hai]; exact initial_cells
  rw [hai]
  have HAIS := Go.Lib.hid hais; have HAIO := Go.Lib.hid haio; have HAIL := Go.Lib.hid hail
  clear k0 hai hais haio hail
  go_enter Tryd.func12, Tryd.ntmps12
  go_wp2_with (refine wpList_store_row rfl 26 (.tmp 0) (.tmp 1) rfl w.heap.size ai rfl (by rw [HAIL.out]; rfl) 26 _ K0.out (size_eight.trans (by rw [HAIS.out])) (by rw [HAIS.out]; rfl) HAIO.out ?_)
  refine bodyPost_ret (v := .agg ai) (results_cell_row rfl _ _ w.heap.size 26 ai (0, 0) _ rfl (setRow_heap _ _ _ _ _ _ K0.out) Tryd.underlying26 rfl (size_eight.trans (by rw [HAIS.out]))) rfl ⟨rfl, ?_⟩
  exact below_setRow ((Below.refl _ w).alloc (Nat.le_refl _) _) (Nat.le_refl _) _
end Go.Proofs.YtlkcmnpcfldbcaaDoor.W
