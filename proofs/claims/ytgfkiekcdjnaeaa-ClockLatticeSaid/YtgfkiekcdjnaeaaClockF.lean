/- Lists of vectors as arguments; whether they are few. -/
import Derived.Test.YtgfkiekcdjnaeaaClockW
namespace Go.Proofs.Ytgfkiekcdjnaeaa.W
set_option linter.unusedVariables false
open Go.RowKit Go.Proofs Arb

structure VecA where
  a : Option Addr
  n : Nat
  c : Nat
  zs : List Int
theorem cells_Vecs {w : World} {f : Nat} {cs : List Value} (h : Cells Try.prog w f 33 cs) :
    ∃ (A : Option Addr) (n c : Nat) (ls : List (List Int)), cs = [.slice A n c] ∧ c * 24 ≤ 140737488351232 ∧ Vecs w (.slice A n c) ls ∧ (∀ l ∈ ls, ∀ z ∈ l, (Lit.int .i64 z).wf = true) ∧ ls.length = n := by
  obtain ⟨A, n, c, rows, rfl, hb, hr, hs⟩ := cells_slice Try.underlying33 (by rw [show Try.prog.cellsOf 36 = 1 by kernel_rfl]; omega) h
  rw [show Try.prog.bytesOf 36 = 24 by kernel_rfl] at hb
  rw [show Try.prog.cellsOf 36 = 1 by kernel_rfl] at hs
  obtain ⟨vs, h1, h2, h3⟩ := sl_typed (fun x : VecA => [Value.slice x.a x.n x.c]) (q := fun x : VecA => Ints w (.slice x.a x.n x.c) x.zs ∧ ∀ z ∈ x.zs, (Lit.int .i64 z).wf = true) hs fun r hm => by
    obtain ⟨f', hf'⟩ := hr r hm
    obtain ⟨A', n', c', zs, e, _, hsl, hwf, _⟩ := cells_ints Try.underlying36 Try.underlying3 (by kernel_rfl) hf'
    exact ⟨⟨A', n', c', zs⟩, e, Ints.of_sl hsl, hwf⟩
  refine ⟨A, n, c, vs.map VecA.zs, rfl, hb, ⟨A, n, c, rfl, by simp [h3], h1.2.1, fun h0 => ?_⟩, ?_, by simp [h3]⟩
  · obtain ⟨b, off, hA, hr2⟩ := h1.2.2.2 h0
    refine ⟨b, off, hA, fun j l hj => ?_⟩
    rw [List.getElem?_map, Option.map_eq_some_iff] at hj
    obtain ⟨x, hx, rfl⟩ := hj
    have h4 := (hr2 j [Value.slice x.a x.n x.c] (by simp [hx])).2 0 _ rfl
    exact ⟨_, by simpa using h4, (h2 x (List.mem_of_getElem? hx)).1⟩
  · intro l hl z hz
    obtain ⟨x, hx, rfl⟩ := List.mem_map.1 hl
    exact (h2 x hx).2 z hz

def fewOf (ls : List (List Int)) : Bool := decide (ls.length ≤ 50) && ls.all fun l => decide (l.length ≤ 1000)
theorem few_true {ls : List (List Int)} (h : fewOf ls = true) : ls.length ≤ 50 ∧ ∀ l ∈ ls, l.length ≤ 1000 := by
  unfold fewOf at h
  simpa using h

set_option maxHeartbeats 1000000 in
theorem few_any (v : Value) (ls : List (List Int)) (w : World) (h : Vecs w v ls) :
    Calls Try.prog 19 #[v] w fun e w' => e = .returned (.bool (fewOf ls)) ∧ w = w' := by
  obtain ⟨r, hr⟩ : ∃ r, fewOf ls = r := ⟨_, rfl⟩
  rw [hr]
  have HV := Go.Lib.hid h
  obtain ⟨A, n, c, rfl, hls, _⟩ := h
  by_cases hn : 50 < n
  · have hrf : r = false := by rw [← hr]; unfold fewOf; simp; omega
    subst hrf
    have hn' : decide ((n : Int) > 50) = true := by simp; omega
    clear hr hls
    go_enter Try.func19, Try.ntmps19
    go_wp2_with fail
    go_ret
    exact ⟨rfl, rfl⟩
  · have HR := Go.Lib.hid hr; clear hr
    have HN := Go.Lib.hid hls; clear hls
    go_enter Try.func19, Try.ntmps19
    go_wp2_with fail
    go_loop [3] (fun i => ∃ k : Nat, k ≤ n ∧ i = .int .i64 (k : Int) ∧ ∀ l ∈ ls.take k, l.length ≤ 1000) (fun i => n - (intOf i).toNat)
    case atStart => exact ⟨0, by omega, rfl, by simp⟩
    case round =>
      obtain ⟨k, hk, rfl, hall⟩ := hrel
      have HALL := Go.Lib.hid hall; clear hall
      by_cases hkn : k < n
      · obtain ⟨b, off, A', c', l, hA, hg, hcell, _⟩ := HV.out.at k hkn
        cases hA
        have hkn' : (k : Int) < (n : Int) := by omega
        have HG := Go.Lib.hid hg; clear hg
        by_cases hl : 1000 < l.length
        · go_wp2_with fail
          go_ret
          refine ⟨?_, rfl⟩
          have hrf : r = false := by
            rw [← HR.out]
            cases hb : fewOf ls with
            | false => rfl
            | true => have := (few_true hb).2 l (List.mem_of_getElem? HG.out); omega
          rw [hrf]; rfl
        · go_wp2_with fail
          refine ⟨⟨k + 1, by omega, by simp, fun l' hl' => ?_⟩, by simp [intOf]; omega⟩
          rw [List.take_add_one, HG.out, List.mem_append] at hl'
          rcases hl' with h1 | h1
          · exact HALL.out l' h1
          · obtain rfl : l' = l := by simpa using h1
            omega
      · obtain rfl : k = n := by omega
        go_wp2_with fail
        go_ret
        refine ⟨?_, rfl⟩
        have hrt : r = true := by
          have h1 := HALL.out
          rw [List.take_of_length_le (by rw [HN.out]; omega)] at h1
          have h2 : ls.length ≤ 50 := by rw [HN.out]; omega
          rw [← HR.out]
          unfold fewOf
          simp only [Bool.and_eq_true, decide_eq_true_eq, List.all_eq_true]
          exact ⟨h2, h1⟩
        rw [hrt]; rfl
end Go.Proofs.Ytgfkiekcdjnaeaa.W
