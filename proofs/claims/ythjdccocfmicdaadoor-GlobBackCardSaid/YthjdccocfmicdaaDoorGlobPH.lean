/- The program's filters: the lines of a text, as a range over a function goes through them. -/
import Derived.Test.YthjdccocfmicdaaDoorGlobPG
import Derived.RangeFuncNested
import Derived.RangeFuncBound
import Derived.RangeFuncCalls
import Derived.RangeFuncLeaves
import Derived.Shelf.Abstract
import Derived.Shelf.RegionOpen
import Derived.WalkKit
import Derived.OwnWalkIn
import Derived.TacticsInMore
import Derived.LoopNIn
import Derived.LoopIn
namespace Go.Proofs.YthjdccocfmicdaaDoor.W
set_option maxRecDepth 100000
set_option linter.unusedVariables false
open Go.RowKit Go.Proofs Arb Go.Shelf
attribute [local go_sem] Oper.semAt_some

/-- What a function gives whose results are two cells. -/
theorem results_two {P : Program} {fn : Func} {p q : Tmp} {t1 t2 : TypeId} (h : fn.results = #[.cell p t1, .cell q t2]) (tmps : Array Value) (w : World) (a b : Addr) (u v : Value)
    (hp : tmps.getD p undef = .pointer (some a)) (hq : tmps.getD q undef = .pointer (some b)) (ha : w.cell? a = some u) (hb : w.cell? b = some v)
    (h1 : ∀ w, (isAgg t1).run P w = .ok false w) (h2 : ∀ w, (isAgg t2).run P w = .ok false w) : (results fn tmps).run P w = .ok (.tuple #[u, v]) w := by
  have hp' : tmps[p]?.getD undef = .pointer (some a) := by simpa using hp
  have hq' : tmps[q]?.getD undef = .pointer (some b) := by simpa using hq
  simp [results, h, hp', hq', asAddr, loadVar, h1, h2, ha, hb, go_sem]

/-- A line, not too long. -/
abbrev Ln := { x : List UInt8 // x.length ≤ 100000 }
abbrev lEnc (x : Ln) : Array Value := #[.string (BS x.1)]
theorem grown_of_below {w w' : World} (h : Below w.heap.size w w') : w.grownBy w' none := ⟨h.os, h.tape, h.output, h.size, fun k hk _ => h.block k hk⟩

theorem plines_any (t : List UInt8) (w : World) : Calls Tryd.prog 26 #[.string (BS t)] w fun e w' => e = .returned (.func (.func 45) #[] #[.pointer (some ⟨w.heap.size, 0, none⟩)]) ∧ w' = w.alloc (.cells #[.string (BS t)] 9) := by
  go_enter Tryd.func26, Tryd.ntmps26
  go_wp2_with fail
  go_ret
  exact ⟨rfl, rfl⟩

set_option maxHeartbeats 4000000 in
theorem plines1_in (l T : Nat) (t : List UInt8) (ht : t = [] ∨ t.getLast? = some 10) (htl : t.length ≤ 100000) (J Jx : List Ln → World → Prop)
    (hJa : ∀ pre A B, J pre A → Below A.heap.size A B → J pre B)
    (hY : ∀ pre x W, J pre W → pre.length < (lns t).length → YieldAt Fence.wide (9 - 1 - 1) Tryd.prog l (lEnc x) W fun e W' =>
      (e = .returned (.bool true) ∧ J (pre ++ [x]) W' ∧ True) ∨ (e = .returned (.bool false) ∧ Jx (pre ++ [x]) W'))
    (W : World) (hc : W.cell? ⟨T, 0, none⟩ = some (.string (BS t))) (h0 : J [] W) :
    CallsIn Fence.wide (9 - 1) Tryd.prog 45 #[.func (.yield l) #[] #[], .pointer (some ⟨T, 0, none⟩)] W fun e W' => (∃ v, e = .returned v) ∧
      ((∃ ys : List Ln, ys.map (·.1) = lns t ∧ J ys W') ∨ (∃ pre : List Ln, (∃ suf, pre.map (·.1) ++ suf = lns t) ∧ Jx pre W')) := by
  have hF : Fence.wide.fn 45 := trivial
  have hro : Fence.wide.round = none := rfl
  have hn0 : (lns []).length = 0 := rfl
  have HJA := Go.Lib.hid hJa; have HT := Go.Lib.hid ht
  have hcut := fun (u : List UInt8) (hu : u.length ≤ 100000) (W : World) => callsIn_wide (n := 7) |>.2 (pcut_any 10 u W hu)
  have HCUT := Go.Lib.hid hcut
  clear hJa ht hcut
  refine callsIn_of_wp Tryd.func45 rfl hF ?_ hro
  simp only [Tryd.ntmps45, List.size_toArray, List.length_cons, List.length_nil, Nat.reduceAdd, Nat.reduceSub, Array.replicate_succ, Array.replicate_zero, List.push_toArray, List.append_toArray, List.nil_append, List.cons_append]
  gi_wp2
  gi_loopw [3, 4, 5, 6, 8, 9, 10, 11, 12, 13, 14, 15, 16, 17, 18, 19, 20] (fun s _ _ _ _ _ _ _ _ _ _ _ _ _ _ _ _ wr => ∃ (pre : List Ln) (u : List UInt8), s = .string (BS u) ∧ pre.map (·.1) ++ lns u = lns t ∧ (u = [] ∨ u.getLast? = some 10) ∧ u.length ≤ 100000 ∧ J pre wr)
    (fun s _ _ _ _ _ _ _ _ _ _ _ _ _ _ _ _ _ => match s with | .string b => b.size | _ => 0)
  case atStart => exact ⟨[], t, rfl, rfl, HT.out, htl, h0⟩
  case round =>
    obtain ⟨pre, u, rfl, hpre, hu, hul, hJ⟩ := hrel
    have q := BS_beq u []
    by_cases hu0 : u = []
    · subst hu0
      have hpt : pre.map (·.1) = lns t := by rw [← hpre]; simp [lns]
      have HPT := Go.Lib.hid hpt
      clear hpre hu hpt
      gi_wp2
      go_end0
      exact ⟨⟨_, rfl⟩, .inl ⟨_, HPT.out, hJ⟩⟩
    · rw [decide_eq_false hu0] at q
      obtain ⟨x, y, h1, h2, h3, h4⟩ := lns_step hu0 (hu.resolve_left hu0)
      have hyl : y.length < u.length := by rw [h1]; simp; omega
      have hszu : (BS u).size = u.length := BS_size u
      have hszy : (BS y).size = y.length := BS_size y
      have hcu := HCUT.out u hul wr
      rw [h2] at hcu
      have hxl : x.length ≤ 100000 := by have : x.length < u.length := by (rw [h1]; simp)
                                         omega
      have hpn : (pre ++ [(⟨x, hxl⟩ : Ln)]).map (·.1) ++ lns y = lns t := by rw [← hpre, h3]; simp
      have hpl : pre.length < (lns t).length := by rw [← hpn]; simp
      have HCU := Go.Lib.hid hcu; have HPN := Go.Lib.hid hpn; have H4 := Go.Lib.hid h4
      clear h1 h2 h3 h4 hu hpre hu0 hcu hpn
      gi_wp2
      refine ⟨trivial, HCU.out.mono ?_⟩; rintro e w1 ⟨rfl, hb1⟩
      have hJ1 := HJA.out _ _ _ hJ hb1
      clear hJ hb1
      obtain ⟨fn, tmps, assign, body, hy, hR⟩ := hY _ ⟨x, hxl⟩ w1 hJ1 hpl
      unfold lEnc at hy
      gi_wp2
      refine hR.mono ?_
      rintro e W3 (⟨rfl, hJ3, -⟩ | ⟨rfl, hJx3⟩)
      · gi_wp2
        go_roundw
        case rel => exact ⟨pre ++ [⟨x, hxl⟩], y, rfl, HPN.out, H4.out, by omega, hJ3⟩
        case measure => show (BS y).size < (BS u).size; omega
      · gi_wp2
        refine bodyPost_ret (results_none rfl _ _ _) rfl ?_
        exact ⟨⟨_, rfl⟩, .inr ⟨_, ⟨_, HPN.out⟩, hJx3⟩⟩
theorem plines_stops (T : Nat) (t : List UInt8) (ht : t = [] ∨ t.getLast? = some 10) (htl : t.length ≤ 100000) (w : World) (hT : T < w.heap.size) (hc : w.cell? ⟨T, 0, none⟩ = some (.string (BS t))) :
    SeqStopsK Fence.wide (9 - 1) Tryd.prog 45 #[.pointer (some ⟨T, 0, none⟩)] lEnc (fun _ _ => True) (fun ys => ys.map (·.1) = lns t) (fun pre => ∃ suf, pre.map (·.1) ++ suf = lns t) (lns t).length w := fun l J Jx W hW hA _ hY h0 =>
  plines1_in l T t ht htl J Jx (fun pre A B hJ hb => hA pre A B none hJ (grown_of_below hb) (by simp)) hY W ((hW.cell (p := ⟨T, 0, none⟩) hT).trans hc) h0
end Go.Proofs.YthjdccocfmicdaaDoor.W
