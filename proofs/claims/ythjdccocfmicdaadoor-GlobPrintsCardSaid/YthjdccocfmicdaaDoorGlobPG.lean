/- The program's filters: parseLine. -/
import Derived.Test.YthjdccocfmicdaaDoorGlobPF
import Derived.Laws.Rows
import Derived.Laws.Tables
import Derived.Laws.CopyOwn
namespace Go.Proofs.YthjdccocfmicdaaDoor.W
set_option maxRecDepth 20000
set_option linter.unusedVariables false
open Go.RowKit Go.Proofs Arb

/-- The two cells of a block that holds a rule. -/
theorem two_cells {w : World} {g : Nat} {x y : Value} {t : TypeId} (h : w.heap[g]? = some (.cells #[x, y] t (0, 0))) :
    w.cell? ⟨g, 0, none⟩ = some x ∧ w.cell? ⟨g, 1, none⟩ = some y ∧ w.frozen? ⟨g, 0, none⟩ = false ∧ w.frozen? ⟨g, 1, none⟩ = false :=
  ⟨by simp [World.cell?, h], by simp [World.cell?, h], by simp [World.frozen?, h], by simp [World.frozen?, h]⟩
theorem two_set {w : World} {g : Nat} {x y u v : Value} {t : TypeId} (h : w.heap[g]? = some (.cells #[x, y] t (0, 0))) :
    (w.setCell ⟨g, 0, none⟩ u).setCell ⟨g, 1, none⟩ v = w.setRow g #[u, v] := by
  rw [setCell_eq_setRow w g 0 _ t _ u h, setCell_eq_setRow _ g 1 _ t _ v (setRow_heap w g _ _ t _ h), setRow_setRow]
  rfl
/-- What a function gives whose results are a cell and a slot. -/
theorem results_cell_tmp {P : Program} {fn : Func} {p q : Tmp} {ty : TypeId} (h : fn.results = #[.cell p ty, .tmp q]) (tmps : Array Value) (w : World) (g : Nat) (t : TypeId) (cs : Array Value) (fr : Nat × Nat) (d : TypeDesc)
    (hp : tmps.getD p undef = .pointer (some ⟨g, 0, none⟩)) (hg : w.heap[g]? = some (.cells cs t fr))
    (hu : P.underlying ty = some d) (hd : (match d with | .struct _ | .array _ _ => true | _ => false) = true) (hi : (P.info? ty).map (·.size) = some cs.size) {y : Value} (hq : tmps.getD q undef = y) :
    (results fn tmps).run P w = .ok (.tuple #[.agg cs, y]) w := by
  subst hq
  have hp' : tmps[p]?.getD undef = .pointer (some ⟨g, 0, none⟩) := by simpa using hp
  simp [results, h, hp', asAddr, run_loadVar_row w g t ty cs fr d hg hu hd hi]

/-- The rule of a line, as a value and whether there is one. -/
def lineRes (s : List UInt8) : Rul × Bool := match ruleAt s with
  | none => (⟨0, []⟩, false)
  | some x => (x, true)

set_option maxHeartbeats 4000000 in
theorem pline_any (s : List UInt8) (w : World) (hl : s.length ≤ 100000) :
    Calls Tryd.prog 27 #[.string (BS s)] w fun e w' => e = .returned (.tuple #[rlVal (lineRes s).1, .bool (lineRes s).2]) ∧ Below w.heap.size w w' := by
  obtain ⟨r, hr⟩ : ∃ r, lineRes s = r := ⟨_, rfl⟩
  rw [hr]
  unfold lineRes at hr
  rw [rule_cut] at hr
  have hc := fun W => pcut_any 32 s W hl
  have hlen := cut_len 32 s
  obtain ⟨⟨x, y, f⟩, hf⟩ : ∃ r, cutAt 32 s = r := ⟨_, rfl⟩
  rw [hf] at hr hc hlen
  simp only at hr hc hlen
  have hk := fun W => pkindof_any x W
  obtain ⟨K, hK⟩ : ∃ K, kindW x = K := ⟨_, rfl⟩
  rw [hK] at hr hk
  have hv := fun W => pvalid_any ⟨K, y⟩ W (by show y.length ≤ _; omega)
  have hcl := fun W => pclone_any y W (by omega)
  obtain ⟨ok, hok⟩ : ∃ b, ruleOk ⟨K, y⟩ = b := ⟨_, rfl⟩
  rw [hok] at hr hv
  simp only at hv
  have HB := Go.Lib.hid ((Below.refl w.heap.size w).alloc (Nat.le_refl _) (.cells #[.int .i64 0, .string ⟨#[]⟩] 37))
  have HR := Go.Lib.hid hr; have HC := Go.Lib.hid hc; have HK := Go.Lib.hid hk; have HV := Go.Lib.hid hv; have HCL := Go.Lib.hid hcl
  clear hr hc hk hv hcl hf hK hok
  go_enter Tryd.func27, Tryd.ntmps27
  go_wp2_with fail
  refine (HC.out _).mono ?_; rintro e w1 ⟨rfl, hb⟩
  have hh := (hb.block w.heap.size (by simp)).trans (heap_alloc_new _ _)
  have hB := HB.out.trans (hb.mono (by simp))
  have hlt : w.heap.size < w1.heap.size := (Array.getElem?_eq_some_iff.1 hh).1
  have hh2 : (w1.alloc (.cells #[.int .i64 K, .string (BS y)] 37)).heap[w.heap.size]? = some (.cells #[.int .i64 0, .string ⟨#[]⟩] 37 (0, 0)) := (Below.heap_alloc _ _ _ hlt).trans hh
  have hg2 : (w1.alloc (.cells #[.int .i64 K, .string (BS y)] 37)).heap[w1.heap.size]? = some (.cells #[.int .i64 K, .string (BS y)] 37 (0, 0)) := heap_alloc_new _ _
  have hB2 : Below w.heap.size w (w1.alloc (.cells #[.int .i64 K, .string (BS y)] 37)) := hB.alloc hB.size _
  obtain ⟨c0, c1, f0, f1⟩ := two_cells hh2
  have hs0 : w1.setCell ⟨w.heap.size, 0, none⟩ (.int .i64 0) = w1 := setCell_same hh rfl
  have hs1 : w1.setCell ⟨w.heap.size, 1, none⟩ (.string ⟨#[]⟩) = w1 := setCell_same hh rfl
  have HH2 := Go.Lib.hid hh2; have HG2 := Go.Lib.hid hg2; have HB2 := Go.Lib.hid hB2
  clear hh hB hh2 hg2 hB2 hb
  go_wp2_with fail
  refine (HK.out _).mono ?_; rintro e wk ⟨rfl, hwk⟩
  rw [hwk]
  clear hwk wk
  cases f with
  | false =>
    have hrr : r = (⟨0, []⟩, false) := by rw [← HR.out]; rfl
    subst hrr
    go_wp2_with fail
    exact bodyPost_ret (v := .tuple #[.agg #[.int .i64 0, .string ⟨#[]⟩], .bool false]) (results_cell_tmp (p := 2) (q := 3) rfl _ _ w.heap.size 37 #[.int .i64 0, .string ⟨#[]⟩] (0, 0) _ rfl HH2.out Tryd.underlying37 rfl (size_rl.trans (by rfl)) rfl) rfl ⟨rfl, HB2.out⟩
  | true =>
    go_wp2_with fail
    refine (HV.out _).mono ?_; rintro e w3 ⟨rfl, hb3⟩
    have hh3 := (hb3.block w.heap.size (Array.getElem?_eq_some_iff.1 HH2.out).1).trans HH2.out
    have hg3 := (hb3.block w1.heap.size (Array.getElem?_eq_some_iff.1 HG2.out).1).trans HG2.out
    have hB3 := HB2.out.trans (hb3.mono HB2.out.size)
    clear c0 c1 f0 f1 hs0 hs1 HH2 HG2 HB2 hb3
    cases ok with
    | false =>
      have hrr : r = (⟨0, []⟩, false) := by rw [← HR.out]; rfl
      subst hrr
      obtain ⟨c0, c1, f0, f1⟩ := two_cells hh3
      have HH3 := Go.Lib.hid hh3; have HB3 := Go.Lib.hid hB3
      clear hh3 hg3 hB3
      go_wp2_with fail
      rw [two_set HH3.out]
      exact bodyPost_ret (v := .tuple #[.agg #[.int .i64 0, .string ⟨#[]⟩], .bool false]) (results_cell_tmp (p := 2) (q := 3) rfl _ _ w.heap.size 37 #[.int .i64 0, .string ⟨#[]⟩] (0, 0) _ rfl (setRow_heap _ _ _ _ _ _ HH3.out) Tryd.underlying37 rfl (size_rl.trans (by rfl)) rfl) rfl ⟨rfl, below_setRow HB3.out (Nat.le_refl _) _⟩
    | true =>
      have hrr : r = (⟨K, y⟩, true) := by rw [← HR.out]; rfl
      subst hrr
      have HH3 := Go.Lib.hid hh3; have HB3 := Go.Lib.hid hB3; have HG3 := Go.Lib.hid hg3
      clear hh3 hg3 hB3
      go_wp2_with fail
      refine (HCL.out _).mono ?_; rintro e w4 ⟨rfl, hb4⟩
      have hh4 := (hb4.block w.heap.size (Array.getElem?_eq_some_iff.1 HH3.out).1).trans HH3.out
      have hg4 := (hb4.block w1.heap.size (Array.getElem?_eq_some_iff.1 HG3.out).1).trans HG3.out
      have hB4 := HB3.out.trans (hb4.mono HB3.out.size)
      clear HH3 HG3 HB3 hb4
      have hst : w4.setCell ⟨w1.heap.size, 1, none⟩ (.string (BS y)) = w4 := setCell_same hg4 rfl
      obtain ⟨c0, c1, f0, f1⟩ := two_cells hh4
      obtain ⟨d0, d1, k0, k1⟩ := two_cells hg4
      have hne : ¬ w1.heap.size = w.heap.size := by omega
      have hne' : ¬ w.heap.size = w1.heap.size := by omega
      have HH4 := Go.Lib.hid hh4; have HB4 := Go.Lib.hid hB4
      clear hh4 hg4 hB4
      go_wp2_with fail
      rw [two_set HH4.out]
      exact bodyPost_ret (v := .tuple #[.agg #[.int .i64 K, .string (BS y)], .bool true]) (results_cell_tmp (p := 2) (q := 3) rfl _ _ w.heap.size 37 #[.int .i64 K, .string (BS y)] (0, 0) _ rfl (setRow_heap _ _ _ _ _ _ HH4.out) Tryd.underlying37 rfl (size_rl.trans (by rfl)) rfl) rfl ⟨rfl, below_setRow HB4.out (Nat.le_refl _) _⟩
end Go.Proofs.YthjdccocfmicdaaDoor.W
