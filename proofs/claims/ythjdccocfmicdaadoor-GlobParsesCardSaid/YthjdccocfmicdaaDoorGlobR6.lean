/- The reference of filters: Match. -/
import Derived.Test.YthjdccocfmicdaaDoorGlobR5
namespace Go.Proofs.YthjdccocfmicdaaDoor.W
set_option maxRecDepth 20000
set_option linter.unusedVariables false
open Go.RowKit Go.Proofs Arb

/-- The slot of the best one. -/
def BestAt (l : List Rul) (B : Option Rul) (n : Nat) (v : Int) : Prop := (B = none ∧ v = -1) ∨ ∃ (q : Nat) (y : Rul), B = some y ∧ l[q]? = some y ∧ q < n ∧ v = (q : Int)
theorem best_take {p : List UInt8} {l : List Rul} {k : Nat} {x : Rul} (h : l[k]? = some x) : bestOf p (l.take (k + 1)) = bestStep p (bestOf p (l.take k)) x := by
  rw [List.take_add_one, h]
  simp [bestOf]
theorem last_spl (c : UInt8) (l : List UInt8) : ∃ h, (spl c l)[(spl c l).length - 1]? = some ((spl c l).getLast h) := ⟨spl_ne c l, by
  have h0 : 0 < (spl c l).length := by
    rcases h : spl c l with _ | ⟨a, b⟩
    · exact absurd h (spl_ne c l)
    · simp
  rw [List.getElem?_eq_getElem (by omega), List.getLast_eq_getElem]⟩

set_option maxHeartbeats 16000000 in
theorem rmatch_any (v : Value) (l : List Rul) (p : List UInt8) (dir : Bool) (w : World) (h : Ruls w v l) (ht : ∀ x ∈ l, x.text.length ≤ 100000) (hn6 : l.length ≤ 100000) (hp : p.length ≤ 100000) :
    Calls Tryd.prog 23 #[v, .string (BS p), .bool dir] w fun e w' => e = .returned (.bool (matchOf l p dir)) ∧ Below w.heap.size w w' := by
  obtain ⟨r, hr⟩ : ∃ r, matchOf l p dir = r := ⟨_, rfl⟩
  rw [hr]
  have h' := h
  obtain ⟨A, n, c, rfl, hn, hc, -⟩ := h'
  unfold matchOf at hr
  rw [hn] at hn6
  have hwi := fun (x : Rul) (hx : x.text.length ≤ 100000) W => rwithin_any p x.text W hp hx
  have hlo := fun (x : Rul) (hx : x.text.length ≤ 100000) W => rlong_any x.text W (by omega)
  have hsp := fun W => rsplit_any 47 p W hp
  have hpl : ∀ x ∈ spl 47 p, x.length ≤ 100000 := fun x hx => Nat.le_trans (part_len x hx) hp
  have HL := Go.Lib.hid h; have HN := Go.Lib.hid hn; have HT := Go.Lib.hid ht; have HR := Go.Lib.hid hr; have HWI := Go.Lib.hid hwi; have HLO := Go.Lib.hid hlo; have HSP := Go.Lib.hid hsp; have HPL := Go.Lib.hid hpl
  clear h hn ht hr hwi hlo hsp hpl
  go_enter Tryd.func23, Tryd.ntmps23
  go_wp2_with fail
  go_loopw [7, 8, 9, 14, 15, 16, 17, 18, 19, 20, 21, 22, 23, 24, 25, 26, 27, 28, 29, 30, 31, 32, 33, 34, 35, 36, 37, 38, 39, 40, 41, 42, 43, 44, 45, 46, 47, 48, 49, 50, 51, 52, 53, 54, 55, 56, 57, 58, 59, 60, 61, 62, 63, 64, 65, 66, 67, 68, 69, 70] (fun b i _ _ _ _ _ _ _ _ _ _ _ _ _ _ _ _ _ _ _ _ _ _ _ _ _ _ _ _ _ _ _ _ _ _ _ _ _ _ _ _ _ _ _ _ _ _ _ _ _ _ _ _ _ _ _ _ _ _ wr => ∃ (k : Nat) (bv : Int), k ≤ n ∧ b = .int .i64 bv ∧ i = .int .i64 (k : Int) ∧ BestAt l (bestOf p (l.take k)) n bv ∧ Below w.heap.size w wr) (fun _ i _ _ _ _ _ _ _ _ _ _ _ _ _ _ _ _ _ _ _ _ _ _ _ _ _ _ _ _ _ _ _ _ _ _ _ _ _ _ _ _ _ _ _ _ _ _ _ _ _ _ _ _ _ _ _ _ _ _ _ => n - (intOf i).toNat)
  case atStart => exact ⟨0, -1, by omega, rfl, rfl, .inl ⟨rfl, rfl⟩, Below.refl _ _⟩
  case round =>
    obtain ⟨k, bv, hk, rfl, rfl, hB, hb⟩ := hrel
    by_cases hkn : k < n
    · have hki : (k : Int) < (n : Int) := by omega
      obtain ⟨g, o, x, rfl, hx, hx0⟩ := (HL.out.below hb).at k hkn
      obtain ⟨c0, c1⟩ := rl_cells hx0
      have hxt := HT.out x (List.mem_of_getElem? hx)
      have hnx : bestOf p (l.take (k + 1)) = bestStep p (bestOf p (l.take k)) x := best_take hx
      unfold bestStep candOf at hnx
      obtain ⟨W2, hW2⟩ : ∃ W, wr.alloc (.cells #[.int .i64 x.kind, .string (BS x.text)] 37) = W := ⟨_, rfl⟩
      have hb2 : Below w.heap.size w W2 := by rw [← hW2]; exact hb.alloc hb.size _
      have hx2 : RulAt W2 wr.heap.size 0 x := by rw [← hW2]; exact RulAt.new _ _ _
      have HX := Go.Lib.hid hx; have HX2 := Go.Lib.hid hx2; have HB := Go.Lib.hid hB; have HB2 := Go.Lib.hid hb2; have HW2 := Go.Lib.hid hW2; have HNX := Go.Lib.hid hnx
      clear hx hx2 hB hb hb2 hW2 hnx hx0
      by_cases h12 : x.kind = 1 ∨ x.kind = 2
      · obtain ⟨wv, hwv⟩ : ∃ d, withinB p x.text = d := ⟨_, rfl⟩
        have hwx := HWI.out x hxt
        rw [hwv] at hwx
        have hnx := HNX.out
        rw [decide_eq_true h12, Bool.true_and, hwv] at hnx
        have HNX := Go.Lib.hid hnx; have HWX := Go.Lib.hid hwx
        clear hnx hwx hwv
        obtain ⟨t1, ht1⟩ : ∃ d, (x.kind == 1) = d := ⟨_, rfl⟩
        obtain ⟨t2, ht2⟩ : ∃ d, (x.kind == 2) = d := ⟨_, rfl⟩
        have ht1' : (x.kind != 1) = !t1 := by unfold bne; rw [ht1]
        have ht2' : (x.kind != 2) = !t2 := by unfold bne; rw [ht2]
        have h3 : t1 = true ∨ (t1 = false ∧ t2 = true) := by
          rcases h12 with h | h
          · left; rw [← ht1, h]; rfl
          · right; rw [← ht1, ← ht2, h]; exact ⟨rfl, rfl⟩
        have HK2 := Go.Lib.hid ht2
        clear h12
        rcases h3 with rfl | ⟨rfl, rfl⟩
        all_goals (
          go_wp2_with fail
          rw [HW2.out]
          obtain ⟨d0, d1⟩ := rl_cells0 HX2.out
          clear c0 c1
          go_wp2_with fail
          refine (HWX.out _).mono ?_; rintro e w3 ⟨rfl, hb3⟩
          have hx3 := HX2.out.below hb3
          have hb4 : Below w.heap.size w w3 := HB2.out.trans (hb3.mono HB2.out.size)
          have HX3 := Go.Lib.hid hx3; have HB3 := Go.Lib.hid hb4
          clear hb3 hx3 hb4 d0 d1
          cases wv with
          | false =>
            have hnx2 : bestOf p (l.take (k + 1)) = bestOf p (l.take k) := HNX.out
            have HN2 := Go.Lib.hid hnx2
            clear hnx2
            go_wp2_with fail
            exact ⟨⟨k + 1, bv, by omega, rfl, by simp, by rw [HN2.out]; exact HB.out, HB3.out⟩, by simp [intOf]; omega⟩
          | true =>
            have hnx2 : bestOf p (l.take (k + 1)) = (match bestOf p (l.take k) with | none => some x | some y => if betterOf x y then some x else some y) := HNX.out
            obtain ⟨p0, p1⟩ := rl_cells0 HX3.out
            have hg1 := HX3.out.lt
            have hne := BW.ne w3.heap.size w3
            rcases HB.out with ⟨e1, e2⟩ | ⟨q, y, e1, e2, e3, e4⟩
            · rw [e1] at hnx2
              subst e2
              have HN2 := Go.Lib.hid hnx2
              clear hnx2 e1
              have s0 := fun z : BW w3.heap.size w3 => z.cell p0 hg1
              have s1 := fun z : BW w3.heap.size w3 => z.cell p1 hg1
              go_wp2_with fail
              refine wp_region_calm w3.heap.size w3 (Below.refl _ _) (by kernel_rfl) (by kernel_rfl) ?_
              repeat (go_big_quiet_step (fail))
              refine wpQuiet_nil ?_
              intro _ hw'
              obtain ⟨z, rfl⟩ := hw'
              go_wp2_with fail
              exact ⟨⟨k + 1, (k : Int), by omega, rfl, by simp, .inr ⟨k, x, HN2.out, HX.out, hkn, rfl⟩, HB3.out.trans (z.2.mono HB3.out.size)⟩, by simp [intOf]; omega⟩
            · rw [e1] at hnx2
              subst e4
              obtain ⟨g2, o2, y', he, hy', hy2⟩ := (HL.out.below HB3.out).at q e3
              have hyy : y' = y := Option.some.inj (hy'.symm.trans e2)
              subst hyy
              injection he with he
              injection he with he1 he2
              subst he1; subst he2
              obtain ⟨q0, q1⟩ := rl_cells hy2
              have hg2 := hy2.lt
              have hyt := HT.out y' (List.mem_of_getElem? e2)
              have hlx := HLO.out x hxt
              have hly := HLO.out y' hyt
              replace hnx2 : bestOf p (l.take (k + 1)) = (if betterOf x y' = true then some x else some y') := hnx2
              unfold betterOf at hnx2
              obtain ⟨lx, hlxe⟩ : ∃ m, longOf x.text = m := ⟨_, rfl⟩
              obtain ⟨ly, hlye⟩ : ∃ m, longOf y'.text = m := ⟨_, rfl⟩
              rw [hlxe, hlye] at hnx2
              rw [hlxe] at hlx
              rw [hlye] at hly
              obtain ⟨tg, htg⟩ : ∃ d, decide (ly < lx) = d := ⟨_, rfl⟩
              obtain ⟨te, hte⟩ : ∃ d, decide (lx = ly) = d := ⟨_, rfl⟩
              have hk2 : decide (x.kind = 2) = _ := (show decide (x.kind = 2) = (x.kind == 2) from rfl).trans HK2.out
              rw [htg, hte, hk2] at hnx2
              have hte' : (lx == ly) = te := hte
              have hq0 : decide ((q : Int) < 0) = false := decide_eq_false (by omega)
              have hqn : (q : Int) < (n : Int) := by omega
              have HLX := Go.Lib.hid hlx; have HLY := Go.Lib.hid hly; have HE2 := Go.Lib.hid e2
              clear hlx hly hlxe hlye hy' hy2 e1 e2 hyt hte hk2
              cases tg
              all_goals cases te
              all_goals try cases t2
              all_goals (
                have HN2 := Go.Lib.hid hnx2
                clear hnx2
                have s0 := fun z : BW w3.heap.size w3 => z.cell p0 hg1
                have s1 := fun z : BW w3.heap.size w3 => z.cell p1 hg1
                have s2 := fun z : BW w3.heap.size w3 => z.cell q0 hg2
                have s3 := fun z : BW w3.heap.size w3 => z.cell q1 hg2
                go_wp2_with fail
                refine wp_region_calm w3.heap.size w3 (Below.refl _ _) (by kernel_rfl) (by kernel_rfl) ?_
                repeat (go_big_quiet_step ((go_at_call 39; first | with_reducible exact bw_of (Nat.le_refl _) (HLX.out _) | with_reducible exact bw_of (Nat.le_refl _) (HLY.out _))))
                refine wpQuiet_nil ?_
                intro _ hw'
                obtain ⟨z, rfl⟩ := hw'
                go_wp2_with fail
                first
                  | exact ⟨⟨k + 1, (k : Int), by omega, rfl, by simp, .inr ⟨k, x, HN2.out, HX.out, hkn, rfl⟩, HB3.out.trans (z.2.mono HB3.out.size)⟩, by simp [intOf]; omega⟩
                  | exact ⟨⟨k + 1, (q : Int), by omega, rfl, by simp, .inr ⟨q, y', HN2.out, HE2.out, e3, rfl⟩, HB3.out.trans (z.2.mono HB3.out.size)⟩, by simp [intOf]; omega⟩))
      · have n1 : (x.kind == 1) = false := by simpa using fun h => h12 (.inl h)
        have n2 : (x.kind == 2) = false := by simpa using fun h => h12 (.inr h)
        have n1' : (x.kind != 1) = true := by unfold bne; rw [n1]; rfl
        have n2' : (x.kind != 2) = true := by unfold bne; rw [n2]; rfl
        have hnx : bestOf p (l.take (k + 1)) = bestOf p (l.take k) := by rw [HNX.out, decide_eq_false h12, Bool.false_and]; rfl
        have HNX := Go.Lib.hid hnx
        clear hnx h12
        go_wp2_with fail
        rw [HW2.out]
        obtain ⟨d0, d1⟩ := rl_cells0 HX2.out
        clear c0 c1
        go_wp2_with fail
        exact ⟨⟨k + 1, bv, by omega, rfl, by simp, by rw [HNX.out]; exact HB.out, HB2.out⟩, by simp [intOf]; omega⟩
    · obtain rfl : k = n := by omega
      have htk : l.take k = l := List.take_of_length_le (by have := HN.out; omega)
      rw [htk] at hB
      have HB3 := Go.Lib.hid hb
      clear htk hb
      rcases hB with ⟨e1, e2⟩ | ⟨q, y, e1, e2, e3, e4⟩
      · subst e2
        have hres : r = false := by rw [← HR.out, e1]
        subst hres
        clear e1
        go_wp2_with fail
        go_ret
        exact ⟨rfl, HB3.out⟩
      · subst e4
        obtain ⟨g, o, y', rfl, hy', hy2⟩ := (HL.out.below HB3.out).at q e3
        have hyy : y' = y := Option.some.inj (hy'.symm.trans e2)
        subst hyy
        obtain ⟨q0, q1⟩ := rl_cells hy2
        have hq0 : decide ((q : Int) < 0) = false := decide_eq_false (by omega)
        have hqn : (q : Int) < (k : Int) := by omega
        have hra : (if y'.kind = 2 then false else dir || typesOk l (ext (lastOf p))) = r := by rw [← HR.out, e1]
        have HRA := Go.Lib.hid hra
        clear hra e1 e2 hy' hy2
        by_cases hk2 : y'.kind = 2
        · have hres : r = false := by rw [← HRA.out, if_pos hk2]
          subst hres
          have t2 : (y'.kind == 2) = true := by simpa using hk2
          clear hk2
          go_wp2_with fail
          go_ret
          exact ⟨rfl, HB3.out⟩
        · have hra : (dir || typesOk l (ext (lastOf p))) = r := by rw [← HRA.out, if_neg hk2]
          have t2 : (y'.kind == 2) = false := by simpa using hk2
          have HRA := Go.Lib.hid hra
          clear hk2 hra
          cases dir with
          | true =>
            have hres : r = true := HRA.out.symm
            subst hres
            go_wp2_with fail
            go_ret
            exact ⟨rfl, HB3.out⟩
          | false =>
            have hra : typesOk l (ext (lastOf p)) = r := HRA.out
            obtain ⟨E, hE⟩ : ∃ E, ext (lastOf p) = E := ⟨_, rfl⟩
            rw [hE] at hra
            have HRA := Go.Lib.hid hra; have HE := Go.Lib.hid hE
            clear hra hE
            go_wp2_with fail
            refine (HSP.out _).mono ?_; rintro e w2 ⟨v, rfl, hT, hb2⟩
            have hT' := hT
            obtain ⟨A2, m, c2, rfl, hm, hc2, -⟩ := hT'
            have hb4 : Below w.heap.size w w2 := HB3.out.trans (hb2.mono HB3.out.size)
            have hm1 : 1 ≤ m := by
              rw [← hm]
              rcases h : spl 47 p with _ | ⟨a, b⟩
              · exact absurd h (spl_ne 47 p)
              · simp
            have hm5 : m ≤ 100001 := by have := spl_length 47 p; omega
            obtain ⟨m1, hmm⟩ : ∃ m1, m - 1 = m1 := ⟨_, rfl⟩
            have w1 : IntKind.i64.wrap ((m : Int) - 1) = (m1 : Int) := by rw [IntKind.wrap_i64]; omega
            have hmi : (m1 : Int) < (m : Int) := by omega
            obtain ⟨g2, o2, s, rfl, hs, hcell⟩ := hT.at m1 (by omega)
            have hse : ext s = E := by
              obtain ⟨h0, h1⟩ := last_spl 47 p
              rw [hm, hmm, hs] at h1
              rw [← HE.out, Option.some.inj h1]; rfl
            have hsl := HPL.out s (List.mem_of_getElem? hs)
            have hxt := fun W => rnext_name s W (by omega)
            rw [hse] at hxt
            have HXT := Go.Lib.hid hxt; have HB4 := Go.Lib.hid hb4; have HL2 := Go.Lib.hid (HL.out.below hb4)
            clear hxt hb2 hb4 hT hs hm hmm hse q0 q1
            go_wp2_with fail
            refine (HXT.out _).mono ?_; rintro e w2' ⟨rfl, rfl⟩
            clear hcell
            go_wp2_with fail
            go_loopw [12, 13, 91, 92, 93, 94, 95, 96, 97, 98, 99, 100, 101, 102, 103, 104, 105, 106, 107, 108, 109] (fun an i _ _ _ _ _ _ _ _ _ _ _ _ _ _ _ _ _ _ _ wr => ∃ j : Nat, j ≤ k ∧ an = .bool ((l.take j).any fun x => decide (x.kind = 3)) ∧ i = .int .i64 (j : Int) ∧ (∀ x ∈ l.take j, (decide (x.kind = 3) && decide (x.text = E)) = false) ∧ wr = w2') (fun _ i _ _ _ _ _ _ _ _ _ _ _ _ _ _ _ _ _ _ _ _ => k - (intOf i).toNat)
            case atStart => exact ⟨0, by omega, rfl, rfl, by simp, rfl⟩
            case round =>
              obtain ⟨j, hj, rfl, rfl, hno, rfl⟩ := hrel
              obtain ⟨an, han⟩ : ∃ a, ((l.take j).any fun x => decide (x.kind = 3)) = a := ⟨_, rfl⟩
              rw [han]
              by_cases hjk : j < k
              · have hji : (j : Int) < (k : Int) := by omega
                obtain ⟨g3, o3, x, he, hx, hx0⟩ := HL2.out.at j hjk
                injection he with he
                injection he with he1 he2
                subst he1; subst he2
                obtain ⟨c0, c1⟩ := rl_cells hx0
                have hnx : ((l.take (j + 1)).any fun x => decide (x.kind = 3)) = (an || decide (x.kind = 3)) := by
                  rw [List.take_add_one, hx, List.any_append, han]; simp
                by_cases h3 : x.kind = 3
                · have t3 : (x.kind == 3) = true := by simpa using h3
                  have q4 := bs_eq x.text E
                  by_cases hte : x.text = E
                  · rw [decide_eq_true hte] at q4
                    have hres : r = true := by
                      rw [← HRA.out]
                      unfold typesOk
                      rw [Bool.or_eq_true]
                      right
                      rw [List.any_eq_true]
                      exact ⟨x, List.mem_of_getElem? hx, by rw [decide_eq_true h3, decide_eq_true hte]; rfl⟩
                    subst hres
                    clear hnx h3 hte hx hx0 hno han
                    go_wp2_with fail
                    go_ret
                    exact ⟨rfl, HB4.out⟩
                  · rw [decide_eq_false hte] at q4
                    have hno2 : ∀ y ∈ l.take (j + 1), (decide (y.kind = 3) && decide (y.text = E)) = false := fun y hy => by
                      rw [List.take_add_one, hx] at hy
                      rcases List.mem_append.1 hy with hy | hy
                      · exact hno y hy
                      · simp at hy; rw [hy, decide_eq_false hte, Bool.and_false]
                    rw [decide_eq_true h3, Bool.or_true] at hnx
                    have HNX := Go.Lib.hid hnx; have HNO := Go.Lib.hid hno2
                    clear hnx h3 hte hx hx0 hno han hno2
                    go_wp2_with fail
                    exact ⟨⟨j + 1, by omega, by rw [HNX.out], by simp, HNO.out, (by first | trivial | rfl)⟩, by simp [intOf]; omega⟩
                · have t3 : (x.kind == 3) = false := by simpa using h3
                  have hno2 : ∀ y ∈ l.take (j + 1), (decide (y.kind = 3) && decide (y.text = E)) = false := fun y hy => by
                    rw [List.take_add_one, hx] at hy
                    rcases List.mem_append.1 hy with hy | hy
                    · exact hno y hy
                    · simp at hy; rw [hy, decide_eq_false h3, Bool.false_and]
                  rw [decide_eq_false h3, Bool.or_false] at hnx
                  have HNX := Go.Lib.hid hnx; have HNO := Go.Lib.hid hno2
                  clear hnx h3 hx hx0 hno han hno2
                  go_wp2_with fail
                  exact ⟨⟨j + 1, by omega, by rw [HNX.out], by simp, HNO.out, (by first | trivial | rfl)⟩, by simp [intOf]; omega⟩
              · obtain rfl : j = k := by omega
                have htk : l.take j = l := List.take_of_length_le (by have := HN.out; omega)
                rw [htk] at hno han
                have hres : r = !an := by
                  rw [← HRA.out]
                  unfold typesOk
                  rw [han]
                  have : (l.any fun x => decide (x.kind = 3) && decide (x.text = E)) = false := by
                    rw [List.any_eq_false]
                    intro y hy
                    rw [hno y hy]; simp
                  rw [this, Bool.or_false]
                subst hres
                clear hno han htk
                go_wp2_with fail
                go_ret
                exact ⟨rfl, HB4.out⟩
end Go.Proofs.YthjdccocfmicdaaDoor.W
