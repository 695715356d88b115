/- The walk of CodecBack. -/
import Derived.Test.YteepaekpaellbaaCodecD
import Derived.Deep.RegionHeld3
namespace Go.Proofs.Yteepaekpaellbaa.W
open Go.RowKit Go.Proofs Arb

/-- The bytes of numbers, and of texts. -/
def encs (ns : List Int) : List UInt8 := ns.flatMap fun z => enc (u64 z)
def etext (t : List UInt8) : List UInt8 := enc (u64 (t.length : Int)) ++ t
def tencs (ts : List (List UInt8)) : List UInt8 := ts.flatMap etext

theorem etext_length (t : List UInt8) : (etext t).length ≤ 9 + t.length := by
  unfold etext; rw [List.length_append]; have := enc_length (u64 (t.length : Int)); omega
theorem encs_length (ns : List Int) : (encs ns).length ≤ 9 * ns.length := by
  induction ns with
  | nil => simp [encs]
  | cons z ns ih =>
    have := enc_length (u64 z)
    have e : encs (z :: ns) = enc (u64 z) ++ encs ns := by simp [encs]
    rw [e, List.length_append, List.length_cons]; omega
theorem tencs_length (ts : List (List UInt8)) (h : ∀ t ∈ ts, t.length ≤ 1000) : (tencs ts).length ≤ 1009 * ts.length := by
  induction ts with
  | nil => simp [tencs]
  | cons t ts ih =>
    have h1 := etext_length t
    have h2 := h t (List.mem_cons_self ..)
    have h3 := ih fun x hx => h x (List.mem_cons_of_mem _ hx)
    have e : tencs (t :: ts) = etext t ++ tencs ts := by simp [tencs]
    rw [e, List.length_append, List.length_cons]; omega
theorem encs_ge (ns : List Int) : ns.length ≤ (encs ns).length := by
  induction ns with
  | nil => simp
  | cons z ns ih =>
    have e : encs (z :: ns) = enc (u64 z) ++ encs ns := by simp [encs]
    rw [e, List.length_append, List.length_cons]
    simp only [enc, List.length_cons]; omega
theorem tencs_ge (ts : List (List UInt8)) : ts.length ≤ (tencs ts).length := by
  induction ts with
  | nil => simp
  | cons t ts ih =>
    have e : tencs (t :: ts) = etext t ++ tencs ts := by simp [tencs]
    rw [e, List.length_append, List.length_cons]
    simp only [etext, enc, List.length_append, List.length_cons]; omega
/-- Where the law cuts: (at % len + len) % len, as Go reckons it. -/
theorem cut_at (a : Int) (L : Nat) (h0 : 0 < L) (h1 : L ≤ 200000) : ∃ m : Nat, m < L ∧ (wrap64 (a.tmod L + L)).tmod L = (m : Int) := by
  have ha : -(L : Int) < a.tmod L ∧ a.tmod L < L := by
    have h2 := Int.tmod_lt_of_pos a (b := (L : Int)) (by omega)
    have h3 := Int.lt_tmod_of_pos a (b := (L : Int)) (by omega)
    exact ⟨h3, h2⟩
  have hw : wrap64 (a.tmod L + L) = a.tmod L + L := by unfold wrap64; omega
  rw [hw, Int.tmod_eq_emod_of_nonneg (by omega)]
  have h2 := Int.emod_nonneg (a.tmod L + L) (b := (L : Int)) (by omega)
  have h3 := Int.emod_lt_of_pos (a.tmod L + L) (b := (L : Int)) (by omega)
  exact ⟨((a.tmod L + L) % L).toNat, by omega, by omega⟩
theorem encs_take (ns : List Int) (k : Nat) (h : k < ns.length) : encs (ns.take (k + 1)) = encs (ns.take k) ++ enc (u64 ns[k]) := by
  rw [List.take_succ_eq_append_getElem h]; unfold encs; rw [List.flatMap_append]; simp only [List.flatMap_cons, List.flatMap_nil, List.append_nil]
theorem tencs_take (ts : List (List UInt8)) (k : Nat) (h : k < ts.length) : tencs (ts.take (k + 1)) = tencs (ts.take k) ++ etext ts[k] := by
  rw [List.take_succ_eq_append_getElem h]; unfold tencs; rw [List.flatMap_append]; simp only [List.flatMap_cons, List.flatMap_nil, List.append_nil]
theorem encs_drop (ns : List Int) (k : Nat) (h : k < ns.length) : encs (ns.drop k) = enc (u64 ns[k]) ++ encs (ns.drop (k + 1)) := by
  unfold encs; rw [List.drop_eq_getElem_cons h, List.flatMap_cons]
theorem tencs_drop (ts : List (List UInt8)) (k : Nat) (h : k < ts.length) : tencs (ts.drop k) = etext ts[k] ++ tencs (ts.drop (k + 1)) := by
  unfold tencs; rw [List.drop_eq_getElem_cons h, List.flatMap_cons]

theorem u64_len (n : Nat) (h : n < 18446744073709551616) : u64 (n : Int) = n := by unfold u64; omega

/-- A number that was written is read. -/
theorem stepNum_back (z : Int) (rest : List UInt8) : stepNum (enc (u64 z) ++ rest) 0 = (u64 z, rest, 0) := by
  have h := rd_of_enc (u64 z) (u64_lt z) rest
  unfold stepNum
  rw [if_neg (by simp), h]
  simp
theorem wrap_back (z : Int) (h : (Lit.int .i64 z).wf = true) : wrap64 ((u64 z : Nat) : Int) = z := by
  have hb := Go.bounds_i64 h
  unfold wrap64 u64; omega
/-- A text that was written is read. -/
theorem rdText_back (t rest : List UInt8) (h : t.length < 18446744073709551616) : rdText (etext t ++ rest) = (t, (etext t).length, 0) := by
  have hr := (rd_of_enc (u64 (t.length : Int)) (u64_lt _) (t ++ rest)).trans (show _ = (t.length, (enc (u64 (t.length : Int))).length, (0 : Int)) by rw [Prod.mk.injEq]; exact ⟨u64_len t.length h, rfl⟩)
  unfold etext
  rw [List.append_assoc]
  generalize enc (u64 (t.length : Int)) = x at *
  unfold rdText
  rw [hr]
  simp only
  rw [if_neg (by simp), if_neg (by simp)]
  simp
theorem stepText_back (t rest : List UInt8) (h : t.length < 18446744073709551616) : stepText (etext t ++ rest) 0 = (t, rest, 0) := by
  have hr := rdText_back t rest h
  unfold stepText
  rw [if_neg (by simp), hr]
  simp

/-- A number of which bytes are missing. -/
theorem rdNum_cut (u m : Nat) (h : m < (enc u).length) : rdNum ((enc u).take m) = (0, 0, 10) := by
  have hd := digs_le u
  have hu8 : (UInt8.ofNat (digs u)).toNat = digs u := by simp; omega
  cases m with
  | zero => simp [rdNum]
  | succ m =>
    unfold enc at h ⊢
    rw [List.length_cons, be_length] at h
    rw [List.take_succ_cons]
    simp only [rdNum, hu8, List.length_take, be_length]
    rw [if_neg (by omega), if_pos (by omega)]
theorem rdText_cut (t : List UInt8) (m : Nat) (hl : t.length < 18446744073709551616) (h : m < (etext t).length) : (rdText ((etext t).take m)).2.2 = 10 := by
  unfold etext at h ⊢
  rw [List.length_append] at h
  have hu := u64_len t.length hl
  by_cases hm : m < (enc (u64 (t.length : Int))).length
  · have hr := rdNum_cut (u64 (t.length : Int)) m hm
    rw [List.take_append_of_le_length (by omega)]
    unfold rdText
    rw [hr]
    rfl
  · have hr := (rd_of_enc (u64 (t.length : Int)) (u64_lt _) (t.take (m - (enc (u64 (t.length : Int))).length))).trans (show _ = (t.length, (enc (u64 (t.length : Int))).length, (0 : Int)) by rw [Prod.mk.injEq]; exact ⟨hu, rfl⟩)
    rw [List.take_append, List.take_of_length_le (by omega)]
    generalize enc (u64 (t.length : Int)) = x at *
    unfold rdText
    rw [hr]
    simp only
    rw [if_neg (by simp), if_pos]
    simp only [List.length_append, List.length_take]
    omega

/-- The reader is cut short ahead of the end of what is still to be read, or has met its end. -/
def Cut (rest l : List UInt8) (e : Int) : Prop := (e = 0 ∧ ∃ m, m < rest.length ∧ l = rest.take m) ∨ e = 10
theorem Cut.num {u : Nat} {rest l : List UInt8} {e : Int} (hu : u < 18446744073709551616) (h : Cut (enc u ++ rest) l e) : Cut rest (stepNum l e).2.1 (stepNum l e).2.2 := by
  rcases h with ⟨rfl, m, hm, rfl⟩ | rfl
  · rw [List.length_append] at hm
    have hst : ∀ l, stepNum l 0 = ((rdNum l).1, l.drop (rdNum l).2.1, (rdNum l).2.2) := fun l => by simp [stepNum]
    rw [hst]
    by_cases h1 : m < (enc u).length
    · right
      rw [List.take_append_of_le_length (by omega), rdNum_cut u m h1]
    · left
      rw [List.take_append, List.take_of_length_le (by omega), rd_of_enc u hu]
      exact ⟨rfl, m - (enc u).length, by omega, by simp⟩
  · right; simp [stepNum]
theorem Cut.text {t : List UInt8} {rest l : List UInt8} {e : Int} (hu : t.length < 18446744073709551616) (h : Cut (etext t ++ rest) l e) : Cut rest (stepText l e).2.1 (stepText l e).2.2 := by
  rcases h with ⟨rfl, m, hm, rfl⟩ | rfl
  · rw [List.length_append] at hm
    have hst : ∀ l, stepText l 0 = ((rdText l).1, l.drop (rdText l).2.1, (rdText l).2.2) := fun l => by simp [stepText]
    rw [hst]
    by_cases h1 : m < (etext t).length
    · right
      rw [List.take_append_of_le_length (by omega)]
      exact rdText_cut t m hu h1
    · left
      rw [List.take_append, List.take_of_length_le (by omega), rdText_back t _ hu]
      exact ⟨rfl, m - (etext t).length, by omega, by simp⟩
  · right; simp [stepText]
theorem Cut.done {l : List UInt8} {e : Int} (h : Cut [] l e) : e = 10 := by
  rcases h with ⟨_, m, hm, _⟩ | h
  · simp at hm
  · exact h

/-- What holds while the bytes are read. -/
def BackRel (w : World) (b : Nat) (rest : List UInt8) (wr : World) : Prop := IsR wr b rest 0 ∧ w.heap.size ≤ b ∧ Below w.heap.size w wr
/-- What holds while the bytes that are cut short are read. -/
def CutRel (w : World) (b N : Nat) (rest : List UInt8) (wr : World) : Prop := ∃ l e, IsR wr b l e ∧ Cut rest l e ∧ l.length ≤ N ∧ w.heap.size ≤ b ∧ Below w.heap.size w wr

theorem BS_append (a b : List UInt8) : BS a ++ BS b = BS (a ++ b) := ByteArray.mk_append_mk _ _

set_option maxHeartbeats 8000000 in
theorem codecBack_walk (w : World) (A0 : Option Addr) (n0 c0 : Nat) (ns : List Int) (hS0 : Sl w 1 A0 n0 c0 (ns.map fun z => [.int .i64 z])) (_hc0 : c0 * 8 ≤ 140737488351232) (hwf : ∀ z ∈ ns, (Lit.int .i64 z).wf = true) (hn0 : ns.length = n0)
    (A1 : Option Addr) (n1 c1 : Nat) (ts : List (List UInt8)) (hS1 : Sl w 1 A1 n1 c1 (ts.map fun l => [.string (BS l)])) (_hc1 : c1 * 16 ≤ 140737488351232) (hts : ∀ l ∈ ts, l.length ≤ 140737488351232) (hn1 : ts.length = n1)
    (at_ : Int) (_hat : (Lit.int .i64 at_).wf = true) :
    Calls Try.prog 6 #[.slice A0 n0 c0, .slice A1 n1 c1, .int .i64 at_] w fun e w' => e = .returned (.bool true) ∧ Below w.heap.size w w' := by
  have hnc0 : n0 ≤ c0 := hS0.2.1
  have hnc1 : n1 ≤ c1 := hS1.2.1
  have HS0 := Go.Lib.hid hS0; clear hS0
  have HS1 := Go.Lib.hid hS1; clear hS1
  have HN0 := Go.Lib.hid hn0; clear hn0
  have HN1 := Go.Lib.hid hn1; clear hn1
  have HWF := Go.Lib.hid hwf; clear hwf
  have HTS := Go.Lib.hid hts; clear hts
  by_cases hb0 : 100 < n0
  · go_enter Try.func6, Try.ntmps6
    go_wp2_with fail
    refine (awake_any _).mono ?_; rintro e w3 ⟨rfl, hb3⟩
    have HB3 := Go.Lib.hid hb3; clear hb3
    go_wp2_with fail
    go_ret
    exact ⟨rfl, HB3.out⟩
  · by_cases hb1 : 100 < n1
    · go_enter Try.func6, Try.ntmps6
      go_wp2_with fail
      refine (awake_any _).mono ?_; rintro e w3 ⟨rfl, hb3⟩
      have HB3 := Go.Lib.hid hb3; clear hb3
      go_wp2_with fail
      go_ret
      exact ⟨rfl, HB3.out⟩
    · go_enter Try.func6, Try.ntmps6
      go_wp2_with fail
      go_loopw [7, 8] (fun s i wr => ∃ k : Nat, k ≤ n0 ∧ i = .int .i64 (k : Int) ∧ s = .string (BS (encs (ns.take k))) ∧ Below w.heap.size w wr) (fun _ i _ => n0 - (intOf i).toNat)
      case atStart => exact ⟨0, by omega, rfl, rfl, Below.refl _ _⟩
      case round =>
        obtain ⟨k, hk, rfl, rfl, hbw⟩ := hrel
        by_cases hkn : k < n0
        · obtain ⟨b, off, z, rfl, hz, hcell⟩ := (HS0.out.below hbw).cell1 hkn
          have hkl : k < ns.length := by have := HN0.out; omega
          have hz' : ns[k] = z := by rw [List.getElem?_eq_getElem hkl] at hz; simpa using hz
          have hen := encs_take ns k hkl
          rw [hz'] at hen
          have hl1 := encs_length (ns.take k)
          have hl2 : (ns.take k).length ≤ k := List.length_take_le _ _
          have hl3 := enc_length (u64 z)
          have hcat := BS_append (encs (ns.take k)) (enc (u64 z))
          rw [← hen] at hcat
          have hnum := fun W => num_any z W
          have hsz1 : (BS (encs (ns.take k))).size ≤ 900 := by rw [BS_size]; omega
          have hsz2 : (BS (enc (u64 z))).size ≤ 9 := by rw [BS_size]; exact hl3
          have hfold : (⟨(enc (u64 z)).toArray⟩ : ByteArray) = BS (enc (u64 z)) := rfl
          rw [hfold] at hnum
          clear hz hz' hen hl1 hl2 hl3 hfold
          generalize BS (encs (ns.take k)) = s1 at *
          generalize BS (enc (u64 z)) = s3 at *
          have HC := Go.Lib.hid hcat; clear hcat
          have HM := Go.Lib.hid hnum; clear hnum
          have HBW := Go.Lib.hid hbw; clear hbw
          go_wp2_with fail
          refine (HM.out _).mono ?_; rintro e w1 ⟨rfl, hb1⟩
          have HB1 := Go.Lib.hid hb1; clear hb1
          go_wp2_with fail
          exact ⟨⟨k + 1, by omega, by go_num, by rw [HC.out], HBW.out.trans (HB1.out.mono HBW.out.size)⟩, by simp [intOf]; omega⟩
        · obtain rfl : k = n0 := by omega
          obtain ⟨wa, rfl⟩ : ∃ wa : World, wa = wr := ⟨_, rfl⟩
          have hta : ns.take k = ns := List.take_of_length_le (by have := HN0.out; omega)
          have hel := encs_length ns
          have hel' : (encs ns).length ≤ 900 := by have := HN0.out; omega
          rw [hta]
          have HBA := Go.Lib.hid hbw; clear hbw hta hel
          go_wp2_with fail
          go_loopw [7, 9] (fun s i wr => ∃ j : Nat, j ≤ n1 ∧ i = .int .i64 (j : Int) ∧ s = .string (BS (encs ns ++ tencs (ts.take j))) ∧ (∀ t ∈ ts.take j, t.length ≤ 1000) ∧ Below w.heap.size w wr) (fun _ i _ => n1 - (intOf i).toNat)
          case atStart => exact ⟨0, by omega, rfl, by simp [tencs], by simp, HBA.out⟩
          case round =>
            obtain ⟨j, hj, rfl, rfl, htl, hbw⟩ := hrel
            by_cases hjn : j < n1
            · obtain ⟨b, off, t, rfl, ht, hcell⟩ := (HS1.out.below hbw).cell1 hjn
              have hjl : j < ts.length := by have := HN1.out; omega
              have ht' : ts[j] = t := by rw [List.getElem?_eq_getElem hjl] at ht; simpa using ht
              have hsz3 : (BS t).size = t.length := BS_size t
              have HBW := Go.Lib.hid hbw; clear hbw
              have HTL := Go.Lib.hid htl; clear htl
              by_cases h1000 : 1000 < t.length
              · clear ht ht'
                go_wp2_with fail
                refine (awake_any _).mono ?_; rintro e w3 ⟨rfl, hb3⟩
                have HB3 := Go.Lib.hid hb3; clear hb3
                go_wp2_with fail
                go_ret
                exact ⟨rfl, HBW.out.trans (HB3.out.mono HBW.out.size)⟩
              · have hen := tencs_take ts j hjl
                rw [ht'] at hen
                have hl1 := tencs_length (ts.take j) HTL.out
                have hl2 : (ts.take j).length ≤ j := List.length_take_le _ _
                have hl3 := etext_length t
                have hcat := BS_append (encs ns ++ tencs (ts.take j)) (etext t)
                rw [List.append_assoc, ← hen] at hcat
                have hnum := fun W => ctext_any t W (by omega)
                have hsz1 : (BS (encs ns ++ tencs (ts.take j))).size ≤ 200000 := by rw [BS_size, List.length_append]; omega
                have hsz2 : (BS (etext t)).size ≤ 2000 := by rw [BS_size]; omega
                have hall : ∀ x ∈ ts.take (j + 1), x.length ≤ 1000 := by
                  rw [List.take_succ_eq_append_getElem hjl, ht']
                  intro x hx
                  rcases List.mem_append.1 hx with h | h
                  · exact HTL.out x h
                  · obtain rfl : x = t := by simpa using h
                    omega
                have hfold : BS (enc (u64 (t.length : Int)) ++ t) = BS (etext t) := rfl
                rw [hfold] at hnum
                clear ht ht' hen hl1 hl2 hl3 hfold
                generalize BS (encs ns ++ tencs (ts.take j)) = s1 at *
                generalize BS (etext t) = s3 at *
                have HC := Go.Lib.hid hcat; clear hcat
                have HM := Go.Lib.hid hnum; clear hnum
                have HAL := Go.Lib.hid hall; clear hall
                go_wp2_with fail
                refine (HM.out _).mono ?_; rintro e w1 ⟨rfl, hb1⟩
                have HB1 := Go.Lib.hid hb1; clear hb1
                go_wp2_with fail
                exact ⟨⟨j + 1, by omega, by go_num, by rw [HC.out], HAL.out, HBW.out.trans (HB1.out.mono HBW.out.size)⟩, by simp [intOf]; omega⟩
            · obtain rfl : j = n1 := by omega
              obtain ⟨wb, rfl⟩ : ∃ wb : World, wb = wr := ⟨_, rfl⟩
              have hta : ts.take j = ts := List.take_of_length_le (by have := HN1.out; omega)
              rw [hta] at htl ⊢
              have hel2 := tencs_length ts htl
              have hSl : (encs ns ++ tencs ts).length ≤ 200000 := by rw [List.length_append]; have := HN1.out; omega
              have HTL := Go.Lib.hid htl; clear htl
              have HBB := Go.Lib.hid hbw; clear hbw hta hel2 hel'
              have hB0 := HBB.out.size
              go_wp2_with fail
              refine (read_any _ _).mono ?_; rintro e w1 ⟨rfl, rfl⟩
              obtain ⟨br, hbr⟩ : ∃ br, br = wb.heap.size := ⟨_, rfl⟩
              have hR0 : BackRel w br (encs ns ++ tencs ts) (wb.alloc (.cells #[.string (BS (encs ns ++ tencs ts)), .int .i64 0] 46)) := by
                subst hbr
                exact ⟨heap_alloc_new wb _, hB0, HBB.out.alloc hB0 _⟩
              have HR0 := Go.Lib.hid hR0; clear hR0
              rw [← hbr]
              have HBR := Go.Lib.hid hbr; clear hbr
              go_wp2_with fail
              go_loopw [11] (fun i wr => ∃ p : Nat, p ≤ k ∧ i = .int .i64 (p : Int) ∧ BackRel w br (encs (ns.drop p) ++ tencs ts) wr) (fun i _ => k - (intOf i).toNat)
              case atStart => exact ⟨0, by omega, rfl, HR0.out⟩
              case round =>
                obtain ⟨p, hp, rfl, hrr⟩ := hrel
                by_cases hpk : p < k
                · obtain ⟨hr1, hbr1, hbb1⟩ := hrr
                  obtain ⟨b, off, z, rfl, hz, hcell⟩ := (HS0.out.below hbb1).cell1 hpk
                  have hbb : b < w.heap.size := by
                    obtain ⟨b', off', z', he', _, hcell'⟩ := HS0.out.cell1 hpk
                    simp only [Option.some.injEq, Addr.mk.injEq] at he'
                    obtain ⟨rfl, rfl, _⟩ := he'
                    exact block_lt_of_cell hcell'
                  have hpl : p < ns.length := by have := HN0.out; omega
                  have hz' : ns[p] = z := by rw [List.getElem?_eq_getElem hpl] at hz; simpa using hz
                  have hzw := HWF.out z (List.mem_of_getElem? hz)
                  have hd := encs_drop ns p hpl
                  rw [hz'] at hd
                  have hst := stepNum_back z (encs (ns.drop (p + 1)) ++ tencs ts)
                  rw [← List.append_assoc, ← hd] at hst
                  have hld : (encs (ns.drop p)).length ≤ 900 := by have := encs_length (ns.drop p); rw [List.length_drop] at this; have := HN0.out; omega
                  have hld2 := tencs_length ts HTL.out
                  have hnum := fun W (hR : IsR W br (encs (ns.drop p) ++ tencs ts) 0) => rnumr_any br _ 0 W hR (by rw [List.length_append]; have := HN1.out; omega)
                  rw [hst] at hnum
                  simp only [wrap_back z hzw] at hnum
                  have HM := Go.Lib.hid hnum; clear hnum
                  have HR1 := Go.Lib.hid hr1; clear hr1
                  have HBB1 := Go.Lib.hid hbb1; clear hbb1
                  clear hst hd hz' hz hzw hld hld2
                  go_wp2_with fail
                  go_region_held3 (fun W => W.cell? ⟨b, off + p, none⟩ = some (.int .i64 z)) (first | exact hcell | exact hcell2) (first | (go_at_call 17; refine (HM.out wr.drew HR1.out).mono ?_; rintro e w2 ⟨rfl, hr2, hg2⟩; have HR2 := Go.Lib.hid hr2; clear hr2; have HG2 := Go.Lib.hid hg2; clear hg2; have hcell2 : w2.cell? ⟨b, off + p, none⟩ = some (.int .i64 z) := (HG2.out.cell hcell (by simp; omega))))
                  clear hcell hcell2
                  go_wp2_with fail
                  exact ⟨⟨p + 1, by omega, by go_num, HR2.out, hbr1, HBB1.out.drew.grown HG2.out (HBB1.out.drew.size) (by simp; omega)⟩, by simp [intOf]; omega⟩
                · obtain rfl : p = k := by omega
                  obtain ⟨wc, rfl⟩ : ∃ wc : World, wc = wr := ⟨_, rfl⟩
                  have hdr : ns.drop p = [] := List.drop_of_length_le (by have := HN0.out; omega)
                  rw [hdr, show encs [] ++ tencs ts = tencs ts from rfl] at hrr
                  have HRR := Go.Lib.hid hrr; clear hrr hdr
                  go_wp2_with fail
                  go_loopw [12] (fun i wr => ∃ q : Nat, q ≤ j ∧ i = .int .i64 (q : Int) ∧ BackRel w br (tencs (ts.drop q)) wr) (fun i _ => j - (intOf i).toNat)
                  case atStart => exact ⟨0, by omega, rfl, HRR.out⟩
                  case round =>
                    obtain ⟨q, hq, rfl, hrr⟩ := hrel
                    by_cases hqj : q < j
                    · obtain ⟨hr1, hbr1, hbb1⟩ := hrr
                      obtain ⟨b, off, t, rfl, ht, hcell⟩ := (HS1.out.below hbb1).cell1 hqj
                      have hbb : b < w.heap.size := by
                        obtain ⟨b', off', z', he', _, hcell'⟩ := HS1.out.cell1 hqj
                        simp only [Option.some.injEq, Addr.mk.injEq] at he'
                        obtain ⟨rfl, rfl, _⟩ := he'
                        exact block_lt_of_cell hcell'
                      have hql : q < ts.length := by have := HN1.out; omega
                      have ht' : ts[q] = t := by rw [List.getElem?_eq_getElem hql] at ht; simpa using ht
                      have htl := HTL.out t (List.mem_of_getElem? ht)
                      have hd := tencs_drop ts q hql
                      rw [ht'] at hd
                      have hst := stepText_back t (tencs (ts.drop (q + 1))) (by omega)
                      rw [← hd] at hst
                      have hld2 := tencs_length (ts.drop q) (fun x hx => HTL.out x (List.mem_of_mem_drop hx))
                      have hld3 : (tencs (ts.drop q)).length ≤ 281474976710656 := by rw [List.length_drop] at hld2; have := HN1.out; omega
                      have hnum := fun W (hR : IsR W br (tencs (ts.drop q)) 0) => rtext_any br _ 0 W hR hld3
                      rw [hst] at hnum
                      simp only at hnum
                      have HM := Go.Lib.hid hnum; clear hnum
                      have HR1 := Go.Lib.hid hr1; clear hr1
                      have HBB1 := Go.Lib.hid hbb1; clear hbb1
                      clear hst hd ht' ht htl hld2 hld3
                      generalize BS t = st at *
                      go_wp2_with fail
                      go_region_held3 (fun W => W.cell? ⟨b, off + q, none⟩ = some (.string st)) (first | exact hcell | exact hcell2) (first | (go_at_call 15; refine (HM.out wr.drew HR1.out).mono ?_; rintro e w2 ⟨rfl, hr2, hg2⟩; have HR2 := Go.Lib.hid hr2; clear hr2; have HG2 := Go.Lib.hid hg2; clear hg2; have hcell2 : w2.cell? ⟨b, off + q, none⟩ = some (.string st) := (HG2.out.cell hcell (by simp; omega))))
                      clear hcell hcell2
                      go_wp2_with fail
                      exact ⟨⟨q + 1, by omega, by go_num, HR2.out, hbr1, HBB1.out.drew.grown HG2.out (HBB1.out.drew.size) (by simp; omega)⟩, by simp [intOf]; omega⟩
                    · obtain rfl : q = j := by omega
                      obtain ⟨wd, rfl⟩ : ∃ wd : World, wd = wr := ⟨_, rfl⟩
                      have hdr : ts.drop q = [] := List.drop_of_length_le (by have := HN1.out; omega)
                      rw [hdr, show tencs [] = [] from rfl] at hrr
                      obtain ⟨hr1, hbr1, hbb1⟩ := hrr
                      have HR1 := Go.Lib.hid hr1; clear hr1 hdr
                      have HBD := Go.Lib.hid hbb1; clear hbb1
                      obtain ⟨S, hS⟩ : ∃ S, S = encs ns ++ tencs ts := ⟨_, rfl⟩
                      rw [← hS] at hSl ⊢
                      have HSS := Go.Lib.hid hS; clear hS
                      have hsz := BS_size S
                      by_cases hS0 : S.length = 0
                      · have hz : p = 0 ∧ q = 0 := by
                          have h1 := HSS.out
                          have h2 : S = [] := List.eq_nil_of_length_eq_zero hS0
                          rw [h2] at h1
                          have h3 := congrArg List.length h1
                          rw [List.length_append] at h3
                          have h4 := encs_ge ns
                          have h5 := tencs_ge ts
                          have h6 := HN0.out
                          have h7 := HN1.out
                          simp only [List.length_nil] at h3
                          omega
                        have hpq : (((p : Int) + (q : Int)) == 0) = true := by rw [beq_iff_eq]; omega
                        have hszb : (((BS S).size : Int) == 0) = true := by rw [beq_iff_eq]; omega
                        clear hz hsz
                        go_wp2_with fail
                        refine (end_any _ _ 0 _ HR1.out).mono ?_; rintro e w5 ⟨rfl, rfl⟩
                        rw [show endOf [] 0 = 0 from rfl]
                        go_wp2_with fail
                        refine (awake_any _).mono ?_; rintro e w6 ⟨rfl, hb6⟩
                        have HB6 := Go.Lib.hid hb6; clear hb6
                        go_wp2_with fail
                        go_ret
                        exact ⟨rfl, HBD.out.trans (HB6.out.mono HBD.out.size)⟩
                      · have hszb : (((BS S).size : Int) == 0) = false := by rw [beq_eq_false_iff_ne]; omega
                        obtain ⟨m, hmS, hm⟩ := cut_at at_ S.length (by omega) hSl
                        have hex : (BS S).extract 0 m = BS (S.take m) := by rw [BS_extract]; simp
                        clear hS0
                        go_wp2_with fail
                        refine (end_any _ _ 0 _ HR1.out).mono ?_; rintro e w5 ⟨rfl, rfl⟩
                        rw [show endOf [] 0 = 0 from rfl]
                        go_wp2_with fail
                        refine (read_any _ _).mono ?_; rintro e w6 ⟨rfl, rfl⟩
                        obtain ⟨b2, hb2⟩ : ∃ b2, b2 = wd.heap.size := ⟨_, rfl⟩
                        have HR0' : Hid (CutRel w b2 200000 (encs ns ++ tencs ts) (wd.alloc (.cells #[.string (BS (S.take m)), .int .i64 0] 46))) := by
                          subst hb2
                          refine ⟨S.take m, 0, heap_alloc_new wd _, .inl ⟨rfl, m, ?_, ?_⟩, ?_, HBD.out.size, HBD.out.alloc HBD.out.size _⟩
                          · rw [← HSS.out]; exact hmS
                          · rw [← HSS.out]
                          · rw [List.length_take]; omega
                        rw [← hb2]
                        have HBR2 := Go.Lib.hid hb2; clear hb2 hm hex
                        go_wp2_with fail
                        go_loopw [13] (fun i wr => ∃ x : Nat, x ≤ p ∧ i = .int .i64 (x : Int) ∧ CutRel w b2 200000 (encs (ns.drop x) ++ tencs ts) wr) (fun i _ => p - (intOf i).toNat)
                        case atStart => exact ⟨0, by omega, rfl, HR0'.out⟩
                        case round =>
                          obtain ⟨x, hx, rfl, hcr⟩ := hrel
                          by_cases hxp : x < p
                          · obtain ⟨lx, ex, hrx, hcx, hlx, hbx, hbbx⟩ := hcr
                            have hxl : x < ns.length := by have := HN0.out; omega
                            have hd := encs_drop ns x hxl
                            rw [hd, List.append_assoc] at hcx
                            have HCX := Go.Lib.hid (hcx.num (u64_lt _)); clear hcx hd
                            have HRX := Go.Lib.hid hrx; clear hrx
                            have HBX := Go.Lib.hid hbbx; clear hbbx
                            have hln := stepNum_len lx ex
                            go_wp2_with fail
                            refine (rnumr_any b2 lx ex _ HRX.out (by omega)).mono ?_; rintro e w7 ⟨rfl, hr7, hg7⟩
                            have HR7 := Go.Lib.hid hr7; clear hr7
                            have HG7 := Go.Lib.hid hg7; clear hg7
                            go_wp2_with fail
                            exact ⟨⟨x + 1, by omega, by go_num, _, _, HR7.out, HCX.out, by omega, hbx, HBX.out.grown HG7.out HBX.out.size (by simp; omega)⟩, by simp [intOf]; omega⟩
                          · obtain rfl : x = p := by omega
                            obtain ⟨we, rfl⟩ : ∃ we : World, we = wr := ⟨_, rfl⟩
                            have hdr : ns.drop x = [] := List.drop_of_length_le (by have := HN0.out; omega)
                            rw [hdr, show encs [] ++ tencs ts = tencs ts from rfl] at hcr
                            have HCR := Go.Lib.hid hcr; clear hcr hdr
                            go_wp2_with fail
                            go_loopw [14] (fun i wr => ∃ y : Nat, y ≤ q ∧ i = .int .i64 (y : Int) ∧ CutRel w b2 200000 (tencs (ts.drop y)) wr) (fun i _ => q - (intOf i).toNat)
                            case atStart => exact ⟨0, by omega, rfl, HCR.out⟩
                            case round =>
                              obtain ⟨y, hy, rfl, hcr⟩ := hrel
                              by_cases hyq : y < q
                              · obtain ⟨lx, ex, hrx, hcx, hlx, hbx, hbbx⟩ := hcr
                                have hyl : y < ts.length := by have := HN1.out; omega
                                have hd := tencs_drop ts y hyl
                                rw [hd] at hcx
                                have htl := HTL.out ts[y] (List.getElem_mem hyl)
                                have HCX := Go.Lib.hid (hcx.text (by omega)); clear hcx hd htl
                                have HRX := Go.Lib.hid hrx; clear hrx
                                have HBX := Go.Lib.hid hbbx; clear hbbx
                                have hln := stepText_len lx ex
                                go_wp2_with fail
                                refine (rtext_any b2 lx ex _ HRX.out (by omega)).mono ?_; rintro e w7 ⟨rfl, hr7, hg7⟩
                                have HR7 := Go.Lib.hid hr7; clear hr7
                                have HG7 := Go.Lib.hid hg7; clear hg7
                                go_wp2_with fail
                                exact ⟨⟨y + 1, by omega, by go_num, _, _, HR7.out, HCX.out, by omega, hbx, HBX.out.grown HG7.out HBX.out.size (by simp; omega)⟩, by simp [intOf]; omega⟩
                              · obtain rfl : y = q := by omega
                                have hdr : ts.drop y = [] := List.drop_of_length_le (by have := HN1.out; omega)
                                rw [hdr, show tencs [] = [] from rfl] at hcr
                                obtain ⟨lx, ex, hrx, hcx, hlx, hbx, hbbx⟩ := hcr
                                obtain rfl := hcx.done
                                have HRX := Go.Lib.hid hrx; clear hrx hcx hdr
                                have HBX := Go.Lib.hid hbbx; clear hbbx
                                have hend : endOf lx 10 = 10 := by simp [endOf]
                                go_wp2_with fail
                                refine (end_any _ _ 10 _ HRX.out).mono ?_; rintro e w8 ⟨rfl, rfl⟩
                                rw [hend]
                                go_wp2_with fail
                                refine (awake_any _).mono ?_; rintro e w9 ⟨rfl, hb9⟩
                                have HB9 := Go.Lib.hid hb9; clear hb9
                                go_wp2_with fail
                                go_ret
                                exact ⟨rfl, HBX.out.trans (HB9.out.mono HBX.out.size)⟩
end Go.Proofs.Yteepaekpaellbaa.W
