/- The reference of the digests: the digest of bytes. -/
import Derived.Test.YtlkcmnpcfldbcaaDoorShaQ
import Derived.IntWalk
import Derived.Test.YtlkcmnpcfldbcaaDoorShaN
import Derived.Deep.RegionHeld3
import Derived.StillTailTactics
import Derived.Deep.Light
namespace Go.Proofs.YtlkcmnpcfldbcaaDoor.W
set_option linter.unusedVariables false
open Go.RowKit Go.Proofs Arb

def hCells : Array Value := cells64 shaH

theorem hRow (w : World) : (w.alloc (.cells #[.int .u64 7640891576956012808, .int .u64 13503953896175478587, .int .u64 4354685564936845355, .int .u64 11912009170470909681, .int .u64 5840696475078001361, .int .u64 11170449401992604703, .int .u64 2270897969802886507, .int .u64 6620516959819538809] 25)) = w.alloc (.cells hCells 25) := rfl

def lenOf : Value → Nat
  | .slice _ n _ => n
  | _ => 0

theorem eight0_any (w : World) :
    Calls Tryd.prog 15 #[.int .u64 0] w fun e w' => ∃ v, e = .returned v ∧ Row w' w.heap.size 5 1 v 8 (Go.Lib.byteCells (be8 0)) ∧ Below w.heap.size w w' := eight_any 0 w

theorem Row.len {w : World} {base : Nat} {e : TypeId} {size : Nat} {v : Value} {n : Nat} {xs : List Value} (h : Row w base e size v n xs) : lenOf v = n := by
  rcases h.2 with ⟨rfl, rfl⟩ | ⟨g, cap, cur, fz, rfl, _⟩ <;> rfl

/-- What lies in memory ahead of block b. -/
def ShaRel (w : World) (S : List UInt8) (hb kb g b : Nat) (wr : World) : Prop :=
  Is64 wr hb (hAt S b) ∧ Is64 wr kb shaK ∧ (∀ j u, (Go.Lib.byteCells S)[j]? = some u → wr.cell? ⟨g, j, none⟩ = some u) ∧ Below w.heap.size w wr

theorem zeros_end (n z : Nat) (hz : z ≤ zerosOf n) : (n + 1 + z) % 128 = 112 ↔ z = zerosOf n := by
  unfold zerosOf at *
  omega

set_option maxRecDepth 100000 in
set_option maxHeartbeats 8000000 in
theorem rsum3_any (l : List UInt8) (w : World) (hl : l.length ≤ 1000000) :
    Calls Tryd.prog 7 #[.string (BS l)] w fun e w' => e = .returned (.string (BS (sha512 l))) ∧ Below w.heap.size w w' := by
  obtain ⟨i0, hi, hz0, hz1, hz2⟩ := info_parts info8
  obtain ⟨i6, hi6, hz60, hz61, hz62⟩ := info_parts info64
  have hsz : (BS l).size = l.length := BS_size l
  have HSZ := Go.Lib.hid hsz; clear hsz
  obtain ⟨W1, hW1⟩ : ∃ W1, w.alloc (.cells hCells 25) = W1 := ⟨_, rfl⟩
  have hW1' : (w.alloc (.cells #[.int .u64 7640891576956012808, .int .u64 13503953896175478587, .int .u64 4354685564936845355, .int .u64 11912009170470909681, .int .u64 5840696475078001361, .int .u64 11170449401992604703, .int .u64 2270897969802886507, .int .u64 6620516959819538809] 25)) = W1 := hW1
  obtain ⟨v1, W2, hcv, hr2, hb2, hs2, ho2⟩ := row_bytes (P := Tryd.prog) l W1 9 32 5 Tryd.underlying9 Tryd.underlying32 Tryd.underlying5 (by unfold maxLen; omega)
  have hs1 : W1.heap.size = w.heap.size + 1 := by rw [← hW1]; simp
  have hb1 : Below w.heap.size w W1 := by rw [← hW1]; exact (Below.refl _ _).alloc (Nat.le_refl _) _
  have hh1 : Is64 W1 w.heap.size shaH := by rw [← hW1]; exact heap_alloc_new _ _
  have HR2 := Go.Lib.hid hr2; clear hr2
  have HB2 := Go.Lib.hid hb2; clear hb2
  have HS2 := Go.Lib.hid hs2; clear hs2
  have HS1 := Go.Lib.hid hs1; clear hs1
  have HB1 := Go.Lib.hid hb1; clear hb1
  have HH1 := Go.Lib.hid hh1; clear hh1
  clear ho2 hW1
  go_enter Tryd.func7, Tryd.ntmps7
  go_wp2_with (at_builtin; refine wpList_append_row1 rfl (.tmp 25) (.tmp 26) _ rfl W1.heap.size 5 i0 (.int .u8 0) 1 Tryd.underlying32 hi hz0 hz1 hz2 rfl v1 l.length _ rfl HR2.out (.int .u8 128) 5 rfl rfl (by unfold maxLen; omega) (by omega) (by have := HS2.out; omega) ?_; intro v3 W3 hr3 hb3; have HR3 := Go.Lib.hid hr3; clear hr3; have HB3 := Go.Lib.hid hb3; clear hb3)
  have h3 : Row W3 W1.heap.size 5 1 v3 (l.length + 1 + 0) (Go.Lib.byteCells (l ++ [128] ++ List.replicate 0 0)) := by
    have h := HR3.out
    simpa [Go.Lib.byteCells] using h
  have H3 := Go.Lib.hid h3; clear h3
  have hB3 : W1.heap.size ≤ W3.heap.size := Nat.le_trans (by have := HS2.out; omega) HB3.out.size
  go_loopw [4] (fun v wr => ∃ z : Nat, z ≤ zerosOf l.length ∧ Row wr W1.heap.size 5 1 v (l.length + 1 + z) (Go.Lib.byteCells (l ++ [128] ++ List.replicate z 0)) ∧ Below W1.heap.size W3 wr) (fun v _ => zerosOf l.length + l.length + 1 - lenOf v)
  case atStart => exact ⟨0, Nat.zero_le _, H3.out, Below.refl _ _⟩
  case round =>
    obtain ⟨z, hz, hrow, hbw⟩ := hrel
    have hB := Nat.le_trans hB3 hbw.size
    obtain ⟨g, cap, rfl, hcap, hg1, hg2, hc, _⟩ := hrow.open (by omega)
    have hze := zeros_end l.length z hz
    have hzl : zerosOf l.length ≤ 127 := by unfold zerosOf; omega
    obtain ⟨n, hn⟩ : ∃ n, l.length + 1 + z = n := ⟨_, rfl⟩
    rw [hn] at hrow hze hcap
    have HROW := Go.Lib.hid hrow; clear hrow
    have HC := Go.Lib.hid hc; clear hc
    have HBW := Go.Lib.hid hbw; clear hbw
    rw [hn]
    by_cases hzz : z = zerosOf l.length
    · have hne : (((n : Int) % 128) != 112) = false := by
        have := hze.2 hzz
        simp
        omega
      have HN := Go.Lib.hid hn; clear hn
      have HZZ := Go.Lib.hid hzz; clear hzz hze
      go_wp2_with fail
      refine (eight0_any _).mono ?_
      rintro e wA ⟨v5, rfl, hr5, hb5⟩
      have hrA := HROW.out.below hb5
      have hBA : W1.heap.size ≤ wA.heap.size := Nat.le_trans hB hb5.size
      have HRA := Go.Lib.hid hrA; clear hrA
      have HR5 := Go.Lib.hid hr5; clear hr5
      have HB5 := Go.Lib.hid hb5; clear hb5
      have hnl : n ≤ 1000200 := by have := HN.out; omega
      have hl8 : 8 * l.length < 18446744073709551616 := by omega
      go_wp2_with (at_builtin; refine wpList_append_row rfl (.tmp 35) (.tmp 36) _ rfl W1.heap.size 5 i0 (.int .u8 0) 1 1 Tryd.underlying32 hi hz0 hz1 hz2 rfl (by decide) (.slice (some ⟨g, 0, none⟩) n cap) n _ rfl HRA.out v5 8 _ rfl (Rd.row HR5.out) (Go.Lib.byteCells_one _) (by unfold maxLen; omega) (by omega) hBA ?_; intro v6 W6 hr6 hg6 ho6; have HR6 := Go.Lib.hid hr6; clear hr6; have HG6 := Go.Lib.hid hg6; clear hg6 ho6)
      have e8 : IntKind.u64.wrap (8 * IntKind.u64.wrap ((BS l).size : Int)) = ((8 * l.length : Nat) : Int) := by
        rw [HSZ.out, IntKind.wrap_u64, IntKind.wrap_u64]; omega
      rw [e8]
      clear e8
      refine (eight_any _ _).mono ?_
      rintro e wC ⟨v7, rfl, hr7, hb7⟩
      have hrC := HR6.out.below hb7
      have hBC : W1.heap.size ≤ wC.heap.size := Nat.le_trans (Nat.le_trans hBA HG6.out.size) hb7.size
      have HRC := Go.Lib.hid hrC; clear hrC
      have HR7 := Go.Lib.hid hr7; clear hr7
      have HB7 := Go.Lib.hid hb7; clear hb7
      go_wp2_with (at_builtin; refine wpList_append_row rfl (.tmp 38) (.tmp 43) _ rfl W1.heap.size 5 i0 (.int .u8 0) 1 1 Tryd.underlying32 hi hz0 hz1 hz2 rfl (by decide) v6 (n + 8) _ rfl HRC.out v7 8 _ rfl (Rd.row HR7.out) (Go.Lib.byteCells_one _) (by unfold maxLen; omega) (by omega) hBC ?_; intro v8 W8 hr8 hg8 ho8; have HR8 := Go.Lib.hid hr8; clear hr8; have HG8 := Go.Lib.hid hg8; clear hg8 ho8)
      obtain ⟨T, hT⟩ : ∃ T, (padded l).length = T := ⟨_, rfl⟩
      have hTn : T = n + 8 + 8 := by
        rw [← hT, ← HN.out, HZZ.out]
        simp only [padded, List.length_append, be8_length, List.length_replicate, List.length_cons, List.length_nil]
      have hT128 : T % 128 = 0 := by
        have h1 := (zeros_end l.length z hz).2 HZZ.out
        have := HN.out
        omega
      have hrow8 : Row W8 W1.heap.size 5 1 v8 T (Go.Lib.byteCells (padded l)) := by
        have h := HR8.out
        rw [hTn]
        have hp : padded l = l ++ [128] ++ List.replicate z 0 ++ be8 0 ++ be8 (8 * l.length) := by unfold padded; rw [HZZ.out]
        rw [hp, byteCells_append, byteCells_append]
        exact h
      have hB18 : Below W1.heap.size W1 W8 := by
        have e1 : Below W1.heap.size W1 wr := (HB2.out.trans HB3.out).trans HBW.out
        have e2 : Below W1.heap.size W1 wA := e1.trans (HB5.out.mono hB)
        have e3 : Below W1.heap.size W1 W6 := e2.grown HG6.out hBA (by simp only [Value.ownBlock, Option.some.injEq]; intro k hk; omega)
        have e4 : Below W1.heap.size W1 wC := e3.trans (HB7.out.mono e3.size)
        exact e4.grown HG8.out hBC fun k hk => (Row.lt HRC.out k hk).1
      have hBel8 : Below w.heap.size w W8 := HB1.out.trans (hB18.mono HB1.out.size)
      have hH8 : Is64 W8 w.heap.size shaH := (hB18.block _ (by have := HS1.out; omega)).trans HH1.out
      obtain ⟨g8, cap8, rfl, hcap8, hg81, hg82, hc8, _⟩ := hrow8.open (by omega)
      have HC8 := Go.Lib.hid hc8; clear hc8 hrow8 hB18
      have HBEL8 := Go.Lib.hid hBel8; clear hBel8
      have HH8 := Go.Lib.hid hH8; clear hH8
      have HTT := Go.Lib.hid hT; clear hT
      have HTN := Go.Lib.hid hTn; clear hTn
      have hT1 : T ≤ 1000400 := by have := HTN.out; omega
      have hTp : 0 < T := by have := HTN.out; omega
      have HT128 := Go.Lib.hid hT128
      clear hT128 hnl hl8 hBA hBC hcap hg1 hg2 hB hB3 hzl hz hne
      refine (constants_any _).mono ?_
      rintro e wD ⟨rfl, rfl⟩
      obtain ⟨W9, hW9⟩ : ∃ W9, W8.alloc (.cells kCells 25) = W9 := ⟨_, rfl⟩
      have h9b : Below W8.heap.size W8 W9 := by rw [← hW9]; exact (Below.refl _ _).alloc (Nat.le_refl _) _
      have h9k : Is64 W9 W8.heap.size shaK := by rw [← hW9]; exact heap_alloc_new _ _
      have hrel9 : ShaRel w (padded l) w.heap.size W8.heap.size g8 0 W9 :=
        ⟨(h9b.block _ (Is64.lt HH8.out)).trans HH8.out, h9k, fun j u hu => (h9b.cell (by simpa using hg82)).trans (HC8.out j u hu), HBEL8.out.trans (h9b.mono HBEL8.out.size)⟩
      rw [hW9]
      have HREL9 := Go.Lib.hid hrel9; clear hrel9
      clear h9b h9k hW9
      go_wp2_with fail
      go_loopw [4] (fun v wr => ∃ b : Nat, 128 * b ≤ T ∧ (∃ (ad : Addr) (c : Nat), v = .slice (some ad) (T - 128 * b) c ∧ T - 128 * b ≤ c ∧ (128 * b < T → ad = ⟨g8, 128 * b, none⟩)) ∧ ShaRel w (padded l) w.heap.size W8.heap.size g8 b wr) (fun v _ => lenOf v)
      case atStart => exact ⟨0, by omega, ⟨_, _, rfl, by omega, fun _ => by simp⟩, HREL9.out⟩
      case round =>
        obtain ⟨b, hb, ⟨ad, c, rfl, hcc, had⟩, hrel⟩ := hrel
        by_cases hbT : 128 * b < T
        ·
          -- [X
          obtain rfl := had hbT
          obtain ⟨m, hm⟩ : ∃ m, T - 128 * b = m := ⟨_, rfl⟩
          have hm128 : 128 ≤ m := by have := HT128.out; omega
          rw [hm] at hcc
          rw [hm]
          obtain ⟨WB, rfl⟩ : ∃ WB, WB = wr := ⟨_, rfl⟩
          obtain ⟨hH, hK, hS, hBl⟩ := hrel
          obtain ⟨blk, hblk⟩ : ∃ blk, ((padded l).drop (128 * b)).take 128 = blk := ⟨_, rfl⟩
          have hblkl : blk.length = 128 := by rw [← hblk, List.length_take, List.length_drop, HTT.out, hm]; omega
          have hsb : ∀ j (h : j < blk.length), WB.cell? ⟨g8, 128 * b + j, none⟩ = some (.int .u8 ((blk[j]).toNat : Int)) := by
            intro j h
            refine hS _ _ ?_
            have h1 : (padded l)[128 * b + j]? = some blk[j] := by
              have h2 := List.getElem?_eq_getElem h
              rw [← h2, ← hblk, List.getElem?_take, if_pos (by omega), List.getElem?_drop]
            simp [Go.Lib.byteCells, h1]
          have HG8L : g8 < WB.heap.size := by
            have h := hsb 0 (by omega)
            rcases Nat.lt_or_ge g8 WB.heap.size with h1 | h1
            · exact h1
            · simp [World.cell?, Array.getElem?_eq_none h1] at h
          have HSB := Go.Lib.hid hsb; clear hsb
          have HSALL := Go.Lib.hid hS; clear hS
          have HM := Go.Lib.hid hm; clear hm
          have HBLK := Go.Lib.hid hblk; clear hblk
          have HBL := Go.Lib.hid hblkl; clear hblkl
          have HHH := Go.Lib.hid hH; clear hH
          have HK := Go.Lib.hid hK; clear hK
          have HBB := Go.Lib.hid hBl; clear hBl
          go_wp2_with fail
          go_loopw [6, 7] (fun v t wr => ∃ k : Nat, k ≤ 16 ∧ t = .int .i64 (k : Int) ∧ Row wr WB.heap.size 25 1 v k (cells64 ((words blk 16).take k)).toList ∧ Below WB.heap.size WB wr) (fun _ t _ => 16 - (intOf t).toNat)
          case atStart => exact ⟨0, by omega, rfl, Row.nil _ _ _ _, Below.refl _ _⟩
          case round =>
            obtain ⟨k, hk, rfl, hrow, hbw⟩ := hrel
            have HROW := Go.Lib.hid hrow; clear hrow
            have hBw := hbw.size
            by_cases hk16 : k < 16
            ·
              refine roundQ _ _ _ _ _ _ _ _ _ _ _ HSB.out HG8L HBL.out hm128 (by omega) (by omega) HROW.out hbw hk16 ?_
              intro u6 u7 u8 u9 u49 u50 u51 u52 u53 u54 u55 u56 u57 u58 u59 u60 u61 u62 u63 u64 u65 u66 u67 u68 u69 u70 u71 w' h1 h2 h3
              subst h3
              refine ⟨?_, by simp [intOf]; omega⟩
              (repeat apply Exists.intro)
              exact ⟨⟨k + 1, by omega, by simp, h1, h2⟩, rfl⟩
            · obtain rfl : k = 16 := by omega
              have HBW := Go.Lib.hid hbw; clear hbw
              obtain ⟨WC, rfl⟩ : ∃ WC, WC = wr := ⟨_, rfl⟩
              obtain ⟨ws, hws⟩ : ∃ ws, words blk 16 = ws := ⟨_, rfl⟩
              have hwl : ws.length = 16 := by rw [← hws]; exact words_length _ _
              have hwlt : ∀ x ∈ ws, x < 18446744073709551616 := by rw [← hws]; exact words_lt _ _
              have hrow16 : Row WC WB.heap.size 25 1 u6 (16 + 0) (cells64 (sched ws 0)).toList := by
                have h := HROW.out
                rw [hws, List.take_of_length_le (by omega)] at h
                exact h
              have HROW16 := Go.Lib.hid hrow16; clear hrow16
              have HWS := Go.Lib.hid hws; clear hws
              have HWL := Go.Lib.hid hwl; clear hwl
              have HWLT := Go.Lib.hid hwlt; clear hwlt
              go_wp2_with fail
              go_loopw [6, 10, 11, 12] (fun v t _ _ wr => ∃ k : Nat, k ≤ 64 ∧ t = .int .i64 ((16 + k : Nat) : Int) ∧ Row wr WB.heap.size 25 1 v (16 + k) (cells64 (sched ws k)).toList ∧ Below WB.heap.size WB wr) (fun _ t _ _ _ => 80 - (intOf t).toNat)
              case atStart => exact ⟨0, by omega, rfl, HROW16.out, HBW.out⟩
              case round =>
                obtain ⟨k, hk, rfl, hrow, hbw⟩ := hrel
                obtain ⟨n6, hn6⟩ : ∃ n6, 16 + k = n6 := ⟨_, rfl⟩
                have hBw := hbw.size
                obtain ⟨us, hus⟩ : ∃ us, sched ws k = us := ⟨_, rfl⟩
                have husl : us.length = n6 := by rw [← hus, sched_length, HWL.out]; omega
                have huslt : ∀ x ∈ us, x < 18446744073709551616 := by rw [← hus]; exact sched_lt _ HWLT.out _
                rw [hn6, hus] at hrow
                rw [hn6]
                by_cases hk64 : n6 < 80
                ·
                  refine roundR _ _ _ _ _ _ _ _ _ hus husl huslt hn6 hk64 hrow hbw ?_
                  intro u6 u10 u11 u12 u72 u73 u74 u75 u76 u77 u78 u79 u80 u81 u82 u83 u84 u85 u86 u87 u88 u89 u90 u91 u92 u93 u94 u95 u96 u97 u98 u99 u100 u101 u102 u103 u104 u105 u106 u107 u108 u109 u110 u111 u112 u113 u114 u115 u116 u117 u118 u119 u120 u121 u122 u123 u124 u125 u126 u127 u128 u129 u130 u131 u132 u133 w' h1 h2 h3
                  subst h3
                  refine ⟨?_, by simp [intOf]; omega⟩
                  (repeat apply Exists.intro)
                  exact ⟨⟨k + 1, by omega, by simp; omega, h1, h2⟩, rfl⟩
                ·
                  obtain rfl : n6 = 80 := by have := hn6; omega
                  have hk64' : k = 64 := by omega
                  have HK64 := Go.Lib.hid hk64'; clear hk64'
                  have HROW := Go.Lib.hid hrow; clear hrow
                  have HBW := Go.Lib.hid hbw; clear hbw
                  have HUS := Go.Lib.hid hus; clear hus
                  have HUSL := Go.Lib.hid husl; clear husl
                  have HUSLT := Go.Lib.hid huslt; clear huslt
                  have HN6 := Go.Lib.hid hn6; clear hn6
                  obtain ⟨hs, hhs⟩ : ∃ hs, hAt (padded l) b = hs := ⟨_, rfl⟩
                  have hhl : hs.length = 8 := by rw [← hhs]; exact hAt_length _ _
                  have hhlt : ∀ x ∈ hs, x < 18446744073709551616 := by rw [← hhs]; exact hAt_lt _ _
                  have hHr : Is64 wr w.heap.size hs := by rw [← hhs]; exact (HBW.out.block _ (Is64.lt HHH.out)).trans HHH.out
                  have hKr : Is64 wr W8.heap.size shaK := (HBW.out.block _ (Is64.lt HK.out)).trans HK.out
                  have HHS := Go.Lib.hid hhs; clear hhs
                  have HHL := Go.Lib.hid hhl; clear hhl
                  have HHLT := Go.Lib.hid hhlt; clear hhlt
                  have HHR := Go.Lib.hid hHr; clear hHr
                  have HKR := Go.Lib.hid hKr; clear hKr
                  go_wp2_with (at_builtin; refine wpList_append_row rfl (.tmp 134) (.tmp 135) _ rfl WB.heap.size 25 i6 (.int .u64 0) 1 8 Tryd.underlying31 hi6 hz60 hz61 hz62 rfl (by decide) (.slice none 0 0) 0 [] rfl (Row.nil _ _ _ _) (.slice (some ⟨w.heap.size, 0, none⟩) 8 8) 8 (cells64 hs).toList rfl (HHR.out.rd 8 HHL.out) (cells64_one hs) (by unfold maxLen; omega) (by omega) hBw ?_; intro vV WV hrV hgV hoV; have HRV := Go.Lib.hid hrV; clear hrV; have HGV := Go.Lib.hid hgV; clear hgV hoV)
                  have hbV : Below WB.heap.size WB WV := HBW.out.grown HGV.out hBw (by intro k hk; cases hk)
                  have hrW : Row WV WB.heap.size 25 1 u6 80 (cells64 us).toList := HROW.out.still HGV.out
                  have hrV0 : Row WV WB.heap.size 25 1 vV 8 (cells64 (rounds us hs 0)).toList := by have h := HRV.out; simpa [rounds] using h
                  have hKV : Is64 WV W8.heap.size shaK := (HGV.out.block _ (Is64.lt HKR.out) (by simp [Value.ownBlock])).trans HKR.out
                  obtain ⟨gw, cw, rfl, hcw, hgw1, hgw2, _, _⟩ := hrW.open (by omega)
                  have HRW := Go.Lib.hid hrW; clear hrW
                  have HRV0 := Go.Lib.hid hrV0; clear hrV0
                  have HKV := Go.Lib.hid hKV; clear hKV
                  have hBV8 := hbV.size
                  have hBV8 : WB.heap.size ≤ WV.heap.size := Nat.le_trans hBw HGV.out.size
                  have HBV := Go.Lib.hid hbV; clear hbV
                  go_wp2_with fail
                  go_loopw [13, 14, 15, 16, 17, 18] (fun v t _ _ _ _ wr => ∃ k : Nat, k ≤ 80 ∧ t = .int .i64 (k : Int) ∧ Row wr WB.heap.size 25 1 v 8 (cells64 (rounds us hs k)).toList ∧ Below WV.heap.size WV wr) (fun _ t _ _ _ _ _ => 80 - (intOf t).toNat)
                  case atStart => exact ⟨0, by omega, rfl, HRV0.out, Below.refl _ _⟩
                  case round =>
                    obtain ⟨t, ht, rfl, hrow, hbw⟩ := hrel
                    obtain ⟨vs, hvs⟩ : ∃ vs, rounds us hs t = vs := ⟨_, rfl⟩
                    have hvl : vs.length = 8 := by rw [← hvs]; exact rounds_length _ _ HHL.out _
                    have hvlt : ∀ x ∈ vs, x < 18446744073709551616 := by rw [← hvs]; exact rounds_lt _ _ HHLT.out _
                    rw [hvs] at hrow
                    obtain ⟨gv, cv, rfl, hcv8, hgv1, hgv2, _, _⟩ := hrow.open (by omega)
                    by_cases ht80 : t < 80
                    ·
                      refine roundV _ _ _ _ _ _ _ _ _ _ _ _ _ _ HKV.out HRW.out hgw2 HUSLT.out hvs hvl hvlt hrow hbw hBV8 ht80 ?_
                      intro u13 u14 u15 u16 u17 u18 u137 u138 u139 u140 u141 u142 u143 u144 u145 u146 u147 u148 u149 u150 u151 u152 u153 u154 u155 u156 u157 u158 u159 u160 u161 u162 u163 u164 u165 u166 u167 u168 u169 u170 u171 u172 u173 u174 u175 u176 u177 u178 u179 u180 u181 u182 u183 u184 u185 u186 u187 u188 u189 u190 u191 u192 u193 u194 u195 u196 u197 u198 u199 u200 u201 u202 u203 u204 u205 u206 u207 u208 u209 u210 u211 u212 u213 u214 u215 u216 u217 u218 u219 u220 u221 u222 u223 u224 u225 u226 u227 u228 u229 u230 u231 u232 u233 u234 u235 u236 w' h1 h2 h3
                      subst h3
                      refine ⟨?_, by simp [intOf]; omega⟩
                      (repeat apply Exists.intro)
                      exact ⟨⟨t + 1, by omega, by simp, h1, h2⟩, rfl⟩
                    · obtain rfl : t = 80 := by omega
                      have HROW2 := Go.Lib.hid hrow; clear hrow
                      have HBW2 := Go.Lib.hid hbw; clear hbw
                      have HVS := Go.Lib.hid hvs; clear hvs
                      have HVL := Go.Lib.hid hvl; clear hvl
                      have HVLT := Go.Lib.hid hvlt; clear hvlt
                      obtain ⟨WE, rfl⟩ : ∃ WE, WE = wr := ⟨_, rfl⟩
                      have hHE : Is64 WE w.heap.size hs := (HBW2.out.block _ (Nat.lt_of_lt_of_le HHR.out.lt HGV.out.size)).trans ((HGV.out.block _ HHR.out.lt (by simp [Value.ownBlock])).trans HHR.out)
                      have HHE := Go.Lib.hid hHE; clear hHE
                      have hWE0 : w.heap.size < WB.heap.size := HHH.out.lt
                      go_wp2_with fail
                      go_loopw [19] (fun i wr => ∃ q : Nat, q ≤ 8 ∧ i = .int .i64 (q : Int) ∧ Is64 wr w.heap.size ((addAll hs vs).take q ++ hs.drop q) ∧ Row wr WB.heap.size 25 1 (.slice (some ⟨gv, 0, none⟩) 8 cv) 8 (cells64 vs).toList ∧ WE.grownBy wr (some w.heap.size)) (fun i _ => 8 - (intOf i).toNat)
                      case atStart => exact ⟨0, by omega, rfl, by simpa using HHE.out, HROW2.out, ⟨rfl, rfl, rfl, Nat.le_refl _, fun _ _ _ => rfl⟩⟩
                      case round =>
                        obtain ⟨q, hq, rfl, hIs, hRw, hGr⟩ := hrel
                        have HIS := Go.Lib.hid hIs; clear hIs
                        have HRWV := Go.Lib.hid hRw; clear hRw
                        have HGR := Go.Lib.hid hGr; clear hGr
                        by_cases hq8 : q < 8
                        ·
                          refine roundW _ _ _ _ _ _ _ _ _ _ _ HHL.out HVL.out hq8 hWE0 hgv1 HIS.out HRWV.out HGR.out ?_
                          intro u19 u237 u238 u239 u240 u241 u242 u243 u244 u245 u246 u247 u248 u249 u250 u251 u252 w' h1 h2 h4 h3
                          subst h3
                          refine ⟨?_, by simp [intOf]; omega⟩
                          (repeat apply Exists.intro)
                          exact ⟨⟨q + 1, by omega, by simp, h1, h2, h4⟩, rfl⟩
                        · obtain rfl : q = 8 := by omega
                          have hbWE : Below WB.heap.size WB WE := HBV.out.trans (HBW2.out.mono hBV8)
                          have hkeep : ∀ k, k < WB.heap.size → k ≠ w.heap.size → wr.heap[k]? = WB.heap[k]? := fun k h1 h2 =>
                            (HGR.out.block k (Nat.lt_of_lt_of_le h1 hbWE.size) (by simpa using h2)).trans (hbWE.block k h1)
                          have hnew : Is64 wr w.heap.size (hAt (padded l) (b + 1)) := by
                            have h := HIS.out
                            have e1 : addAll hs vs = hAt (padded l) (b + 1) := by
                              simp only [hAt, compress]
                              rw [HBLK.out, HWS.out, HHS.out, ← HVS.out, ← HUS.out, HK64.out]
                            rw [List.take_of_length_le (by rw [addAll_length _ _ HHL.out HVL.out]; omega), List.drop_of_length_le (by rw [HHL.out]; omega), List.append_nil, e1] at h
                            exact h
                          have hrelN : ShaRel w (padded l) w.heap.size W8.heap.size g8 (b + 1) wr := by
                            refine ⟨hnew, (hkeep _ HK.out.lt (by have := HH8.out.lt; omega)).trans HK.out, fun j u hu => ?_, ?_⟩
                            · rw [World.cell?_of_block (w := WB) (a := ⟨g8, j, none⟩) (hkeep g8 HG8L (by have := HS1.out; omega))]
                              exact HSALL.out j u hu
                            · have e2 : Below w.heap.size w WE := HBB.out.trans (hbWE.mono (by omega))
                              exact e2.grown HGR.out e2.size (by intro k hk; simp only [Option.some.injEq] at hk; omega)
                          have HRELN := Go.Lib.hid hrelN; clear hrelN hnew hkeep hbWE
                          have HB1' : 128 * (b + 1) ≤ T := by have := HM.out; omega
                          have hm2 : m - 128 = T - 128 * (b + 1) := by have := HM.out; omega
                          have HM2 := Go.Lib.hid hm2; clear hm2
                          by_cases hc128 : c = 128
                          · go_wp2_with fail
                            exact ⟨⟨b + 1, HB1', ⟨_, _, by rw [HM2.out], by have := HM2.out; omega, fun h => by have := HM2.out; omega⟩, HRELN.out⟩, by show m - 128 < m; omega⟩
                          · go_wp2_with fail
                            exact ⟨⟨b + 1, HB1', ⟨_, _, by rw [HM2.out], by have := HM2.out; omega, fun _ => by rw [show 128 * (b + 1) = 128 * b + 128 by omega]⟩, HRELN.out⟩, by show m - 128 < m; omega⟩
          -- X]
        · have hbe : 128 * b = T := by omega
          obtain ⟨m, hm⟩ : ∃ m, T - 128 * b = m := ⟨_, rfl⟩
          have hm0 : m = 0 := by omega
          rw [hm]
          subst hm0
          obtain ⟨WF, rfl⟩ : ∃ WF, WF = wr := ⟨_, rfl⟩
          obtain ⟨hH, hK, hS, hBl⟩ := hrel
          obtain ⟨hf, hhf⟩ : ∃ hf, hAt (padded l) b = hf := ⟨_, rfl⟩
          have hfl : hf.length = 8 := by rw [← hhf]; exact hAt_length _ _
          have hfin : sha512 l = bytesOf hf := by
            rw [sha512_hAt, HTT.out, ← hhf, ← hbe, Nat.mul_div_cancel_left b (by omega : 0 < 128)]
          rw [hhf] at hH
          have HH := Go.Lib.hid hH; clear hH hK hS
          have HBF := Go.Lib.hid hBl; clear hBl
          have HFIN := Go.Lib.hid hfin; clear hfin
          have HFL := Go.Lib.hid hfl; clear hfl
          clear had hcc hm hhf hbe hb hbT
          go_wp2_with fail
          go_loopw [20, 21] (fun v i wr => ∃ q : Nat, q ≤ 8 ∧ i = .int .i64 (q : Int) ∧ Row wr WF.heap.size 5 1 v (8 * q) (Go.Lib.byteCells (bytesOf (hf.take q))) ∧ Below WF.heap.size WF wr) (fun _ i _ => 8 - (intOf i).toNat)
          case atStart => exact ⟨0, by omega, rfl, Row.nil _ _ _ _, Below.refl _ _⟩
          case round =>
            obtain ⟨q, hq, rfl, hrow, hbw⟩ := hrel
            by_cases hq8 : q < 8
            · have ch : wr.cell? ⟨w.heap.size, q, none⟩ = some (.int .u64 ((hf.getD q 0 : Nat) : Int)) :=
                (hbw.cell (by have := HH.out.lt; simpa using this)).trans (HH.out.cell q (by rw [HFL.out]; exact hq8))
              have hnx := bytesOf_take hf q (by rw [HFL.out]; exact hq8)
              obtain ⟨y, hy⟩ : ∃ y, hf.getD q 0 = y := ⟨_, rfl⟩
              rw [hy] at ch hnx
              have hq8' : (q : Int) < 8 := by omega
              have hWB := hbw.size
              have HROW := Go.Lib.hid hrow; clear hrow
              have HBW := Go.Lib.hid hbw; clear hbw
              have HNX := Go.Lib.hid hnx; clear hnx
              clear hy
              go_wp2_with fail
              refine (eight_any y _).mono ?_
              rintro e wG ⟨v9, rfl, hr9, hb9⟩
              have hrG := HROW.out.below hb9
              have hWG := hb9.size
              have HRG := Go.Lib.hid hrG; clear hrG
              have HR9 := Go.Lib.hid hr9; clear hr9
              have HB9 := Go.Lib.hid hb9; clear hb9
              go_wp2_with (at_builtin; refine wpList_append_row rfl (.tmp 259) (.tmp 264) _ rfl WF.heap.size 5 i0 (.int .u8 0) 1 1 Tryd.underlying32 hi hz0 hz1 hz2 rfl (by decide) _ (8 * q) _ rfl HRG.out v9 8 _ rfl (Rd.row HR9.out) (Go.Lib.byteCells_one _) (by unfold maxLen; omega) (by omega) (by omega) ?_; intro vE WE hrE hgE hoE)
              have hbE : Below WF.heap.size WF WE := (HBW.out.trans (HB9.out.mono hWB)).grown hgE (by omega) fun k hk => (Row.lt HRG.out k hk).1
              refine ⟨⟨q + 1, by omega, by simp, ?_, hbE⟩, by simp [intOf]; omega⟩
              rw [HNX.out, byteCells_append, show 8 * (q + 1) = 8 * q + 8 by omega]
              exact hrE
            · obtain rfl : q = 8 := by omega
              obtain ⟨gF, cF, rfl, _, _, _, _, _⟩ := hrow.open (by omega)
              have hcvF := run_string_rd (P := Tryd.prog) 32 9 5 _ (8 * 8) (bytesOf (hf.take 8)) Tryd.underlying32 Tryd.underlying5 Tryd.underlying9 (Rd.row hrow)
              rw [List.take_of_length_le (by rw [HFL.out]; omega)] at hcvF
              have HBW := Go.Lib.hid hbw; clear hbw hrow
              go_wp2_with fail
              go_ret
              exact ⟨by rw [HFIN.out]; rfl, HBF.out.trans (HBW.out.mono HBF.out.size)⟩
    ·
      -- [P
      have hne : (((n : Int) % 128) != 112) = true := by
        have : ¬ n % 128 = 112 := fun h => hzz (hze.1 h)
        simp
        omega
      have hn1 : n ≤ 1000200 := by omega
      have HN := Go.Lib.hid hn; clear hn
      clear hze
      go_wp2_with (at_builtin; refine wpList_append_row1 rfl (.tmp 32) (.tmp 33) _ rfl W1.heap.size 5 i0 (.int .u8 0) 1 Tryd.underlying32 hi hz0 hz1 hz2 rfl _ n _ rfl HROW.out (.int .u8 0) 5 rfl rfl (by unfold maxLen; omega) (by omega) hB ?_; intro v4 W4 hr4 hb4; have HR4 := Go.Lib.hid hr4; clear hr4; have HB4 := Go.Lib.hid hb4; clear hb4)
      refine ⟨⟨z + 1, by omega, ?_, HBW.out.trans (HB4.out.mono (by omega))⟩, ?_⟩
      · have h := HR4.out
        rw [← HN.out] at h
        rw [List.replicate_succ', ← List.append_assoc, byteCells_append]
        exact h
      · rw [Row.len HR4.out]
        show _ < zerosOf l.length + l.length + 1 - n
        have := HN.out
        omega
      -- P]
end Go.Proofs.YtlkcmnpcfldbcaaDoor.W
