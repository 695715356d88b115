/- The reference of the digests: the rounds of its loops, each by itself. -/
import Derived.Test.YtlkcmnpcfldbcaaDoorShaE
import Derived.IntWalk
import Derived.Test.YtlkcmnpcfldbcaaDoorShaN
import Derived.Deep.RegionHeld3
import Derived.StillTailTactics
namespace Go.Proofs.YtlkcmnpcfldbcaaDoor.W
set_option linter.unusedVariables false
open Go.RowKit Go.Proofs Arb

/-- The bodies of a code's loops, in the text's order. -/
def loopsOf : Code → List Code
  | .loop c => c :: loopsOf c
  | .seq a b => loopsOf a ++ loopsOf b
  | .block _ c => loopsOf c
  | .scope c => loopsOf c
  | .cond _ a b => loopsOf a ++ loopsOf b
  | _ => []
noncomputable def bodyAt (n : Nat) : Code := ((Tryd.f7.body.map loopsOf).getD []).getD n .skip

set_option maxRecDepth 1000000 in
set_option maxHeartbeats 4000000 in
theorem roundV {c0 c1 c2 c3 c4 c7 c8 c9 c10 c11 c12 c15 c16 c17 c18 c19 c20 c21 c22 c23 c24 c25 c26 c27 c28 c29 c30 c31 c32 c33 c34 c35 c36 c37 c38 c39 c40 c41 c42 c43 c44 c45 c46 c47 c48 c49 c50 c51 c52 c53 c54 c55 c56 c57 c58 c59 c60 c61 c62 c63 c64 c65 c66 c67 c68 c69 c70 c71 c72 c73 c74 c75 c76 c77 c78 c79 c80 c81 c82 c83 c84 c85 c86 c87 c88 c89 c90 c91 c92 c93 c94 c95 c96 c97 c98 c99 c100 c101 c102 c103 c104 c105 c106 c107 c108 c109 c110 c111 c112 c113 c114 c115 c116 c117 c118 c119 c120 c121 c122 c123 c124 c125 c126 c127 c128 c129 c130 c131 c132 c133 c134 c135 c136 c137 c138 c139 c140 c141 c142 c143 c144 c145 c146 c147 c148 c149 c150 c151 c152 c153 c154 c155 c156 c157 c158 c159 c160 c161 c162 c163 c164 c165 c166 c167 c168 c169 c170 c171 c172 c173 c174 c175 c176 c177 c178 c179 c180 c181 c182 c183 c184 c185 c186 c187 c188 c189 c190 c191 c192 c193 c194 c195 c196 c197 c198 c199 c200 c201 c202 c203 c204 c205 c206 c207 c208 c209 c210 c211 c212 c213 c214 c215 c216 c217 c218 c219 c220 c221 c222 c223 c224 c225 c226 c227 c228 c229 c230 c231 c232 c233 c234 c235 c236 c237 c238 c239 c240 c241 c242 c243 c244 c245 c246 c247 c248 c249 c250 c251 c252 c253 c254 c255 c256 c257 c258 c259 c260 c261 c262 c263 c264 c265 c266 c267 : Value} (K : Act → World → Prop) (Q : Exit → Act → World → Prop) (WV wr : World) (B kb gw cw gv cv t : Nat) (us hs vs : List Nat)
    (hKV : Is64 WV kb shaK) (hRW : Row WV B 25 1 (.slice (some ⟨gw, 0, none⟩) 80 cw) 80 (cells64 us).toList) (hgw2 : gw < WV.heap.size) (huslt : ∀ x ∈ us, x < 18446744073709551616)
    (hvs : rounds us hs t = vs) (hvl : vs.length = 8) (hvlt : ∀ x ∈ vs, x < 18446744073709551616) (hrow : Row wr B 25 1 (.slice (some ⟨gv, 0, none⟩) 8 cv) 8 (cells64 vs).toList) (hbw : Below WV.heap.size WV wr) (hBV8 : B ≤ WV.heap.size) (ht80 : t < 80)
    (hK : ∀ (u13 u14 u15 u16 u17 u18 u137 u138 u139 u140 u141 u142 u143 u144 u145 u146 u147 u148 u149 u150 u151 u152 u153 u154 u155 u156 u157 u158 u159 u160 u161 u162 u163 u164 u165 u166 u167 u168 u169 u170 u171 u172 u173 u174 u175 u176 u177 u178 u179 u180 u181 u182 u183 u184 u185 u186 u187 u188 u189 u190 u191 u192 u193 u194 u195 u196 u197 u198 u199 u200 u201 u202 u203 u204 u205 u206 u207 u208 u209 u210 u211 u212 u213 u214 u215 u216 u217 u218 u219 u220 u221 u222 u223 u224 u225 u226 u227 u228 u229 u230 u231 u232 u233 u234 u235 u236 : Value) (w' : World), Row w' B 25 1 u13 8 (cells64 (rounds us hs (t + 1))).toList → Below WV.heap.size WV w' → u14 = .int .i64 ((t : Int) + 1) → K ⟨#[c0, c1, c2, c3, c4, .slice (some ⟨kb, 0, none⟩) 80 80, .slice (some ⟨gw, 0, none⟩) 80 cw, c7, c8, c9, c10, c11, c12, u13, u14, u15, u16, u17, u18, c19, c20, c21, c22, c23, c24, c25, c26, c27, c28, c29, c30, c31, c32, c33, c34, c35, c36, c37, c38, c39, c40, c41, c42, c43, c44, c45, c46, c47, c48, c49, c50, c51, c52, c53, c54, c55, c56, c57, c58, c59, c60, c61, c62, c63, c64, c65, c66, c67, c68, c69, c70, c71, c72, c73, c74, c75, c76, c77, c78, c79, c80, c81, c82, c83, c84, c85, c86, c87, c88, c89, c90, c91, c92, c93, c94, c95, c96, c97, c98, c99, c100, c101, c102, c103, c104, c105, c106, c107, c108, c109, c110, c111, c112, c113, c114, c115, c116, c117, c118, c119, c120, c121, c122, c123, c124, c125, c126, c127, c128, c129, c130, c131, c132, c133, c134, c135, c136, u137, u138, u139, u140, u141, u142, u143, u144, u145, u146, u147, u148, u149, u150, u151, u152, u153, u154, u155, u156, u157, u158, u159, u160, u161, u162, u163, u164, u165, u166, u167, u168, u169, u170, u171, u172, u173, u174, u175, u176, u177, u178, u179, u180, u181, u182, u183, u184, u185, u186, u187, u188, u189, u190, u191, u192, u193, u194, u195, u196, u197, u198, u199, u200, u201, u202, u203, u204, u205, u206, u207, u208, u209, u210, u211, u212, u213, u214, u215, u216, u217, u218, u219, u220, u221, u222, u223, u224, u225, u226, u227, u228, u229, u230, u231, u232, u233, u234, u235, u236, c237, c238, c239, c240, c241, c242, c243, c244, c245, c246, c247, c248, c249, c250, c251, c252, c253, c254, c255, c256, c257, c258, c259, c260, c261, c262, c263, c264, c265, c266, c267], []⟩ w') :
    Code.wp Tryd.prog (bodyAt 5) (Exit.then K Q) ⟨#[c0, c1, c2, c3, c4, .slice (some ⟨kb, 0, none⟩) 80 80, .slice (some ⟨gw, 0, none⟩) 80 cw, c7, c8, c9, c10, c11, c12, .slice (some ⟨gv, 0, none⟩) 8 cv, .int .i64 (t : Int), c15, c16, c17, c18, c19, c20, c21, c22, c23, c24, c25, c26, c27, c28, c29, c30, c31, c32, c33, c34, c35, c36, c37, c38, c39, c40, c41, c42, c43, c44, c45, c46, c47, c48, c49, c50, c51, c52, c53, c54, c55, c56, c57, c58, c59, c60, c61, c62, c63, c64, c65, c66, c67, c68, c69, c70, c71, c72, c73, c74, c75, c76, c77, c78, c79, c80, c81, c82, c83, c84, c85, c86, c87, c88, c89, c90, c91, c92, c93, c94, c95, c96, c97, c98, c99, c100, c101, c102, c103, c104, c105, c106, c107, c108, c109, c110, c111, c112, c113, c114, c115, c116, c117, c118, c119, c120, c121, c122, c123, c124, c125, c126, c127, c128, c129, c130, c131, c132, c133, c134, c135, c136, c137, c138, c139, c140, c141, c142, c143, c144, c145, c146, c147, c148, c149, c150, c151, c152, c153, c154, c155, c156, c157, c158, c159, c160, c161, c162, c163, c164, c165, c166, c167, c168, c169, c170, c171, c172, c173, c174, c175, c176, c177, c178, c179, c180, c181, c182, c183, c184, c185, c186, c187, c188, c189, c190, c191, c192, c193, c194, c195, c196, c197, c198, c199, c200, c201, c202, c203, c204, c205, c206, c207, c208, c209, c210, c211, c212, c213, c214, c215, c216, c217, c218, c219, c220, c221, c222, c223, c224, c225, c226, c227, c228, c229, c230, c231, c232, c233, c234, c235, c236, c237, c238, c239, c240, c241, c242, c243, c244, c245, c246, c247, c248, c249, c250, c251, c252, c253, c254, c255, c256, c257, c258, c259, c260, c261, c262, c263, c264, c265, c266, c267], []⟩ wr := by
  have HK0 := Go.Lib.hid hK; clear hK
  conv => arg 2; whnf
  have ht80' : (t : Int) < 80 := by omega
  have hk0 : wr.cell? ⟨kb, t, none⟩ = some (.int .u64 ((shaK.getD t 0 : Nat) : Int)) :=
    (hbw.cell (by have := hKV.lt; simpa using this)).trans (hKV.cell t (by rw [show shaK.length = 80 by rfl]; exact ht80))
  have hw0 : wr.cell? ⟨gw, t, none⟩ = some (.int .u64 ((us.getD t 0 : Nat) : Int)) :=
    (hbw.cell (by simpa using hgw2)).trans (Row.cellAt hRW t ht80)
  have cs := fun i (h : i < 8) => Row.cellAt hrow i h
  have lt := getD_lt vs hvlt
  have c0 := cs 0 (by omega)
  have c1 := cs 1 (by omega)
  have c2 := cs 2 (by omega)
  have c3 := cs 3 (by omega)
  have c4 := cs 4 (by omega)
  have c5 := cs 5 (by omega)
  have c6 := cs 6 (by omega)
  have c7 := cs 7 (by omega)
  have l0 := lt 0
  have l1 := lt 1
  have l2 := lt 2
  have l3 := lt 3
  have l4 := lt 4
  have l5 := lt 5
  have l6 := lt 6
  have l7 := lt 7
  have lk := getD_lt shaK (by decide) t
  have lw := getD_lt us huslt t
  have hnext : rounds us hs (t + 1) = rnd vs (shaK.getD t 0) (us.getD t 0) := by simp only [rounds, hvs]
  unfold rnd at hnext
  obtain ⟨x0, hx0⟩ : ∃ x, vs.getD 0 0 = x := ⟨_, rfl⟩
  obtain ⟨x1, hx1⟩ : ∃ x, vs.getD 1 0 = x := ⟨_, rfl⟩
  obtain ⟨x2, hx2⟩ : ∃ x, vs.getD 2 0 = x := ⟨_, rfl⟩
  obtain ⟨x3, hx3⟩ : ∃ x, vs.getD 3 0 = x := ⟨_, rfl⟩
  obtain ⟨x4, hx4⟩ : ∃ x, vs.getD 4 0 = x := ⟨_, rfl⟩
  obtain ⟨x5, hx5⟩ : ∃ x, vs.getD 5 0 = x := ⟨_, rfl⟩
  obtain ⟨x6, hx6⟩ : ∃ x, vs.getD 6 0 = x := ⟨_, rfl⟩
  obtain ⟨x7, hx7⟩ : ∃ x, vs.getD 7 0 = x := ⟨_, rfl⟩
  obtain ⟨kt, hkt⟩ : ∃ x, shaK.getD t 0 = x := ⟨_, rfl⟩
  obtain ⟨wt, hwt⟩ : ∃ x, us.getD t 0 = x := ⟨_, rfl⟩
  simp only [hx0, hx1, hx2, hx3, hx4, hx5, hx6, hx7, hkt, hwt] at hnext
  rw [hx0] at c0 l0
  rw [hx1] at c1 l1
  rw [hx2] at c2 l2
  rw [hx3] at c3 l3
  rw [hx4] at c4 l4
  rw [hx5] at c5 l5
  rw [hx6] at c6 l6
  rw [hx7] at c7 l7
  rw [hkt] at hk0 lk
  rw [hwt] at hw0 lw
  have nw := World.new_ne wr ⟨gv, 0, none⟩ c0
  have HNX := Go.Lib.hid hnext; clear hnext
  have HBW2 := Go.Lib.hid hbw; clear hbw
  have hWr := HBW2.out.size
  clear hx0 hx1 hx2 hx3 hx4 hx5 hx6 hx7 hkt hwt cs lt hvs hvl hvlt hrow
  go_wp2_with fail
  go_quiet ((go_at_call 17; first | exact Calls.quiet_of (turnedZ _ 14 _ _ rfl l4 (by omega)) | exact Calls.quiet_of (turnedZ _ 18 _ _ rfl l4 (by omega)) | exact Calls.quiet_of (turnedZ _ 41 _ _ rfl l4 (by omega))))
  go_wp2_with fail
  go_quiet ((go_at_call 17; first | exact quiet_more (turnedZ _ 28 _ _ rfl l0 (by omega)) | exact quiet_more (turnedZ _ 34 _ _ rfl l0 (by omega)) | exact quiet_more (turnedZ _ 39 _ _ rfl l0 (by omega))))
  go_wp2_with fail
  rw [rx_bits x4 x5 x6 x7 kt wt l4 l5 l6, ry_bits x0 x1 x2 l0 l1 l2]
  obtain ⟨rX, hrX⟩ : ∃ x, rx x4 x5 x6 x7 kt wt = x := ⟨_, rfl⟩
  obtain ⟨rY, hrY⟩ : ∃ x, ry x0 x1 x2 = x := ⟨_, rfl⟩
  rw [hrX, hrY]
  have HRX := Go.Lib.hid hrX; clear hrX
  have HRY := Go.Lib.hid hrY; clear hrY
  go_region_held3 (fun w' => w'.cell? ⟨gv, 0, none⟩ = some (.int .u64 (x0 : Int)) ∧ w'.cell? ⟨gv, 1, none⟩ = some (.int .u64 (x1 : Int)) ∧ w'.cell? ⟨gv, 2, none⟩ = some (.int .u64 (x2 : Int)) ∧ w'.cell? ⟨gv, 3, none⟩ = some (.int .u64 (x3 : Int)) ∧
      w'.cell? ⟨gv, 4, none⟩ = some (.int .u64 (x4 : Int)) ∧ w'.cell? ⟨gv, 5, none⟩ = some (.int .u64 (x5 : Int)) ∧ w'.cell? ⟨gv, 6, none⟩ = some (.int .u64 (x6 : Int)))
    (first | exact ⟨c0, c1, c2, c3, c4, c5, c6⟩ | exact ⟨cell_more c0, cell_more c1, cell_more c2, cell_more c3, cell_more c4, cell_more c5, cell_more c6⟩)
    ((fail))
  go_wp2_with fail
  have hend : cells64 (rounds us hs (t + 1)) = #[.int .u64 (IntKind.u64.wrap ((rX : Int) + (rY : Int))), .int .u64 (x0 : Int), .int .u64 (x1 : Int), .int .u64 (x2 : Int), .int .u64 (IntKind.u64.wrap ((x3 : Int) + (rX : Int))), .int .u64 (x4 : Int), .int .u64 (x5 : Int), .int .u64 (x6 : Int)] := by
    rw [HNX.out, HRX.out, HRY.out, IntKind.wrap_u64, IntKind.wrap_u64]
    rfl
  have hrowE := Row.made wr (cells64 (rounds us hs (t + 1))) 25 8 1 (Nat.le_trans hBV8 hWr) (by unfold maxLen; omega) (by rw [hend]; rfl)

  exact HK0.out _ _ _ _ _ _ _ _ _ _ _ _ _ _ _ _ _ _ _ _ _ _ _ _ _ _ _ _ _ _ _ _ _ _ _ _ _ _ _ _ _ _ _ _ _ _ _ _ _ _ _ _ _ _ _ _ _ _ _ _ _ _ _ _ _ _ _ _ _ _ _ _ _ _ _ _ _ _ _ _ _ _ _ _ _ _ _ _ _ _ _ _ _ _ _ _ _ _ _ _ _ _ _ _ _ _ _ (by rw [← hend]; exact Row.heap hrowE rfl) ((below_draws HBW2.out _).alloc hWr _) rfl

end Go.Proofs.YtlkcmnpcfldbcaaDoor.W
