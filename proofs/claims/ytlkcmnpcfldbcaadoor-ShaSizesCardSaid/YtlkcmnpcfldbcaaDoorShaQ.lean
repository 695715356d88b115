/- The reference of the digests: the rounds of its other loops, each by itself. -/
import Derived.Test.YtlkcmnpcfldbcaaDoorShaV
namespace Go.Proofs.YtlkcmnpcfldbcaaDoor.W
set_option linter.unusedVariables false
open Go.RowKit Go.Proofs Arb

set_option maxRecDepth 1000000 in
set_option maxHeartbeats 4000000 in
theorem roundR {c0 c1 c2 c3 c4 c5 c7 c8 c9 c11 c12 c13 c14 c15 c16 c17 c18 c19 c20 c21 c22 c23 c24 c25 c26 c27 c28 c29 c30 c31 c32 c33 c34 c35 c36 c37 c38 c39 c40 c41 c42 c43 c44 c45 c46 c47 c48 c49 c50 c51 c52 c53 c54 c55 c56 c57 c58 c59 c60 c61 c62 c63 c64 c65 c66 c67 c68 c69 c70 c71 c72 c73 c74 c75 c76 c77 c78 c79 c80 c81 c82 c83 c84 c85 c86 c87 c88 c89 c90 c91 c92 c93 c94 c95 c96 c97 c98 c99 c100 c101 c102 c103 c104 c105 c106 c107 c108 c109 c110 c111 c112 c113 c114 c115 c116 c117 c118 c119 c120 c121 c122 c123 c124 c125 c126 c127 c128 c129 c130 c131 c132 c133 c134 c135 c136 c137 c138 c139 c140 c141 c142 c143 c144 c145 c146 c147 c148 c149 c150 c151 c152 c153 c154 c155 c156 c157 c158 c159 c160 c161 c162 c163 c164 c165 c166 c167 c168 c169 c170 c171 c172 c173 c174 c175 c176 c177 c178 c179 c180 c181 c182 c183 c184 c185 c186 c187 c188 c189 c190 c191 c192 c193 c194 c195 c196 c197 c198 c199 c200 c201 c202 c203 c204 c205 c206 c207 c208 c209 c210 c211 c212 c213 c214 c215 c216 c217 c218 c219 c220 c221 c222 c223 c224 c225 c226 c227 c228 c229 c230 c231 c232 c233 c234 c235 c236 c237 c238 c239 c240 c241 c242 c243 c244 c245 c246 c247 c248 c249 c250 c251 c252 c253 c254 c255 c256 c257 c258 c259 c260 c261 c262 c263 c264 c265 c266 c267 : Value} (K : Act → World → Prop) (Q : Exit → Act → World → Prop) (WB wr : World) (k n6 : Nat) (v6 : Value) (ws us : List Nat)
    (hus : sched ws k = us) (husl : us.length = n6) (huslt : ∀ x ∈ us, x < 18446744073709551616) (hn6 : 16 + k = n6) (hk64 : n6 < 80)
    (hrow : Row wr WB.heap.size 25 1 v6 n6 (cells64 us).toList) (hbw : Below WB.heap.size WB wr)
    (hK : ∀ (u6 u10 u11 u12 u72 u73 u74 u75 u76 u77 u78 u79 u80 u81 u82 u83 u84 u85 u86 u87 u88 u89 u90 u91 u92 u93 u94 u95 u96 u97 u98 u99 u100 u101 u102 u103 u104 u105 u106 u107 u108 u109 u110 u111 u112 u113 u114 u115 u116 u117 u118 u119 u120 u121 u122 u123 u124 u125 u126 u127 u128 u129 u130 u131 u132 u133 : Value) (w' : World), Row w' WB.heap.size 25 1 u6 (16 + (k + 1)) (cells64 (sched ws (k + 1))).toList → Below WB.heap.size WB w' → u10 = .int .i64 ((n6 : Int) + 1) → K ⟨#[c0, c1, c2, c3, c4, c5, u6, c7, c8, c9, u10, u11, u12, c13, c14, c15, c16, c17, c18, c19, c20, c21, c22, c23, c24, c25, c26, c27, c28, c29, c30, c31, c32, c33, c34, c35, c36, c37, c38, c39, c40, c41, c42, c43, c44, c45, c46, c47, c48, c49, c50, c51, c52, c53, c54, c55, c56, c57, c58, c59, c60, c61, c62, c63, c64, c65, c66, c67, c68, c69, c70, c71, u72, u73, u74, u75, u76, u77, u78, u79, u80, u81, u82, u83, u84, u85, u86, u87, u88, u89, u90, u91, u92, u93, u94, u95, u96, u97, u98, u99, u100, u101, u102, u103, u104, u105, u106, u107, u108, u109, u110, u111, u112, u113, u114, u115, u116, u117, u118, u119, u120, u121, u122, u123, u124, u125, u126, u127, u128, u129, u130, u131, u132, u133, c134, c135, c136, c137, c138, c139, c140, c141, c142, c143, c144, c145, c146, c147, c148, c149, c150, c151, c152, c153, c154, c155, c156, c157, c158, c159, c160, c161, c162, c163, c164, c165, c166, c167, c168, c169, c170, c171, c172, c173, c174, c175, c176, c177, c178, c179, c180, c181, c182, c183, c184, c185, c186, c187, c188, c189, c190, c191, c192, c193, c194, c195, c196, c197, c198, c199, c200, c201, c202, c203, c204, c205, c206, c207, c208, c209, c210, c211, c212, c213, c214, c215, c216, c217, c218, c219, c220, c221, c222, c223, c224, c225, c226, c227, c228, c229, c230, c231, c232, c233, c234, c235, c236, c237, c238, c239, c240, c241, c242, c243, c244, c245, c246, c247, c248, c249, c250, c251, c252, c253, c254, c255, c256, c257, c258, c259, c260, c261, c262, c263, c264, c265, c266, c267], []⟩ w') :
    Code.wp Tryd.prog (bodyAt 4) (Exit.then K Q) ⟨#[c0, c1, c2, c3, c4, c5, v6, c7, c8, c9, .int .i64 (n6 : Int), c11, c12, c13, c14, c15, c16, c17, c18, c19, c20, c21, c22, c23, c24, c25, c26, c27, c28, c29, c30, c31, c32, c33, c34, c35, c36, c37, c38, c39, c40, c41, c42, c43, c44, c45, c46, c47, c48, c49, c50, c51, c52, c53, c54, c55, c56, c57, c58, c59, c60, c61, c62, c63, c64, c65, c66, c67, c68, c69, c70, c71, c72, c73, c74, c75, c76, c77, c78, c79, c80, c81, c82, c83, c84, c85, c86, c87, c88, c89, c90, c91, c92, c93, c94, c95, c96, c97, c98, c99, c100, c101, c102, c103, c104, c105, c106, c107, c108, c109, c110, c111, c112, c113, c114, c115, c116, c117, c118, c119, c120, c121, c122, c123, c124, c125, c126, c127, c128, c129, c130, c131, c132, c133, c134, c135, c136, c137, c138, c139, c140, c141, c142, c143, c144, c145, c146, c147, c148, c149, c150, c151, c152, c153, c154, c155, c156, c157, c158, c159, c160, c161, c162, c163, c164, c165, c166, c167, c168, c169, c170, c171, c172, c173, c174, c175, c176, c177, c178, c179, c180, c181, c182, c183, c184, c185, c186, c187, c188, c189, c190, c191, c192, c193, c194, c195, c196, c197, c198, c199, c200, c201, c202, c203, c204, c205, c206, c207, c208, c209, c210, c211, c212, c213, c214, c215, c216, c217, c218, c219, c220, c221, c222, c223, c224, c225, c226, c227, c228, c229, c230, c231, c232, c233, c234, c235, c236, c237, c238, c239, c240, c241, c242, c243, c244, c245, c246, c247, c248, c249, c250, c251, c252, c253, c254, c255, c256, c257, c258, c259, c260, c261, c262, c263, c264, c265, c266, c267], []⟩ wr := by
  have HK0 := Go.Lib.hid hK; clear hK
  obtain ⟨i6, hi6, hz60, hz61, hz62⟩ := info_parts info64
  have hBw := hbw.size
  conv => arg 2; whnf
  obtain ⟨g6, cc6, rfl, hc6, hg61, hg62, hcell, _⟩ := hrow.open (by omega)
  have cellAt : ∀ i, i < n6 → wr.cell? ⟨g6, i, none⟩ = some (.int .u64 ((us.getD i 0 : Nat) : Int)) := by
    intro i h
    refine hcell _ _ ?_
    simp [cells64, List.getD_eq_getElem?_getD, List.getElem?_eq_getElem (show i < us.length by omega)]
  obtain ⟨p15, h15⟩ : ∃ p, n6 = p + 15 := ⟨n6 - 15, by omega⟩
  obtain ⟨p2, h2⟩ : ∃ p, n6 = p + 2 := ⟨n6 - 2, by omega⟩
  obtain ⟨p16, h16⟩ : ∃ p, n6 = p + 16 := ⟨n6 - 16, by omega⟩
  obtain ⟨p7, h7⟩ : ∃ p, n6 = p + 7 := ⟨n6 - 7, by omega⟩
  have c15 := cellAt p15 (by omega)
  have c2 := cellAt p2 (by omega)
  have c16 := cellAt p16 (by omega)
  have c7 := cellAt p7 (by omega)
  have l15 := getD_lt us huslt p15
  have l2 := getD_lt us huslt p2
  have l16 := getD_lt us huslt p16
  have l7 := getD_lt us huslt p7
  have hwn : wnext us n6 = (us.getD p16 0 + us.getD p7 0 + sg0 (us.getD p15 0) + sg1 (us.getD p2 0)) % 18446744073709551616 := by
    unfold wnext
    rw [show n6 - 16 = p16 by omega, show n6 - 7 = p7 by omega, show n6 - 15 = p15 by omega, show n6 - 2 = p2 by omega]
  obtain ⟨x15, hx15⟩ : ∃ x, us.getD p15 0 = x := ⟨_, rfl⟩
  obtain ⟨x2, hx2⟩ : ∃ x, us.getD p2 0 = x := ⟨_, rfl⟩
  obtain ⟨x16, hx16⟩ : ∃ x, us.getD p16 0 = x := ⟨_, rfl⟩
  obtain ⟨x7, hx7⟩ : ∃ x, us.getD p7 0 = x := ⟨_, rfl⟩
  rw [hx15] at c15 l15
  rw [hx2] at c2 l2
  rw [hx16] at c16 l16
  rw [hx7] at c7 l7
  rw [hx15, hx2, hx16, hx7] at hwn
  have hnext : (cells64 (sched ws (k + 1))).toList = (cells64 us).toList ++ [.int .u64 ((wnext us n6 : Nat) : Int)] := by
    simp only [sched, hus, hn6, cells64, List.map_append, List.map_cons, List.map_nil]
  have w15 : IntKind.i64.wrap ((n6 : Int) - 15) = (p15 : Int) := by rw [IntWalk.i64_in _ (by omega)]; omega
  have w2 : IntKind.i64.wrap ((n6 : Int) - 2) = (p2 : Int) := by rw [IntWalk.i64_in _ (by omega)]; omega
  have w16 : IntKind.i64.wrap ((n6 : Int) - 16) = (p16 : Int) := by rw [IntWalk.i64_in _ (by omega)]; omega
  have w7 : IntKind.i64.wrap ((n6 : Int) - 7) = (p7 : Int) := by rw [IntWalk.i64_in _ (by omega)]; omega
  have b15 : (p15 : Int) < (n6 : Int) := by omega
  have b2 : (p2 : Int) < (n6 : Int) := by omega
  have b16 : (p16 : Int) < (n6 : Int) := by omega
  have b7 : (p7 : Int) < (n6 : Int) := by omega
  have HROW := Go.Lib.hid hrow; clear hrow
  have HBW := Go.Lib.hid hbw; clear hbw
  have HWN := Go.Lib.hid hwn; clear hwn
  have HNEXT := Go.Lib.hid hnext; clear hnext
  have HN6 := Go.Lib.hid hn6; clear hn6
  clear hx15 hx2 hx16 hx7 h15 h2 h16 h7 hcell cellAt hus husl huslt
  go_wp2_with fail
  go_quiet ((go_at_call 17; first | exact Calls.quiet_of (turnedZ _ 1 _ _ rfl l15 (by omega)) | exact Calls.quiet_of (turnedZ _ 8 _ _ rfl l15 (by omega))))
  go_wp2_with fail
  go_quiet ((go_at_call 17; first | exact quiet_more (turnedZ _ 19 _ _ rfl l2 (by omega)) | exact quiet_more (turnedZ _ 61 _ _ rfl l2 (by omega))))
  have nw6 := World.new_ne wr ⟨g6, p16, none⟩ c16
  go_wp2_with fail
  rw [sg0_bits x15 l15, sg1_bits x2 l2]
  obtain ⟨s0, hs0⟩ : ∃ s, sg0 x15 = s := ⟨_, rfl⟩
  obtain ⟨s1, hs1⟩ : ∃ s, sg1 x2 = s := ⟨_, rfl⟩
  rw [hs0, hs1]
  have HS0 := Go.Lib.hid hs0; clear hs0
  have HS1' := Go.Lib.hid hs1; clear hs1
  go_region_held3 (fun w' => w'.cell? ⟨g6, p16, none⟩ = some (.int .u64 (x16 : Int)) ∧ w'.cell? ⟨g6, p7, none⟩ = some (.int .u64 (x7 : Int)))
    (first | exact ⟨c16, c7⟩ | exact ⟨cell_more c16, cell_more c7⟩ | exact ⟨(hsm _ _ rfl _ (by omega)).trans (cell_more c16), (hsm _ _ rfl _ (by omega)).trans (cell_more c7)⟩)
    ((refine step_append_row1 rfl (.tmp 116) (.tmp 132) _ rfl WB.heap.size 25 i6 (.int .u64 0) 8 Tryd.underlying31 hi6 hz60 hz61 hz62 rfl (.slice (some ⟨g6, 0, none⟩) n6 cc6) n6 _ rfl wr.heap.size _ 25 rfl (heap_alloc_new wr _) (Row.heap (HROW.out.alloc _) rfl) rfl (by unfold maxLen; omega) (by omega) (by simp; omega) ?_; intro v4 W4 hr4 hb4 hsm))
  go_wp2_with fail
  have hnv : IntKind.u64.wrap (IntKind.u64.wrap (IntKind.u64.wrap ((x16 : Int) + (x7 : Int)) + (s0 : Int)) + (s1 : Int)) = ((wnext us n6 : Nat) : Int) := by
    rw [HWN.out, HS0.out, HS1'.out, IntKind.wrap_u64, IntKind.wrap_u64, IntKind.wrap_u64]; omega
  rw [hnv] at hr4
  have hrel' : Row W4 WB.heap.size 25 1 v4 (16 + (k + 1)) (cells64 (sched ws (k + 1))).toList := by
    rw [HNEXT.out, show 16 + (k + 1) = n6 + 1 by have := HN6.out; omega]
    exact hr4
  have hbel' : Below WB.heap.size WB W4 := (HBW.out.alloc hBw _).trans (below_from hb4 rfl rfl rfl rfl)
  exact HK0.out _ _ _ _ _ _ _ _ _ _ _ _ _ _ _ _ _ _ _ _ _ _ _ _ _ _ _ _ _ _ _ _ _ _ _ _ _ _ _ _ _ _ _ _ _ _ _ _ _ _ _ _ _ _ _ _ _ _ _ _ _ _ _ _ _ _ _ hrel' hbel' rfl

set_option maxRecDepth 1000000 in
set_option maxHeartbeats 4000000 in
theorem roundQ {c0 c1 c2 c3 c5 c8 c9 c10 c11 c12 c13 c14 c15 c16 c17 c18 c19 c20 c21 c22 c23 c24 c25 c26 c27 c28 c29 c30 c31 c32 c33 c34 c35 c36 c37 c38 c39 c40 c41 c42 c43 c44 c45 c46 c47 c48 c49 c50 c51 c52 c53 c54 c55 c56 c57 c58 c59 c60 c61 c62 c63 c64 c65 c66 c67 c68 c69 c70 c71 c72 c73 c74 c75 c76 c77 c78 c79 c80 c81 c82 c83 c84 c85 c86 c87 c88 c89 c90 c91 c92 c93 c94 c95 c96 c97 c98 c99 c100 c101 c102 c103 c104 c105 c106 c107 c108 c109 c110 c111 c112 c113 c114 c115 c116 c117 c118 c119 c120 c121 c122 c123 c124 c125 c126 c127 c128 c129 c130 c131 c132 c133 c134 c135 c136 c137 c138 c139 c140 c141 c142 c143 c144 c145 c146 c147 c148 c149 c150 c151 c152 c153 c154 c155 c156 c157 c158 c159 c160 c161 c162 c163 c164 c165 c166 c167 c168 c169 c170 c171 c172 c173 c174 c175 c176 c177 c178 c179 c180 c181 c182 c183 c184 c185 c186 c187 c188 c189 c190 c191 c192 c193 c194 c195 c196 c197 c198 c199 c200 c201 c202 c203 c204 c205 c206 c207 c208 c209 c210 c211 c212 c213 c214 c215 c216 c217 c218 c219 c220 c221 c222 c223 c224 c225 c226 c227 c228 c229 c230 c231 c232 c233 c234 c235 c236 c237 c238 c239 c240 c241 c242 c243 c244 c245 c246 c247 c248 c249 c250 c251 c252 c253 c254 c255 c256 c257 c258 c259 c260 c261 c262 c263 c264 c265 c266 c267 : Value} (K : Act → World → Prop) (Q : Exit → Act → World → Prop) (WB wr : World) (g8 b m c k : Nat) (u6 : Value) (blk : List UInt8)
    (hsb : ∀ j (h : j < blk.length), WB.cell? ⟨g8, 128 * b + j, none⟩ = some (.int .u8 ((blk[j]).toNat : Int))) (HG8L : g8 < WB.heap.size) (hbl : blk.length = 128) (hm128 : 128 ≤ m) (hmc : m ≤ c) (hb1 : 128 * b ≤ 1000400)
    (hrow : Row wr WB.heap.size 25 1 u6 k (cells64 ((words blk 16).take k)).toList) (hbw : Below WB.heap.size WB wr) (hk16 : k < 16)
    (hK : ∀ (u6 u7 u8 u9 u49 u50 u51 u52 u53 u54 u55 u56 u57 u58 u59 u60 u61 u62 u63 u64 u65 u66 u67 u68 u69 u70 u71 : Value) (w' : World), Row w' WB.heap.size 25 1 u6 (k + 1) (cells64 ((words blk 16).take (k + 1))).toList → Below WB.heap.size WB w' → u7 = .int .i64 ((k : Int) + 1) → K ⟨#[c0, c1, c2, c3, .slice (some ⟨g8, 128 * b, none⟩) m c, c5, u6, u7, u8, u9, c10, c11, c12, c13, c14, c15, c16, c17, c18, c19, c20, c21, c22, c23, c24, c25, c26, c27, c28, c29, c30, c31, c32, c33, c34, c35, c36, c37, c38, c39, c40, c41, c42, c43, c44, c45, c46, c47, c48, u49, u50, u51, u52, u53, u54, u55, u56, u57, u58, u59, u60, u61, u62, u63, u64, u65, u66, u67, u68, u69, u70, u71, c72, c73, c74, c75, c76, c77, c78, c79, c80, c81, c82, c83, c84, c85, c86, c87, c88, c89, c90, c91, c92, c93, c94, c95, c96, c97, c98, c99, c100, c101, c102, c103, c104, c105, c106, c107, c108, c109, c110, c111, c112, c113, c114, c115, c116, c117, c118, c119, c120, c121, c122, c123, c124, c125, c126, c127, c128, c129, c130, c131, c132, c133, c134, c135, c136, c137, c138, c139, c140, c141, c142, c143, c144, c145, c146, c147, c148, c149, c150, c151, c152, c153, c154, c155, c156, c157, c158, c159, c160, c161, c162, c163, c164, c165, c166, c167, c168, c169, c170, c171, c172, c173, c174, c175, c176, c177, c178, c179, c180, c181, c182, c183, c184, c185, c186, c187, c188, c189, c190, c191, c192, c193, c194, c195, c196, c197, c198, c199, c200, c201, c202, c203, c204, c205, c206, c207, c208, c209, c210, c211, c212, c213, c214, c215, c216, c217, c218, c219, c220, c221, c222, c223, c224, c225, c226, c227, c228, c229, c230, c231, c232, c233, c234, c235, c236, c237, c238, c239, c240, c241, c242, c243, c244, c245, c246, c247, c248, c249, c250, c251, c252, c253, c254, c255, c256, c257, c258, c259, c260, c261, c262, c263, c264, c265, c266, c267], []⟩ w') :
    Code.wp Tryd.prog (bodyAt 2) (Exit.then K Q) ⟨#[c0, c1, c2, c3, .slice (some ⟨g8, 128 * b, none⟩) m c, c5, u6, .int .i64 (k : Int), c8, c9, c10, c11, c12, c13, c14, c15, c16, c17, c18, c19, c20, c21, c22, c23, c24, c25, c26, c27, c28, c29, c30, c31, c32, c33, c34, c35, c36, c37, c38, c39, c40, c41, c42, c43, c44, c45, c46, c47, c48, c49, c50, c51, c52, c53, c54, c55, c56, c57, c58, c59, c60, c61, c62, c63, c64, c65, c66, c67, c68, c69, c70, c71, c72, c73, c74, c75, c76, c77, c78, c79, c80, c81, c82, c83, c84, c85, c86, c87, c88, c89, c90, c91, c92, c93, c94, c95, c96, c97, c98, c99, c100, c101, c102, c103, c104, c105, c106, c107, c108, c109, c110, c111, c112, c113, c114, c115, c116, c117, c118, c119, c120, c121, c122, c123, c124, c125, c126, c127, c128, c129, c130, c131, c132, c133, c134, c135, c136, c137, c138, c139, c140, c141, c142, c143, c144, c145, c146, c147, c148, c149, c150, c151, c152, c153, c154, c155, c156, c157, c158, c159, c160, c161, c162, c163, c164, c165, c166, c167, c168, c169, c170, c171, c172, c173, c174, c175, c176, c177, c178, c179, c180, c181, c182, c183, c184, c185, c186, c187, c188, c189, c190, c191, c192, c193, c194, c195, c196, c197, c198, c199, c200, c201, c202, c203, c204, c205, c206, c207, c208, c209, c210, c211, c212, c213, c214, c215, c216, c217, c218, c219, c220, c221, c222, c223, c224, c225, c226, c227, c228, c229, c230, c231, c232, c233, c234, c235, c236, c237, c238, c239, c240, c241, c242, c243, c244, c245, c246, c247, c248, c249, c250, c251, c252, c253, c254, c255, c256, c257, c258, c259, c260, c261, c262, c263, c264, c265, c266, c267], []⟩ wr := by
  have HK0 := Go.Lib.hid hK; clear hK
  obtain ⟨i6, hi6, hz60, hz61, hz62⟩ := info_parts info64
  have hBw := hbw.size
  have HSB := Go.Lib.hid hsb; clear hsb
  have HBL := Go.Lib.hid hbl; clear hbl
  have HROW := Go.Lib.hid hrow; clear hrow
  conv => arg 2; whnf
  have hsb2 : ∀ j (h : j < blk.length), wr.cell? ⟨g8, 128 * b + j, none⟩ = some (.int .u8 ((blk[j]).toNat : Int)) := fun j h => (hbw.cell (by have := HG8L; simpa using this)).trans (HSB.out j h)
  have HSB2 := Go.Lib.hid hsb2; clear hsb2
  have HBW := Go.Lib.hid hbw; clear hbw
  go_wp2_with fail
  go_loop [8, 9] (fun x i => ∃ q : Nat, q ≤ 8 ∧ i = .int .i64 (q : Int) ∧ x = .int .u64 ((val8 ((blk.drop (8 * k)).take q) : Nat) : Int)) (fun _ i => 8 - (intOf i).toNat)
  case atStart => exact ⟨0, by omega, rfl, rfl⟩
  case round =>
    obtain ⟨q, hq, rfl, rfl⟩ := hrel
    by_cases hq8 : q < 8
    · obtain ⟨x, hx⟩ : ∃ x, val8 ((blk.drop (8 * k)).take q) = x := ⟨_, rfl⟩
      have hxl : x < 72057594037927936 := by rw [← hx]; exact val8_take_lt _ _ (by omega)
      have hj : 8 * k + q < blk.length := by have := HBL.out; omega
      obtain ⟨d, hd⟩ : ∃ d, (blk[8 * k + q]).toNat = d := ⟨_, rfl⟩
      have hdl : d < 256 := by rw [← hd]; exact (blk[8 * k + q]).toNat_lt
      have hcd := HSB2.out _ hj
      rw [hd] at hcd
      have hnx : val8 ((blk.drop (8 * k)).take (q + 1)) = x * 256 + d := by
        rw [val8_take _ _ (by rw [List.length_drop]; omega), hx, List.getElem_drop, hd]
      have hor := shl8_or x d hxl hdl
      rw [hx]
      have HNX := Go.Lib.hid hnx; clear hnx
      have HOR := Go.Lib.hid hor; clear hor
      clear hx hd
      go_wp2_with fail
      exact ⟨⟨q + 1, by omega, by simp, by rw [HNX.out, ← HOR.out]⟩, by simp [intOf]; omega⟩
    · obtain rfl : q = 8 := by omega
      obtain ⟨x, hx⟩ : ∃ x, val8 ((blk.drop (8 * k)).take 8) = x := ⟨_, rfl⟩
      have hwt : (cells64 ((words blk 16).take (k + 1))).toList = (cells64 ((words blk 16).take k)).toList ++ [.int .u64 (x : Int)] := by
        rw [words_take _ _ _ hk16, hx]; simp [cells64]
      rw [hx]
      have HWT := Go.Lib.hid hwt; clear hwt
      clear hx
      go_wp2_with (at_builtin; refine wpList_append_row1 rfl (.tmp 68) (.tmp 70) _ rfl WB.heap.size 25 i6 (.int .u64 0) 8 Tryd.underlying31 hi6 hz60 hz61 hz62 rfl u6 k _ rfl HROW.out (.int .u64 (x : Int)) 25 rfl rfl (by unfold maxLen; omega) (by omega) hBw ?_; intro v4 W4 hr4 hb4)
      rw [← HWT.out] at hr4
      exact HK0.out _ _ _ _ _ _ _ _ _ _ _ _ _ _ _ _ _ _ _ _ _ _ _ _ _ _ _ _ hr4 (HBW.out.trans hb4) rfl

set_option maxRecDepth 1000000 in
set_option maxHeartbeats 4000000 in
theorem roundW {c0 c1 c2 c4 c5 c6 c7 c8 c9 c10 c11 c12 c14 c15 c16 c17 c18 c20 c21 c22 c23 c24 c25 c26 c27 c28 c29 c30 c31 c32 c33 c34 c35 c36 c37 c38 c39 c40 c41 c42 c43 c44 c45 c46 c47 c48 c49 c50 c51 c52 c53 c54 c55 c56 c57 c58 c59 c60 c61 c62 c63 c64 c65 c66 c67 c68 c69 c70 c71 c72 c73 c74 c75 c76 c77 c78 c79 c80 c81 c82 c83 c84 c85 c86 c87 c88 c89 c90 c91 c92 c93 c94 c95 c96 c97 c98 c99 c100 c101 c102 c103 c104 c105 c106 c107 c108 c109 c110 c111 c112 c113 c114 c115 c116 c117 c118 c119 c120 c121 c122 c123 c124 c125 c126 c127 c128 c129 c130 c131 c132 c133 c134 c135 c136 c137 c138 c139 c140 c141 c142 c143 c144 c145 c146 c147 c148 c149 c150 c151 c152 c153 c154 c155 c156 c157 c158 c159 c160 c161 c162 c163 c164 c165 c166 c167 c168 c169 c170 c171 c172 c173 c174 c175 c176 c177 c178 c179 c180 c181 c182 c183 c184 c185 c186 c187 c188 c189 c190 c191 c192 c193 c194 c195 c196 c197 c198 c199 c200 c201 c202 c203 c204 c205 c206 c207 c208 c209 c210 c211 c212 c213 c214 c215 c216 c217 c218 c219 c220 c221 c222 c223 c224 c225 c226 c227 c228 c229 c230 c231 c232 c233 c234 c235 c236 c237 c238 c239 c240 c241 c242 c243 c244 c245 c246 c247 c248 c249 c250 c251 c252 c253 c254 c255 c256 c257 c258 c259 c260 c261 c262 c263 c264 c265 c266 c267 : Value} (K : Act → World → Prop) (Q : Exit → Act → World → Prop) (WE wr : World) (hb B gv cv q : Nat) (hs vs : List Nat)
    (hhl : hs.length = 8) (hvl : vs.length = 8) (hq8 : q < 8) (hbB : hb < B) (hgv1 : B ≤ gv) (hIs : Is64 wr hb ((addAll hs vs).take q ++ hs.drop q)) (hRw : Row wr B 25 1 (.slice (some ⟨gv, 0, none⟩) 8 cv) 8 (cells64 vs).toList) (hGr : WE.grownBy wr (some hb))
    (hK : ∀ (u19 u237 u238 u239 u240 u241 u242 u243 u244 u245 u246 u247 u248 u249 u250 u251 u252 : Value) (w' : World), Is64 w' hb ((addAll hs vs).take (q + 1) ++ hs.drop (q + 1)) → Row w' B 25 1 (.slice (some ⟨gv, 0, none⟩) 8 cv) 8 (cells64 vs).toList → WE.grownBy w' (some hb) → u19 = .int .i64 ((q : Int) + 1) → K ⟨#[c0, c1, c2, .slice (some ⟨hb, 0, none⟩) 8 8, c4, c5, c6, c7, c8, c9, c10, c11, c12, .slice (some ⟨gv, 0, none⟩) 8 cv, c14, c15, c16, c17, c18, u19, c20, c21, c22, c23, c24, c25, c26, c27, c28, c29, c30, c31, c32, c33, c34, c35, c36, c37, c38, c39, c40, c41, c42, c43, c44, c45, c46, c47, c48, c49, c50, c51, c52, c53, c54, c55, c56, c57, c58, c59, c60, c61, c62, c63, c64, c65, c66, c67, c68, c69, c70, c71, c72, c73, c74, c75, c76, c77, c78, c79, c80, c81, c82, c83, c84, c85, c86, c87, c88, c89, c90, c91, c92, c93, c94, c95, c96, c97, c98, c99, c100, c101, c102, c103, c104, c105, c106, c107, c108, c109, c110, c111, c112, c113, c114, c115, c116, c117, c118, c119, c120, c121, c122, c123, c124, c125, c126, c127, c128, c129, c130, c131, c132, c133, c134, c135, c136, c137, c138, c139, c140, c141, c142, c143, c144, c145, c146, c147, c148, c149, c150, c151, c152, c153, c154, c155, c156, c157, c158, c159, c160, c161, c162, c163, c164, c165, c166, c167, c168, c169, c170, c171, c172, c173, c174, c175, c176, c177, c178, c179, c180, c181, c182, c183, c184, c185, c186, c187, c188, c189, c190, c191, c192, c193, c194, c195, c196, c197, c198, c199, c200, c201, c202, c203, c204, c205, c206, c207, c208, c209, c210, c211, c212, c213, c214, c215, c216, c217, c218, c219, c220, c221, c222, c223, c224, c225, c226, c227, c228, c229, c230, c231, c232, c233, c234, c235, c236, u237, u238, u239, u240, u241, u242, u243, u244, u245, u246, u247, u248, u249, u250, u251, u252, c253, c254, c255, c256, c257, c258, c259, c260, c261, c262, c263, c264, c265, c266, c267], []⟩ w') :
    Code.wp Tryd.prog (bodyAt 6) (Exit.then K Q) ⟨#[c0, c1, c2, .slice (some ⟨hb, 0, none⟩) 8 8, c4, c5, c6, c7, c8, c9, c10, c11, c12, .slice (some ⟨gv, 0, none⟩) 8 cv, c14, c15, c16, c17, c18, .int .i64 (q : Int), c20, c21, c22, c23, c24, c25, c26, c27, c28, c29, c30, c31, c32, c33, c34, c35, c36, c37, c38, c39, c40, c41, c42, c43, c44, c45, c46, c47, c48, c49, c50, c51, c52, c53, c54, c55, c56, c57, c58, c59, c60, c61, c62, c63, c64, c65, c66, c67, c68, c69, c70, c71, c72, c73, c74, c75, c76, c77, c78, c79, c80, c81, c82, c83, c84, c85, c86, c87, c88, c89, c90, c91, c92, c93, c94, c95, c96, c97, c98, c99, c100, c101, c102, c103, c104, c105, c106, c107, c108, c109, c110, c111, c112, c113, c114, c115, c116, c117, c118, c119, c120, c121, c122, c123, c124, c125, c126, c127, c128, c129, c130, c131, c132, c133, c134, c135, c136, c137, c138, c139, c140, c141, c142, c143, c144, c145, c146, c147, c148, c149, c150, c151, c152, c153, c154, c155, c156, c157, c158, c159, c160, c161, c162, c163, c164, c165, c166, c167, c168, c169, c170, c171, c172, c173, c174, c175, c176, c177, c178, c179, c180, c181, c182, c183, c184, c185, c186, c187, c188, c189, c190, c191, c192, c193, c194, c195, c196, c197, c198, c199, c200, c201, c202, c203, c204, c205, c206, c207, c208, c209, c210, c211, c212, c213, c214, c215, c216, c217, c218, c219, c220, c221, c222, c223, c224, c225, c226, c227, c228, c229, c230, c231, c232, c233, c234, c235, c236, c237, c238, c239, c240, c241, c242, c243, c244, c245, c246, c247, c248, c249, c250, c251, c252, c253, c254, c255, c256, c257, c258, c259, c260, c261, c262, c263, c264, c265, c266, c267], []⟩ wr := by
  have HK0 := Go.Lib.hid hK; clear hK
  have HHL := Go.Lib.hid hhl; clear hhl
  have HVL := Go.Lib.hid hvl; clear hvl
  have HIS := Go.Lib.hid hIs; clear hIs
  have HRWV := Go.Lib.hid hRw; clear hRw
  have HGR := Go.Lib.hid hGr; clear hGr
  conv => arg 2; whnf
  have ch := HIS.out.cell q (by rw [add_len hs vs q HHL.out HVL.out (by omega)]; exact hq8)
  rw [add_at hs vs q HHL.out HVL.out hq8] at ch
  have fh := HIS.out.free q
  have cv0 := Row.cellAt HRWV.out q hq8
  have hq8' : (q : Int) < 8 := by omega
  have hst := add_step hs vs q HHL.out HVL.out hq8
  obtain ⟨yh, hyh⟩ : ∃ y, hs.getD q 0 = y := ⟨_, rfl⟩
  obtain ⟨yv, hyv⟩ : ∃ y, vs.getD q 0 = y := ⟨_, rfl⟩
  rw [hyh] at ch
  rw [hyv] at cv0
  rw [hyh, hyv] at hst
  have hsum : IntKind.u64.wrap ((yh : Int) + (yv : Int)) = (((yh + yv) % 18446744073709551616 : Nat) : Int) := by rw [IntKind.wrap_u64]; omega
  obtain ⟨ys, hys⟩ : ∃ y, (yh + yv) % 18446744073709551616 = y := ⟨_, rfl⟩
  rw [hys] at hsum hst
  obtain ⟨hIs2, hGr2⟩ := HIS.out.set q ys
  rw [hst] at hIs2
  have hRw2 := HRWV.out.kept hGr2 (by right; simp only [Value.ownBlock, ne_eq, Option.some.injEq]; omega)
  have HIS2 := Go.Lib.hid hIs2; clear hIs2
  have HGR2 := Go.Lib.hid hGr2; clear hGr2
  have HRW2 := Go.Lib.hid hRw2; clear hRw2
  clear hyh hyv hys hst
  go_wp2_with fail
  go_still_tail 12, (by kernel_rfl)
  go_wp2_with fail
  have hGr3 := grownBy_trans HGR.out HGR2.out
  exact HK0.out _ _ _ _ _ _ _ _ _ _ _ _ _ _ _ _ _ _ HIS2.out (Row.heap HRW2.out rfl) ⟨hGr3.os, hGr3.tape, hGr3.output, hGr3.size, hGr3.block⟩ rfl

end Go.Proofs.YtlkcmnpcfldbcaaDoor.W
