/-
  Layer 11: IbltPlays' drawn regions, each a theorem of its own. Conditions: as each says.
-/
import Derived.Test.YteedceepoindeaaPkB
namespace Go.Proofs.Yteedceepoindeaa
open Go.RowKit

section
variable {w w3 W5 w6 w7 w8 wc : World} {K : List En} {gA gW Kl dA dW D a b i kk mk Lq Lp Lc N B1 B2 B9 C9 E qB qC pB pC bq oq dq bp op dp tq ua ub df : Nat} {yf : Option Addr} {qc pc sn : List Cel} {x : Cel} {o : OpQ} {kd oat oto on : Int} {mm : List Int} {bb eb : Bool} {dd : List Deferred}
variable {u0 u1 u2 u3 u4 u5 u6 u7 u8 u9 u10 u11 u12 u13 u14 u15 u16 u17 u18 u19 u20 u21 u22 u23 u24 u25 u26 u27 u28 u29 u30 u31 u32 u33 u34 u35 u36 u37 u38 u39 u40 u41 u42 u43 u44 u45 u46 u47 u48 u49 u50 u51 u52 u53 u54 u55 u56 u57 u58 u59 u60 u61 u62 u63 u64 u65 u66 u67 u68 u69 u70 u71 u72 u73 u74 u75 u76 u77 u78 u79 u80 u81 u82 u83 u84 u85 u86 u87 u88 u89 u90 u91 u92 u93 u94 u95 u96 u97 u98 u99 u100 u101 u102 u103 u104 u105 u106 u107 u108 u109 u110 u111 u112 u113 u114 u115 u116 u117 u118 u119 u120 u121 u122 u123 u124 u125 u126 u127 u128 u129 u130 u131 u132 u133 u134 u135 u136 u137 u138 u139 u140 u141 u142 u143 u144 u145 u146 u147 u148 u149 u150 u151 u152 u153 u154 u155 u156 u157 u158 u159 u160 u161 u162 u163 u164 u165 u166 u167 u168 u169 u170 u171 u172 u173 u174 u175 u176 u177 u178 u179 u180 u181 u182 u183 u184 u185 u186 u187 u188 u189 u190 u191 u192 u193 u194 u195 u196 u197 u198 u199 u200 u201 u202 u203 u204 u205 u206 u207 u208 u209 u210 u211 u212 u213 u214 u215 u216 u217 u218 u219 u220 u221 u222 u223 u224 u225 u226 u227 u228 u229 u230 u231 u232 u233 u234 u235 u236 u237 u238 u239 u240 u241 u242 u243 u244 u245 u246 u247 u248 u249 u250 u251 u252 u253 u254 u255 u256 u257 u258 u259 u260 u261 u262 u263 u264 u265 u266 u267 u268 u269 u270 u271 u272 u273 u274 u275 u276 u277 u278 u279 u280 u281 u282 u283 u284 u285 u286 u287 u288 u289 u290 u291 u292 u293 u294 u295 u296 u297 u298 u299 u300 u301 u302 u303 u304 u305 u306 u307 u308 u309 u310 u311 u312 u313 u314 u315 u316 u317 u318 u319 u320 u321 u322 u323 u324 u325 u326 u327 u328 u329 u330 u331 u332 u333 u334 u335 u336 u337 u338 u339 u340 u341 u342 u343 u344 u345 u346 u347 u348 u349 u350 u351 u352 u353 u354 u355 u356 u357 u358 u359 u360 u361 u362 u363 u364 u365 u366 u367 u368 u369 u370 u371 u372 u373 u374 u375 u376 u377 u378 u379 u380 u381 u382 u383 u384 u385 u386 u387 u388 u389 u390 u391 u392 u393 u394 u395 u396 u397 u398 : Value}
set_option maxRecDepth 100000 in
set_option maxHeartbeats 16000000 in
theorem ip_r23 (HAB : Hid (a < Kl ∧ b < Kl)) (HDA : Hid (Kl ≤ dA ∧ dA ≤ maxLen ∧ Kl ≤ dW ∧ dW ≤ maxLen)) (CA : Hid (w6.cell? ⟨gA, a, none⟩ = some (.pointer (some ⟨qB, 0, none⟩)))) (CW6 : Hid (w6.cell? ⟨gW, a, none⟩ = some (.slice (some ⟨bq, oq, none⟩) Lq dq))) (MK : Hid (min (kk : Int) (Lq : Int) = (mk : Int))) (MK2 : Hid (mk ≤ Lq ∧ mk ≤ 60)) (MK3 : Hid (qc.take kk = qc.take mk)) (MK4 : Hid (mk ≤ dq ∧ ¬ dq < mk ∧ ¬ dq = 0)) (SA : Hid (SkAt w6 qB qC qc ∧ w.heap.size ≤ qC ∧ AllOk qc ∧ RowsSl cl c0 18 w6 (.slice (some ⟨bq, oq, none⟩) qc.length dq) qc ∧ qc.length = qc.length ∧ fitB (qc.length : Int) = true)) (SA6 : Hid (RowsSl cl c0 18 w6 (.slice (some ⟨bq, oq, none⟩) Lq dq) qc)) (HLQ : Hid (qc.length = Lq)) (HL6 : Hid (Lq ≤ 60)) (Q : Exit → Act → World → Prop)
    (hS : (fun (bs : List Bool) (g : Value) (wq : World) => Hid (SG w6 (fun (g : Value) w' => RowsSl cl c0 18 w' g (qc.take kk)) (bs.getD 0 false) g wq)) [false] (undef) w6.drew) (hend : ∀ (g : Value) wy, (fun (bs : List Bool) (g : Value) (wq : World) => Hid (SG w6 (fun (g : Value) w' => RowsSl cl c0 18 w' g (qc.take kk)) (bs.getD 0 false) g wq)) [true] g wy → Q .normal ⟨[u0, u1, u2, u3, u4, u5, u6, u7, u8, u9, u10, u11, u12, u13, u14, u15, .slice (some ⟨gA, 0, none⟩) Kl dA, .slice (some ⟨gW, 0, none⟩) Kl dW, u18, u19, .int .i64 (a : Int), u21, u22, u23, .int .i64 (kk : Int), u25, u26, u27, u28, u29, u30, u31, u32, u33, u34, u35, u36, u37, u38, u39, u40, u41, u42, u43, u44, u45, u46, u47, u48, u49, u50, u51, u52, u53, u54, u55, u56, u57, u58, u59, u60, u61, u62, u63, u64, u65, u66, u67, u68, u69, u70, u71, u72, u73, u74, u75, u76, u77, u78, u79, u80, u81, u82, u83, u84, u85, u86, u87, u88, u89, u90, u91, u92, u93, u94, u95, u96, u97, u98, u99, u100, u101, u102, u103, u104, u105, u106, u107, u108, u109, u110, u111, u112, u113, u114, u115, u116, u117, u118, u119, u120, u121, u122, u123, u124, u125, u126, u127, u128, u129, u130, u131, u132, u133, u134, u135, u136, u137, u138, u139, u140, u141, u142, u143, u144, u145, u146, u147, u148, u149, u150, u151, u152, u153, u154, u155, u156, u157, u158, u159, u160, u161, u162, u163, u164, u165, u166, u167, u168, u169, u170, u171, u172, u173, u174, u175, u176, u177, u178, u179, u180, u181, .slice (some ⟨gA, 0, none⟩) Kl dA, .int .i64 (a : Int), .pointer (some ⟨gA, a, none⟩), .pointer (some ⟨qB, 0, none⟩), .int .i64 (kk : Int), g, .slice (some ⟨gW, 0, none⟩) Kl dW, .int .i64 (a : Int), .pointer (some ⟨gW, a, none⟩), .slice (some ⟨bq, oq, none⟩) Lq dq, .int .i64 (kk : Int), .slice (some ⟨gW, 0, none⟩) Kl dW, .int .i64 (a : Int), .pointer (some ⟨gW, a, none⟩), .slice (some ⟨bq, oq, none⟩) Lq dq, .int .i64 (Lq : Int), .int .i64 (mk : Int), .slice (some ⟨bq, oq, none⟩) mk dq, .bool true, .bool false, u202, u203, u204, u205, u206, u207, u208, u209, u210, u211, u212, u213, u214, u215, u216, u217, u218, u219, u220, u221, u222, u223, u224, u225, u226, u227, u228, u229, u230, u231, u232, u233, u234, u235, u236, u237, u238, u239, u240, u241, u242, u243, u244, u245, u246, u247, u248, u249, u250, u251, u252, u253, u254, u255, u256, u257, u258, u259, u260, u261, u262, u263, u264, u265, u266, u267, u268, u269, u270, u271, u272, u273, u274, u275, u276, u277, u278, u279, u280, u281, u282, u283, u284, u285, u286, u287, u288, u289, u290, u291, u292, u293, u294, u295, u296, u297, u298, u299, u300, u301, u302, u303, u304, u305, u306, u307, u308, u309, u310, u311, u312, u313, u314, u315, u316, u317, u318, u319, u320, u321, u322, u323, u324, u325, u326, u327, u328, u329, u330, u331, u332, u333, u334, u335, u336, u337, u338, u339, u340, u341, u342, u343, u344, u345, u346, u347, u348, u349, u350, u351, u352, u353, u354, u355, u356, u357, u358, u359, u360, u361, u362, u363, u364, u365, u366, u367, u368, u369, u370, u371, u372, u373, u374, u375, u376, u377, u378, u379, u380, u381, u382, u383, u384, u385, u386, u387, u388, u389, u390, u391, u392, u393, u394, u395, u396, u397, u398].toArray, dd⟩ wy) :
    (ip_c23).1.wp Try.prog Q ⟨[u0, u1, u2, u3, u4, u5, u6, u7, u8, u9, u10, u11, u12, u13, u14, u15, .slice (some ⟨gA, 0, none⟩) Kl dA, .slice (some ⟨gW, 0, none⟩) Kl dW, u18, u19, .int .i64 (a : Int), u21, u22, u23, .int .i64 (kk : Int), u25, u26, u27, u28, u29, u30, u31, u32, u33, u34, u35, u36, u37, u38, u39, u40, u41, u42, u43, u44, u45, u46, u47, u48, u49, u50, u51, u52, u53, u54, u55, u56, u57, u58, u59, u60, u61, u62, u63, u64, u65, u66, u67, u68, u69, u70, u71, u72, u73, u74, u75, u76, u77, u78, u79, u80, u81, u82, u83, u84, u85, u86, u87, u88, u89, u90, u91, u92, u93, u94, u95, u96, u97, u98, u99, u100, u101, u102, u103, u104, u105, u106, u107, u108, u109, u110, u111, u112, u113, u114, u115, u116, u117, u118, u119, u120, u121, u122, u123, u124, u125, u126, u127, u128, u129, u130, u131, u132, u133, u134, u135, u136, u137, u138, u139, u140, u141, u142, u143, u144, u145, u146, u147, u148, u149, u150, u151, u152, u153, u154, u155, u156, u157, u158, u159, u160, u161, u162, u163, u164, u165, u166, u167, u168, u169, u170, u171, u172, u173, u174, u175, u176, u177, u178, u179, u180, u181, u182, u183, u184, u185, u186, u187, u188, u189, u190, u191, u192, u193, u194, u195, u196, u197, u198, u199, u200, u201, u202, u203, u204, u205, u206, u207, u208, u209, u210, u211, u212, u213, u214, u215, u216, u217, u218, u219, u220, u221, u222, u223, u224, u225, u226, u227, u228, u229, u230, u231, u232, u233, u234, u235, u236, u237, u238, u239, u240, u241, u242, u243, u244, u245, u246, u247, u248, u249, u250, u251, u252, u253, u254, u255, u256, u257, u258, u259, u260, u261, u262, u263, u264, u265, u266, u267, u268, u269, u270, u271, u272, u273, u274, u275, u276, u277, u278, u279, u280, u281, u282, u283, u284, u285, u286, u287, u288, u289, u290, u291, u292, u293, u294, u295, u296, u297, u298, u299, u300, u301, u302, u303, u304, u305, u306, u307, u308, u309, u310, u311, u312, u313, u314, u315, u316, u317, u318, u319, u320, u321, u322, u323, u324, u325, u326, u327, u328, u329, u330, u331, u332, u333, u334, u335, u336, u337, u338, u339, u340, u341, u342, u343, u344, u345, u346, u347, u348, u349, u350, u351, u352, u353, u354, u355, u356, u357, u358, u359, u360, u361, u362, u363, u364, u365, u366, u367, u368, u369, u370, u371, u372, u373, u374, u375, u376, u377, u378, u379, u380, u381, u382, u383, u384, u385, u386, u387, u388, u389, u390, u391, u392, u393, u394, u395, u396, u397, u398].toArray, dd⟩ w6 := by
  change Code.wp _ (Code.region _ _ _) _ _ _
  refine region_ghost (g0 := (undef : Value)) [none, none, none, none, none, none, none, none, none, none, none, none, none, none, none, none, none, none, none, none, none, none, none, none, none, none, none, none, none, none, none, none, none, none, none, none, none, none, none, none, none, none, none, none, none, none, none, none, none, none, none, none, none, none, none, none, none, none, none, none, none, none, none, none, none, none, none, none, none, none, none, none, none, none, none, none, none, none, none, none, none, none, none, none, none, none, none, none, none, none, none, none, none, none, none, none, none, none, none, none, none, none, none, none, none, none, none, none, none, none, none, none, none, none, none, none, none, none, none, none, none, none, none, none, none, none, none, none, none, none, none, none, none, none, none, none, none, none, none, none, none, none, none, none, none, none, none, none, none, none, none, none, none, none, none, none, none, none, none, none, none, none, none, none, none, none, none, none, none, none, none, none, none, none, none, none, none, none, none, none, none, none, some 0, some 1, some 2, some 3, some 4, some 5, some 6, some 7, some 8, some 9, some 10, some 11, some 12, some 13, some 14, some 15, some 16, some 17, some 18, some 19, none, none, none, none, none, none, none, none, none, none, none, none, none, none, none, none, none, none, none, none, none, none, none, none, none, none, none, none, none, none, none, none, none, none, none, none, none, none, none, none, none, none, none, none, none, none, none, none, none, none, none, none, none, none, none, none, none, none, none, none, none, none, none, none, none, none, none, none, none, none, none, none, none, none, none, none, none, none, none, none, none, none, none, none, none, none, none, none, none, none, none, none, none, none, none, none, none, none, none, none, none, none, none, none, none, none, none, none, none, none, none, none, none, none, none, none, none, none, none, none, none, none, none, none, none, none, none, none, none, none, none, none, none, none, none, none, none, none, none, none, none, none, none, none, none, none, none, none, none, none, none, none, none, none, none, none, none, none, none, none, none, none, none, none, none, none, none, none, none, none, none, none, none, none, none, none, none, none, none, none, none, none, none, none, none, none, none, none, none, none, none, none, none, none, none, none, none] [[(16, none)], [(20, none)], [(182, some 0), (183, some 1)], [(184, some 2)], [(24, none)], [(185, some 3), (186, some 4)], [(17, none)], [(20, none)], [(188, some 6), (189, some 7)], [(190, some 8)], [(24, none)], [(17, none)], [(20, none)], [(193, some 11), (194, some 12)], [(195, some 13)], [(196, some 14)], [(192, some 10), (197, some 15)], [(191, some 9), (198, some 16)], [(187, some 5), (199, some 17)], [(200, some 18)]] [some 182, some 183, some 184, some 185, some 186, some 187, some 188, some 189, some 190, some 191, some 192, some 193, some 194, some 195, some 196, some 197, some 198, some 199, some 200, some 201] (fun g => [.slice (some ⟨gA, 0, none⟩) Kl dA, .int .i64 (a : Int), .pointer (some ⟨gA, a, none⟩), .pointer (some ⟨qB, 0, none⟩), .int .i64 (kk : Int), g, .slice (some ⟨gW, 0, none⟩) Kl dW, .int .i64 (a : Int), .pointer (some ⟨gW, a, none⟩), .slice (some ⟨bq, oq, none⟩) Lq dq, .int .i64 (kk : Int), .slice (some ⟨gW, 0, none⟩) Kl dW, .int .i64 (a : Int), .pointer (some ⟨gW, a, none⟩), .slice (some ⟨bq, oq, none⟩) Lq dq, .int .i64 (Lq : Int), .int .i64 (mk : Int), .slice (some ⟨bq, oq, none⟩) mk dq, .bool true, .bool false]) [5] (fun (bs : List Bool) (g : Value) (wq : World) => Hid (SG w6 (fun (g : Value) w' => RowsSl cl c0 18 w' g (qc.take kk)) (bs.getD 0 false) g wq)) (by kernel_rfl) (by kernel_rfl) (fun g => by kernel_rfl) (by kernel_rfl) ?hS (GFrom.all (n := 20) (by kernel_rfl) ?hstep) ?hend
  case hstep =>
    refine GFrom.cons (GStep.val _ rfl rfl _ rfl (fun g => .slice (some ⟨gA, 0, none⟩) Kl dA) (fun _ => rfl) (fun _ => trivial) (fun bs g ev wq hS he hr => ?_)) ?_
    · have r0 : ev (.tmp 16) = .slice (some ⟨gA, 0, none⟩) Kl dA := hr (16, none) (by simp); have hk := he.1; clear hr he
      go_simp
    refine GFrom.cons (GStep.val _ rfl rfl _ rfl (fun g => .int .i64 (a : Int)) (fun _ => rfl) (fun _ => trivial) (fun bs g ev wq hS he hr => ?_)) ?_
    · have r0 : ev (.tmp 20) = .int .i64 (a : Int) := hr (20, none) (by simp); have hk := he.1; clear hr he
      go_simp
    refine GFrom.cons (GStep.val _ rfl rfl _ rfl (fun g => .pointer (some ⟨gA, a, none⟩)) (fun _ => rfl) (fun _ => trivial) (fun bs g ev wq hS he hr => ?_)) ?_
    · have r0 : ev (.tmp 182) = .slice (some ⟨gA, 0, none⟩) Kl dA := hr (182, some 0) (by simp); have r1 : ev (.tmp 183) = .int .i64 (a : Int) := hr (183, some 1) (by simp); have hk := he.1; clear hr he
      have e1 := HAB.out.1; have e2 := HDA.out
      go_simp
    refine GFrom.cons (GStep.val _ rfl rfl _ rfl (fun g => .pointer (some ⟨qB, 0, none⟩)) (fun _ => rfl) (fun _ => trivial) (fun bs g ev wq hS he hr => ?_)) ?_
    · have r0 : ev (.tmp 184) = .pointer (some ⟨gA, a, none⟩) := hr (184, some 2) (by simp); have hk := he.1; clear hr he
      have c0 := hS.out.kp.cell CA.out (fun h => h)
      go_simp
    refine GFrom.cons (GStep.val _ rfl rfl _ rfl (fun g => .int .i64 (kk : Int)) (fun _ => rfl) (fun _ => trivial) (fun bs g ev wq hS he hr => ?_)) ?_
    · have r0 : ev (.tmp 24) = .int .i64 (kk : Int) := hr (24, none) (by simp); have hk := he.1; clear hr he
      go_simp
    refine GFrom.cons (GStep.callm _ rfl _ rfl (fun _ => trivial) 23 (fun g => #[.pointer (some ⟨qB, 0, none⟩), .int .i64 (kk : Int)]) (fun bs g ev wq hS he hr => ?_) (fun L g wq hL hd hcl hS => ?_)) ?_
    · have r0 : ev (.tmp 185) = .pointer (some ⟨qB, 0, none⟩) := hr (185, some 3) (by simp); have r1 : ev (.tmp 186) = .int .i64 (kk : Int) := hr (186, some 4) (by simp); have hk := he.1; have hf := he.2; clear hr he
      go_simp
    · refine (gcells_any qB qC qc (kk : Int) wq (SA.out.1.kept hS.out.kp (fun h => h) (fun h => h)) (by have := HLQ.out; have := HL6.out; omega)).mono ?_
      rintro e w' ⟨v', rfl, hr, kn⟩
      exact ⟨_, v', rfl, rfl, old_set _ hL rfl, hid ⟨hS.out.kp.trans kn (fun _ _ h => h), fun _ => by rw [Int.toNat_natCast] at hr; exact hr⟩⟩
    refine GFrom.cons (GStep.val _ rfl rfl _ rfl (fun g => .slice (some ⟨gW, 0, none⟩) Kl dW) (fun _ => rfl) (fun _ => trivial) (fun bs g ev wq hS he hr => ?_)) ?_
    · have r0 : ev (.tmp 17) = .slice (some ⟨gW, 0, none⟩) Kl dW := hr (17, none) (by simp); have hk := he.1; clear hr he
      go_simp
    refine GFrom.cons (GStep.val _ rfl rfl _ rfl (fun g => .int .i64 (a : Int)) (fun _ => rfl) (fun _ => trivial) (fun bs g ev wq hS he hr => ?_)) ?_
    · have r0 : ev (.tmp 20) = .int .i64 (a : Int) := hr (20, none) (by simp); have hk := he.1; clear hr he
      go_simp
    refine GFrom.cons (GStep.val _ rfl rfl _ rfl (fun g => .pointer (some ⟨gW, a, none⟩)) (fun _ => rfl) (fun _ => trivial) (fun bs g ev wq hS he hr => ?_)) ?_
    · have r0 : ev (.tmp 188) = .slice (some ⟨gW, 0, none⟩) Kl dW := hr (188, some 6) (by simp); have r1 : ev (.tmp 189) = .int .i64 (a : Int) := hr (189, some 7) (by simp); have hk := he.1; clear hr he
      have e1 := HAB.out.1; have e2 := HDA.out
      go_simp
    refine GFrom.cons (GStep.val _ rfl rfl _ rfl (fun g => .slice (some ⟨bq, oq, none⟩) Lq dq) (fun _ => rfl) (fun _ => trivial) (fun bs g ev wq hS he hr => ?_)) ?_
    · have r0 : ev (.tmp 190) = .pointer (some ⟨gW, a, none⟩) := hr (190, some 8) (by simp); have hk := he.1; clear hr he
      have c0 := hS.out.kp.cell CW6.out (fun h => h)
      go_simp
    refine GFrom.cons (GStep.val _ rfl rfl _ rfl (fun g => .int .i64 (kk : Int)) (fun _ => rfl) (fun _ => trivial) (fun bs g ev wq hS he hr => ?_)) ?_
    · have r0 : ev (.tmp 24) = .int .i64 (kk : Int) := hr (24, none) (by simp); have hk := he.1; clear hr he
      go_simp
    refine GFrom.cons (GStep.val _ rfl rfl _ rfl (fun g => .slice (some ⟨gW, 0, none⟩) Kl dW) (fun _ => rfl) (fun _ => trivial) (fun bs g ev wq hS he hr => ?_)) ?_
    · have r0 : ev (.tmp 17) = .slice (some ⟨gW, 0, none⟩) Kl dW := hr (17, none) (by simp); have hk := he.1; clear hr he
      go_simp
    refine GFrom.cons (GStep.val _ rfl rfl _ rfl (fun g => .int .i64 (a : Int)) (fun _ => rfl) (fun _ => trivial) (fun bs g ev wq hS he hr => ?_)) ?_
    · have r0 : ev (.tmp 20) = .int .i64 (a : Int) := hr (20, none) (by simp); have hk := he.1; clear hr he
      go_simp
    refine GFrom.cons (GStep.val _ rfl rfl _ rfl (fun g => .pointer (some ⟨gW, a, none⟩)) (fun _ => rfl) (fun _ => trivial) (fun bs g ev wq hS he hr => ?_)) ?_
    · have r0 : ev (.tmp 193) = .slice (some ⟨gW, 0, none⟩) Kl dW := hr (193, some 11) (by simp); have r1 : ev (.tmp 194) = .int .i64 (a : Int) := hr (194, some 12) (by simp); have hk := he.1; clear hr he
      have e1 := HAB.out.1; have e2 := HDA.out
      go_simp
    refine GFrom.cons (GStep.val _ rfl rfl _ rfl (fun g => .slice (some ⟨bq, oq, none⟩) Lq dq) (fun _ => rfl) (fun _ => trivial) (fun bs g ev wq hS he hr => ?_)) ?_
    · have r0 : ev (.tmp 195) = .pointer (some ⟨gW, a, none⟩) := hr (195, some 13) (by simp); have hk := he.1; clear hr he
      have c0 := hS.out.kp.cell CW6.out (fun h => h)
      go_simp
    refine GFrom.cons (GStep.val _ rfl rfl _ rfl (fun g => .int .i64 (Lq : Int)) (fun _ => rfl) (fun _ => trivial) (fun bs g ev wq hS he hr => ?_)) ?_
    · have r0 : ev (.tmp 196) = .slice (some ⟨bq, oq, none⟩) Lq dq := hr (196, some 14) (by simp); have hk := he.1; clear hr he
      go_simp
    refine GFrom.cons (GStep.val _ rfl rfl _ rfl (fun g => .int .i64 (mk : Int)) (fun _ => rfl) (fun _ => trivial) (fun bs g ev wq hS he hr => ?_)) ?_
    · have r0 : ev (.tmp 192) = .int .i64 (kk : Int) := hr (192, some 10) (by simp); have r1 : ev (.tmp 197) = .int .i64 (Lq : Int) := hr (197, some 15) (by simp); have hk := he.1; clear hr he
      have e1 := MK.out
      go_simp
    refine GFrom.cons (GStep.val _ rfl rfl _ rfl (fun g => .slice (some ⟨bq, oq, none⟩) mk dq) (fun _ => rfl) (fun _ => trivial) (fun bs g ev wq hS he hr => ?_)) ?_
    · have r0 : ev (.tmp 191) = .slice (some ⟨bq, oq, none⟩) Lq dq := hr (191, some 9) (by simp); have r1 : ev (.tmp 198) = .int .i64 (mk : Int) := hr (198, some 16) (by simp); have hk := he.1; clear hr he
      have e1 := MK4.out.1; have e2 := MK4.out.2.1; have e3 := MK4.out.2.2; have e4 := MK2.out.1
      go_simp
    refine GFrom.cons (GStep.callm _ rfl _ rfl (fun _ => trivial) 26 (fun g => #[g, .slice (some ⟨bq, oq, none⟩) mk dq]) (fun bs g ev wq hS he hr => ?_) (fun L g wq hL hd hcl hS => ?_)) ?_
    · have r0 : ev (.tmp 187) = g := hr (187, some 5) (by simp); have r1 : ev (.tmp 199) = .slice (some ⟨bq, oq, none⟩) mk dq := hr (199, some 17) (by simp); have hk := he.1; have hf := he.2; clear hr he
      go_simp
    · have l5 : L 5 = true := hd 5 (by kernel_rfl)
      have hr := hS.out.h1 (by simp [bitsAt, l5])
      have hs : RowsSl cl c0 18 wq (.slice (some ⟨bq, oq, none⟩) mk dq) (qc.take mk) := rows_cut (SA6.out.kept hS.out.kp) mk HLQ.out MK2.out.1
      rw [MK3.out] at hr
      refine (rsame_any _ _ _ _ wq hr hs (SA.out.2.2.1.take _) (SA.out.2.2.1.take _) (by rw [List.length_take]; have := MK2.out; omega)).mono ?_
      rintro e w' ⟨rfl, kn⟩
      exact ⟨_, g, rfl, by rw [sameB_self]; rfl, fun _ _ => rfl, by rw [bitsAt_upd (by rfl)]; exact hid ⟨hS.out.kp.trans kn (fun _ _ h => h), fun e => (hS.out.h1 e).kept kn⟩⟩
    refine GFrom.cons (GStep.val _ rfl rfl _ rfl (fun g => .bool false) (fun _ => rfl) (fun _ => trivial) (fun bs g ev wq hS he hr => ?_)) ?_
    · have r0 : ev (.tmp 200) = .bool true := hr (200, some 18) (by simp); have hk := he.1; clear hr he
      go_simp
    exact GFrom.nil
  case hS => exact hS
  case hend =>
    intro g wy hy
    simp only [putAll, List.zip_cons_cons, List.zip_nil_right, List.foldl_cons, List.foldl_nil, Act.put, List.setIfInBounds_toArray, List.set_cons_zero, List.set_cons_succ]
    exact hend g wy hy
set_option maxRecDepth 100000 in
set_option maxHeartbeats 16000000 in
theorem ip_r42 (HAB : Hid (a < Kl ∧ b < Kl)) (HDA : Hid (Kl ≤ dA ∧ dA ≤ maxLen ∧ Kl ≤ dW ∧ dW ≤ maxLen)) (CA : Hid (wc.cell? ⟨gA, a, none⟩ = some (.pointer (some ⟨qB, 0, none⟩)))) (DC : Hid (Blk wc D 50 (opl o))) (HO4 : Hid ((opl o)[0]? = some (.int .i64 kd) ∧ (opl o)[1]? = some (.int .i64 oat) ∧ (opl o)[2]? = some (.int .i64 oto) ∧ (opl o)[3]? = some (.int .i64 on))) (CC : Hid (∀ wq, Kp Nb wc wq → Calls Try.prog 20 #[.pointer (some ⟨qB, 0, none⟩), .int .i64 on] wq fun e w' => e = .returned (.tuple #[cv x, .bool bb]) ∧ Kp Nb wq w')) (OX : Hid (CelOk x)) (Q : Exit → Act → World → Prop)
    (hS : (fun (bs : List Bool) (g : Nat → Nat) (wq : World) => Hid (VarsS wc 1 cxT cxZ (cxV x) bs g wq)) [false, false] ((fun _ => 0)) wc.drew) (hend : ∀ (g : Nat → Nat) wy, (fun (bs : List Bool) (g : Nat → Nat) (wq : World) => Hid (VarsS wc 1 cxT cxZ (cxV x) bs g wq)) [true, true] g wy → Q .normal ⟨[u0, u1, u2, u3, u4, u5, u6, u7, u8, u9, u10, u11, u12, u13, u14, u15, .slice (some ⟨gA, 0, none⟩) Kl dA, u17, u18, .pointer (some ⟨D, 0, none⟩), .int .i64 (a : Int), u21, u22, u23, u24, .pointer (some ⟨(g 0), 0, none⟩), .bool bb, u27, u28, u29, u30, u31, u32, u33, u34, u35, u36, u37, u38, u39, u40, u41, u42, u43, u44, u45, u46, u47, u48, u49, u50, u51, u52, u53, u54, u55, u56, u57, u58, u59, u60, u61, u62, u63, u64, u65, u66, u67, u68, u69, u70, u71, u72, u73, u74, u75, u76, u77, u78, u79, u80, u81, u82, u83, u84, u85, u86, u87, u88, u89, u90, u91, u92, u93, u94, u95, u96, u97, u98, u99, u100, u101, u102, u103, u104, u105, u106, u107, u108, u109, u110, u111, u112, u113, u114, u115, u116, u117, u118, u119, u120, u121, u122, u123, u124, u125, u126, u127, u128, u129, u130, u131, u132, u133, u134, u135, u136, u137, u138, u139, u140, u141, u142, u143, u144, u145, u146, u147, u148, u149, u150, u151, u152, u153, u154, u155, u156, u157, u158, u159, u160, u161, u162, u163, u164, u165, u166, u167, u168, u169, u170, u171, u172, u173, u174, u175, u176, u177, u178, u179, u180, u181, u182, u183, u184, u185, u186, u187, u188, u189, u190, u191, u192, u193, u194, u195, u196, u197, u198, u199, u200, u201, u202, u203, u204, u205, u206, u207, u208, u209, u210, u211, u212, u213, u214, u215, u216, u217, u218, u219, u220, u221, u222, u223, u224, u225, u226, u227, u228, u229, u230, u231, u232, u233, u234, u235, u236, u237, u238, u239, u240, u241, u242, u243, u244, u245, u246, u247, u248, u249, u250, u251, u252, u253, u254, u255, u256, u257, u258, u259, u260, u261, u262, u263, u264, u265, u266, u267, u268, u269, u270, u271, u272, u273, u274, u275, u276, u277, u278, u279, u280, u281, u282, u283, u284, u285, u286, u287, u288, u289, u290, u291, u292, u293, u294, u295, u296, u297, u298, u299, u300, u301, u302, u303, u304, u305, u306, .tuple #[cv x, .bool bb], .slice (some ⟨gA, 0, none⟩) Kl dA, .int .i64 (a : Int), .pointer (some ⟨gA, a, none⟩), .pointer (some ⟨qB, 0, none⟩), .pointer (some ⟨D, 3, none⟩), .int .i64 on, .tuple #[cv x, .bool bb], cv x, .bool bb, u317, u318, u319, u320, u321, u322, u323, u324, u325, u326, u327, u328, u329, u330, u331, u332, u333, u334, u335, u336, u337, u338, u339, u340, u341, u342, u343, u344, u345, u346, u347, u348, u349, u350, u351, u352, u353, u354, u355, u356, u357, u358, u359, u360, u361, u362, u363, u364, u365, u366, u367, u368, u369, u370, u371, u372, u373, u374, u375, u376, u377, u378, u379, u380, u381, u382, u383, u384, u385, u386, u387, u388, u389, u390, u391, u392, u393, u394, u395, u396, u397, u398].toArray, dd⟩ wy) :
    (ip_c42).1.wp Try.prog Q ⟨[u0, u1, u2, u3, u4, u5, u6, u7, u8, u9, u10, u11, u12, u13, u14, u15, .slice (some ⟨gA, 0, none⟩) Kl dA, u17, u18, .pointer (some ⟨D, 0, none⟩), .int .i64 (a : Int), u21, u22, u23, u24, u25, u26, u27, u28, u29, u30, u31, u32, u33, u34, u35, u36, u37, u38, u39, u40, u41, u42, u43, u44, u45, u46, u47, u48, u49, u50, u51, u52, u53, u54, u55, u56, u57, u58, u59, u60, u61, u62, u63, u64, u65, u66, u67, u68, u69, u70, u71, u72, u73, u74, u75, u76, u77, u78, u79, u80, u81, u82, u83, u84, u85, u86, u87, u88, u89, u90, u91, u92, u93, u94, u95, u96, u97, u98, u99, u100, u101, u102, u103, u104, u105, u106, u107, u108, u109, u110, u111, u112, u113, u114, u115, u116, u117, u118, u119, u120, u121, u122, u123, u124, u125, u126, u127, u128, u129, u130, u131, u132, u133, u134, u135, u136, u137, u138, u139, u140, u141, u142, u143, u144, u145, u146, u147, u148, u149, u150, u151, u152, u153, u154, u155, u156, u157, u158, u159, u160, u161, u162, u163, u164, u165, u166, u167, u168, u169, u170, u171, u172, u173, u174, u175, u176, u177, u178, u179, u180, u181, u182, u183, u184, u185, u186, u187, u188, u189, u190, u191, u192, u193, u194, u195, u196, u197, u198, u199, u200, u201, u202, u203, u204, u205, u206, u207, u208, u209, u210, u211, u212, u213, u214, u215, u216, u217, u218, u219, u220, u221, u222, u223, u224, u225, u226, u227, u228, u229, u230, u231, u232, u233, u234, u235, u236, u237, u238, u239, u240, u241, u242, u243, u244, u245, u246, u247, u248, u249, u250, u251, u252, u253, u254, u255, u256, u257, u258, u259, u260, u261, u262, u263, u264, u265, u266, u267, u268, u269, u270, u271, u272, u273, u274, u275, u276, u277, u278, u279, u280, u281, u282, u283, u284, u285, u286, u287, u288, u289, u290, u291, u292, u293, u294, u295, u296, u297, u298, u299, u300, u301, u302, u303, u304, u305, u306, u307, u308, u309, u310, u311, u312, u313, u314, u315, u316, u317, u318, u319, u320, u321, u322, u323, u324, u325, u326, u327, u328, u329, u330, u331, u332, u333, u334, u335, u336, u337, u338, u339, u340, u341, u342, u343, u344, u345, u346, u347, u348, u349, u350, u351, u352, u353, u354, u355, u356, u357, u358, u359, u360, u361, u362, u363, u364, u365, u366, u367, u368, u369, u370, u371, u372, u373, u374, u375, u376, u377, u378, u379, u380, u381, u382, u383, u384, u385, u386, u387, u388, u389, u390, u391, u392, u393, u394, u395, u396, u397, u398].toArray, dd⟩ wc := by
  change Code.wp _ (Code.region _ _ _) _ _ _
  refine region_ghost (g0 := ((fun _ => 0) : Nat → Nat)) [none, none, none, none, none, none, none, none, none, none, none, none, none, none, none, none, none, none, none, none, none, none, none, none, none, some 10, some 12, none, none, none, none, none, none, none, none, none, none, none, none, none, none, none, none, none, none, none, none, none, none, none, none, none, none, none, none, none, none, none, none, none, none, none, none, none, none, none, none, none, none, none, none, none, none, none, none, none, none, none, none, none, none, none, none, none, none, none, none, none, none, none, none, none, none, none, none, none, none, none, none, none, none, none, none, none, none, none, none, none, none, none, none, none, none, none, none, none, none, none, none, none, none, none, none, none, none, none, none, none, none, none, none, none, none, none, none, none, none, none, none, none, none, none, none, none, none, none, none, none, none, none, none, none, none, none, none, none, none, none, none, none, none, none, none, none, none, none, none, none, none, none, none, none, none, none, none, none, none, none, none, none, none, none, none, none, none, none, none, none, none, none, none, none, none, none, none, none, none, none, none, none, none, none, none, none, none, none, none, none, none, none, none, none, none, none, none, none, none, none, none, none, none, none, none, none, none, none, none, none, none, none, none, none, none, none, none, none, none, none, none, none, none, none, none, none, none, none, none, none, none, none, none, none, none, none, none, none, none, none, none, none, none, none, none, none, none, none, none, none, none, none, none, none, none, none, none, none, none, none, none, none, none, none, none, none, none, none, none, none, none, none, none, none, none, none, none, none, none, none, none, none, none, none, none, none, none, none, none, some 7, some 0, some 1, some 2, some 3, some 4, some 5, some 6, some 8, some 9, none, none, none, none, none, none, none, none, none, none, none, none, none, none, none, none, none, none, none, none, none, none, none, none, none, none, none, none, none, none, none, none, none, none, none, none, none, none, none, none, none, none, none, none, none, none, none, none, none, none, none, none, none, none, none, none, none, none, none, none, none, none, none, none, none, none, none, none, none, none, none, none, none, none, none, none, none, none, none, none, none, none] [[(16, none)], [(20, none)], [(308, some 0), (309, some 1)], [(310, some 2)], [(19, none)], [(312, some 4)], [(311, some 3), (313, some 5)], [(314, some 6)], [(307, some 7)], [(307, some 7)], [], [(25, some 10), (315, some 8)], [(316, some 9)]] [some 308, some 309, some 310, some 311, some 312, some 313, some 314, some 307, some 315, some 316, some 25, none, some 26] (fun g => [.slice (some ⟨gA, 0, none⟩) Kl dA, .int .i64 (a : Int), .pointer (some ⟨gA, a, none⟩), .pointer (some ⟨qB, 0, none⟩), .pointer (some ⟨D, 3, none⟩), .int .i64 on, .tuple #[cv x, .bool bb], .tuple #[cv x, .bool bb], cv x, .bool bb, .pointer (some ⟨(g 0), 0, none⟩), undef, .bool bb]) [10, 11] (fun (bs : List Bool) (g : Nat → Nat) (wq : World) => Hid (VarsS wc 1 cxT cxZ (cxV x) bs g wq)) (by kernel_rfl) (by kernel_rfl) (fun g => by kernel_rfl) (by kernel_rfl) ?hS (GFrom.all (n := 13) (by kernel_rfl) ?hstep) ?hend
  case hstep =>
    refine GFrom.cons (GStep.val _ rfl rfl _ rfl (fun g => .slice (some ⟨gA, 0, none⟩) Kl dA) (fun _ => rfl) (fun _ => trivial) (fun bs g ev wq hS he hr => ?_)) ?_
    · have r0 : ev (.tmp 16) = .slice (some ⟨gA, 0, none⟩) Kl dA := hr (16, none) (by simp); have hk := he.1; clear hr he
      go_simp
    refine GFrom.cons (GStep.val _ rfl rfl _ rfl (fun g => .int .i64 (a : Int)) (fun _ => rfl) (fun _ => trivial) (fun bs g ev wq hS he hr => ?_)) ?_
    · have r0 : ev (.tmp 20) = .int .i64 (a : Int) := hr (20, none) (by simp); have hk := he.1; clear hr he
      go_simp
    refine GFrom.cons (GStep.val _ rfl rfl _ rfl (fun g => .pointer (some ⟨gA, a, none⟩)) (fun _ => rfl) (fun _ => trivial) (fun bs g ev wq hS he hr => ?_)) ?_
    · have r0 : ev (.tmp 308) = .slice (some ⟨gA, 0, none⟩) Kl dA := hr (308, some 0) (by simp); have r1 : ev (.tmp 309) = .int .i64 (a : Int) := hr (309, some 1) (by simp); have hk := he.1; clear hr he
      have e1 := HAB.out.1; have e2 := HDA.out
      go_simp
    refine GFrom.cons (GStep.val _ rfl rfl _ rfl (fun g => .pointer (some ⟨qB, 0, none⟩)) (fun _ => rfl) (fun _ => trivial) (fun bs g ev wq hS he hr => ?_)) ?_
    · have r0 : ev (.tmp 310) = .pointer (some ⟨gA, a, none⟩) := hr (310, some 2) (by simp); have hk := he.1; clear hr he
      have c0 := hS.out.kp.cell CA.out (fun h => h)
      go_simp
    refine GFrom.cons (GStep.val _ rfl rfl _ rfl (fun g => .pointer (some ⟨D, 3, none⟩)) (fun _ => rfl) (fun _ => trivial) (fun bs g ev wq hS he hr => ?_)) ?_
    · have r0 : ev (.tmp 19) = .pointer (some ⟨D, 0, none⟩) := hr (19, none) (by simp); have hk := he.1; clear hr he
      go_simp
    refine GFrom.cons (GStep.val _ rfl rfl _ rfl (fun g => .int .i64 on) (fun _ => rfl) (fun _ => trivial) (fun bs g ev wq hS he hr => ?_)) ?_
    · have r0 : ev (.tmp 312) = .pointer (some ⟨D, 3, none⟩) := hr (312, some 4) (by simp); have hk := he.1; clear hr he
      have c0 := ((DC.out.kept hS.out.kp (fun h => h)).cell 3).trans HO4.out.2.2.2
      go_simp
    refine GFrom.cons (GStep.call _ rfl rfl _ rfl (fun g => .tuple #[cv x, .bool bb]) (fun _ => rfl) (fun _ => trivial) 20 (fun g => #[.pointer (some ⟨qB, 0, none⟩), .int .i64 on]) (fun bs g ev wq hS he hr => ?_) (fun L g wq hd hL hS => ?_)) ?_
    · have r0 : ev (.tmp 311) = .pointer (some ⟨qB, 0, none⟩) := hr (311, some 3) (by simp); have r1 : ev (.tmp 313) = .int .i64 on := hr (313, some 5) (by simp); have hk := he.1; have hf := he.2; clear hr he
      go_simp
    · exact (CC.out wq hS.out.kp).mono fun e w' ⟨h1, h2⟩ => ⟨h1, hid (hS.out.kept h2)⟩
    refine GFrom.cons (GStep.val _ rfl rfl _ rfl (fun g => .tuple #[cv x, .bool bb]) (fun _ => rfl) (fun _ => trivial) (fun bs g ev wq hS he hr => ?_)) ?_
    · have r0 : ev (.tmp 314) = .tuple #[cv x, .bool bb] := hr (314, some 6) (by simp); have hk := he.1; clear hr he
      go_simp
    refine GFrom.cons (GStep.val _ rfl rfl _ rfl (fun g => cv x) (fun _ => rfl) (fun _ => trivial) (fun bs g ev wq hS he hr => ?_)) ?_
    · have r0 : ev (.tmp 307) = .tuple #[cv x, .bool bb] := hr (307, some 7) (by simp); have hk := he.1; clear hr he
      go_simp
    refine GFrom.cons (GStep.val _ rfl rfl _ rfl (fun g => .bool bb) (fun _ => rfl) (fun _ => trivial) (fun bs g ev wq hS he hr => ?_)) ?_
    · have r0 : ev (.tmp 307) = .tuple #[cv x, .bool bb] := hr (307, some 7) (by simp); have hk := he.1; clear hr he
      go_simp
    refine GFrom.cons (GStep.valloc 0 _ rfl (by decide) rfl rfl rfl 11 _ rfl rfl (by kernel_rfl) (fun g x => by kernel_rfl) (fun g => by simp) (fun ev w => by go_simp; rfl)) ?_
    refine GFrom.cons (GStep.vfill 0 _ rfl (by decide) rfl rfl rfl 10 rfl (by kernel_rfl) (cl_length OX.out) (fun _ => rfl) _ rfl (fun g ev wq he hr ht => ?_)) ?_
    · have r0 : ev (.tmp 25) = .pointer (some ⟨(g 0), 0, none⟩) := hr (25, some 10) (by simp); have r1 : ev (.tmp 315) = cv x := hr (315, some 8) (by simp); have hk := he.1; clear hr he
      exact exec_store rfl r0 r1 (store_cell OX.out ht)
    refine GFrom.cons (GStep.val _ rfl rfl _ rfl (fun g => .bool bb) (fun _ => rfl) (fun _ => trivial) (fun bs g ev wq hS he hr => ?_)) ?_
    · have r0 : ev (.tmp 316) = .bool bb := hr (316, some 9) (by simp); have hk := he.1; clear hr he
      go_simp
    exact GFrom.nil
  case hS => exact hS
  case hend =>
    intro g wy hy
    simp only [putAll, List.zip_cons_cons, List.zip_nil_right, List.foldl_cons, List.foldl_nil, Act.put, List.setIfInBounds_toArray, List.set_cons_zero, List.set_cons_succ]
    exact hend g wy hy
set_option maxRecDepth 100000 in
set_option maxHeartbeats 16000000 in
theorem ip_r43neg (DC : Hid (Blk wc D 50 (opl o))) (HO4 : Hid ((opl o)[0]? = some (.int .i64 kd) ∧ (opl o)[1]? = some (.int .i64 oat) ∧ (opl o)[2]? = some (.int .i64 oto) ∧ (opl o)[3]? = some (.int .i64 on))) (BX : Hid (Blk wc E 41 (cl c0))) (GE : Hid (¬ 0 ≤ on ∧ on < 0)) (Q : Exit → Act → World → Prop)
    (hS : (fun (w' : World) => Hid (Kp Nb wc w')) wc.drew) (hend : ∀ wy, (fun (w' : World) => Hid (Kp Nb wc w')) wy → Q .normal ⟨[u0, u1, u2, u3, u4, u5, u6, u7, u8, u9, u10, u11, u12, u13, u14, u15, u16, .slice (some ⟨gW, 0, none⟩) Kl dW, u18, .pointer (some ⟨D, 0, none⟩), .int .i64 (a : Int), u21, u22, u23, u24, .pointer (some ⟨E, 0, none⟩), .bool false, u27, u28, u29, u30, u31, u32, u33, u34, u35, u36, u37, u38, u39, u40, u41, u42, u43, u44, u45, u46, u47, u48, u49, u50, u51, u52, u53, u54, u55, u56, u57, u58, u59, u60, u61, u62, u63, u64, u65, u66, u67, u68, u69, u70, u71, u72, u73, u74, u75, u76, u77, u78, u79, u80, u81, u82, u83, u84, u85, u86, u87, u88, u89, u90, u91, u92, u93, u94, u95, u96, u97, u98, u99, u100, u101, u102, u103, u104, u105, u106, u107, u108, u109, u110, u111, u112, u113, u114, u115, u116, u117, u118, u119, u120, u121, u122, u123, u124, u125, u126, u127, u128, u129, u130, u131, u132, u133, u134, u135, u136, u137, u138, u139, u140, u141, u142, u143, u144, u145, u146, u147, u148, u149, u150, u151, u152, u153, u154, u155, u156, u157, u158, u159, u160, u161, u162, u163, u164, u165, u166, u167, u168, u169, u170, u171, u172, u173, u174, u175, u176, u177, u178, u179, u180, u181, u182, u183, u184, u185, u186, u187, u188, u189, u190, u191, u192, u193, u194, u195, u196, u197, u198, u199, u200, u201, u202, u203, u204, u205, u206, u207, u208, u209, u210, u211, u212, u213, u214, u215, u216, u217, u218, u219, u220, u221, u222, u223, u224, u225, u226, u227, u228, u229, u230, u231, u232, u233, u234, u235, u236, u237, u238, u239, u240, u241, u242, u243, u244, u245, u246, u247, u248, u249, u250, u251, u252, u253, u254, u255, u256, u257, u258, u259, u260, u261, u262, u263, u264, u265, u266, u267, u268, u269, u270, u271, u272, u273, u274, u275, u276, u277, u278, u279, u280, u281, u282, u283, u284, u285, u286, u287, u288, u289, u290, u291, u292, u293, u294, u295, u296, u297, u298, u299, u300, u301, u302, u303, u304, u305, u306, u307, u308, u309, u310, u311, u312, u313, u314, u315, u316, .bool false, .pointer (some ⟨D, 3, none⟩), .int .i64 on, .bool false, .bool false, undef, undef, undef, undef, undef, undef, undef, undef, .bool false, .bool false, .bool false, .bool false, .bool false, undef, undef, undef, undef, undef, undef, undef, undef, undef, undef, .bool false, .bool false, .bool false, .bool false, .bool true, .bool true, cv c0, cv c0, .bool false, .bool false, .bool false, u356, u357, u358, u359, u360, u361, u362, u363, u364, u365, u366, u367, u368, u369, u370, u371, u372, u373, u374, u375, u376, u377, u378, u379, u380, u381, u382, u383, u384, u385, u386, u387, u388, u389, u390, u391, u392, u393, u394, u395, u396, u397, u398].toArray, dd⟩ wy) :
    (ip_c43).1.wp Try.prog Q ⟨[u0, u1, u2, u3, u4, u5, u6, u7, u8, u9, u10, u11, u12, u13, u14, u15, u16, .slice (some ⟨gW, 0, none⟩) Kl dW, u18, .pointer (some ⟨D, 0, none⟩), .int .i64 (a : Int), u21, u22, u23, u24, .pointer (some ⟨E, 0, none⟩), .bool false, u27, u28, u29, u30, u31, u32, u33, u34, u35, u36, u37, u38, u39, u40, u41, u42, u43, u44, u45, u46, u47, u48, u49, u50, u51, u52, u53, u54, u55, u56, u57, u58, u59, u60, u61, u62, u63, u64, u65, u66, u67, u68, u69, u70, u71, u72, u73, u74, u75, u76, u77, u78, u79, u80, u81, u82, u83, u84, u85, u86, u87, u88, u89, u90, u91, u92, u93, u94, u95, u96, u97, u98, u99, u100, u101, u102, u103, u104, u105, u106, u107, u108, u109, u110, u111, u112, u113, u114, u115, u116, u117, u118, u119, u120, u121, u122, u123, u124, u125, u126, u127, u128, u129, u130, u131, u132, u133, u134, u135, u136, u137, u138, u139, u140, u141, u142, u143, u144, u145, u146, u147, u148, u149, u150, u151, u152, u153, u154, u155, u156, u157, u158, u159, u160, u161, u162, u163, u164, u165, u166, u167, u168, u169, u170, u171, u172, u173, u174, u175, u176, u177, u178, u179, u180, u181, u182, u183, u184, u185, u186, u187, u188, u189, u190, u191, u192, u193, u194, u195, u196, u197, u198, u199, u200, u201, u202, u203, u204, u205, u206, u207, u208, u209, u210, u211, u212, u213, u214, u215, u216, u217, u218, u219, u220, u221, u222, u223, u224, u225, u226, u227, u228, u229, u230, u231, u232, u233, u234, u235, u236, u237, u238, u239, u240, u241, u242, u243, u244, u245, u246, u247, u248, u249, u250, u251, u252, u253, u254, u255, u256, u257, u258, u259, u260, u261, u262, u263, u264, u265, u266, u267, u268, u269, u270, u271, u272, u273, u274, u275, u276, u277, u278, u279, u280, u281, u282, u283, u284, u285, u286, u287, u288, u289, u290, u291, u292, u293, u294, u295, u296, u297, u298, u299, u300, u301, u302, u303, u304, u305, u306, u307, u308, u309, u310, u311, u312, u313, u314, u315, u316, u317, u318, u319, u320, u321, u322, u323, u324, u325, u326, u327, u328, u329, u330, u331, u332, u333, u334, u335, u336, u337, u338, u339, u340, u341, u342, u343, u344, u345, u346, u347, u348, u349, u350, u351, u352, u353, u354, u355, u356, u357, u358, u359, u360, u361, u362, u363, u364, u365, u366, u367, u368, u369, u370, u371, u372, u373, u374, u375, u376, u377, u378, u379, u380, u381, u382, u383, u384, u385, u386, u387, u388, u389, u390, u391, u392, u393, u394, u395, u396, u397, u398].toArray, dd⟩ wc := by
  change Code.wp _ (Code.region _ _ _) _ _ _
  refine region_vals2 [none, none, none, none, none, none, none, none, none, none, none, none, none, none, none, none, none, none, none, none, none, none, none, none, none, none, none, none, none, none, none, none, none, none, none, none, none, none, none, none, none, none, none, none, none, none, none, none, none, none, none, none, none, none, none, none, none, none, none, none, none, none, none, none, none, none, none, none, none, none, none, none, none, none, none, none, none, none, none, none, none, none, none, none, none, none, none, none, none, none, none, none, none, none, none, none, none, none, none, none, none, none, none, none, none, none, none, none, none, none, none, none, none, none, none, none, none, none, none, none, none, none, none, none, none, none, none, none, none, none, none, none, none, none, none, none, none, none, none, none, none, none, none, none, none, none, none, none, none, none, none, none, none, none, none, none, none, none, none, none, none, none, none, none, none, none, none, none, none, none, none, none, none, none, none, none, none, none, none, none, none, none, none, none, none, none, none, none, none, none, none, none, none, none, none, none, none, none, none, none, none, none, none, none, none, none, none, none, none, none, none, none, none, none, none, none, none, none, none, none, none, none, none, none, none, none, none, none, none, none, none, none, none, none, none, none, none, none, none, none, none, none, none, none, none, none, none, none, none, none, none, none, none, none, none, none, none, none, none, none, none, none, none, none, none, none, none, none, none, none, none, none, none, none, none, none, none, none, none, none, none, none, none, none, none, none, none, none, none, none, none, none, none, none, none, none, none, none, none, none, none, none, none, none, none, none, none, none, none, none, none, none, none, none, none, none, none, some 0, some 1, some 2, some 3, some 4, some 5, some 6, some 7, some 8, some 9, some 10, some 11, some 12, some 13, some 14, some 15, some 16, some 17, some 18, some 19, some 20, some 21, some 22, some 23, some 24, some 25, some 26, some 27, some 28, some 29, some 30, some 31, some 32, some 33, some 34, some 35, some 36, some 37, some 38, none, none, none, none, none, none, none, none, none, none, none, none, none, none, none, none, none, none, none, none, none, none, none, none, none, none, none, none, none, none, none, none, none, none, none, none, none, none, none, none, none, none, none] [[(26, none)], [(19, none)], [(318, some 1)], [(319, some 2)], [(320, some 3)], [(19, none)], [(322, some 5)], [(17, none)], [(20, none)], [(324, some 7), (325, some 8)], [(326, some 9)], [(327, some 10)], [(323, some 6), (328, some 11)], [(321, some 4), (329, some 12)], [(317, some 0), (330, some 13)], [(331, some 14)], [(26, none)], [(333, some 16)], [(25, none)], [(17, none)], [(20, none)], [(336, some 19), (337, some 20)], [(338, some 21)], [(19, none)], [(340, some 23)], [(339, some 22), (341, some 24)], [(342, some 25)], [(335, some 18), (343, some 26)], [(334, some 17), (344, some 27)], [(332, some 15), (345, some 28)], [(346, some 29)], [(26, none)], [(348, some 31)], [(349, some 32)], [(25, none)], [], [(351, some 34), (352, some 35)], [(350, some 33), (353, some 36)], [(347, some 30), (354, some 37)]] [some 317, some 318, some 319, some 320, some 321, some 322, some 323, some 324, some 325, some 326, some 327, some 328, some 329, some 330, some 331, some 332, some 333, some 334, some 335, some 336, some 337, some 338, some 339, some 340, some 341, some 342, some 343, some 344, some 345, some 346, some 347, some 348, some 349, some 350, some 351, some 352, some 353, some 354, some 355] [.bool false, .pointer (some ⟨D, 3, none⟩), .int .i64 on, .bool false, .bool false, undef, undef, undef, undef, undef, undef, undef, undef, .bool false, .bool false, .bool false, .bool false, .bool false, undef, undef, undef, undef, undef, undef, undef, undef, undef, undef, .bool false, .bool false, .bool false, .bool false, .bool true, .bool true, cv c0, cv c0, .bool false, .bool false, .bool false] (fun (w' : World) => Hid (Kp Nb wc w')) (by kernel_rfl) (by kernel_rfl) (by kernel_rfl) ?hS (VFrom.all (n := 39) (by kernel_rfl) ?hstep) ?hend
  case hstep =>
    refine VFrom.cons (VStep.val _ rfl _ rfl (.bool false) rfl trivial (fun ev wq hS he hr => ?_)) ?_
    · have r0 : ev (.tmp 26) = .bool false := hr (26, none) (by simp); have hk := he.1; clear hr he
      go_simp
    refine VFrom.cons (VStep.val _ rfl _ rfl (.pointer (some ⟨D, 3, none⟩)) rfl trivial (fun ev wq hS he hr => ?_)) ?_
    · have r0 : ev (.tmp 19) = .pointer (some ⟨D, 0, none⟩) := hr (19, none) (by simp); have hk := he.1; clear hr he
      go_simp
    refine VFrom.cons (VStep.val _ rfl _ rfl (.int .i64 on) rfl trivial (fun ev wq hS he hr => ?_)) ?_
    · have r0 : ev (.tmp 318) = .pointer (some ⟨D, 3, none⟩) := hr (318, some 1) (by simp); have hk := he.1; clear hr he
      have c0 := ((DC.out.kept hS.out (fun h => h)).cell 3).trans HO4.out.2.2.2
      go_simp
    refine VFrom.cons (VStep.val _ rfl _ rfl (.bool false) rfl trivial (fun ev wq hS he hr => ?_)) ?_
    · have r0 : ev (.tmp 319) = .int .i64 on := hr (319, some 2) (by simp); have hk := he.1; clear hr he
      have e1 := GE.out
      go_simp
    refine VFrom.cons (VStep.val _ rfl _ rfl (.bool false) rfl trivial (fun ev wq hS he hr => ?_)) ?_
    · have r0 : ev (.tmp 320) = .bool false := hr (320, some 3) (by simp); have hk := he.1; clear hr he
      go_simp
    refine VFrom.cons (VStep.skip _ rfl rfl rfl) ?_
    refine VFrom.cons (VStep.skip _ rfl rfl rfl) ?_
    refine VFrom.cons (VStep.skip _ rfl rfl rfl) ?_
    refine VFrom.cons (VStep.skip _ rfl rfl rfl) ?_
    refine VFrom.cons (VStep.skip _ rfl rfl rfl) ?_
    refine VFrom.cons (VStep.skip _ rfl rfl rfl) ?_
    refine VFrom.cons (VStep.skip _ rfl rfl rfl) ?_
    refine VFrom.cons (VStep.skip _ rfl rfl rfl) ?_
    refine VFrom.cons (VStep.val _ rfl _ rfl (.bool false) rfl trivial (fun ev wq hS he hr => ?_)) ?_
    · have r0 : ev (.tmp 321) = .bool false := hr (321, some 4) (by simp); have r1 : ev (.tmp 329) = undef := hr (329, some 12) (by simp); have hk := he.1; clear hr he
      go_simp
    refine VFrom.cons (VStep.val _ rfl _ rfl (.bool false) rfl trivial (fun ev wq hS he hr => ?_)) ?_
    · have r0 : ev (.tmp 317) = .bool false := hr (317, some 0) (by simp); have r1 : ev (.tmp 330) = .bool false := hr (330, some 13) (by simp); have hk := he.1; clear hr he
      go_simp
    refine VFrom.cons (VStep.val _ rfl _ rfl (.bool false) rfl trivial (fun ev wq hS he hr => ?_)) ?_
    · have r0 : ev (.tmp 331) = .bool false := hr (331, some 14) (by simp); have hk := he.1; clear hr he
      go_simp
    refine VFrom.cons (VStep.val _ rfl _ rfl (.bool false) rfl rfl (fun ev wq hS he hr => ?_)) ?_
    · have r0 : ev (.tmp 26) = .bool false := hr (26, none) (by simp); have hk := he.1; clear hr he
      go_simp
    refine VFrom.cons (VStep.val _ rfl _ rfl (.bool false) rfl rfl (fun ev wq hS he hr => ?_)) ?_
    · have r0 : ev (.tmp 333) = .bool false := hr (333, some 16) (by simp); have hk := he.1; clear hr he
      go_simp
    refine VFrom.cons (VStep.skip _ rfl rfl rfl) ?_
    refine VFrom.cons (VStep.skip _ rfl rfl rfl) ?_
    refine VFrom.cons (VStep.skip _ rfl rfl rfl) ?_
    refine VFrom.cons (VStep.skip _ rfl rfl rfl) ?_
    refine VFrom.cons (VStep.skip _ rfl rfl rfl) ?_
    refine VFrom.cons (VStep.skip _ rfl rfl rfl) ?_
    refine VFrom.cons (VStep.skip _ rfl rfl rfl) ?_
    refine VFrom.cons (VStep.skip _ rfl rfl rfl) ?_
    refine VFrom.cons (VStep.skip _ rfl rfl rfl) ?_
    refine VFrom.cons (VStep.skip _ rfl rfl rfl) ?_
    refine VFrom.cons (VStep.val _ rfl _ rfl (.bool false) rfl rfl (fun ev wq hS he hr => ?_)) ?_
    · have r0 : ev (.tmp 334) = .bool false := hr (334, some 17) (by simp); have r1 : ev (.tmp 344) = undef := hr (344, some 27) (by simp); have hk := he.1; clear hr he
      go_simp
    refine VFrom.cons (VStep.val _ rfl _ rfl (.bool false) rfl trivial (fun ev wq hS he hr => ?_)) ?_
    · have r0 : ev (.tmp 332) = .bool false := hr (332, some 15) (by simp); have r1 : ev (.tmp 345) = .bool false := hr (345, some 28) (by simp); have hk := he.1; clear hr he
      go_simp
    refine VFrom.cons (VStep.val _ rfl _ rfl (.bool false) rfl trivial (fun ev wq hS he hr => ?_)) ?_
    · have r0 : ev (.tmp 346) = .bool false := hr (346, some 29) (by simp); have hk := he.1; clear hr he
      go_simp
    refine VFrom.cons (VStep.val _ rfl _ rfl (.bool false) rfl rfl (fun ev wq hS he hr => ?_)) ?_
    · have r0 : ev (.tmp 26) = .bool false := hr (26, none) (by simp); have hk := he.1; clear hr he
      go_simp
    refine VFrom.cons (VStep.val _ rfl _ rfl (.bool true) rfl rfl (fun ev wq hS he hr => ?_)) ?_
    · have r0 : ev (.tmp 348) = .bool false := hr (348, some 31) (by simp); have hk := he.1; clear hr he
      go_simp
    refine VFrom.cons (VStep.val _ rfl _ rfl (.bool true) rfl rfl (fun ev wq hS he hr => ?_)) ?_
    · have r0 : ev (.tmp 349) = .bool true := hr (349, some 32) (by simp); have hk := he.1; clear hr he
      go_simp
    refine VFrom.cons (VStep.val _ rfl _ rfl (cv c0) rfl rfl (fun ev wq hS he hr => ?_)) ?_
    · have r0 : ev (.tmp 25) = .pointer (some ⟨E, 0, none⟩) := hr (25, none) (by simp); have hk := he.1; clear hr he
      exact exec_load rfl r0 (load_cell c0_ok (range_of (BX.out.kept hS.out (fun h => h))))
    refine VFrom.cons (VStep.val _ rfl _ rfl (cv c0) rfl rfl (fun ev wq hS he hr => ?_)) ?_
    · have hk := he.1; clear hr he
      exact exec_build rfl (by simp) (build_c0 wq)
    refine VFrom.cons (VStep.val _ rfl _ rfl (.bool false) rfl rfl (fun ev wq hS he hr => ?_)) ?_
    · have r0 : ev (.tmp 351) = cv c0 := hr (351, some 34) (by simp); have r1 : ev (.tmp 352) = cv c0 := hr (352, some 35) (by simp); have hk := he.1; clear hr he
      exact eq_neCell c0_ok rfl r0 r1
    refine VFrom.cons (VStep.val _ rfl _ rfl (.bool false) rfl rfl (fun ev wq hS he hr => ?_)) ?_
    · have r0 : ev (.tmp 350) = .bool true := hr (350, some 33) (by simp); have r1 : ev (.tmp 353) = .bool false := hr (353, some 36) (by simp); have hk := he.1; clear hr he
      go_simp
    refine VFrom.cons (VStep.val _ rfl _ rfl (.bool false) rfl trivial (fun ev wq hS he hr => ?_)) ?_
    · have r0 : ev (.tmp 347) = .bool false := hr (347, some 30) (by simp); have r1 : ev (.tmp 354) = .bool false := hr (354, some 37) (by simp); have hk := he.1; clear hr he
      go_simp
    exact VFrom.nil
  case hS => exact hS
  case hend =>
    intro wy hy
    simp only [putAll, List.zip_cons_cons, List.zip_nil_right, List.foldl_cons, List.foldl_nil, Act.put, List.setIfInBounds_toArray, List.set_cons_zero, List.set_cons_succ]
    exact hend wy hy
set_option maxRecDepth 100000 in
set_option maxHeartbeats 16000000 in
theorem ip_r43big (HAB : Hid (a < Kl ∧ b < Kl)) (HDA : Hid (Kl ≤ dA ∧ dA ≤ maxLen ∧ Kl ≤ dW ∧ dW ≤ maxLen)) (DC : Hid (Blk wc D 50 (opl o))) (HO4 : Hid ((opl o)[0]? = some (.int .i64 kd) ∧ (opl o)[1]? = some (.int .i64 oat) ∧ (opl o)[2]? = some (.int .i64 oto) ∧ (opl o)[3]? = some (.int .i64 on))) (CW : Hid (wc.cell? ⟨gW, a, none⟩ = some (.slice (some ⟨bq, oq, none⟩) Lq dq))) (BX : Hid (Blk wc E 41 (cl c0))) (GE : Hid (0 ≤ on ∧ ¬ on < 0)) (LT : Hid (¬ on < (Lq : Int) ∧ (Lq : Int) ≤ on)) (Q : Exit → Act → World → Prop)
    (hS : (fun (w' : World) => Hid (Kp Nb wc w')) wc.drew) (hend : ∀ wy, (fun (w' : World) => Hid (Kp Nb wc w')) wy → Q .normal ⟨[u0, u1, u2, u3, u4, u5, u6, u7, u8, u9, u10, u11, u12, u13, u14, u15, u16, .slice (some ⟨gW, 0, none⟩) Kl dW, u18, .pointer (some ⟨D, 0, none⟩), .int .i64 (a : Int), u21, u22, u23, u24, .pointer (some ⟨E, 0, none⟩), .bool false, u27, u28, u29, u30, u31, u32, u33, u34, u35, u36, u37, u38, u39, u40, u41, u42, u43, u44, u45, u46, u47, u48, u49, u50, u51, u52, u53, u54, u55, u56, u57, u58, u59, u60, u61, u62, u63, u64, u65, u66, u67, u68, u69, u70, u71, u72, u73, u74, u75, u76, u77, u78, u79, u80, u81, u82, u83, u84, u85, u86, u87, u88, u89, u90, u91, u92, u93, u94, u95, u96, u97, u98, u99, u100, u101, u102, u103, u104, u105, u106, u107, u108, u109, u110, u111, u112, u113, u114, u115, u116, u117, u118, u119, u120, u121, u122, u123, u124, u125, u126, u127, u128, u129, u130, u131, u132, u133, u134, u135, u136, u137, u138, u139, u140, u141, u142, u143, u144, u145, u146, u147, u148, u149, u150, u151, u152, u153, u154, u155, u156, u157, u158, u159, u160, u161, u162, u163, u164, u165, u166, u167, u168, u169, u170, u171, u172, u173, u174, u175, u176, u177, u178, u179, u180, u181, u182, u183, u184, u185, u186, u187, u188, u189, u190, u191, u192, u193, u194, u195, u196, u197, u198, u199, u200, u201, u202, u203, u204, u205, u206, u207, u208, u209, u210, u211, u212, u213, u214, u215, u216, u217, u218, u219, u220, u221, u222, u223, u224, u225, u226, u227, u228, u229, u230, u231, u232, u233, u234, u235, u236, u237, u238, u239, u240, u241, u242, u243, u244, u245, u246, u247, u248, u249, u250, u251, u252, u253, u254, u255, u256, u257, u258, u259, u260, u261, u262, u263, u264, u265, u266, u267, u268, u269, u270, u271, u272, u273, u274, u275, u276, u277, u278, u279, u280, u281, u282, u283, u284, u285, u286, u287, u288, u289, u290, u291, u292, u293, u294, u295, u296, u297, u298, u299, u300, u301, u302, u303, u304, u305, u306, u307, u308, u309, u310, u311, u312, u313, u314, u315, u316, .bool false, .pointer (some ⟨D, 3, none⟩), .int .i64 on, .bool true, .bool true, .pointer (some ⟨D, 3, none⟩), .int .i64 on, .slice (some ⟨gW, 0, none⟩) Kl dW, .int .i64 (a : Int), .pointer (some ⟨gW, a, none⟩), .slice (some ⟨bq, oq, none⟩) Lq dq, .int .i64 (Lq : Int), .bool false, .bool false, .bool false, .bool false, .bool false, .bool false, undef, undef, undef, undef, undef, undef, undef, undef, undef, undef, .bool false, .bool false, .bool false, .bool false, .bool true, .bool true, cv c0, cv c0, .bool false, .bool false, .bool false, u356, u357, u358, u359, u360, u361, u362, u363, u364, u365, u366, u367, u368, u369, u370, u371, u372, u373, u374, u375, u376, u377, u378, u379, u380, u381, u382, u383, u384, u385, u386, u387, u388, u389, u390, u391, u392, u393, u394, u395, u396, u397, u398].toArray, dd⟩ wy) :
    (ip_c43).1.wp Try.prog Q ⟨[u0, u1, u2, u3, u4, u5, u6, u7, u8, u9, u10, u11, u12, u13, u14, u15, u16, .slice (some ⟨gW, 0, none⟩) Kl dW, u18, .pointer (some ⟨D, 0, none⟩), .int .i64 (a : Int), u21, u22, u23, u24, .pointer (some ⟨E, 0, none⟩), .bool false, u27, u28, u29, u30, u31, u32, u33, u34, u35, u36, u37, u38, u39, u40, u41, u42, u43, u44, u45, u46, u47, u48, u49, u50, u51, u52, u53, u54, u55, u56, u57, u58, u59, u60, u61, u62, u63, u64, u65, u66, u67, u68, u69, u70, u71, u72, u73, u74, u75, u76, u77, u78, u79, u80, u81, u82, u83, u84, u85, u86, u87, u88, u89, u90, u91, u92, u93, u94, u95, u96, u97, u98, u99, u100, u101, u102, u103, u104, u105, u106, u107, u108, u109, u110, u111, u112, u113, u114, u115, u116, u117, u118, u119, u120, u121, u122, u123, u124, u125, u126, u127, u128, u129, u130, u131, u132, u133, u134, u135, u136, u137, u138, u139, u140, u141, u142, u143, u144, u145, u146, u147, u148, u149, u150, u151, u152, u153, u154, u155, u156, u157, u158, u159, u160, u161, u162, u163, u164, u165, u166, u167, u168, u169, u170, u171, u172, u173, u174, u175, u176, u177, u178, u179, u180, u181, u182, u183, u184, u185, u186, u187, u188, u189, u190, u191, u192, u193, u194, u195, u196, u197, u198, u199, u200, u201, u202, u203, u204, u205, u206, u207, u208, u209, u210, u211, u212, u213, u214, u215, u216, u217, u218, u219, u220, u221, u222, u223, u224, u225, u226, u227, u228, u229, u230, u231, u232, u233, u234, u235, u236, u237, u238, u239, u240, u241, u242, u243, u244, u245, u246, u247, u248, u249, u250, u251, u252, u253, u254, u255, u256, u257, u258, u259, u260, u261, u262, u263, u264, u265, u266, u267, u268, u269, u270, u271, u272, u273, u274, u275, u276, u277, u278, u279, u280, u281, u282, u283, u284, u285, u286, u287, u288, u289, u290, u291, u292, u293, u294, u295, u296, u297, u298, u299, u300, u301, u302, u303, u304, u305, u306, u307, u308, u309, u310, u311, u312, u313, u314, u315, u316, u317, u318, u319, u320, u321, u322, u323, u324, u325, u326, u327, u328, u329, u330, u331, u332, u333, u334, u335, u336, u337, u338, u339, u340, u341, u342, u343, u344, u345, u346, u347, u348, u349, u350, u351, u352, u353, u354, u355, u356, u357, u358, u359, u360, u361, u362, u363, u364, u365, u366, u367, u368, u369, u370, u371, u372, u373, u374, u375, u376, u377, u378, u379, u380, u381, u382, u383, u384, u385, u386, u387, u388, u389, u390, u391, u392, u393, u394, u395, u396, u397, u398].toArray, dd⟩ wc := by
  change Code.wp _ (Code.region _ _ _) _ _ _
  refine region_vals2 [none, none, none, none, none, none, none, none, none, none, none, none, none, none, none, none, none, none, none, none, none, none, none, none, none, none, none, none, none, none, none, none, none, none, none, none, none, none, none, none, none, none, none, none, none, none, none, none, none, none, none, none, none, none, none, none, none, none, none, none, none, none, none, none, none, none, none, none, none, none, none, none, none, none, none, none, none, none, none, none, none, none, none, none, none, none, none, none, none, none, none, none, none, none, none, none, none, none, none, none, none, none, none, none, none, none, none, none, none, none, none, none, none, none, none, none, none, none, none, none, none, none, none, none, none, none, none, none, none, none, none, none, none, none, none, none, none, none, none, none, none, none, none, none, none, none, none, none, none, none, none, none, none, none, none, none, none, none, none, none, none, none, none, none, none, none, none, none, none, none, none, none, none, none, none, none, none, none, none, none, none, none, none, none, none, none, none, none, none, none, none, none, none, none, none, none, none, none, none, none, none, none, none, none, none, none, none, none, none, none, none, none, none, none, none, none, none, none, none, none, none, none, none, none, none, none, none, none, none, none, none, none, none, none, none, none, none, none, none, none, none, none, none, none, none, none, none, none, none, none, none, none, none, none, none, none, none, none, none, none, none, none, none, none, none, none, none, none, none, none, none, none, none, none, none, none, none, none, none, none, none, none, none, none, none, none, none, none, none, none, none, none, none, none, none, none, none, none, none, none, none, none, none, none, none, none, none, none, none, none, none, none, none, none, none, none, none, some 0, some 1, some 2, some 3, some 4, some 5, some 6, some 7, some 8, some 9, some 10, some 11, some 12, some 13, some 14, some 15, some 16, some 17, some 18, some 19, some 20, some 21, some 22, some 23, some 24, some 25, some 26, some 27, some 28, some 29, some 30, some 31, some 32, some 33, some 34, some 35, some 36, some 37, some 38, none, none, none, none, none, none, none, none, none, none, none, none, none, none, none, none, none, none, none, none, none, none, none, none, none, none, none, none, none, none, none, none, none, none, none, none, none, none, none, none, none, none, none] [[(26, none)], [(19, none)], [(318, some 1)], [(319, some 2)], [(320, some 3)], [(19, none)], [(322, some 5)], [(17, none)], [(20, none)], [(324, some 7), (325, some 8)], [(326, some 9)], [(327, some 10)], [(323, some 6), (328, some 11)], [(321, some 4), (329, some 12)], [(317, some 0), (330, some 13)], [(331, some 14)], [(26, none)], [(333, some 16)], [(25, none)], [(17, none)], [(20, none)], [(336, some 19), (337, some 20)], [(338, some 21)], [(19, none)], [(340, some 23)], [(339, some 22), (341, some 24)], [(342, some 25)], [(335, some 18), (343, some 26)], [(334, some 17), (344, some 27)], [(332, some 15), (345, some 28)], [(346, some 29)], [(26, none)], [(348, some 31)], [(349, some 32)], [(25, none)], [], [(351, some 34), (352, some 35)], [(350, some 33), (353, some 36)], [(347, some 30), (354, some 37)]] [some 317, some 318, some 319, some 320, some 321, some 322, some 323, some 324, some 325, some 326, some 327, some 328, some 329, some 330, some 331, some 332, some 333, some 334, some 335, some 336, some 337, some 338, some 339, some 340, some 341, some 342, some 343, some 344, some 345, some 346, some 347, some 348, some 349, some 350, some 351, some 352, some 353, some 354, some 355] [.bool false, .pointer (some ⟨D, 3, none⟩), .int .i64 on, .bool true, .bool true, .pointer (some ⟨D, 3, none⟩), .int .i64 on, .slice (some ⟨gW, 0, none⟩) Kl dW, .int .i64 (a : Int), .pointer (some ⟨gW, a, none⟩), .slice (some ⟨bq, oq, none⟩) Lq dq, .int .i64 (Lq : Int), .bool false, .bool false, .bool false, .bool false, .bool false, .bool false, undef, undef, undef, undef, undef, undef, undef, undef, undef, undef, .bool false, .bool false, .bool false, .bool false, .bool true, .bool true, cv c0, cv c0, .bool false, .bool false, .bool false] (fun (w' : World) => Hid (Kp Nb wc w')) (by kernel_rfl) (by kernel_rfl) (by kernel_rfl) ?hS (VFrom.all (n := 39) (by kernel_rfl) ?hstep) ?hend
  case hstep =>
    refine VFrom.cons (VStep.val _ rfl _ rfl (.bool false) rfl trivial (fun ev wq hS he hr => ?_)) ?_
    · have r0 : ev (.tmp 26) = .bool false := hr (26, none) (by simp); have hk := he.1; clear hr he
      go_simp
    refine VFrom.cons (VStep.val _ rfl _ rfl (.pointer (some ⟨D, 3, none⟩)) rfl trivial (fun ev wq hS he hr => ?_)) ?_
    · have r0 : ev (.tmp 19) = .pointer (some ⟨D, 0, none⟩) := hr (19, none) (by simp); have hk := he.1; clear hr he
      go_simp
    refine VFrom.cons (VStep.val _ rfl _ rfl (.int .i64 on) rfl trivial (fun ev wq hS he hr => ?_)) ?_
    · have r0 : ev (.tmp 318) = .pointer (some ⟨D, 3, none⟩) := hr (318, some 1) (by simp); have hk := he.1; clear hr he
      have c0 := ((DC.out.kept hS.out (fun h => h)).cell 3).trans HO4.out.2.2.2
      go_simp
    refine VFrom.cons (VStep.val _ rfl _ rfl (.bool true) rfl trivial (fun ev wq hS he hr => ?_)) ?_
    · have r0 : ev (.tmp 319) = .int .i64 on := hr (319, some 2) (by simp); have hk := he.1; clear hr he
      have e1 := GE.out
      go_simp
    refine VFrom.cons (VStep.val _ rfl _ rfl (.bool true) rfl trivial (fun ev wq hS he hr => ?_)) ?_
    · have r0 : ev (.tmp 320) = .bool true := hr (320, some 3) (by simp); have hk := he.1; clear hr he
      go_simp
    refine VFrom.cons (VStep.val _ rfl _ rfl (.pointer (some ⟨D, 3, none⟩)) rfl rfl (fun ev wq hS he hr => ?_)) ?_
    · have r0 : ev (.tmp 19) = .pointer (some ⟨D, 0, none⟩) := hr (19, none) (by simp); have hk := he.1; clear hr he
      go_simp
    refine VFrom.cons (VStep.val _ rfl _ rfl (.int .i64 on) rfl rfl (fun ev wq hS he hr => ?_)) ?_
    · have r0 : ev (.tmp 322) = .pointer (some ⟨D, 3, none⟩) := hr (322, some 5) (by simp); have hk := he.1; clear hr he
      have c0 := ((DC.out.kept hS.out (fun h => h)).cell 3).trans HO4.out.2.2.2
      go_simp
    refine VFrom.cons (VStep.val _ rfl _ rfl (.slice (some ⟨gW, 0, none⟩) Kl dW) rfl rfl (fun ev wq hS he hr => ?_)) ?_
    · have r0 : ev (.tmp 17) = .slice (some ⟨gW, 0, none⟩) Kl dW := hr (17, none) (by simp); have hk := he.1; clear hr he
      go_simp
    refine VFrom.cons (VStep.val _ rfl _ rfl (.int .i64 (a : Int)) rfl rfl (fun ev wq hS he hr => ?_)) ?_
    · have r0 : ev (.tmp 20) = .int .i64 (a : Int) := hr (20, none) (by simp); have hk := he.1; clear hr he
      go_simp
    refine VFrom.cons (VStep.val _ rfl _ rfl (.pointer (some ⟨gW, a, none⟩)) rfl rfl (fun ev wq hS he hr => ?_)) ?_
    · have r0 : ev (.tmp 324) = .slice (some ⟨gW, 0, none⟩) Kl dW := hr (324, some 7) (by simp); have r1 : ev (.tmp 325) = .int .i64 (a : Int) := hr (325, some 8) (by simp); have hk := he.1; clear hr he
      have e1 := HAB.out.1; have e2 := HDA.out
      go_simp
    refine VFrom.cons (VStep.val _ rfl _ rfl (.slice (some ⟨bq, oq, none⟩) Lq dq) rfl rfl (fun ev wq hS he hr => ?_)) ?_
    · have r0 : ev (.tmp 326) = .pointer (some ⟨gW, a, none⟩) := hr (326, some 9) (by simp); have hk := he.1; clear hr he
      have c0 := hS.out.cell CW.out (fun h => h)
      go_simp
    refine VFrom.cons (VStep.val _ rfl _ rfl (.int .i64 (Lq : Int)) rfl rfl (fun ev wq hS he hr => ?_)) ?_
    · have r0 : ev (.tmp 327) = .slice (some ⟨bq, oq, none⟩) Lq dq := hr (327, some 10) (by simp); have hk := he.1; clear hr he
      go_simp
    refine VFrom.cons (VStep.val _ rfl _ rfl (.bool false) rfl rfl (fun ev wq hS he hr => ?_)) ?_
    · have r0 : ev (.tmp 323) = .int .i64 on := hr (323, some 6) (by simp); have r1 : ev (.tmp 328) = .int .i64 (Lq : Int) := hr (328, some 11) (by simp); have hk := he.1; clear hr he
      have e1 := LT.out
      go_simp
    refine VFrom.cons (VStep.val _ rfl _ rfl (.bool false) rfl trivial (fun ev wq hS he hr => ?_)) ?_
    · have r0 : ev (.tmp 321) = .bool true := hr (321, some 4) (by simp); have r1 : ev (.tmp 329) = .bool false := hr (329, some 12) (by simp); have hk := he.1; clear hr he
      go_simp
    refine VFrom.cons (VStep.val _ rfl _ rfl (.bool false) rfl trivial (fun ev wq hS he hr => ?_)) ?_
    · have r0 : ev (.tmp 317) = .bool false := hr (317, some 0) (by simp); have r1 : ev (.tmp 330) = .bool false := hr (330, some 13) (by simp); have hk := he.1; clear hr he
      go_simp
    refine VFrom.cons (VStep.val _ rfl _ rfl (.bool false) rfl trivial (fun ev wq hS he hr => ?_)) ?_
    · have r0 : ev (.tmp 331) = .bool false := hr (331, some 14) (by simp); have hk := he.1; clear hr he
      go_simp
    refine VFrom.cons (VStep.val _ rfl _ rfl (.bool false) rfl rfl (fun ev wq hS he hr => ?_)) ?_
    · have r0 : ev (.tmp 26) = .bool false := hr (26, none) (by simp); have hk := he.1; clear hr he
      go_simp
    refine VFrom.cons (VStep.val _ rfl _ rfl (.bool false) rfl rfl (fun ev wq hS he hr => ?_)) ?_
    · have r0 : ev (.tmp 333) = .bool false := hr (333, some 16) (by simp); have hk := he.1; clear hr he
      go_simp
    refine VFrom.cons (VStep.skip _ rfl rfl rfl) ?_
    refine VFrom.cons (VStep.skip _ rfl rfl rfl) ?_
    refine VFrom.cons (VStep.skip _ rfl rfl rfl) ?_
    refine VFrom.cons (VStep.skip _ rfl rfl rfl) ?_
    refine VFrom.cons (VStep.skip _ rfl rfl rfl) ?_
    refine VFrom.cons (VStep.skip _ rfl rfl rfl) ?_
    refine VFrom.cons (VStep.skip _ rfl rfl rfl) ?_
    refine VFrom.cons (VStep.skip _ rfl rfl rfl) ?_
    refine VFrom.cons (VStep.skip _ rfl rfl rfl) ?_
    refine VFrom.cons (VStep.skip _ rfl rfl rfl) ?_
    refine VFrom.cons (VStep.val _ rfl _ rfl (.bool false) rfl rfl (fun ev wq hS he hr => ?_)) ?_
    · have r0 : ev (.tmp 334) = .bool false := hr (334, some 17) (by simp); have r1 : ev (.tmp 344) = undef := hr (344, some 27) (by simp); have hk := he.1; clear hr he
      go_simp
    refine VFrom.cons (VStep.val _ rfl _ rfl (.bool false) rfl trivial (fun ev wq hS he hr => ?_)) ?_
    · have r0 : ev (.tmp 332) = .bool false := hr (332, some 15) (by simp); have r1 : ev (.tmp 345) = .bool false := hr (345, some 28) (by simp); have hk := he.1; clear hr he
      go_simp
    refine VFrom.cons (VStep.val _ rfl _ rfl (.bool false) rfl trivial (fun ev wq hS he hr => ?_)) ?_
    · have r0 : ev (.tmp 346) = .bool false := hr (346, some 29) (by simp); have hk := he.1; clear hr he
      go_simp
    refine VFrom.cons (VStep.val _ rfl _ rfl (.bool false) rfl rfl (fun ev wq hS he hr => ?_)) ?_
    · have r0 : ev (.tmp 26) = .bool false := hr (26, none) (by simp); have hk := he.1; clear hr he
      go_simp
    refine VFrom.cons (VStep.val _ rfl _ rfl (.bool true) rfl rfl (fun ev wq hS he hr => ?_)) ?_
    · have r0 : ev (.tmp 348) = .bool false := hr (348, some 31) (by simp); have hk := he.1; clear hr he
      go_simp
    refine VFrom.cons (VStep.val _ rfl _ rfl (.bool true) rfl rfl (fun ev wq hS he hr => ?_)) ?_
    · have r0 : ev (.tmp 349) = .bool true := hr (349, some 32) (by simp); have hk := he.1; clear hr he
      go_simp
    refine VFrom.cons (VStep.val _ rfl _ rfl (cv c0) rfl rfl (fun ev wq hS he hr => ?_)) ?_
    · have r0 : ev (.tmp 25) = .pointer (some ⟨E, 0, none⟩) := hr (25, none) (by simp); have hk := he.1; clear hr he
      exact exec_load rfl r0 (load_cell c0_ok (range_of (BX.out.kept hS.out (fun h => h))))
    refine VFrom.cons (VStep.val _ rfl _ rfl (cv c0) rfl rfl (fun ev wq hS he hr => ?_)) ?_
    · have hk := he.1; clear hr he
      exact exec_build rfl (by simp) (build_c0 wq)
    refine VFrom.cons (VStep.val _ rfl _ rfl (.bool false) rfl rfl (fun ev wq hS he hr => ?_)) ?_
    · have r0 : ev (.tmp 351) = cv c0 := hr (351, some 34) (by simp); have r1 : ev (.tmp 352) = cv c0 := hr (352, some 35) (by simp); have hk := he.1; clear hr he
      exact eq_neCell c0_ok rfl r0 r1
    refine VFrom.cons (VStep.val _ rfl _ rfl (.bool false) rfl rfl (fun ev wq hS he hr => ?_)) ?_
    · have r0 : ev (.tmp 350) = .bool true := hr (350, some 33) (by simp); have r1 : ev (.tmp 353) = .bool false := hr (353, some 36) (by simp); have hk := he.1; clear hr he
      go_simp
    refine VFrom.cons (VStep.val _ rfl _ rfl (.bool false) rfl trivial (fun ev wq hS he hr => ?_)) ?_
    · have r0 : ev (.tmp 347) = .bool false := hr (347, some 30) (by simp); have r1 : ev (.tmp 354) = .bool false := hr (354, some 37) (by simp); have hk := he.1; clear hr he
      go_simp
    exact VFrom.nil
  case hS => exact hS
  case hend =>
    intro wy hy
    simp only [putAll, List.zip_cons_cons, List.zip_nil_right, List.foldl_cons, List.foldl_nil, Act.put, List.setIfInBounds_toArray, List.set_cons_zero, List.set_cons_succ]
    exact hend wy hy
set_option maxRecDepth 100000 in
set_option maxHeartbeats 16000000 in
theorem ip_r43yes (HAB : Hid (a < Kl ∧ b < Kl)) (HDA : Hid (Kl ≤ dA ∧ dA ≤ maxLen ∧ Kl ≤ dW ∧ dW ≤ maxLen)) (DC : Hid (Blk wc D 50 (opl o))) (CW : Hid (wc.cell? ⟨gW, a, none⟩ = some (.slice (some ⟨bq, oq, none⟩) Lq dq))) (BX : Hid (Blk wc E 41 (cl x))) (OX : Hid (CelOk x)) (HO3 : Hid ((opl o)[3]? = some (.int .i64 (i : Int)))) (GE : Hid (0 ≤ (i : Int))) (LT : Hid (i < Lq)) (IX : Hid (i < Lq ∧ Lq ≤ dq ∧ dq ≤ maxLen)) (RX : Hid (wc.rangeAt bq (oq + i * 18) (cl x))) (Q : Exit → Act → World → Prop)
    (hS : (fun (w' : World) => Hid (Kp Nb wc w')) wc.drew) (hend : ∀ wy, (fun (w' : World) => Hid (Kp Nb wc w')) wy → Q .normal ⟨[u0, u1, u2, u3, u4, u5, u6, u7, u8, u9, u10, u11, u12, u13, u14, u15, u16, .slice (some ⟨gW, 0, none⟩) Kl dW, u18, .pointer (some ⟨D, 0, none⟩), .int .i64 (a : Int), u21, u22, u23, u24, .pointer (some ⟨E, 0, none⟩), .bool true, u27, u28, u29, u30, u31, u32, u33, u34, u35, u36, u37, u38, u39, u40, u41, u42, u43, u44, u45, u46, u47, u48, u49, u50, u51, u52, u53, u54, u55, u56, u57, u58, u59, u60, u61, u62, u63, u64, u65, u66, u67, u68, u69, u70, u71, u72, u73, u74, u75, u76, u77, u78, u79, u80, u81, u82, u83, u84, u85, u86, u87, u88, u89, u90, u91, u92, u93, u94, u95, u96, u97, u98, u99, u100, u101, u102, u103, u104, u105, u106, u107, u108, u109, u110, u111, u112, u113, u114, u115, u116, u117, u118, u119, u120, u121, u122, u123, u124, u125, u126, u127, u128, u129, u130, u131, u132, u133, u134, u135, u136, u137, u138, u139, u140, u141, u142, u143, u144, u145, u146, u147, u148, u149, u150, u151, u152, u153, u154, u155, u156, u157, u158, u159, u160, u161, u162, u163, u164, u165, u166, u167, u168, u169, u170, u171, u172, u173, u174, u175, u176, u177, u178, u179, u180, u181, u182, u183, u184, u185, u186, u187, u188, u189, u190, u191, u192, u193, u194, u195, u196, u197, u198, u199, u200, u201, u202, u203, u204, u205, u206, u207, u208, u209, u210, u211, u212, u213, u214, u215, u216, u217, u218, u219, u220, u221, u222, u223, u224, u225, u226, u227, u228, u229, u230, u231, u232, u233, u234, u235, u236, u237, u238, u239, u240, u241, u242, u243, u244, u245, u246, u247, u248, u249, u250, u251, u252, u253, u254, u255, u256, u257, u258, u259, u260, u261, u262, u263, u264, u265, u266, u267, u268, u269, u270, u271, u272, u273, u274, u275, u276, u277, u278, u279, u280, u281, u282, u283, u284, u285, u286, u287, u288, u289, u290, u291, u292, u293, u294, u295, u296, u297, u298, u299, u300, u301, u302, u303, u304, u305, u306, u307, u308, u309, u310, u311, u312, u313, u314, u315, u316, .bool true, .pointer (some ⟨D, 3, none⟩), .int .i64 (i : Int), .bool true, .bool true, .pointer (some ⟨D, 3, none⟩), .int .i64 (i : Int), .slice (some ⟨gW, 0, none⟩) Kl dW, .int .i64 (a : Int), .pointer (some ⟨gW, a, none⟩), .slice (some ⟨bq, oq, none⟩) Lq dq, .int .i64 (Lq : Int), .bool true, .bool true, .bool false, .bool false, .bool true, .bool true, cv x, .slice (some ⟨gW, 0, none⟩) Kl dW, .int .i64 (a : Int), .pointer (some ⟨gW, a, none⟩), .slice (some ⟨bq, oq, none⟩) Lq dq, .pointer (some ⟨D, 3, none⟩), .int .i64 (i : Int), .pointer (some ⟨bq, oq + i * 18, none⟩), cv x, .bool false, .bool false, .bool false, .bool false, .bool true, .bool false, .bool false, undef, undef, undef, .bool false, .bool false, u356, u357, u358, u359, u360, u361, u362, u363, u364, u365, u366, u367, u368, u369, u370, u371, u372, u373, u374, u375, u376, u377, u378, u379, u380, u381, u382, u383, u384, u385, u386, u387, u388, u389, u390, u391, u392, u393, u394, u395, u396, u397, u398].toArray, dd⟩ wy) :
    (ip_c43).1.wp Try.prog Q ⟨[u0, u1, u2, u3, u4, u5, u6, u7, u8, u9, u10, u11, u12, u13, u14, u15, u16, .slice (some ⟨gW, 0, none⟩) Kl dW, u18, .pointer (some ⟨D, 0, none⟩), .int .i64 (a : Int), u21, u22, u23, u24, .pointer (some ⟨E, 0, none⟩), .bool true, u27, u28, u29, u30, u31, u32, u33, u34, u35, u36, u37, u38, u39, u40, u41, u42, u43, u44, u45, u46, u47, u48, u49, u50, u51, u52, u53, u54, u55, u56, u57, u58, u59, u60, u61, u62, u63, u64, u65, u66, u67, u68, u69, u70, u71, u72, u73, u74, u75, u76, u77, u78, u79, u80, u81, u82, u83, u84, u85, u86, u87, u88, u89, u90, u91, u92, u93, u94, u95, u96, u97, u98, u99, u100, u101, u102, u103, u104, u105, u106, u107, u108, u109, u110, u111, u112, u113, u114, u115, u116, u117, u118, u119, u120, u121, u122, u123, u124, u125, u126, u127, u128, u129, u130, u131, u132, u133, u134, u135, u136, u137, u138, u139, u140, u141, u142, u143, u144, u145, u146, u147, u148, u149, u150, u151, u152, u153, u154, u155, u156, u157, u158, u159, u160, u161, u162, u163, u164, u165, u166, u167, u168, u169, u170, u171, u172, u173, u174, u175, u176, u177, u178, u179, u180, u181, u182, u183, u184, u185, u186, u187, u188, u189, u190, u191, u192, u193, u194, u195, u196, u197, u198, u199, u200, u201, u202, u203, u204, u205, u206, u207, u208, u209, u210, u211, u212, u213, u214, u215, u216, u217, u218, u219, u220, u221, u222, u223, u224, u225, u226, u227, u228, u229, u230, u231, u232, u233, u234, u235, u236, u237, u238, u239, u240, u241, u242, u243, u244, u245, u246, u247, u248, u249, u250, u251, u252, u253, u254, u255, u256, u257, u258, u259, u260, u261, u262, u263, u264, u265, u266, u267, u268, u269, u270, u271, u272, u273, u274, u275, u276, u277, u278, u279, u280, u281, u282, u283, u284, u285, u286, u287, u288, u289, u290, u291, u292, u293, u294, u295, u296, u297, u298, u299, u300, u301, u302, u303, u304, u305, u306, u307, u308, u309, u310, u311, u312, u313, u314, u315, u316, u317, u318, u319, u320, u321, u322, u323, u324, u325, u326, u327, u328, u329, u330, u331, u332, u333, u334, u335, u336, u337, u338, u339, u340, u341, u342, u343, u344, u345, u346, u347, u348, u349, u350, u351, u352, u353, u354, u355, u356, u357, u358, u359, u360, u361, u362, u363, u364, u365, u366, u367, u368, u369, u370, u371, u372, u373, u374, u375, u376, u377, u378, u379, u380, u381, u382, u383, u384, u385, u386, u387, u388, u389, u390, u391, u392, u393, u394, u395, u396, u397, u398].toArray, dd⟩ wc := by
  change Code.wp _ (Code.region _ _ _) _ _ _
  refine region_vals2 [none, none, none, none, none, none, none, none, none, none, none, none, none, none, none, none, none, none, none, none, none, none, none, none, none, none, none, none, none, none, none, none, none, none, none, none, none, none, none, none, none, none, none, none, none, none, none, none, none, none, none, none, none, none, none, none, none, none, none, none, none, none, none, none, none, none, none, none, none, none, none, none, none, none, none, none, none, none, none, none, none, none, none, none, none, none, none, none, none, none, none, none, none, none, none, none, none, none, none, none, none, none, none, none, none, none, none, none, none, none, none, none, none, none, none, none, none, none, none, none, none, none, none, none, none, none, none, none, none, none, none, none, none, none, none, none, none, none, none, none, none, none, none, none, none, none, none, none, none, none, none, none, none, none, none, none, none, none, none, none, none, none, none, none, none, none, none, none, none, none, none, none, none, none, none, none, none, none, none, none, none, none, none, none, none, none, none, none, none, none, none, none, none, none, none, none, none, none, none, none, none, none, none, none, none, none, none, none, none, none, none, none, none, none, none, none, none, none, none, none, none, none, none, none, none, none, none, none, none, none, none, none, none, none, none, none, none, none, none, none, none, none, none, none, none, none, none, none, none, none, none, none, none, none, none, none, none, none, none, none, none, none, none, none, none, none, none, none, none, none, none, none, none, none, none, none, none, none, none, none, none, none, none, none, none, none, none, none, none, none, none, none, none, none, none, none, none, none, none, none, none, none, none, none, none, none, none, none, none, none, none, none, none, none, none, none, none, some 0, some 1, some 2, some 3, some 4, some 5, some 6, some 7, some 8, some 9, some 10, some 11, some 12, some 13, some 14, some 15, some 16, some 17, some 18, some 19, some 20, some 21, some 22, some 23, some 24, some 25, some 26, some 27, some 28, some 29, some 30, some 31, some 32, some 33, some 34, some 35, some 36, some 37, some 38, none, none, none, none, none, none, none, none, none, none, none, none, none, none, none, none, none, none, none, none, none, none, none, none, none, none, none, none, none, none, none, none, none, none, none, none, none, none, none, none, none, none, none] [[(26, none)], [(19, none)], [(318, some 1)], [(319, some 2)], [(320, some 3)], [(19, none)], [(322, some 5)], [(17, none)], [(20, none)], [(324, some 7), (325, some 8)], [(326, some 9)], [(327, some 10)], [(323, some 6), (328, some 11)], [(321, some 4), (329, some 12)], [(317, some 0), (330, some 13)], [(331, some 14)], [(26, none)], [(333, some 16)], [(25, none)], [(17, none)], [(20, none)], [(336, some 19), (337, some 20)], [(338, some 21)], [(19, none)], [(340, some 23)], [(339, some 22), (341, some 24)], [(342, some 25)], [(335, some 18), (343, some 26)], [(334, some 17), (344, some 27)], [(332, some 15), (345, some 28)], [(346, some 29)], [(26, none)], [(348, some 31)], [(349, some 32)], [(25, none)], [], [(351, some 34), (352, some 35)], [(350, some 33), (353, some 36)], [(347, some 30), (354, some 37)]] [some 317, some 318, some 319, some 320, some 321, some 322, some 323, some 324, some 325, some 326, some 327, some 328, some 329, some 330, some 331, some 332, some 333, some 334, some 335, some 336, some 337, some 338, some 339, some 340, some 341, some 342, some 343, some 344, some 345, some 346, some 347, some 348, some 349, some 350, some 351, some 352, some 353, some 354, some 355] [.bool true, .pointer (some ⟨D, 3, none⟩), .int .i64 (i : Int), .bool true, .bool true, .pointer (some ⟨D, 3, none⟩), .int .i64 (i : Int), .slice (some ⟨gW, 0, none⟩) Kl dW, .int .i64 (a : Int), .pointer (some ⟨gW, a, none⟩), .slice (some ⟨bq, oq, none⟩) Lq dq, .int .i64 (Lq : Int), .bool true, .bool true, .bool false, .bool false, .bool true, .bool true, cv x, .slice (some ⟨gW, 0, none⟩) Kl dW, .int .i64 (a : Int), .pointer (some ⟨gW, a, none⟩), .slice (some ⟨bq, oq, none⟩) Lq dq, .pointer (some ⟨D, 3, none⟩), .int .i64 (i : Int), .pointer (some ⟨bq, oq + i * 18, none⟩), cv x, .bool false, .bool false, .bool false, .bool false, .bool true, .bool false, .bool false, undef, undef, undef, .bool false, .bool false] (fun (w' : World) => Hid (Kp Nb wc w')) (by kernel_rfl) (by kernel_rfl) (by kernel_rfl) ?hS (VFrom.all (n := 39) (by kernel_rfl) ?hstep) ?hend
  case hstep =>
    refine VFrom.cons (VStep.val _ rfl _ rfl (.bool true) rfl trivial (fun ev wq hS he hr => ?_)) ?_
    · have r0 : ev (.tmp 26) = .bool true := hr (26, none) (by simp); have hk := he.1; clear hr he
      go_simp
    refine VFrom.cons (VStep.val _ rfl _ rfl (.pointer (some ⟨D, 3, none⟩)) rfl trivial (fun ev wq hS he hr => ?_)) ?_
    · have r0 : ev (.tmp 19) = .pointer (some ⟨D, 0, none⟩) := hr (19, none) (by simp); have hk := he.1; clear hr he
      go_simp
    refine VFrom.cons (VStep.val _ rfl _ rfl (.int .i64 (i : Int)) rfl trivial (fun ev wq hS he hr => ?_)) ?_
    · have r0 : ev (.tmp 318) = .pointer (some ⟨D, 3, none⟩) := hr (318, some 1) (by simp); have hk := he.1; clear hr he
      have c0 := ((DC.out.kept hS.out (fun h => h)).cell 3).trans HO3.out
      go_simp
    refine VFrom.cons (VStep.val _ rfl _ rfl (.bool true) rfl trivial (fun ev wq hS he hr => ?_)) ?_
    · have r0 : ev (.tmp 319) = .int .i64 (i : Int) := hr (319, some 2) (by simp); have hk := he.1; clear hr he
      have e1 := GE.out
      go_simp
    refine VFrom.cons (VStep.val _ rfl _ rfl (.bool true) rfl trivial (fun ev wq hS he hr => ?_)) ?_
    · have r0 : ev (.tmp 320) = .bool true := hr (320, some 3) (by simp); have hk := he.1; clear hr he
      go_simp
    refine VFrom.cons (VStep.val _ rfl _ rfl (.pointer (some ⟨D, 3, none⟩)) rfl rfl (fun ev wq hS he hr => ?_)) ?_
    · have r0 : ev (.tmp 19) = .pointer (some ⟨D, 0, none⟩) := hr (19, none) (by simp); have hk := he.1; clear hr he
      go_simp
    refine VFrom.cons (VStep.val _ rfl _ rfl (.int .i64 (i : Int)) rfl rfl (fun ev wq hS he hr => ?_)) ?_
    · have r0 : ev (.tmp 322) = .pointer (some ⟨D, 3, none⟩) := hr (322, some 5) (by simp); have hk := he.1; clear hr he
      have c0 := ((DC.out.kept hS.out (fun h => h)).cell 3).trans HO3.out
      go_simp
    refine VFrom.cons (VStep.val _ rfl _ rfl (.slice (some ⟨gW, 0, none⟩) Kl dW) rfl rfl (fun ev wq hS he hr => ?_)) ?_
    · have r0 : ev (.tmp 17) = .slice (some ⟨gW, 0, none⟩) Kl dW := hr (17, none) (by simp); have hk := he.1; clear hr he
      go_simp
    refine VFrom.cons (VStep.val _ rfl _ rfl (.int .i64 (a : Int)) rfl rfl (fun ev wq hS he hr => ?_)) ?_
    · have r0 : ev (.tmp 20) = .int .i64 (a : Int) := hr (20, none) (by simp); have hk := he.1; clear hr he
      go_simp
    refine VFrom.cons (VStep.val _ rfl _ rfl (.pointer (some ⟨gW, a, none⟩)) rfl rfl (fun ev wq hS he hr => ?_)) ?_
    · have r0 : ev (.tmp 324) = .slice (some ⟨gW, 0, none⟩) Kl dW := hr (324, some 7) (by simp); have r1 : ev (.tmp 325) = .int .i64 (a : Int) := hr (325, some 8) (by simp); have hk := he.1; clear hr he
      have e1 := HAB.out.1; have e2 := HDA.out
      go_simp
    refine VFrom.cons (VStep.val _ rfl _ rfl (.slice (some ⟨bq, oq, none⟩) Lq dq) rfl rfl (fun ev wq hS he hr => ?_)) ?_
    · have r0 : ev (.tmp 326) = .pointer (some ⟨gW, a, none⟩) := hr (326, some 9) (by simp); have hk := he.1; clear hr he
      have c0 := hS.out.cell CW.out (fun h => h)
      go_simp
    refine VFrom.cons (VStep.val _ rfl _ rfl (.int .i64 (Lq : Int)) rfl rfl (fun ev wq hS he hr => ?_)) ?_
    · have r0 : ev (.tmp 327) = .slice (some ⟨bq, oq, none⟩) Lq dq := hr (327, some 10) (by simp); have hk := he.1; clear hr he
      go_simp
    refine VFrom.cons (VStep.val _ rfl _ rfl (.bool true) rfl rfl (fun ev wq hS he hr => ?_)) ?_
    · have r0 : ev (.tmp 323) = .int .i64 (i : Int) := hr (323, some 6) (by simp); have r1 : ev (.tmp 328) = .int .i64 (Lq : Int) := hr (328, some 11) (by simp); have hk := he.1; clear hr he
      have e1 := LT.out
      go_simp
    refine VFrom.cons (VStep.val _ rfl _ rfl (.bool true) rfl trivial (fun ev wq hS he hr => ?_)) ?_
    · have r0 : ev (.tmp 321) = .bool true := hr (321, some 4) (by simp); have r1 : ev (.tmp 329) = .bool true := hr (329, some 12) (by simp); have hk := he.1; clear hr he
      go_simp
    refine VFrom.cons (VStep.val _ rfl _ rfl (.bool false) rfl trivial (fun ev wq hS he hr => ?_)) ?_
    · have r0 : ev (.tmp 317) = .bool true := hr (317, some 0) (by simp); have r1 : ev (.tmp 330) = .bool true := hr (330, some 13) (by simp); have hk := he.1; clear hr he
      go_simp
    refine VFrom.cons (VStep.val _ rfl _ rfl (.bool false) rfl trivial (fun ev wq hS he hr => ?_)) ?_
    · have r0 : ev (.tmp 331) = .bool false := hr (331, some 14) (by simp); have hk := he.1; clear hr he
      go_simp
    refine VFrom.cons (VStep.val _ rfl _ rfl (.bool true) rfl rfl (fun ev wq hS he hr => ?_)) ?_
    · have r0 : ev (.tmp 26) = .bool true := hr (26, none) (by simp); have hk := he.1; clear hr he
      go_simp
    refine VFrom.cons (VStep.val _ rfl _ rfl (.bool true) rfl rfl (fun ev wq hS he hr => ?_)) ?_
    · have r0 : ev (.tmp 333) = .bool true := hr (333, some 16) (by simp); have hk := he.1; clear hr he
      go_simp
    refine VFrom.cons (VStep.val _ rfl _ rfl (cv x) rfl rfl (fun ev wq hS he hr => ?_)) ?_
    · have r0 : ev (.tmp 25) = .pointer (some ⟨E, 0, none⟩) := hr (25, none) (by simp); have hk := he.1; clear hr he
      exact exec_load rfl r0 (load_cell OX.out (range_of (BX.out.kept hS.out (fun h => h))))
    refine VFrom.cons (VStep.val _ rfl _ rfl (.slice (some ⟨gW, 0, none⟩) Kl dW) rfl rfl (fun ev wq hS he hr => ?_)) ?_
    · have r0 : ev (.tmp 17) = .slice (some ⟨gW, 0, none⟩) Kl dW := hr (17, none) (by simp); have hk := he.1; clear hr he
      go_simp
    refine VFrom.cons (VStep.val _ rfl _ rfl (.int .i64 (a : Int)) rfl rfl (fun ev wq hS he hr => ?_)) ?_
    · have r0 : ev (.tmp 20) = .int .i64 (a : Int) := hr (20, none) (by simp); have hk := he.1; clear hr he
      go_simp
    refine VFrom.cons (VStep.val _ rfl _ rfl (.pointer (some ⟨gW, a, none⟩)) rfl rfl (fun ev wq hS he hr => ?_)) ?_
    · have r0 : ev (.tmp 336) = .slice (some ⟨gW, 0, none⟩) Kl dW := hr (336, some 19) (by simp); have r1 : ev (.tmp 337) = .int .i64 (a : Int) := hr (337, some 20) (by simp); have hk := he.1; clear hr he
      have e1 := HAB.out.1; have e2 := HDA.out
      go_simp
    refine VFrom.cons (VStep.val _ rfl _ rfl (.slice (some ⟨bq, oq, none⟩) Lq dq) rfl rfl (fun ev wq hS he hr => ?_)) ?_
    · have r0 : ev (.tmp 338) = .pointer (some ⟨gW, a, none⟩) := hr (338, some 21) (by simp); have hk := he.1; clear hr he
      have c0 := hS.out.cell CW.out (fun h => h)
      go_simp
    refine VFrom.cons (VStep.val _ rfl _ rfl (.pointer (some ⟨D, 3, none⟩)) rfl rfl (fun ev wq hS he hr => ?_)) ?_
    · have r0 : ev (.tmp 19) = .pointer (some ⟨D, 0, none⟩) := hr (19, none) (by simp); have hk := he.1; clear hr he
      go_simp
    refine VFrom.cons (VStep.val _ rfl _ rfl (.int .i64 (i : Int)) rfl rfl (fun ev wq hS he hr => ?_)) ?_
    · have r0 : ev (.tmp 340) = .pointer (some ⟨D, 3, none⟩) := hr (340, some 23) (by simp); have hk := he.1; clear hr he
      have c0 := ((DC.out.kept hS.out (fun h => h)).cell 3).trans HO3.out
      go_simp
    refine VFrom.cons (VStep.val _ rfl _ rfl (.pointer (some ⟨bq, oq + i * 18, none⟩)) rfl rfl (fun ev wq hS he hr => ?_)) ?_
    · have r0 : ev (.tmp 339) = .slice (some ⟨bq, oq, none⟩) Lq dq := hr (339, some 22) (by simp); have r1 : ev (.tmp 341) = .int .i64 (i : Int) := hr (341, some 24) (by simp); have hk := he.1; clear hr he
      have e1 := IX.out
      go_simp
    refine VFrom.cons (VStep.val _ rfl _ rfl (cv x) rfl rfl (fun ev wq hS he hr => ?_)) ?_
    · have r0 : ev (.tmp 342) = .pointer (some ⟨bq, oq + i * 18, none⟩) := hr (342, some 25) (by simp); have hk := he.1; clear hr he
      exact exec_load rfl r0 (load_cell OX.out (range_kept RX.out hS.out))
    refine VFrom.cons (VStep.val _ rfl _ rfl (.bool false) rfl rfl (fun ev wq hS he hr => ?_)) ?_
    · have r0 : ev (.tmp 335) = cv x := hr (335, some 18) (by simp); have r1 : ev (.tmp 343) = cv x := hr (343, some 26) (by simp); have hk := he.1; clear hr he
      exact eq_neCell OX.out rfl r0 r1
    refine VFrom.cons (VStep.val _ rfl _ rfl (.bool false) rfl rfl (fun ev wq hS he hr => ?_)) ?_
    · have r0 : ev (.tmp 334) = .bool true := hr (334, some 17) (by simp); have r1 : ev (.tmp 344) = .bool false := hr (344, some 27) (by simp); have hk := he.1; clear hr he
      go_simp
    refine VFrom.cons (VStep.val _ rfl _ rfl (.bool false) rfl trivial (fun ev wq hS he hr => ?_)) ?_
    · have r0 : ev (.tmp 332) = .bool false := hr (332, some 15) (by simp); have r1 : ev (.tmp 345) = .bool false := hr (345, some 28) (by simp); have hk := he.1; clear hr he
      go_simp
    refine VFrom.cons (VStep.val _ rfl _ rfl (.bool false) rfl trivial (fun ev wq hS he hr => ?_)) ?_
    · have r0 : ev (.tmp 346) = .bool false := hr (346, some 29) (by simp); have hk := he.1; clear hr he
      go_simp
    refine VFrom.cons (VStep.val _ rfl _ rfl (.bool true) rfl rfl (fun ev wq hS he hr => ?_)) ?_
    · have r0 : ev (.tmp 26) = .bool true := hr (26, none) (by simp); have hk := he.1; clear hr he
      go_simp
    refine VFrom.cons (VStep.val _ rfl _ rfl (.bool false) rfl rfl (fun ev wq hS he hr => ?_)) ?_
    · have r0 : ev (.tmp 348) = .bool true := hr (348, some 31) (by simp); have hk := he.1; clear hr he
      go_simp
    refine VFrom.cons (VStep.val _ rfl _ rfl (.bool false) rfl rfl (fun ev wq hS he hr => ?_)) ?_
    · have r0 : ev (.tmp 349) = .bool false := hr (349, some 32) (by simp); have hk := he.1; clear hr he
      go_simp
    refine VFrom.cons (VStep.skip _ rfl rfl rfl) ?_
    refine VFrom.cons (VStep.skip _ rfl rfl rfl) ?_
    refine VFrom.cons (VStep.skip _ rfl rfl rfl) ?_
    refine VFrom.cons (VStep.val _ rfl _ rfl (.bool false) rfl rfl (fun ev wq hS he hr => ?_)) ?_
    · have r0 : ev (.tmp 350) = .bool false := hr (350, some 33) (by simp); have r1 : ev (.tmp 353) = undef := hr (353, some 36) (by simp); have hk := he.1; clear hr he
      go_simp
    refine VFrom.cons (VStep.val _ rfl _ rfl (.bool false) rfl trivial (fun ev wq hS he hr => ?_)) ?_
    · have r0 : ev (.tmp 347) = .bool false := hr (347, some 30) (by simp); have r1 : ev (.tmp 354) = .bool false := hr (354, some 37) (by simp); have hk := he.1; clear hr he
      go_simp
    exact VFrom.nil
  case hS => exact hS
  case hend =>
    intro wy hy
    simp only [putAll, List.zip_cons_cons, List.zip_nil_right, List.foldl_cons, List.foldl_nil, Act.put, List.setIfInBounds_toArray, List.set_cons_zero, List.set_cons_succ]
    exact hend wy hy
set_option maxRecDepth 100000 in
set_option maxHeartbeats 16000000 in
theorem ip_r49 (HAB : Hid (a < Kl ∧ b < Kl)) (HDA : Hid (Kl ≤ dA ∧ dA ≤ maxLen ∧ Kl ≤ dW ∧ dW ≤ maxLen)) (CW : Hid (wc.cell? ⟨gW, a, none⟩ = some (.slice (some ⟨bq, oq, none⟩) Lq dq))) (CE : Hid (∀ wq, Kp Nb wc wq → Calls Try.prog 15 #[.pointer (some ⟨qB, 0, none⟩)] wq fun e w' => e = .returned (.bool eb) ∧ Kp Nb wq w')) (CZ : Hid (∀ wq, Kp Nb wc wq → Calls Try.prog 14 #[.pointer (some ⟨qB, 0, none⟩)] wq fun e w' => e = .returned (.int .i64 (Lq : Int)) ∧ wq = w')) (CG : Hid (∀ wq, Kp Nb wc wq → Calls Try.prog 23 #[.pointer (some ⟨qB, 0, none⟩), .int .i64 100] wq fun e w' => ∃ v, e = .returned v ∧ RowsSl cl c0 18 w' v qc ∧ Kp Nb wq w')) (RQ : Hid (RowsSl cl c0 18 wc (.slice (some ⟨bq, oq, none⟩) Lq dq) qc)) (HQO : Hid (AllOk qc)) (HEB : Hid (emptyB qc = eb)) (EB : Hid ((eb != eb) = false)) (HLQ : Hid (qc.length = Lq)) (HL6 : Hid (Lq ≤ 60)) (LE : Hid (((Lq : Int) == (Lq : Int)) = true)) (LE2 : Hid (((Lq : Int) != (Lq : Int)) = false)) (Q : Exit → Act → World → Prop)
    (hS : (fun (bs : List Bool) (g : Value × Value) (wq : World) => Hid (S49 wc qc Lq (bs.getD 0 false) (bs.getD 1 false) g wq)) [false, false] ((undef, undef)) wc.drew) (hend : ∀ (g : Value × Value) wy, (fun (bs : List Bool) (g : Value × Value) (wq : World) => Hid (S49 wc qc Lq (bs.getD 0 false) (bs.getD 1 false) g wq)) [true, true] g wy → Q .normal ⟨[u0, u1, u2, u3, u4, u5, u6, u7, u8, u9, u10, u11, u12, u13, u14, u15, u16, .slice (some ⟨gW, 0, none⟩) Kl dW, u18, u19, u20, u21, u22, u23, u24, u25, u26, .int .i64 (a : Int), .pointer (some ⟨qB, 0, none⟩), u29, u30, u31, u32, u33, u34, u35, u36, u37, u38, u39, u40, u41, u42, u43, u44, u45, u46, u47, u48, u49, u50, u51, u52, u53, u54, u55, u56, u57, u58, u59, u60, u61, u62, u63, u64, u65, u66, u67, u68, u69, u70, u71, u72, u73, u74, u75, u76, u77, u78, u79, u80, u81, u82, u83, u84, u85, u86, u87, u88, u89, u90, u91, u92, u93, u94, u95, u96, u97, u98, u99, u100, u101, u102, u103, u104, u105, u106, u107, u108, u109, u110, u111, u112, u113, u114, u115, u116, u117, u118, u119, u120, u121, u122, u123, u124, u125, u126, u127, u128, u129, u130, u131, u132, u133, u134, u135, u136, u137, u138, u139, u140, u141, u142, u143, u144, u145, u146, u147, u148, u149, u150, u151, u152, u153, u154, u155, u156, u157, u158, u159, u160, u161, u162, u163, u164, u165, u166, u167, u168, u169, u170, u171, u172, u173, u174, u175, u176, u177, u178, u179, u180, u181, u182, u183, u184, u185, u186, u187, u188, u189, u190, u191, u192, u193, u194, u195, u196, u197, u198, u199, u200, u201, u202, u203, u204, u205, u206, u207, u208, u209, u210, u211, u212, u213, u214, u215, u216, u217, u218, u219, u220, u221, u222, u223, u224, u225, u226, u227, u228, u229, u230, u231, u232, u233, u234, u235, u236, u237, u238, u239, u240, u241, u242, u243, u244, u245, u246, u247, u248, u249, u250, u251, u252, u253, u254, u255, u256, u257, u258, u259, u260, u261, u262, u263, u264, u265, u266, u267, u268, u269, u270, u271, u272, u273, u274, u275, u276, u277, u278, u279, u280, u281, u282, u283, u284, u285, u286, u287, u288, u289, u290, u291, u292, u293, u294, u295, u296, u297, u298, u299, u300, u301, u302, u303, u304, u305, u306, u307, u308, u309, u310, u311, u312, u313, u314, u315, u316, u317, u318, u319, u320, u321, u322, u323, u324, u325, u326, u327, u328, u329, u330, u331, u332, u333, u334, u335, u336, u337, u338, u339, u340, u341, u342, u343, u344, u345, u346, u347, u348, u349, u350, u351, u352, u353, u354, u355, u356, u357, u358, u359, u360, u361, u362, u363, .pointer (some ⟨qB, 0, none⟩), g.1, .slice (some ⟨gW, 0, none⟩) Kl dW, .int .i64 (a : Int), .pointer (some ⟨gW, a, none⟩), .slice (some ⟨bq, oq, none⟩) Lq dq, .bool true, .bool false, .bool false, .pointer (some ⟨qB, 0, none⟩), .bool eb, .slice (some ⟨gW, 0, none⟩) Kl dW, .int .i64 (a : Int), .pointer (some ⟨gW, a, none⟩), .slice (some ⟨bq, oq, none⟩) Lq dq, .slice (some ⟨gW, 0, none⟩) Kl dW, .int .i64 (a : Int), .pointer (some ⟨gW, a, none⟩), .slice (some ⟨bq, oq, none⟩) Lq dq, .int .i64 (Lq : Int), g.2, .bool eb, .bool false, .bool false, .bool false, .pointer (some ⟨qB, 0, none⟩), .int .i64 (Lq : Int), .slice (some ⟨gW, 0, none⟩) Kl dW, .int .i64 (a : Int), .pointer (some ⟨gW, a, none⟩), .slice (some ⟨bq, oq, none⟩) Lq dq, .int .i64 (Lq : Int), .bool false, .bool false, u398].toArray, dd⟩ wy) :
    (ip_c49).1.wp Try.prog Q ⟨[u0, u1, u2, u3, u4, u5, u6, u7, u8, u9, u10, u11, u12, u13, u14, u15, u16, .slice (some ⟨gW, 0, none⟩) Kl dW, u18, u19, u20, u21, u22, u23, u24, u25, u26, .int .i64 (a : Int), .pointer (some ⟨qB, 0, none⟩), u29, u30, u31, u32, u33, u34, u35, u36, u37, u38, u39, u40, u41, u42, u43, u44, u45, u46, u47, u48, u49, u50, u51, u52, u53, u54, u55, u56, u57, u58, u59, u60, u61, u62, u63, u64, u65, u66, u67, u68, u69, u70, u71, u72, u73, u74, u75, u76, u77, u78, u79, u80, u81, u82, u83, u84, u85, u86, u87, u88, u89, u90, u91, u92, u93, u94, u95, u96, u97, u98, u99, u100, u101, u102, u103, u104, u105, u106, u107, u108, u109, u110, u111, u112, u113, u114, u115, u116, u117, u118, u119, u120, u121, u122, u123, u124, u125, u126, u127, u128, u129, u130, u131, u132, u133, u134, u135, u136, u137, u138, u139, u140, u141, u142, u143, u144, u145, u146, u147, u148, u149, u150, u151, u152, u153, u154, u155, u156, u157, u158, u159, u160, u161, u162, u163, u164, u165, u166, u167, u168, u169, u170, u171, u172, u173, u174, u175, u176, u177, u178, u179, u180, u181, u182, u183, u184, u185, u186, u187, u188, u189, u190, u191, u192, u193, u194, u195, u196, u197, u198, u199, u200, u201, u202, u203, u204, u205, u206, u207, u208, u209, u210, u211, u212, u213, u214, u215, u216, u217, u218, u219, u220, u221, u222, u223, u224, u225, u226, u227, u228, u229, u230, u231, u232, u233, u234, u235, u236, u237, u238, u239, u240, u241, u242, u243, u244, u245, u246, u247, u248, u249, u250, u251, u252, u253, u254, u255, u256, u257, u258, u259, u260, u261, u262, u263, u264, u265, u266, u267, u268, u269, u270, u271, u272, u273, u274, u275, u276, u277, u278, u279, u280, u281, u282, u283, u284, u285, u286, u287, u288, u289, u290, u291, u292, u293, u294, u295, u296, u297, u298, u299, u300, u301, u302, u303, u304, u305, u306, u307, u308, u309, u310, u311, u312, u313, u314, u315, u316, u317, u318, u319, u320, u321, u322, u323, u324, u325, u326, u327, u328, u329, u330, u331, u332, u333, u334, u335, u336, u337, u338, u339, u340, u341, u342, u343, u344, u345, u346, u347, u348, u349, u350, u351, u352, u353, u354, u355, u356, u357, u358, u359, u360, u361, u362, u363, u364, u365, u366, u367, u368, u369, u370, u371, u372, u373, u374, u375, u376, u377, u378, u379, u380, u381, u382, u383, u384, u385, u386, u387, u388, u389, u390, u391, u392, u393, u394, u395, u396, u397, u398].toArray, dd⟩ wc := by
  change Code.wp _ (Code.region _ _ _) _ _ _
  refine region_ghost (g0 := ((undef, undef) : Value × Value)) [none, none, none, none, none, none, none, none, none, none, none, none, none, none, none, none, none, none, none, none, none, none, none, none, none, none, none, none, none, none, none, none, none, none, none, none, none, none, none, none, none, none, none, none, none, none, none, none, none, none, none, none, none, none, none, none, none, none, none, none, none, none, none, none, none, none, none, none, none, none, none, none, none, none, none, none, none, none, none, none, none, none, none, none, none, none, none, none, none, none, none, none, none, none, none, none, none, none, none, none, none, none, none, none, none, none, none, none, none, none, none, none, none, none, none, none, none, none, none, none, none, none, none, none, none, none, none, none, none, none, none, none, none, none, none, none, none, none, none, none, none, none, none, none, none, none, none, none, none, none, none, none, none, none, none, none, none, none, none, none, none, none, none, none, none, none, none, none, none, none, none, none, none, none, none, none, none, none, none, none, none, none, none, none, none, none, none, none, none, none, none, none, none, none, none, none, none, none, none, none, none, none, none, none, none, none, none, none, none, none, none, none, none, none, none, none, none, none, none, none, none, none, none, none, none, none, none, none, none, none, none, none, none, none, none, none, none, none, none, none, none, none, none, none, none, none, none, none, none, none, none, none, none, none, none, none, none, none, none, none, none, none, none, none, none, none, none, none, none, none, none, none, none, none, none, none, none, none, none, none, none, none, none, none, none, none, none, none, none, none, none, none, none, none, none, none, none, none, none, none, none, none, none, none, none, none, none, none, none, none, none, none, none, none, none, none, none, none, none, none, none, none, none, none, none, none, none, none, none, none, none, none, none, none, none, none, none, none, none, none, none, none, none, none, none, none, none, none, none, none, none, none, none, none, none, none, none, none, none, none, none, none, none, none, some 0, some 1, some 2, some 3, some 4, some 5, some 6, some 7, some 8, some 9, some 10, some 11, some 12, some 13, some 14, some 15, some 16, some 17, some 18, some 19, some 20, some 21, some 22, some 23, some 24, some 25, some 26, some 27, some 28, some 29, some 30, some 31, some 32, some 33, none] [[(28, none)], [(364, some 0)], [(17, none)], [(27, none)], [(366, some 2), (367, some 3)], [(368, some 4)], [(365, some 1), (369, some 5)], [(370, some 6)], [(371, some 7)], [(28, none)], [(373, some 9)], [(17, none)], [(27, none)], [(375, some 11), (376, some 12)], [(377, some 13)], [(17, none)], [(27, none)], [(379, some 15), (380, some 16)], [(381, some 17)], [(382, some 18)], [(383, some 19)], [(378, some 14), (384, some 20)], [(374, some 10), (385, some 21)], [(372, some 8), (386, some 22)], [(387, some 23)], [(28, none)], [(389, some 25)], [(17, none)], [(27, none)], [(391, some 27), (392, some 28)], [(393, some 29)], [(394, some 30)], [(390, some 26), (395, some 31)], [(388, some 24), (396, some 32)]] [some 364, some 365, some 366, some 367, some 368, some 369, some 370, some 371, some 372, some 373, some 374, some 375, some 376, some 377, some 378, some 379, some 380, some 381, some 382, some 383, some 384, some 385, some 386, some 387, some 388, some 389, some 390, some 391, some 392, some 393, some 394, some 395, some 396, some 397] (fun g => [.pointer (some ⟨qB, 0, none⟩), g.1, .slice (some ⟨gW, 0, none⟩) Kl dW, .int .i64 (a : Int), .pointer (some ⟨gW, a, none⟩), .slice (some ⟨bq, oq, none⟩) Lq dq, .bool true, .bool false, .bool false, .pointer (some ⟨qB, 0, none⟩), .bool eb, .slice (some ⟨gW, 0, none⟩) Kl dW, .int .i64 (a : Int), .pointer (some ⟨gW, a, none⟩), .slice (some ⟨bq, oq, none⟩) Lq dq, .slice (some ⟨gW, 0, none⟩) Kl dW, .int .i64 (a : Int), .pointer (some ⟨gW, a, none⟩), .slice (some ⟨bq, oq, none⟩) Lq dq, .int .i64 (Lq : Int), g.2, .bool eb, .bool false, .bool false, .bool false, .pointer (some ⟨qB, 0, none⟩), .int .i64 (Lq : Int), .slice (some ⟨gW, 0, none⟩) Kl dW, .int .i64 (a : Int), .pointer (some ⟨gW, a, none⟩), .slice (some ⟨bq, oq, none⟩) Lq dq, .int .i64 (Lq : Int), .bool false, .bool false]) [1, 20] (fun (bs : List Bool) (g : Value × Value) (wq : World) => Hid (S49 wc qc Lq (bs.getD 0 false) (bs.getD 1 false) g wq)) (by kernel_rfl) (by kernel_rfl) (fun g => by kernel_rfl) (by kernel_rfl) ?hS (GFrom.all (n := 34) (by kernel_rfl) ?hstep) ?hend
  case hstep =>
    refine GFrom.cons (GStep.val _ rfl rfl _ rfl (fun g => .pointer (some ⟨qB, 0, none⟩)) (fun _ => rfl) (fun _ => trivial) (fun bs g ev wq hS he hr => ?_)) ?_
    · have r0 : ev (.tmp 28) = .pointer (some ⟨qB, 0, none⟩) := hr (28, none) (by simp); have hk := he.1; clear hr he
      go_simp
    refine GFrom.cons (GStep.callm _ rfl _ rfl (fun _ => trivial) 23 (fun g => #[.pointer (some ⟨qB, 0, none⟩), .int .i64 100]) (fun bs g ev wq hS he hr => ?_) (fun L g wq hL hd hcl hS => ?_)) ?_
    · have r0 : ev (.tmp 364) = .pointer (some ⟨qB, 0, none⟩) := hr (364, some 0) (by simp); have hk := he.1; have hf := he.2; clear hr he
      go_simp
    · have e : bitsAt [1, 20] L = [false, L 20] := by simp [bitsAt, hL]
      have e2 : bitsAt [1, 20] (upd L 1) = [true, L 20] := by simp [bitsAt, upd]
      rw [e] at hS
      refine (CG.out wq hS.out.kp).mono ?_
      rintro e w' ⟨v', rfl, hr, kn⟩
      have h' := hS.out.keptN kn
      exact ⟨_, (v', g.2), rfl, rfl, old_set _ hL rfl, by rw [e2]; exact hid ⟨h'.kp, fun _ => hr, h'.h2⟩⟩
    refine GFrom.cons (GStep.val _ rfl rfl _ rfl (fun g => .slice (some ⟨gW, 0, none⟩) Kl dW) (fun _ => rfl) (fun _ => trivial) (fun bs g ev wq hS he hr => ?_)) ?_
    · have r0 : ev (.tmp 17) = .slice (some ⟨gW, 0, none⟩) Kl dW := hr (17, none) (by simp); have hk := he.1; clear hr he
      go_simp
    refine GFrom.cons (GStep.val _ rfl rfl _ rfl (fun g => .int .i64 (a : Int)) (fun _ => rfl) (fun _ => trivial) (fun bs g ev wq hS he hr => ?_)) ?_
    · have r0 : ev (.tmp 27) = .int .i64 (a : Int) := hr (27, none) (by simp); have hk := he.1; clear hr he
      go_simp
    refine GFrom.cons (GStep.val _ rfl rfl _ rfl (fun g => .pointer (some ⟨gW, a, none⟩)) (fun _ => rfl) (fun _ => trivial) (fun bs g ev wq hS he hr => ?_)) ?_
    · have r0 : ev (.tmp 366) = .slice (some ⟨gW, 0, none⟩) Kl dW := hr (366, some 2) (by simp); have r1 : ev (.tmp 367) = .int .i64 (a : Int) := hr (367, some 3) (by simp); have hk := he.1; clear hr he
      have e1 := HAB.out.1; have e2 := HDA.out
      go_simp
    refine GFrom.cons (GStep.val _ rfl rfl _ rfl (fun g => .slice (some ⟨bq, oq, none⟩) Lq dq) (fun _ => rfl) (fun _ => trivial) (fun bs g ev wq hS he hr => ?_)) ?_
    · have r0 : ev (.tmp 368) = .pointer (some ⟨gW, a, none⟩) := hr (368, some 4) (by simp); have hk := he.1; clear hr he
      have c0 := hS.out.kp.cell CW.out (fun h => h)
      go_simp
    refine GFrom.cons (GStep.callm _ rfl _ rfl (fun _ => trivial) 26 (fun g => #[g.1, .slice (some ⟨bq, oq, none⟩) Lq dq]) (fun bs g ev wq hS he hr => ?_) (fun L g wq hL hd hcl hS => ?_)) ?_
    · have r0 : ev (.tmp 365) = g.1 := hr (365, some 1) (by simp); have r1 : ev (.tmp 369) = .slice (some ⟨bq, oq, none⟩) Lq dq := hr (369, some 5) (by simp); have hk := he.1; have hf := he.2; clear hr he
      go_simp
    · have l1 : L 1 = true := hd 1 (by kernel_rfl)
      have hr := hS.out.h1 (by simp [bitsAt, l1])
      refine (rsame_any _ _ _ _ wq hr (RQ.out.kept hS.out.kp) HQO.out HQO.out (by have := HLQ.out; have := HL6.out; omega)).mono ?_
      rintro e w' ⟨rfl, kn⟩
      exact ⟨_, g, rfl, by rw [sameB_self]; rfl, fun _ _ => rfl, by rw [bitsAt_upd (by rfl)]; exact hid (hS.out.keptN kn)⟩
    refine GFrom.cons (GStep.val _ rfl rfl _ rfl (fun g => .bool false) (fun _ => rfl) (fun _ => trivial) (fun bs g ev wq hS he hr => ?_)) ?_
    · have r0 : ev (.tmp 370) = .bool true := hr (370, some 6) (by simp); have hk := he.1; clear hr he
      go_simp
    refine GFrom.cons (GStep.val _ rfl rfl _ rfl (fun g => .bool false) (fun _ => rfl) (fun _ => trivial) (fun bs g ev wq hS he hr => ?_)) ?_
    · have r0 : ev (.tmp 371) = .bool false := hr (371, some 7) (by simp); have hk := he.1; clear hr he
      go_simp
    refine GFrom.cons (GStep.val _ rfl rfl _ rfl (fun g => .pointer (some ⟨qB, 0, none⟩)) (fun _ => rfl) (fun _ => rfl) (fun bs g ev wq hS he hr => ?_)) ?_
    · have r0 : ev (.tmp 28) = .pointer (some ⟨qB, 0, none⟩) := hr (28, none) (by simp); have hk := he.1; clear hr he
      go_simp
    refine GFrom.cons (GStep.call _ rfl rfl _ rfl (fun g => .bool eb) (fun _ => rfl) (fun _ => rfl) 15 (fun g => #[.pointer (some ⟨qB, 0, none⟩)]) (fun bs g ev wq hS he hr => ?_) (fun L g wq hd hL hS => ?_)) ?_
    · have r0 : ev (.tmp 373) = .pointer (some ⟨qB, 0, none⟩) := hr (373, some 9) (by simp); have hk := he.1; have hf := he.2; clear hr he
      go_simp
    · exact (CE.out wq hS.out.kp).mono fun e w' ⟨h1, h2⟩ => ⟨h1, hid (hS.out.keptN h2)⟩
    refine GFrom.cons (GStep.val _ rfl rfl _ rfl (fun g => .slice (some ⟨gW, 0, none⟩) Kl dW) (fun _ => rfl) (fun _ => rfl) (fun bs g ev wq hS he hr => ?_)) ?_
    · have r0 : ev (.tmp 17) = .slice (some ⟨gW, 0, none⟩) Kl dW := hr (17, none) (by simp); have hk := he.1; clear hr he
      go_simp
    refine GFrom.cons (GStep.val _ rfl rfl _ rfl (fun g => .int .i64 (a : Int)) (fun _ => rfl) (fun _ => rfl) (fun bs g ev wq hS he hr => ?_)) ?_
    · have r0 : ev (.tmp 27) = .int .i64 (a : Int) := hr (27, none) (by simp); have hk := he.1; clear hr he
      go_simp
    refine GFrom.cons (GStep.val _ rfl rfl _ rfl (fun g => .pointer (some ⟨gW, a, none⟩)) (fun _ => rfl) (fun _ => rfl) (fun bs g ev wq hS he hr => ?_)) ?_
    · have r0 : ev (.tmp 375) = .slice (some ⟨gW, 0, none⟩) Kl dW := hr (375, some 11) (by simp); have r1 : ev (.tmp 376) = .int .i64 (a : Int) := hr (376, some 12) (by simp); have hk := he.1; clear hr he
      have e1 := HAB.out.1; have e2 := HDA.out
      go_simp
    refine GFrom.cons (GStep.val _ rfl rfl _ rfl (fun g => .slice (some ⟨bq, oq, none⟩) Lq dq) (fun _ => rfl) (fun _ => rfl) (fun bs g ev wq hS he hr => ?_)) ?_
    · have r0 : ev (.tmp 377) = .pointer (some ⟨gW, a, none⟩) := hr (377, some 13) (by simp); have hk := he.1; clear hr he
      have c0 := hS.out.kp.cell CW.out (fun h => h)
      go_simp
    refine GFrom.cons (GStep.val _ rfl rfl _ rfl (fun g => .slice (some ⟨gW, 0, none⟩) Kl dW) (fun _ => rfl) (fun _ => rfl) (fun bs g ev wq hS he hr => ?_)) ?_
    · have r0 : ev (.tmp 17) = .slice (some ⟨gW, 0, none⟩) Kl dW := hr (17, none) (by simp); have hk := he.1; clear hr he
      go_simp
    refine GFrom.cons (GStep.val _ rfl rfl _ rfl (fun g => .int .i64 (a : Int)) (fun _ => rfl) (fun _ => rfl) (fun bs g ev wq hS he hr => ?_)) ?_
    · have r0 : ev (.tmp 27) = .int .i64 (a : Int) := hr (27, none) (by simp); have hk := he.1; clear hr he
      go_simp
    refine GFrom.cons (GStep.val _ rfl rfl _ rfl (fun g => .pointer (some ⟨gW, a, none⟩)) (fun _ => rfl) (fun _ => rfl) (fun bs g ev wq hS he hr => ?_)) ?_
    · have r0 : ev (.tmp 379) = .slice (some ⟨gW, 0, none⟩) Kl dW := hr (379, some 15) (by simp); have r1 : ev (.tmp 380) = .int .i64 (a : Int) := hr (380, some 16) (by simp); have hk := he.1; clear hr he
      have e1 := HAB.out.1; have e2 := HDA.out
      go_simp
    refine GFrom.cons (GStep.val _ rfl rfl _ rfl (fun g => .slice (some ⟨bq, oq, none⟩) Lq dq) (fun _ => rfl) (fun _ => rfl) (fun bs g ev wq hS he hr => ?_)) ?_
    · have r0 : ev (.tmp 381) = .pointer (some ⟨gW, a, none⟩) := hr (381, some 17) (by simp); have hk := he.1; clear hr he
      have c0 := hS.out.kp.cell CW.out (fun h => h)
      go_simp
    refine GFrom.cons (GStep.val _ rfl rfl _ rfl (fun g => .int .i64 (Lq : Int)) (fun _ => rfl) (fun _ => rfl) (fun bs g ev wq hS he hr => ?_)) ?_
    · have r0 : ev (.tmp 382) = .slice (some ⟨bq, oq, none⟩) Lq dq := hr (382, some 18) (by simp); have hk := he.1; clear hr he
      go_simp
    refine GFrom.cons (GStep.make _ rfl _ rfl (fun _ => rfl) (fun L g ev wq hL hd hcl hS he hr => ?_)) ?_
    · have r0 : ev (.tmp 383) = .int .i64 (Lq : Int) := hr (383, some 19) (by simp); clear hr he
      have l21 : L 21 = false := by cases h : L 21 with | false => rfl | true => (have := hcl 21 _ rfl h 20 (by kernel_rfl); rw [hL] at this; cases this)
      have e : bitsAt [1, 20] L = [L 1, false] := by simp [bitsAt, hL]
      have e2 : bitsAt [1, 20] (upd L 20) = [L 1, true] := by simp [bitsAt, upd]
      rw [e] at hS
      have kn := (Kp.refl Nb wq).alloc (.cells (rws (zeroS Lq)).toArray 41)
      have h' := hS.out.keptN kn
      exact ⟨.slice (some ⟨wq.heap.size, 0, none⟩) Lq Lq, (g.1, .slice (some ⟨wq.heap.size, 0, none⟩) Lq Lq), _, exec_makeSliceQ rfl r0 r0 (make_zero wq Lq (by have := HL6.out; omega)), rfl, old_set _ hL rfl, by rw [e2]; exact hid ⟨h'.kp, h'.h1, fun _ => zero_rows wq Lq (by have := HL6.out; omega)⟩⟩
    refine GFrom.cons (GStep.callm _ rfl _ rfl (fun _ => rfl) 26 (fun g => #[.slice (some ⟨bq, oq, none⟩) Lq dq, g.2]) (fun bs g ev wq hS he hr => ?_) (fun L g wq hL hd hcl hS => ?_)) ?_
    · have r0 : ev (.tmp 378) = .slice (some ⟨bq, oq, none⟩) Lq dq := hr (378, some 14) (by simp); have r1 : ev (.tmp 384) = g.2 := hr (384, some 20) (by simp); have hk := he.1; have hf := he.2; clear hr he
      go_simp
    · have l20 : L 20 = true := hd 20 (by kernel_rfl)
      have hr := hS.out.h2 (by simp [bitsAt, l20])
      refine (rsame_any _ _ _ _ wq (RQ.out.kept hS.out.kp) hr HQO.out (zeroS_ok _) (by have := HLQ.out; have := HL6.out; omega)).mono ?_
      rintro e w' ⟨rfl, kn⟩
      exact ⟨_, g, rfl, by rw [← HLQ.out, sameB_zero, HEB.out]; rfl, fun _ _ => rfl, by rw [bitsAt_upd (by rfl)]; exact hid (hS.out.keptN kn)⟩
    refine GFrom.cons (GStep.val _ rfl rfl _ rfl (fun g => .bool false) (fun _ => rfl) (fun _ => rfl) (fun bs g ev wq hS he hr => ?_)) ?_
    · have r0 : ev (.tmp 374) = .bool eb := hr (374, some 10) (by simp); have r1 : ev (.tmp 385) = .bool eb := hr (385, some 21) (by simp); have hk := he.1; clear hr he
      have e1 := EB.out
      go_simp
    refine GFrom.cons (GStep.val _ rfl rfl _ rfl (fun g => .bool false) (fun _ => rfl) (fun _ => trivial) (fun bs g ev wq hS he hr => ?_)) ?_
    · have r0 : ev (.tmp 372) = .bool false := hr (372, some 8) (by simp); have r1 : ev (.tmp 386) = .bool false := hr (386, some 22) (by simp); have hk := he.1; clear hr he
      go_simp
    refine GFrom.cons (GStep.val _ rfl rfl _ rfl (fun g => .bool false) (fun _ => rfl) (fun _ => trivial) (fun bs g ev wq hS he hr => ?_)) ?_
    · have r0 : ev (.tmp 387) = .bool false := hr (387, some 23) (by simp); have hk := he.1; clear hr he
      go_simp
    refine GFrom.cons (GStep.val _ rfl rfl _ rfl (fun g => .pointer (some ⟨qB, 0, none⟩)) (fun _ => rfl) (fun _ => rfl) (fun bs g ev wq hS he hr => ?_)) ?_
    · have r0 : ev (.tmp 28) = .pointer (some ⟨qB, 0, none⟩) := hr (28, none) (by simp); have hk := he.1; clear hr he
      go_simp
    refine GFrom.cons (GStep.call _ rfl rfl _ rfl (fun g => .int .i64 (Lq : Int)) (fun _ => rfl) (fun _ => rfl) 14 (fun g => #[.pointer (some ⟨qB, 0, none⟩)]) (fun bs g ev wq hS he hr => ?_) (fun L g wq hd hL hS => ?_)) ?_
    · have r0 : ev (.tmp 389) = .pointer (some ⟨qB, 0, none⟩) := hr (389, some 25) (by simp); have hk := he.1; have hf := he.2; clear hr he
      go_simp
    · exact (CZ.out wq hS.out.kp).mono fun e w' ⟨h1, h2⟩ => ⟨h1, by rw [← h2]; exact hS⟩
    refine GFrom.cons (GStep.val _ rfl rfl _ rfl (fun g => .slice (some ⟨gW, 0, none⟩) Kl dW) (fun _ => rfl) (fun _ => rfl) (fun bs g ev wq hS he hr => ?_)) ?_
    · have r0 : ev (.tmp 17) = .slice (some ⟨gW, 0, none⟩) Kl dW := hr (17, none) (by simp); have hk := he.1; clear hr he
      go_simp
    refine GFrom.cons (GStep.val _ rfl rfl _ rfl (fun g => .int .i64 (a : Int)) (fun _ => rfl) (fun _ => rfl) (fun bs g ev wq hS he hr => ?_)) ?_
    · have r0 : ev (.tmp 27) = .int .i64 (a : Int) := hr (27, none) (by simp); have hk := he.1; clear hr he
      go_simp
    refine GFrom.cons (GStep.val _ rfl rfl _ rfl (fun g => .pointer (some ⟨gW, a, none⟩)) (fun _ => rfl) (fun _ => rfl) (fun bs g ev wq hS he hr => ?_)) ?_
    · have r0 : ev (.tmp 391) = .slice (some ⟨gW, 0, none⟩) Kl dW := hr (391, some 27) (by simp); have r1 : ev (.tmp 392) = .int .i64 (a : Int) := hr (392, some 28) (by simp); have hk := he.1; clear hr he
      have e1 := HAB.out.1; have e2 := HDA.out
      go_simp
    refine GFrom.cons (GStep.val _ rfl rfl _ rfl (fun g => .slice (some ⟨bq, oq, none⟩) Lq dq) (fun _ => rfl) (fun _ => rfl) (fun bs g ev wq hS he hr => ?_)) ?_
    · have r0 : ev (.tmp 393) = .pointer (some ⟨gW, a, none⟩) := hr (393, some 29) (by simp); have hk := he.1; clear hr he
      have c0 := hS.out.kp.cell CW.out (fun h => h)
      go_simp
    refine GFrom.cons (GStep.val _ rfl rfl _ rfl (fun g => .int .i64 (Lq : Int)) (fun _ => rfl) (fun _ => rfl) (fun bs g ev wq hS he hr => ?_)) ?_
    · have r0 : ev (.tmp 394) = .slice (some ⟨bq, oq, none⟩) Lq dq := hr (394, some 30) (by simp); have hk := he.1; clear hr he
      go_simp
    refine GFrom.cons (GStep.val _ rfl rfl _ rfl (fun g => .bool false) (fun _ => rfl) (fun _ => rfl) (fun bs g ev wq hS he hr => ?_)) ?_
    · have r0 : ev (.tmp 390) = .int .i64 (Lq : Int) := hr (390, some 26) (by simp); have r1 : ev (.tmp 395) = .int .i64 (Lq : Int) := hr (395, some 31) (by simp); have hk := he.1; clear hr he
      have e1 := LE.out; have e2 := LE2.out
      go_simp
    refine GFrom.cons (GStep.val _ rfl rfl _ rfl (fun g => .bool false) (fun _ => rfl) (fun _ => trivial) (fun bs g ev wq hS he hr => ?_)) ?_
    · have r0 : ev (.tmp 388) = .bool false := hr (388, some 24) (by simp); have r1 : ev (.tmp 396) = .bool false := hr (396, some 32) (by simp); have hk := he.1; clear hr he
      go_simp
    exact GFrom.nil
  case hS => exact hS
  case hend =>
    intro g wy hy
    simp only [putAll, List.zip_cons_cons, List.zip_nil_right, List.foldl_cons, List.foldl_nil, Act.put, List.setIfInBounds_toArray, List.set_cons_zero, List.set_cons_succ]
    exact hend g wy hy
end

end Go.Proofs.Yteedceepoindeaa
