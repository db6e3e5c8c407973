/-
  Layer 11: IbltPlays: the ways of an operation. Conditions: as each says.
  Layer 11: IbltPlays: the ways of an operation. Conditions: as each says.
  Layer 11: IbltPlays: the ways of an operation. Conditions: as each says.
  Layer 11: IbltPlays: the cell that is looked at, whatever it is. Condition: what stands ahead of it.
  Layer 11: the law IbltPlays where one of the two sketches may not be. Condition: what its kinds hold.
  Layer 11: IbltPlays: an operation. Condition: what stands ahead of it.
-/
import Derived.Test.YteedceepoindeaaPkX
import Derived.Test.YteedceepoindeaaPkZ
import Derived.Test.YteedceepoindeaaPkA
import Derived.Test.YteedceepoindeaaPkK
namespace Go.Proofs.Yteedceepoindeaa
open Go.RowKit

section
variable {w w3 W5 w6 w7 w8 wc : World} {K : List En} {gA gW Kl dA dW D a b i kk mk Lq Lp Lc N B1 B2 B9 C9 E qB qC pB pC bq oq dq bp op dp tq ua ub df : Nat} {yf : Option Addr} {qc pc sn : List Cel} {x : Cel} {o : OpQ} {kd oat oto on : Int} {mm : List Int} {bb eb : Bool} {qa qb : En} {k : Nat} {r : Int} {dd : List Deferred}
variable {u0 u1 u2 u3 u4 u5 u6 u7 u8 u9 u10 u11 u12 u13 u14 u15 u16 u17 u18 u19 u20 u21 u22 u23 u24 u25 u26 u27 u28 u29 u30 u31 u32 u33 u34 u35 u36 u37 u38 u39 u40 u41 u42 u43 u44 u45 u46 u47 u48 u49 u50 u51 u52 u53 u54 u55 u56 u57 u58 u59 u60 u61 u62 u63 u64 u65 u66 u67 u68 u69 u70 u71 u72 u73 u74 u75 u76 u77 u78 u79 u80 u81 u82 u83 u84 u85 u86 u87 u88 u89 u90 u91 u92 u93 u94 u95 u96 u97 u98 u99 u100 u101 u102 u103 u104 u105 u106 u107 u108 u109 u110 u111 u112 u113 u114 u115 u116 u117 u118 u119 u120 u121 u122 u123 u124 u125 u126 u127 u128 u129 u130 u131 u132 u133 u134 u135 u136 u137 u138 u139 u140 u141 u142 u143 u144 u145 u146 u147 u148 u149 u150 u151 u152 u153 u154 u155 u156 u157 u158 u159 u160 u161 u162 u163 u164 u165 u166 u167 u168 u169 u170 u171 u172 u173 u174 u175 u176 u177 u178 u179 u180 u181 u182 u183 u184 u185 u186 u187 u188 u189 u190 u191 u192 u193 u194 u195 u196 u197 u198 u199 u200 u201 u202 u203 u204 u205 u206 u207 u208 u209 u210 u211 u212 u213 u214 u215 u216 u217 u218 u219 u220 u221 u222 u223 u224 u225 u226 u227 u228 u229 u230 u231 u232 u233 u234 u235 u236 u237 u238 u239 u240 u241 u242 u243 u244 u245 u246 u247 u248 u249 u250 u251 u252 u253 u254 u255 u256 u257 u258 u259 u260 u261 u262 u263 u264 u265 u266 u267 u268 u269 u270 u271 u272 u273 u274 u275 u276 u277 u278 u279 u280 u281 u282 u283 u284 u285 u286 u287 u288 u289 u290 u291 u292 u293 u294 u295 u296 u297 u298 u299 u300 u301 u302 u303 u304 u305 u306 u307 u308 u309 u310 u311 u312 u313 u314 u315 u316 u317 u318 u319 u320 u321 u322 u323 u324 u325 u326 u327 u328 u329 u330 u331 u332 u333 u334 u335 u336 u337 u338 u339 u340 u341 u342 u343 u344 u345 u346 u347 u348 u349 u350 u351 u352 u353 u354 u355 u356 u357 u358 u359 u360 u361 u362 u363 u364 u365 u366 u367 u368 u369 u370 u371 u372 u373 u374 u375 u376 u377 u378 u379 u380 u381 u382 u383 u384 u385 u386 u387 u388 u389 u390 u391 u392 u393 u394 u395 u396 u397 u398 : Value}
set_option maxRecDepth 100000 in
set_option maxHeartbeats 32000000 in
theorem ip_arm0 (HAB : Hid (a < Kl ∧ b < Kl)) (HDA : Hid (Kl ≤ dA ∧ dA ≤ maxLen ∧ Kl ≤ dW ∧ dW ≤ maxLen)) (P6 : Hid (PlS w K (.slice (some ⟨gA, 0, none⟩) Kl dA) (.slice (some ⟨gW, 0, none⟩) Kl dW) w6)) (D6 : Hid (Blk w6 D 50 (opl o))) (CA : Hid (w6.cell? ⟨gA, a, none⟩ = some (.pointer (some ⟨qB, 0, none⟩)))) (SA : Hid (SkAt w6 qB qC qc ∧ w.heap.size ≤ qC ∧ AllOk qc ∧ RowsSl cl c0 18 w6 (.slice (some ⟨bq, oq, none⟩) qc.length dq) qc ∧ qc.length = qc.length ∧ fitB (qc.length : Int) = true)) (HTQ : Hid (qc.length = 3 * tq ∧ 0 < tq ∧ tq ≤ 512)) (OM : Hid (MarkOk mm)) (HOM : Hid (((opl o).drop 4).take 16 = markL mm)) (QA : Hid (K[a]? = some ⟨qB, qC, qc, .slice (some ⟨bq, oq, none⟩) Lq dq, qc⟩)) (HLQ : Hid (qc.length = Lq)) (HDQ : Hid (¬ D = qC)) (HKL : Hid (K.length = Kl)) (HK : Hid (0 < Kl ∧ Kl ≤ k + 2)) (HE : Hid (∀ (j : Nat) (q : En), K[j]? = some q → q.sc = q.wc ∧ q.wc.length ≤ 60)) (HL6 : Hid (Lq ≤ 60)) (Q : Exit → Act → World → Prop)
    (hN : ∀ (v16 v17 v22 v23 v24 v178 v179 v180 v181 v182 v183 v184 v185 v186 v187 v188 v189 v190 v191 v192 v193 v194 v195 v196 v197 v198 v199 v200 v201 v202 v203 v204 v205 v206 v207 v208 v209 v210 v211 v212 v213 v214 v215 v216 v217 v218 v219 v220 v221 v222 v223 v224 v225 v226 v227 v228 v229 v230 v231 v232 v233 v234 v235 v236 v237 v238 v239 v240 v241 v242 v243 v244 v245 v246 v247 v248 v249 v250 v251 v252 v253 v254 v255 v256 v257 v258 v259 v260 v261 v262 v263 v264 v265 v266 v267 v268 v269 v270 v271 v272 v273 v274 v275 v276 v277 v278 v279 v280 v281 v282 v283 v284 v285 v286 v287 v288 v289 v290 v291 v292 v293 v294 v295 v296 v297 v298 v299 v300 v301 v302 v303 v304 v305 v306 : Value) (wc : World), CutS w k a D (opl o) v16 v17 wc → Q .normal ⟨[u0, u1, u2, u3, u4, u5, u6, u7, u8, u9, u10, u11, u12, u13, u14, u15, v16, v17, u18, .pointer (some ⟨D, 0, none⟩), .int .i64 (a : Int), .int .i64 (b : Int), v22, v23, v24, u25, u26, u27, u28, u29, u30, u31, u32, u33, u34, u35, u36, u37, u38, u39, u40, u41, u42, u43, u44, u45, u46, u47, u48, u49, u50, u51, u52, u53, u54, u55, u56, u57, u58, u59, u60, u61, u62, u63, u64, u65, u66, u67, u68, u69, u70, u71, u72, u73, u74, u75, u76, u77, u78, u79, u80, u81, u82, u83, u84, u85, u86, u87, u88, u89, u90, u91, u92, u93, u94, u95, u96, u97, u98, u99, u100, u101, u102, u103, u104, u105, u106, u107, u108, u109, u110, u111, u112, u113, u114, u115, u116, u117, u118, u119, u120, u121, u122, u123, u124, u125, u126, u127, u128, u129, u130, u131, u132, u133, u134, u135, u136, u137, u138, u139, u140, u141, u142, u143, u144, u145, u146, u147, u148, u149, u150, u151, u152, u153, u154, u155, u156, u157, u158, u159, u160, u161, u162, u163, u164, u165, u166, u167, u168, u169, u170, u171, u172, u173, u174, u175, u176, .int .u64 0, v178, v179, v180, v181, v182, v183, v184, v185, v186, v187, v188, v189, v190, v191, v192, v193, v194, v195, v196, v197, v198, v199, v200, v201, v202, v203, v204, v205, v206, v207, v208, v209, v210, v211, v212, v213, v214, v215, v216, v217, v218, v219, v220, v221, v222, v223, v224, v225, v226, v227, v228, v229, v230, v231, v232, v233, v234, v235, v236, v237, v238, v239, v240, v241, v242, v243, v244, v245, v246, v247, v248, v249, v250, v251, v252, v253, v254, v255, v256, v257, v258, v259, v260, v261, v262, v263, v264, v265, v266, v267, v268, v269, v270, v271, v272, v273, v274, v275, v276, v277, v278, v279, v280, v281, v282, v283, v284, v285, v286, v287, v288, v289, v290, v291, v292, v293, v294, v295, v296, v297, v298, v299, v300, v301, v302, v303, v304, v305, v306, u307, u308, u309, u310, u311, u312, u313, u314, u315, u316, u317, u318, u319, u320, u321, u322, u323, u324, u325, u326, u327, u328, u329, u330, u331, u332, u333, u334, u335, u336, u337, u338, u339, u340, u341, u342, u343, u344, u345, u346, u347, u348, u349, u350, u351, u352, u353, u354, u355, u356, u357, u358, u359, u360, u361, u362, u363, u364, u365, u366, u367, u368, u369, u370, u371, u372, u373, u374, u375, u376, u377, u378, u379, u380, u381, u382, u383, u384, u385, u386, u387, u388, u389, u390, u391, u392, u393, u394, u395, u396, u397, u398].toArray, dd⟩ wc) :
    (ip_b2).1.wp Try.prog Q ⟨[u0, u1, u2, u3, u4, u5, u6, u7, u8, u9, u10, u11, u12, u13, u14, u15, .slice (some ⟨gA, 0, none⟩) Kl dA, .slice (some ⟨gW, 0, none⟩) Kl dW, u18, .pointer (some ⟨D, 0, none⟩), .int .i64 (a : Int), .int .i64 (b : Int), u22, u23, u24, u25, u26, u27, u28, u29, u30, u31, u32, u33, u34, u35, u36, u37, u38, u39, u40, u41, u42, u43, u44, u45, u46, u47, u48, u49, u50, u51, u52, u53, u54, u55, u56, u57, u58, u59, u60, u61, u62, u63, u64, u65, u66, u67, u68, u69, u70, u71, u72, u73, u74, u75, u76, u77, u78, u79, u80, u81, u82, u83, u84, u85, u86, u87, u88, u89, u90, u91, u92, u93, u94, u95, u96, u97, u98, u99, u100, u101, u102, u103, u104, u105, u106, u107, u108, u109, u110, u111, u112, u113, u114, u115, u116, u117, u118, u119, u120, u121, u122, u123, u124, u125, u126, u127, u128, u129, u130, u131, u132, u133, u134, u135, u136, u137, u138, u139, u140, u141, u142, u143, u144, u145, u146, u147, u148, u149, u150, u151, u152, u153, u154, u155, u156, u157, u158, u159, u160, u161, u162, u163, u164, u165, u166, u167, u168, u169, u170, u171, u172, u173, u174, u175, u176, .int .u64 0, u178, u179, u180, u181, u182, u183, u184, u185, u186, u187, u188, u189, u190, u191, u192, u193, u194, u195, u196, u197, u198, u199, u200, u201, u202, u203, u204, u205, u206, u207, u208, u209, u210, u211, u212, u213, u214, u215, u216, u217, u218, u219, u220, u221, u222, u223, u224, u225, u226, u227, u228, u229, u230, u231, u232, u233, u234, u235, u236, u237, u238, u239, u240, u241, u242, u243, u244, u245, u246, u247, u248, u249, u250, u251, u252, u253, u254, u255, u256, u257, u258, u259, u260, u261, u262, u263, u264, u265, u266, u267, u268, u269, u270, u271, u272, u273, u274, u275, u276, u277, u278, u279, u280, u281, u282, u283, u284, u285, u286, u287, u288, u289, u290, u291, u292, u293, u294, u295, u296, u297, u298, u299, u300, u301, u302, u303, u304, u305, u306, u307, u308, u309, u310, u311, u312, u313, u314, u315, u316, u317, u318, u319, u320, u321, u322, u323, u324, u325, u326, u327, u328, u329, u330, u331, u332, u333, u334, u335, u336, u337, u338, u339, u340, u341, u342, u343, u344, u345, u346, u347, u348, u349, u350, u351, u352, u353, u354, u355, u356, u357, u358, u359, u360, u361, u362, u363, u364, u365, u366, u367, u368, u369, u370, u371, u372, u373, u374, u375, u376, u377, u378, u379, u380, u381, u382, u383, u384, u385, u386, u387, u388, u389, u390, u391, u392, u393, u394, u395, u396, u397, u398].toArray, dd⟩ w6 := by
  change Code.wp _ (Code.block _ _) _ _ _
  obtain ⟨sn, hsn⟩ : ∃ x, updP addC tq mm qc 3 = x := ⟨_, rfl⟩
  have HSC := hid hsn
  have HSD : Hid (updP (signC (1)) tq mm qc 3 = sn) := hid (by rw [sign_one]; exact hsn)
  have HSL : Hid (sn.length = Lq) := hid (by rw [← hsn, updP_length]; exact HLQ.out)
  have HSO : Hid (AllOk sn) := hid (by rw [← hsn]; exact updP_ok (fun _ _ => addC_ok) tq mm SA.out.2.2.1 3)
  clear hsn
  go_upto_region 27 with fail
  refine ip_r27 HAB HDA P6 D6 CA SA HTQ OM HOM QA HSC HSL HLQ HDQ _ ?hS ?hend
  case hS => exact hid ⟨fun _ => (Kp.refl Nb w6).drew, (fun e => by cases e)⟩
  case hend =>
    intro u w7 hy
    obtain ⟨p7, d7⟩ := hy.out.h1 rfl
    have P7 := hid p7
    have D7 := hid d7
    have CW7 : Hid (w7.cell? ⟨gW, a, none⟩ = some (.slice (some ⟨bq, oq, none⟩) Lq dq)) := hid (by
      obtain ⟨g2, e1, -, -, -, e2⟩ := p7.cellWant (List.getElem?_set_self (List.getElem?_eq_some_iff.1 QA.out).1)
      injection e1 with e1
      injection e1 with e1
      rw [e1]; exact e2)
    have RQ : Hid (RowsSl cl c0 18 w7 (.slice (some ⟨bq, oq, none⟩) Lq dq) qc) := hid (p7.sk a _ (List.getElem?_set_self (List.getElem?_eq_some_iff.1 QA.out).1)).2.2.2.1
    clear hy p7 d7 P6 D6 CA
    go_upto_region 28 with fail
    refine ip_r28 HAB HDA CW7 D7 OM HOM RQ SA HTQ HLQ HSD P7 QA HSL HSO _ ?hend
    case hend =>
      intro g wz pz dz
      have RE : Hid (CutS w k a D (opl o) (.slice (some ⟨gA, 0, none⟩) Kl dA) (.slice (some ⟨gW, 0, none⟩) Kl dW) wz) := hid ⟨_, hid pz, hid (by rw [List.length_set, HKL.out]; have := HK.out; have := HAB.out; omega), hid (fun j q e => by
        by_cases ej : a = j
        · subst ej
          rw [List.getElem?_set_self (by rw [HKL.out]; exact HAB.out.1)] at e
          injection e with e
          subst e
          exact ⟨rfl, by have := HSL.out; have := HL6.out; dsimp only; omega⟩
        · rw [List.getElem?_set_ne ej] at e
          exact HE.out j q e), hid dz⟩
      clear pz dz P7 D7 CW7 RQ
      go_wp2
      first | exact RE.out | (apply hN; exact RE.out)
set_option maxRecDepth 100000 in
set_option maxHeartbeats 32000000 in
theorem ip_arm1 (HAB : Hid (a < Kl ∧ b < Kl)) (HDA : Hid (Kl ≤ dA ∧ dA ≤ maxLen ∧ Kl ≤ dW ∧ dW ≤ maxLen)) (P6 : Hid (PlS w K (.slice (some ⟨gA, 0, none⟩) Kl dA) (.slice (some ⟨gW, 0, none⟩) Kl dW) w6)) (D6 : Hid (Blk w6 D 50 (opl o))) (CA : Hid (w6.cell? ⟨gA, a, none⟩ = some (.pointer (some ⟨qB, 0, none⟩)))) (SA : Hid (SkAt w6 qB qC qc ∧ w.heap.size ≤ qC ∧ AllOk qc ∧ RowsSl cl c0 18 w6 (.slice (some ⟨bq, oq, none⟩) qc.length dq) qc ∧ qc.length = qc.length ∧ fitB (qc.length : Int) = true)) (HTQ : Hid (qc.length = 3 * tq ∧ 0 < tq ∧ tq ≤ 512)) (OM : Hid (MarkOk mm)) (HOM : Hid (((opl o).drop 4).take 16 = markL mm)) (QA : Hid (K[a]? = some ⟨qB, qC, qc, .slice (some ⟨bq, oq, none⟩) Lq dq, qc⟩)) (HLQ : Hid (qc.length = Lq)) (HDQ : Hid (¬ D = qC)) (HKL : Hid (K.length = Kl)) (HK : Hid (0 < Kl ∧ Kl ≤ k + 2)) (HE : Hid (∀ (j : Nat) (q : En), K[j]? = some q → q.sc = q.wc ∧ q.wc.length ≤ 60)) (HL6 : Hid (Lq ≤ 60)) (Q : Exit → Act → World → Prop)
    (hN : ∀ (v16 v17 v22 v23 v24 v178 v179 v180 v181 v182 v183 v184 v185 v186 v187 v188 v189 v190 v191 v192 v193 v194 v195 v196 v197 v198 v199 v200 v201 v202 v203 v204 v205 v206 v207 v208 v209 v210 v211 v212 v213 v214 v215 v216 v217 v218 v219 v220 v221 v222 v223 v224 v225 v226 v227 v228 v229 v230 v231 v232 v233 v234 v235 v236 v237 v238 v239 v240 v241 v242 v243 v244 v245 v246 v247 v248 v249 v250 v251 v252 v253 v254 v255 v256 v257 v258 v259 v260 v261 v262 v263 v264 v265 v266 v267 v268 v269 v270 v271 v272 v273 v274 v275 v276 v277 v278 v279 v280 v281 v282 v283 v284 v285 v286 v287 v288 v289 v290 v291 v292 v293 v294 v295 v296 v297 v298 v299 v300 v301 v302 v303 v304 v305 v306 : Value) (wc : World), CutS w k a D (opl o) v16 v17 wc → Q .normal ⟨[u0, u1, u2, u3, u4, u5, u6, u7, u8, u9, u10, u11, u12, u13, u14, u15, v16, v17, u18, .pointer (some ⟨D, 0, none⟩), .int .i64 (a : Int), .int .i64 (b : Int), v22, v23, v24, u25, u26, u27, u28, u29, u30, u31, u32, u33, u34, u35, u36, u37, u38, u39, u40, u41, u42, u43, u44, u45, u46, u47, u48, u49, u50, u51, u52, u53, u54, u55, u56, u57, u58, u59, u60, u61, u62, u63, u64, u65, u66, u67, u68, u69, u70, u71, u72, u73, u74, u75, u76, u77, u78, u79, u80, u81, u82, u83, u84, u85, u86, u87, u88, u89, u90, u91, u92, u93, u94, u95, u96, u97, u98, u99, u100, u101, u102, u103, u104, u105, u106, u107, u108, u109, u110, u111, u112, u113, u114, u115, u116, u117, u118, u119, u120, u121, u122, u123, u124, u125, u126, u127, u128, u129, u130, u131, u132, u133, u134, u135, u136, u137, u138, u139, u140, u141, u142, u143, u144, u145, u146, u147, u148, u149, u150, u151, u152, u153, u154, u155, u156, u157, u158, u159, u160, u161, u162, u163, u164, u165, u166, u167, u168, u169, u170, u171, u172, u173, u174, u175, u176, .int .u64 1, v178, v179, v180, v181, v182, v183, v184, v185, v186, v187, v188, v189, v190, v191, v192, v193, v194, v195, v196, v197, v198, v199, v200, v201, v202, v203, v204, v205, v206, v207, v208, v209, v210, v211, v212, v213, v214, v215, v216, v217, v218, v219, v220, v221, v222, v223, v224, v225, v226, v227, v228, v229, v230, v231, v232, v233, v234, v235, v236, v237, v238, v239, v240, v241, v242, v243, v244, v245, v246, v247, v248, v249, v250, v251, v252, v253, v254, v255, v256, v257, v258, v259, v260, v261, v262, v263, v264, v265, v266, v267, v268, v269, v270, v271, v272, v273, v274, v275, v276, v277, v278, v279, v280, v281, v282, v283, v284, v285, v286, v287, v288, v289, v290, v291, v292, v293, v294, v295, v296, v297, v298, v299, v300, v301, v302, v303, v304, v305, v306, u307, u308, u309, u310, u311, u312, u313, u314, u315, u316, u317, u318, u319, u320, u321, u322, u323, u324, u325, u326, u327, u328, u329, u330, u331, u332, u333, u334, u335, u336, u337, u338, u339, u340, u341, u342, u343, u344, u345, u346, u347, u348, u349, u350, u351, u352, u353, u354, u355, u356, u357, u358, u359, u360, u361, u362, u363, u364, u365, u366, u367, u368, u369, u370, u371, u372, u373, u374, u375, u376, u377, u378, u379, u380, u381, u382, u383, u384, u385, u386, u387, u388, u389, u390, u391, u392, u393, u394, u395, u396, u397, u398].toArray, dd⟩ wc) :
    (ip_b2).1.wp Try.prog Q ⟨[u0, u1, u2, u3, u4, u5, u6, u7, u8, u9, u10, u11, u12, u13, u14, u15, .slice (some ⟨gA, 0, none⟩) Kl dA, .slice (some ⟨gW, 0, none⟩) Kl dW, u18, .pointer (some ⟨D, 0, none⟩), .int .i64 (a : Int), .int .i64 (b : Int), u22, u23, u24, u25, u26, u27, u28, u29, u30, u31, u32, u33, u34, u35, u36, u37, u38, u39, u40, u41, u42, u43, u44, u45, u46, u47, u48, u49, u50, u51, u52, u53, u54, u55, u56, u57, u58, u59, u60, u61, u62, u63, u64, u65, u66, u67, u68, u69, u70, u71, u72, u73, u74, u75, u76, u77, u78, u79, u80, u81, u82, u83, u84, u85, u86, u87, u88, u89, u90, u91, u92, u93, u94, u95, u96, u97, u98, u99, u100, u101, u102, u103, u104, u105, u106, u107, u108, u109, u110, u111, u112, u113, u114, u115, u116, u117, u118, u119, u120, u121, u122, u123, u124, u125, u126, u127, u128, u129, u130, u131, u132, u133, u134, u135, u136, u137, u138, u139, u140, u141, u142, u143, u144, u145, u146, u147, u148, u149, u150, u151, u152, u153, u154, u155, u156, u157, u158, u159, u160, u161, u162, u163, u164, u165, u166, u167, u168, u169, u170, u171, u172, u173, u174, u175, u176, .int .u64 1, u178, u179, u180, u181, u182, u183, u184, u185, u186, u187, u188, u189, u190, u191, u192, u193, u194, u195, u196, u197, u198, u199, u200, u201, u202, u203, u204, u205, u206, u207, u208, u209, u210, u211, u212, u213, u214, u215, u216, u217, u218, u219, u220, u221, u222, u223, u224, u225, u226, u227, u228, u229, u230, u231, u232, u233, u234, u235, u236, u237, u238, u239, u240, u241, u242, u243, u244, u245, u246, u247, u248, u249, u250, u251, u252, u253, u254, u255, u256, u257, u258, u259, u260, u261, u262, u263, u264, u265, u266, u267, u268, u269, u270, u271, u272, u273, u274, u275, u276, u277, u278, u279, u280, u281, u282, u283, u284, u285, u286, u287, u288, u289, u290, u291, u292, u293, u294, u295, u296, u297, u298, u299, u300, u301, u302, u303, u304, u305, u306, u307, u308, u309, u310, u311, u312, u313, u314, u315, u316, u317, u318, u319, u320, u321, u322, u323, u324, u325, u326, u327, u328, u329, u330, u331, u332, u333, u334, u335, u336, u337, u338, u339, u340, u341, u342, u343, u344, u345, u346, u347, u348, u349, u350, u351, u352, u353, u354, u355, u356, u357, u358, u359, u360, u361, u362, u363, u364, u365, u366, u367, u368, u369, u370, u371, u372, u373, u374, u375, u376, u377, u378, u379, u380, u381, u382, u383, u384, u385, u386, u387, u388, u389, u390, u391, u392, u393, u394, u395, u396, u397, u398].toArray, dd⟩ w6 := by
  change Code.wp _ (Code.block _ _) _ _ _
  obtain ⟨sn, hsn⟩ : ∃ x, updP addC tq mm qc 3 = x := ⟨_, rfl⟩
  have HSC := hid hsn
  have HSD : Hid (updP (signC (1)) tq mm qc 3 = sn) := hid (by rw [sign_one]; exact hsn)
  have HSL : Hid (sn.length = Lq) := hid (by rw [← hsn, updP_length]; exact HLQ.out)
  have HSO : Hid (AllOk sn) := hid (by rw [← hsn]; exact updP_ok (fun _ _ => addC_ok) tq mm SA.out.2.2.1 3)
  clear hsn
  go_upto_region 27 with fail
  refine ip_r27 HAB HDA P6 D6 CA SA HTQ OM HOM QA HSC HSL HLQ HDQ _ ?hS ?hend
  case hS => exact hid ⟨fun _ => (Kp.refl Nb w6).drew, (fun e => by cases e)⟩
  case hend =>
    intro u w7 hy
    obtain ⟨p7, d7⟩ := hy.out.h1 rfl
    have P7 := hid p7
    have D7 := hid d7
    have CW7 : Hid (w7.cell? ⟨gW, a, none⟩ = some (.slice (some ⟨bq, oq, none⟩) Lq dq)) := hid (by
      obtain ⟨g2, e1, -, -, -, e2⟩ := p7.cellWant (List.getElem?_set_self (List.getElem?_eq_some_iff.1 QA.out).1)
      injection e1 with e1
      injection e1 with e1
      rw [e1]; exact e2)
    have RQ : Hid (RowsSl cl c0 18 w7 (.slice (some ⟨bq, oq, none⟩) Lq dq) qc) := hid (p7.sk a _ (List.getElem?_set_self (List.getElem?_eq_some_iff.1 QA.out).1)).2.2.2.1
    clear hy p7 d7 P6 D6 CA
    go_upto_region 28 with fail
    refine ip_r28 HAB HDA CW7 D7 OM HOM RQ SA HTQ HLQ HSD P7 QA HSL HSO _ ?hend
    case hend =>
      intro g wz pz dz
      have RE : Hid (CutS w k a D (opl o) (.slice (some ⟨gA, 0, none⟩) Kl dA) (.slice (some ⟨gW, 0, none⟩) Kl dW) wz) := hid ⟨_, hid pz, hid (by rw [List.length_set, HKL.out]; have := HK.out; have := HAB.out; omega), hid (fun j q e => by
        by_cases ej : a = j
        · subst ej
          rw [List.getElem?_set_self (by rw [HKL.out]; exact HAB.out.1)] at e
          injection e with e
          subst e
          exact ⟨rfl, by have := HSL.out; have := HL6.out; dsimp only; omega⟩
        · rw [List.getElem?_set_ne ej] at e
          exact HE.out j q e), hid dz⟩
      clear pz dz P7 D7 CW7 RQ
      go_wp2
      first | exact RE.out | (apply hN; exact RE.out)
end

end Go.Proofs.Yteedceepoindeaa

namespace Go.Proofs.Yteedceepoindeaa
open Go.RowKit

section
variable {w w3 W5 w6 w7 w8 wc : World} {K : List En} {gA gW Kl dA dW D a b i kk mk Lq Lp Lc N B1 B2 B9 C9 E qB qC pB pC bq oq dq bp op dp tq ua ub df : Nat} {yf : Option Addr} {qc pc sn : List Cel} {x : Cel} {o : OpQ} {kd oat oto on : Int} {mm : List Int} {bb eb : Bool} {qa qb : En} {k : Nat} {r : Int} {dd : List Deferred}
variable {u0 u1 u2 u3 u4 u5 u6 u7 u8 u9 u10 u11 u12 u13 u14 u15 u16 u17 u18 u19 u20 u21 u22 u23 u24 u25 u26 u27 u28 u29 u30 u31 u32 u33 u34 u35 u36 u37 u38 u39 u40 u41 u42 u43 u44 u45 u46 u47 u48 u49 u50 u51 u52 u53 u54 u55 u56 u57 u58 u59 u60 u61 u62 u63 u64 u65 u66 u67 u68 u69 u70 u71 u72 u73 u74 u75 u76 u77 u78 u79 u80 u81 u82 u83 u84 u85 u86 u87 u88 u89 u90 u91 u92 u93 u94 u95 u96 u97 u98 u99 u100 u101 u102 u103 u104 u105 u106 u107 u108 u109 u110 u111 u112 u113 u114 u115 u116 u117 u118 u119 u120 u121 u122 u123 u124 u125 u126 u127 u128 u129 u130 u131 u132 u133 u134 u135 u136 u137 u138 u139 u140 u141 u142 u143 u144 u145 u146 u147 u148 u149 u150 u151 u152 u153 u154 u155 u156 u157 u158 u159 u160 u161 u162 u163 u164 u165 u166 u167 u168 u169 u170 u171 u172 u173 u174 u175 u176 u177 u178 u179 u180 u181 u182 u183 u184 u185 u186 u187 u188 u189 u190 u191 u192 u193 u194 u195 u196 u197 u198 u199 u200 u201 u202 u203 u204 u205 u206 u207 u208 u209 u210 u211 u212 u213 u214 u215 u216 u217 u218 u219 u220 u221 u222 u223 u224 u225 u226 u227 u228 u229 u230 u231 u232 u233 u234 u235 u236 u237 u238 u239 u240 u241 u242 u243 u244 u245 u246 u247 u248 u249 u250 u251 u252 u253 u254 u255 u256 u257 u258 u259 u260 u261 u262 u263 u264 u265 u266 u267 u268 u269 u270 u271 u272 u273 u274 u275 u276 u277 u278 u279 u280 u281 u282 u283 u284 u285 u286 u287 u288 u289 u290 u291 u292 u293 u294 u295 u296 u297 u298 u299 u300 u301 u302 u303 u304 u305 u306 u307 u308 u309 u310 u311 u312 u313 u314 u315 u316 u317 u318 u319 u320 u321 u322 u323 u324 u325 u326 u327 u328 u329 u330 u331 u332 u333 u334 u335 u336 u337 u338 u339 u340 u341 u342 u343 u344 u345 u346 u347 u348 u349 u350 u351 u352 u353 u354 u355 u356 u357 u358 u359 u360 u361 u362 u363 u364 u365 u366 u367 u368 u369 u370 u371 u372 u373 u374 u375 u376 u377 u378 u379 u380 u381 u382 u383 u384 u385 u386 u387 u388 u389 u390 u391 u392 u393 u394 u395 u396 u397 u398 : Value}
set_option maxRecDepth 100000 in
set_option maxHeartbeats 32000000 in
theorem ip_arm2 (HAB : Hid (a < Kl ∧ b < Kl)) (HDA : Hid (Kl ≤ dA ∧ dA ≤ maxLen ∧ Kl ≤ dW ∧ dW ≤ maxLen)) (P6 : Hid (PlS w K (.slice (some ⟨gA, 0, none⟩) Kl dA) (.slice (some ⟨gW, 0, none⟩) Kl dW) w6)) (D6 : Hid (Blk w6 D 50 (opl o))) (CA : Hid (w6.cell? ⟨gA, a, none⟩ = some (.pointer (some ⟨qB, 0, none⟩)))) (SA : Hid (SkAt w6 qB qC qc ∧ w.heap.size ≤ qC ∧ AllOk qc ∧ RowsSl cl c0 18 w6 (.slice (some ⟨bq, oq, none⟩) qc.length dq) qc ∧ qc.length = qc.length ∧ fitB (qc.length : Int) = true)) (HTQ : Hid (qc.length = 3 * tq ∧ 0 < tq ∧ tq ≤ 512)) (OM : Hid (MarkOk mm)) (HOM : Hid (((opl o).drop 4).take 16 = markL mm)) (QA : Hid (K[a]? = some ⟨qB, qC, qc, .slice (some ⟨bq, oq, none⟩) Lq dq, qc⟩)) (HLQ : Hid (qc.length = Lq)) (HDQ : Hid (¬ D = qC)) (HKL : Hid (K.length = Kl)) (HK : Hid (0 < Kl ∧ Kl ≤ k + 2)) (HE : Hid (∀ (j : Nat) (q : En), K[j]? = some q → q.sc = q.wc ∧ q.wc.length ≤ 60)) (HL6 : Hid (Lq ≤ 60)) (Q : Exit → Act → World → Prop)
    (hN : ∀ (v16 v17 v22 v23 v24 v178 v179 v180 v181 v182 v183 v184 v185 v186 v187 v188 v189 v190 v191 v192 v193 v194 v195 v196 v197 v198 v199 v200 v201 v202 v203 v204 v205 v206 v207 v208 v209 v210 v211 v212 v213 v214 v215 v216 v217 v218 v219 v220 v221 v222 v223 v224 v225 v226 v227 v228 v229 v230 v231 v232 v233 v234 v235 v236 v237 v238 v239 v240 v241 v242 v243 v244 v245 v246 v247 v248 v249 v250 v251 v252 v253 v254 v255 v256 v257 v258 v259 v260 v261 v262 v263 v264 v265 v266 v267 v268 v269 v270 v271 v272 v273 v274 v275 v276 v277 v278 v279 v280 v281 v282 v283 v284 v285 v286 v287 v288 v289 v290 v291 v292 v293 v294 v295 v296 v297 v298 v299 v300 v301 v302 v303 v304 v305 v306 : Value) (wc : World), CutS w k a D (opl o) v16 v17 wc → Q .normal ⟨[u0, u1, u2, u3, u4, u5, u6, u7, u8, u9, u10, u11, u12, u13, u14, u15, v16, v17, u18, .pointer (some ⟨D, 0, none⟩), .int .i64 (a : Int), .int .i64 (b : Int), v22, v23, v24, u25, u26, u27, u28, u29, u30, u31, u32, u33, u34, u35, u36, u37, u38, u39, u40, u41, u42, u43, u44, u45, u46, u47, u48, u49, u50, u51, u52, u53, u54, u55, u56, u57, u58, u59, u60, u61, u62, u63, u64, u65, u66, u67, u68, u69, u70, u71, u72, u73, u74, u75, u76, u77, u78, u79, u80, u81, u82, u83, u84, u85, u86, u87, u88, u89, u90, u91, u92, u93, u94, u95, u96, u97, u98, u99, u100, u101, u102, u103, u104, u105, u106, u107, u108, u109, u110, u111, u112, u113, u114, u115, u116, u117, u118, u119, u120, u121, u122, u123, u124, u125, u126, u127, u128, u129, u130, u131, u132, u133, u134, u135, u136, u137, u138, u139, u140, u141, u142, u143, u144, u145, u146, u147, u148, u149, u150, u151, u152, u153, u154, u155, u156, u157, u158, u159, u160, u161, u162, u163, u164, u165, u166, u167, u168, u169, u170, u171, u172, u173, u174, u175, u176, .int .u64 2, v178, v179, v180, v181, v182, v183, v184, v185, v186, v187, v188, v189, v190, v191, v192, v193, v194, v195, v196, v197, v198, v199, v200, v201, v202, v203, v204, v205, v206, v207, v208, v209, v210, v211, v212, v213, v214, v215, v216, v217, v218, v219, v220, v221, v222, v223, v224, v225, v226, v227, v228, v229, v230, v231, v232, v233, v234, v235, v236, v237, v238, v239, v240, v241, v242, v243, v244, v245, v246, v247, v248, v249, v250, v251, v252, v253, v254, v255, v256, v257, v258, v259, v260, v261, v262, v263, v264, v265, v266, v267, v268, v269, v270, v271, v272, v273, v274, v275, v276, v277, v278, v279, v280, v281, v282, v283, v284, v285, v286, v287, v288, v289, v290, v291, v292, v293, v294, v295, v296, v297, v298, v299, v300, v301, v302, v303, v304, v305, v306, u307, u308, u309, u310, u311, u312, u313, u314, u315, u316, u317, u318, u319, u320, u321, u322, u323, u324, u325, u326, u327, u328, u329, u330, u331, u332, u333, u334, u335, u336, u337, u338, u339, u340, u341, u342, u343, u344, u345, u346, u347, u348, u349, u350, u351, u352, u353, u354, u355, u356, u357, u358, u359, u360, u361, u362, u363, u364, u365, u366, u367, u368, u369, u370, u371, u372, u373, u374, u375, u376, u377, u378, u379, u380, u381, u382, u383, u384, u385, u386, u387, u388, u389, u390, u391, u392, u393, u394, u395, u396, u397, u398].toArray, dd⟩ wc) :
    (ip_b2).1.wp Try.prog Q ⟨[u0, u1, u2, u3, u4, u5, u6, u7, u8, u9, u10, u11, u12, u13, u14, u15, .slice (some ⟨gA, 0, none⟩) Kl dA, .slice (some ⟨gW, 0, none⟩) Kl dW, u18, .pointer (some ⟨D, 0, none⟩), .int .i64 (a : Int), .int .i64 (b : Int), u22, u23, u24, u25, u26, u27, u28, u29, u30, u31, u32, u33, u34, u35, u36, u37, u38, u39, u40, u41, u42, u43, u44, u45, u46, u47, u48, u49, u50, u51, u52, u53, u54, u55, u56, u57, u58, u59, u60, u61, u62, u63, u64, u65, u66, u67, u68, u69, u70, u71, u72, u73, u74, u75, u76, u77, u78, u79, u80, u81, u82, u83, u84, u85, u86, u87, u88, u89, u90, u91, u92, u93, u94, u95, u96, u97, u98, u99, u100, u101, u102, u103, u104, u105, u106, u107, u108, u109, u110, u111, u112, u113, u114, u115, u116, u117, u118, u119, u120, u121, u122, u123, u124, u125, u126, u127, u128, u129, u130, u131, u132, u133, u134, u135, u136, u137, u138, u139, u140, u141, u142, u143, u144, u145, u146, u147, u148, u149, u150, u151, u152, u153, u154, u155, u156, u157, u158, u159, u160, u161, u162, u163, u164, u165, u166, u167, u168, u169, u170, u171, u172, u173, u174, u175, u176, .int .u64 2, u178, u179, u180, u181, u182, u183, u184, u185, u186, u187, u188, u189, u190, u191, u192, u193, u194, u195, u196, u197, u198, u199, u200, u201, u202, u203, u204, u205, u206, u207, u208, u209, u210, u211, u212, u213, u214, u215, u216, u217, u218, u219, u220, u221, u222, u223, u224, u225, u226, u227, u228, u229, u230, u231, u232, u233, u234, u235, u236, u237, u238, u239, u240, u241, u242, u243, u244, u245, u246, u247, u248, u249, u250, u251, u252, u253, u254, u255, u256, u257, u258, u259, u260, u261, u262, u263, u264, u265, u266, u267, u268, u269, u270, u271, u272, u273, u274, u275, u276, u277, u278, u279, u280, u281, u282, u283, u284, u285, u286, u287, u288, u289, u290, u291, u292, u293, u294, u295, u296, u297, u298, u299, u300, u301, u302, u303, u304, u305, u306, u307, u308, u309, u310, u311, u312, u313, u314, u315, u316, u317, u318, u319, u320, u321, u322, u323, u324, u325, u326, u327, u328, u329, u330, u331, u332, u333, u334, u335, u336, u337, u338, u339, u340, u341, u342, u343, u344, u345, u346, u347, u348, u349, u350, u351, u352, u353, u354, u355, u356, u357, u358, u359, u360, u361, u362, u363, u364, u365, u366, u367, u368, u369, u370, u371, u372, u373, u374, u375, u376, u377, u378, u379, u380, u381, u382, u383, u384, u385, u386, u387, u388, u389, u390, u391, u392, u393, u394, u395, u396, u397, u398].toArray, dd⟩ w6 := by
  change Code.wp _ (Code.block _ _) _ _ _
  obtain ⟨sn, hsn⟩ : ∃ x, updP subC tq mm qc 3 = x := ⟨_, rfl⟩
  have HSC := hid hsn
  have HSD : Hid (updP (signC (-1)) tq mm qc 3 = sn) := hid (by rw [sign_neg]; exact hsn)
  have HSL : Hid (sn.length = Lq) := hid (by rw [← hsn, updP_length]; exact HLQ.out)
  have HSO : Hid (AllOk sn) := hid (by rw [← hsn]; exact updP_ok (fun _ _ => subC_ok) tq mm SA.out.2.2.1 3)
  clear hsn
  go_upto_region 30 with fail
  refine ip_r30 HAB HDA P6 D6 CA SA HTQ OM HOM QA HSC HSL HLQ HDQ _ ?hS ?hend
  case hS => exact hid ⟨fun _ => (Kp.refl Nb w6).drew, (fun e => by cases e)⟩
  case hend =>
    intro u w7 hy
    obtain ⟨p7, d7⟩ := hy.out.h1 rfl
    have P7 := hid p7
    have D7 := hid d7
    have CW7 : Hid (w7.cell? ⟨gW, a, none⟩ = some (.slice (some ⟨bq, oq, none⟩) Lq dq)) := hid (by
      obtain ⟨g2, e1, -, -, -, e2⟩ := p7.cellWant (List.getElem?_set_self (List.getElem?_eq_some_iff.1 QA.out).1)
      injection e1 with e1
      injection e1 with e1
      rw [e1]; exact e2)
    have RQ : Hid (RowsSl cl c0 18 w7 (.slice (some ⟨bq, oq, none⟩) Lq dq) qc) := hid (p7.sk a _ (List.getElem?_set_self (List.getElem?_eq_some_iff.1 QA.out).1)).2.2.2.1
    clear hy p7 d7 P6 D6 CA
    go_upto_region 31 with fail
    refine ip_r31 HAB HDA CW7 D7 OM HOM RQ SA HTQ HLQ HSD P7 QA HSL HSO _ ?hend
    case hend =>
      intro g wz pz dz
      have RE : Hid (CutS w k a D (opl o) (.slice (some ⟨gA, 0, none⟩) Kl dA) (.slice (some ⟨gW, 0, none⟩) Kl dW) wz) := hid ⟨_, hid pz, hid (by rw [List.length_set, HKL.out]; have := HK.out; have := HAB.out; omega), hid (fun j q e => by
        by_cases ej : a = j
        · subst ej
          rw [List.getElem?_set_self (by rw [HKL.out]; exact HAB.out.1)] at e
          injection e with e
          subst e
          exact ⟨rfl, by have := HSL.out; have := HL6.out; dsimp only; omega⟩
        · rw [List.getElem?_set_ne ej] at e
          exact HE.out j q e), hid dz⟩
      clear pz dz P7 D7 CW7 RQ
      go_wp2
      first | exact RE.out | (apply hN; exact RE.out)
set_option maxRecDepth 100000 in
set_option maxHeartbeats 32000000 in
theorem ip_arm3 (HAB : Hid (a < Kl ∧ b < Kl)) (HDA : Hid (Kl ≤ dA ∧ dA ≤ maxLen ∧ Kl ≤ dW ∧ dW ≤ maxLen)) (P6 : Hid (PlS w K (.slice (some ⟨gA, 0, none⟩) Kl dA) (.slice (some ⟨gW, 0, none⟩) Kl dW) w6)) (D6 : Hid (Blk w6 D 50 (opl o))) (SA : Hid (SkAt w6 qB qC qc ∧ w.heap.size ≤ qC ∧ AllOk qc ∧ RowsSl cl c0 18 w6 (.slice (some ⟨bq, oq, none⟩) qc.length dq) qc ∧ qc.length = qc.length ∧ fitB (qc.length : Int) = true)) (SA6 : Hid (RowsSl cl c0 18 w6 (.slice (some ⟨bq, oq, none⟩) Lq dq) qc)) (QA : Hid (K[a]? = some ⟨qB, qC, qc, .slice (some ⟨bq, oq, none⟩) Lq dq, qc⟩)) (HLQ : Hid (qc.length = Lq)) (HL6 : Hid (Lq ≤ 60)) (HKL : Hid (K.length = Kl)) (KL : Hid (IntKind.u64.wrap (Kl : Int) = (Kl : Int) ∧ ¬ Kl = 0 ∧ Kl ≤ 40)) (HK : Hid (0 < Kl ∧ Kl ≤ k + 2)) (HE : Hid (∀ (j : Nat) (q : En), K[j]? = some q → q.sc = q.wc ∧ q.wc.length ≤ 60)) (Q : Exit → Act → World → Prop)
    (hN : ∀ (v16 v17 v22 v23 v24 v178 v179 v180 v181 v182 v183 v184 v185 v186 v187 v188 v189 v190 v191 v192 v193 v194 v195 v196 v197 v198 v199 v200 v201 v202 v203 v204 v205 v206 v207 v208 v209 v210 v211 v212 v213 v214 v215 v216 v217 v218 v219 v220 v221 v222 v223 v224 v225 v226 v227 v228 v229 v230 v231 v232 v233 v234 v235 v236 v237 v238 v239 v240 v241 v242 v243 v244 v245 v246 v247 v248 v249 v250 v251 v252 v253 v254 v255 v256 v257 v258 v259 v260 v261 v262 v263 v264 v265 v266 v267 v268 v269 v270 v271 v272 v273 v274 v275 v276 v277 v278 v279 v280 v281 v282 v283 v284 v285 v286 v287 v288 v289 v290 v291 v292 v293 v294 v295 v296 v297 v298 v299 v300 v301 v302 v303 v304 v305 v306 : Value) (wc : World), CutS w k a D (opl o) v16 v17 wc → Q .normal ⟨[u0, u1, u2, u3, u4, u5, u6, u7, u8, u9, u10, u11, u12, u13, u14, u15, v16, v17, u18, .pointer (some ⟨D, 0, none⟩), .int .i64 (a : Int), .int .i64 (b : Int), v22, v23, v24, u25, u26, u27, u28, u29, u30, u31, u32, u33, u34, u35, u36, u37, u38, u39, u40, u41, u42, u43, u44, u45, u46, u47, u48, u49, u50, u51, u52, u53, u54, u55, u56, u57, u58, u59, u60, u61, u62, u63, u64, u65, u66, u67, u68, u69, u70, u71, u72, u73, u74, u75, u76, u77, u78, u79, u80, u81, u82, u83, u84, u85, u86, u87, u88, u89, u90, u91, u92, u93, u94, u95, u96, u97, u98, u99, u100, u101, u102, u103, u104, u105, u106, u107, u108, u109, u110, u111, u112, u113, u114, u115, u116, u117, u118, u119, u120, u121, u122, u123, u124, u125, u126, u127, u128, u129, u130, u131, u132, u133, u134, u135, u136, u137, u138, u139, u140, u141, u142, u143, u144, u145, u146, u147, u148, u149, u150, u151, u152, u153, u154, u155, u156, u157, u158, u159, u160, u161, u162, u163, u164, u165, u166, u167, u168, u169, u170, u171, u172, u173, u174, u175, u176, .int .u64 3, v178, v179, v180, v181, v182, v183, v184, v185, v186, v187, v188, v189, v190, v191, v192, v193, v194, v195, v196, v197, v198, v199, v200, v201, v202, v203, v204, v205, v206, v207, v208, v209, v210, v211, v212, v213, v214, v215, v216, v217, v218, v219, v220, v221, v222, v223, v224, v225, v226, v227, v228, v229, v230, v231, v232, v233, v234, v235, v236, v237, v238, v239, v240, v241, v242, v243, v244, v245, v246, v247, v248, v249, v250, v251, v252, v253, v254, v255, v256, v257, v258, v259, v260, v261, v262, v263, v264, v265, v266, v267, v268, v269, v270, v271, v272, v273, v274, v275, v276, v277, v278, v279, v280, v281, v282, v283, v284, v285, v286, v287, v288, v289, v290, v291, v292, v293, v294, v295, v296, v297, v298, v299, v300, v301, v302, v303, v304, v305, v306, u307, u308, u309, u310, u311, u312, u313, u314, u315, u316, u317, u318, u319, u320, u321, u322, u323, u324, u325, u326, u327, u328, u329, u330, u331, u332, u333, u334, u335, u336, u337, u338, u339, u340, u341, u342, u343, u344, u345, u346, u347, u348, u349, u350, u351, u352, u353, u354, u355, u356, u357, u358, u359, u360, u361, u362, u363, u364, u365, u366, u367, u368, u369, u370, u371, u372, u373, u374, u375, u376, u377, u378, u379, u380, u381, u382, u383, u384, u385, u386, u387, u388, u389, u390, u391, u392, u393, u394, u395, u396, u397, u398].toArray, dd⟩ wc) :
    (ip_b2).1.wp Try.prog Q ⟨[u0, u1, u2, u3, u4, u5, u6, u7, u8, u9, u10, u11, u12, u13, u14, u15, .slice (some ⟨gA, 0, none⟩) Kl dA, .slice (some ⟨gW, 0, none⟩) Kl dW, u18, .pointer (some ⟨D, 0, none⟩), .int .i64 (a : Int), .int .i64 (b : Int), u22, u23, u24, u25, u26, u27, u28, u29, u30, u31, u32, u33, u34, u35, u36, u37, u38, u39, u40, u41, u42, u43, u44, u45, u46, u47, u48, u49, u50, u51, u52, u53, u54, u55, u56, u57, u58, u59, u60, u61, u62, u63, u64, u65, u66, u67, u68, u69, u70, u71, u72, u73, u74, u75, u76, u77, u78, u79, u80, u81, u82, u83, u84, u85, u86, u87, u88, u89, u90, u91, u92, u93, u94, u95, u96, u97, u98, u99, u100, u101, u102, u103, u104, u105, u106, u107, u108, u109, u110, u111, u112, u113, u114, u115, u116, u117, u118, u119, u120, u121, u122, u123, u124, u125, u126, u127, u128, u129, u130, u131, u132, u133, u134, u135, u136, u137, u138, u139, u140, u141, u142, u143, u144, u145, u146, u147, u148, u149, u150, u151, u152, u153, u154, u155, u156, u157, u158, u159, u160, u161, u162, u163, u164, u165, u166, u167, u168, u169, u170, u171, u172, u173, u174, u175, u176, .int .u64 3, u178, u179, u180, u181, u182, u183, u184, u185, u186, u187, u188, u189, u190, u191, u192, u193, u194, u195, u196, u197, u198, u199, u200, u201, u202, u203, u204, u205, u206, u207, u208, u209, u210, u211, u212, u213, u214, u215, u216, u217, u218, u219, u220, u221, u222, u223, u224, u225, u226, u227, u228, u229, u230, u231, u232, u233, u234, u235, u236, u237, u238, u239, u240, u241, u242, u243, u244, u245, u246, u247, u248, u249, u250, u251, u252, u253, u254, u255, u256, u257, u258, u259, u260, u261, u262, u263, u264, u265, u266, u267, u268, u269, u270, u271, u272, u273, u274, u275, u276, u277, u278, u279, u280, u281, u282, u283, u284, u285, u286, u287, u288, u289, u290, u291, u292, u293, u294, u295, u296, u297, u298, u299, u300, u301, u302, u303, u304, u305, u306, u307, u308, u309, u310, u311, u312, u313, u314, u315, u316, u317, u318, u319, u320, u321, u322, u323, u324, u325, u326, u327, u328, u329, u330, u331, u332, u333, u334, u335, u336, u337, u338, u339, u340, u341, u342, u343, u344, u345, u346, u347, u348, u349, u350, u351, u352, u353, u354, u355, u356, u357, u358, u359, u360, u361, u362, u363, u364, u365, u366, u367, u368, u369, u370, u371, u372, u373, u374, u375, u376, u377, u378, u379, u380, u381, u382, u383, u384, u385, u386, u387, u388, u389, u390, u391, u392, u393, u394, u395, u396, u397, u398].toArray, dd⟩ w6 := by
  change Code.wp _ (Code.block _ _) _ _ _
  go_upto_region 33 with fail
  refine ip_r33 (w := w) HAB HDA QA HLQ HL6 HKL KL _ ?hS ?hend
  case hS => exact hid (PlS.s2 P6.out qc qc _ _ _ _ _ false true _ _ (fun e => by cases e) (fun _ => ⟨SA6.out, P6.out.vt a _ QA.out, fun i p e => P6.out.apv i a p _ e QA.out⟩) (fun e => by cases e))
  case hend =>
    intro g wy hy
    obtain ⟨⟨B9, C9⟩, v1, v2, v3, v4⟩ := g
    have PF := hy.out.fin SA.out.2.2.1 rfl SA.out.2.2.2.2.2
    have RE : Hid (CutS w k a D (opl o) v2 v4 wy) := hid ⟨_, hid PF, hid (by rw [List.length_append, HKL.out]; have := HK.out; have := HAB.out; simp only [List.length_cons, List.length_nil]; omega), hid (fun j q e => by
      rcases snoc_at e with ⟨_, e⟩ | ⟨_, rfl⟩
      · exact HE.out j q e
      · exact ⟨rfl, by have := HLQ.out; have := HL6.out; dsimp only; omega⟩), hid (hy.out.st D _ _ D6.out (by decide) (by decide))⟩
    clear hy PF
    go_wp2
    first | exact RE.out | (apply hN; exact RE.out)
end

end Go.Proofs.Yteedceepoindeaa

namespace Go.Proofs.Yteedceepoindeaa
open Go.RowKit

section
variable {w w3 W5 w6 w7 w8 wc : World} {K : List En} {gA gW Kl dA dW D a b i kk mk Lq Lp Lc N B1 B2 B9 C9 E qB qC pB pC bq oq dq bp op dp tq ua ub df : Nat} {yf : Option Addr} {qc pc sn : List Cel} {x : Cel} {o : OpQ} {kd oat oto on : Int} {mm : List Int} {bb eb : Bool} {qa qb : En} {k : Nat} {r : Int} {dd : List Deferred}
variable {u0 u1 u2 u3 u4 u5 u6 u7 u8 u9 u10 u11 u12 u13 u14 u15 u16 u17 u18 u19 u20 u21 u22 u23 u24 u25 u26 u27 u28 u29 u30 u31 u32 u33 u34 u35 u36 u37 u38 u39 u40 u41 u42 u43 u44 u45 u46 u47 u48 u49 u50 u51 u52 u53 u54 u55 u56 u57 u58 u59 u60 u61 u62 u63 u64 u65 u66 u67 u68 u69 u70 u71 u72 u73 u74 u75 u76 u77 u78 u79 u80 u81 u82 u83 u84 u85 u86 u87 u88 u89 u90 u91 u92 u93 u94 u95 u96 u97 u98 u99 u100 u101 u102 u103 u104 u105 u106 u107 u108 u109 u110 u111 u112 u113 u114 u115 u116 u117 u118 u119 u120 u121 u122 u123 u124 u125 u126 u127 u128 u129 u130 u131 u132 u133 u134 u135 u136 u137 u138 u139 u140 u141 u142 u143 u144 u145 u146 u147 u148 u149 u150 u151 u152 u153 u154 u155 u156 u157 u158 u159 u160 u161 u162 u163 u164 u165 u166 u167 u168 u169 u170 u171 u172 u173 u174 u175 u176 u177 u178 u179 u180 u181 u182 u183 u184 u185 u186 u187 u188 u189 u190 u191 u192 u193 u194 u195 u196 u197 u198 u199 u200 u201 u202 u203 u204 u205 u206 u207 u208 u209 u210 u211 u212 u213 u214 u215 u216 u217 u218 u219 u220 u221 u222 u223 u224 u225 u226 u227 u228 u229 u230 u231 u232 u233 u234 u235 u236 u237 u238 u239 u240 u241 u242 u243 u244 u245 u246 u247 u248 u249 u250 u251 u252 u253 u254 u255 u256 u257 u258 u259 u260 u261 u262 u263 u264 u265 u266 u267 u268 u269 u270 u271 u272 u273 u274 u275 u276 u277 u278 u279 u280 u281 u282 u283 u284 u285 u286 u287 u288 u289 u290 u291 u292 u293 u294 u295 u296 u297 u298 u299 u300 u301 u302 u303 u304 u305 u306 u307 u308 u309 u310 u311 u312 u313 u314 u315 u316 u317 u318 u319 u320 u321 u322 u323 u324 u325 u326 u327 u328 u329 u330 u331 u332 u333 u334 u335 u336 u337 u338 u339 u340 u341 u342 u343 u344 u345 u346 u347 u348 u349 u350 u351 u352 u353 u354 u355 u356 u357 u358 u359 u360 u361 u362 u363 u364 u365 u366 u367 u368 u369 u370 u371 u372 u373 u374 u375 u376 u377 u378 u379 u380 u381 u382 u383 u384 u385 u386 u387 u388 u389 u390 u391 u392 u393 u394 u395 u396 u397 u398 : Value}
set_option maxRecDepth 100000 in
set_option maxHeartbeats 32000000 in
theorem ip_arm4 (HAB : Hid (a < Kl ∧ b < Kl)) (HDA : Hid (Kl ≤ dA ∧ dA ≤ maxLen ∧ Kl ≤ dW ∧ dW ≤ maxLen)) (P6 : Hid (PlS w K (.slice (some ⟨gA, 0, none⟩) Kl dA) (.slice (some ⟨gW, 0, none⟩) Kl dW) w6)) (D6 : Hid (Blk w6 D 50 (opl o))) (CA : Hid (w6.cell? ⟨gA, a, none⟩ = some (.pointer (some ⟨qB, 0, none⟩)))) (SA : Hid (SkAt w6 qB qC qc ∧ w.heap.size ≤ qC ∧ AllOk qc ∧ RowsSl cl c0 18 w6 (.slice (some ⟨bq, oq, none⟩) qc.length dq) qc ∧ qc.length = qc.length ∧ fitB (qc.length : Int) = true)) (QA : Hid (K[a]? = some ⟨qB, qC, qc, .slice (some ⟨bq, oq, none⟩) Lq dq, qc⟩)) (QB : Hid (K[b]? = some qb)) (HLQ : Hid (qc.length = Lq)) (HL6 : Hid (Lq ≤ 60)) (HCD : Hid (0 < Lq ∧ Lq ≤ dq ∧ dq ≤ maxLen)) (HKL : Hid (K.length = Kl)) (KL : Hid (IntKind.u64.wrap (Kl : Int) = (Kl : Int) ∧ ¬ Kl = 0 ∧ Kl ≤ 40)) (HK : Hid (0 < Kl ∧ Kl ≤ k + 2)) (HE : Hid (∀ (j : Nat) (q : En), K[j]? = some q → q.sc = q.wc ∧ q.wc.length ≤ 60)) (Q : Exit → Act → World → Prop)
    (hN : ∀ (v16 v17 v22 v23 v24 v178 v179 v180 v181 v182 v183 v184 v185 v186 v187 v188 v189 v190 v191 v192 v193 v194 v195 v196 v197 v198 v199 v200 v201 v202 v203 v204 v205 v206 v207 v208 v209 v210 v211 v212 v213 v214 v215 v216 v217 v218 v219 v220 v221 v222 v223 v224 v225 v226 v227 v228 v229 v230 v231 v232 v233 v234 v235 v236 v237 v238 v239 v240 v241 v242 v243 v244 v245 v246 v247 v248 v249 v250 v251 v252 v253 v254 v255 v256 v257 v258 v259 v260 v261 v262 v263 v264 v265 v266 v267 v268 v269 v270 v271 v272 v273 v274 v275 v276 v277 v278 v279 v280 v281 v282 v283 v284 v285 v286 v287 v288 v289 v290 v291 v292 v293 v294 v295 v296 v297 v298 v299 v300 v301 v302 v303 v304 v305 v306 : Value) (wc : World), CutS w k a D (opl o) v16 v17 wc → Q .normal ⟨[u0, u1, u2, u3, u4, u5, u6, u7, u8, u9, u10, u11, u12, u13, u14, u15, v16, v17, u18, .pointer (some ⟨D, 0, none⟩), .int .i64 (a : Int), .int .i64 (b : Int), v22, v23, v24, u25, u26, u27, u28, u29, u30, u31, u32, u33, u34, u35, u36, u37, u38, u39, u40, u41, u42, u43, u44, u45, u46, u47, u48, u49, u50, u51, u52, u53, u54, u55, u56, u57, u58, u59, u60, u61, u62, u63, u64, u65, u66, u67, u68, u69, u70, u71, u72, u73, u74, u75, u76, u77, u78, u79, u80, u81, u82, u83, u84, u85, u86, u87, u88, u89, u90, u91, u92, u93, u94, u95, u96, u97, u98, u99, u100, u101, u102, u103, u104, u105, u106, u107, u108, u109, u110, u111, u112, u113, u114, u115, u116, u117, u118, u119, u120, u121, u122, u123, u124, u125, u126, u127, u128, u129, u130, u131, u132, u133, u134, u135, u136, u137, u138, u139, u140, u141, u142, u143, u144, u145, u146, u147, u148, u149, u150, u151, u152, u153, u154, u155, u156, u157, u158, u159, u160, u161, u162, u163, u164, u165, u166, u167, u168, u169, u170, u171, u172, u173, u174, u175, u176, .int .u64 4, v178, v179, v180, v181, v182, v183, v184, v185, v186, v187, v188, v189, v190, v191, v192, v193, v194, v195, v196, v197, v198, v199, v200, v201, v202, v203, v204, v205, v206, v207, v208, v209, v210, v211, v212, v213, v214, v215, v216, v217, v218, v219, v220, v221, v222, v223, v224, v225, v226, v227, v228, v229, v230, v231, v232, v233, v234, v235, v236, v237, v238, v239, v240, v241, v242, v243, v244, v245, v246, v247, v248, v249, v250, v251, v252, v253, v254, v255, v256, v257, v258, v259, v260, v261, v262, v263, v264, v265, v266, v267, v268, v269, v270, v271, v272, v273, v274, v275, v276, v277, v278, v279, v280, v281, v282, v283, v284, v285, v286, v287, v288, v289, v290, v291, v292, v293, v294, v295, v296, v297, v298, v299, v300, v301, v302, v303, v304, v305, v306, u307, u308, u309, u310, u311, u312, u313, u314, u315, u316, u317, u318, u319, u320, u321, u322, u323, u324, u325, u326, u327, u328, u329, u330, u331, u332, u333, u334, u335, u336, u337, u338, u339, u340, u341, u342, u343, u344, u345, u346, u347, u348, u349, u350, u351, u352, u353, u354, u355, u356, u357, u358, u359, u360, u361, u362, u363, u364, u365, u366, u367, u368, u369, u370, u371, u372, u373, u374, u375, u376, u377, u378, u379, u380, u381, u382, u383, u384, u385, u386, u387, u388, u389, u390, u391, u392, u393, u394, u395, u396, u397, u398].toArray, dd⟩ wc)
    (hX : ∀ (v22 v23 v24 v178 v179 v180 v181 v182 v183 v184 v185 v186 v187 v188 v189 v190 v191 v192 v193 v194 v195 v196 v197 v198 v199 v200 v201 v202 v203 v204 v205 v206 v207 v208 v209 v210 v211 v212 v213 v214 v215 v216 v217 v218 v219 v220 v221 v222 v223 v224 v225 v226 v227 v228 v229 v230 v231 v232 v233 v234 v235 v236 v237 v238 v239 v240 v241 v242 v243 v244 v245 v246 v247 v248 v249 v250 v251 v252 v253 v254 v255 v256 v257 v258 v259 v260 v261 v262 v263 v264 v265 v266 v267 v268 v269 v270 v271 v272 v273 v274 v275 v276 v277 v278 v279 v280 v281 v282 v283 v284 v285 v286 v287 v288 v289 v290 v291 v292 v293 v294 v295 v296 v297 v298 v299 v300 v301 v302 v303 v304 v305 v306 : Value) (wc : World), PlS w K (.slice (some ⟨gA, 0, none⟩) Kl dA) (.slice (some ⟨gW, 0, none⟩) Kl dW) wc → Q (.exit 1) ⟨[u0, u1, u2, u3, u4, u5, u6, u7, u8, u9, u10, u11, u12, u13, u14, u15, .slice (some ⟨gA, 0, none⟩) Kl dA, .slice (some ⟨gW, 0, none⟩) Kl dW, u18, .pointer (some ⟨D, 0, none⟩), .int .i64 (a : Int), .int .i64 (b : Int), v22, v23, v24, u25, u26, u27, u28, u29, u30, u31, u32, u33, u34, u35, u36, u37, u38, u39, u40, u41, u42, u43, u44, u45, u46, u47, u48, u49, u50, u51, u52, u53, u54, u55, u56, u57, u58, u59, u60, u61, u62, u63, u64, u65, u66, u67, u68, u69, u70, u71, u72, u73, u74, u75, u76, u77, u78, u79, u80, u81, u82, u83, u84, u85, u86, u87, u88, u89, u90, u91, u92, u93, u94, u95, u96, u97, u98, u99, u100, u101, u102, u103, u104, u105, u106, u107, u108, u109, u110, u111, u112, u113, u114, u115, u116, u117, u118, u119, u120, u121, u122, u123, u124, u125, u126, u127, u128, u129, u130, u131, u132, u133, u134, u135, u136, u137, u138, u139, u140, u141, u142, u143, u144, u145, u146, u147, u148, u149, u150, u151, u152, u153, u154, u155, u156, u157, u158, u159, u160, u161, u162, u163, u164, u165, u166, u167, u168, u169, u170, u171, u172, u173, u174, u175, u176, .int .u64 4, v178, v179, v180, v181, v182, v183, v184, v185, v186, v187, v188, v189, v190, v191, v192, v193, v194, v195, v196, v197, v198, v199, v200, v201, v202, v203, v204, v205, v206, v207, v208, v209, v210, v211, v212, v213, v214, v215, v216, v217, v218, v219, v220, v221, v222, v223, v224, v225, v226, v227, v228, v229, v230, v231, v232, v233, v234, v235, v236, v237, v238, v239, v240, v241, v242, v243, v244, v245, v246, v247, v248, v249, v250, v251, v252, v253, v254, v255, v256, v257, v258, v259, v260, v261, v262, v263, v264, v265, v266, v267, v268, v269, v270, v271, v272, v273, v274, v275, v276, v277, v278, v279, v280, v281, v282, v283, v284, v285, v286, v287, v288, v289, v290, v291, v292, v293, v294, v295, v296, v297, v298, v299, v300, v301, v302, v303, v304, v305, v306, u307, u308, u309, u310, u311, u312, u313, u314, u315, u316, u317, u318, u319, u320, u321, u322, u323, u324, u325, u326, u327, u328, u329, u330, u331, u332, u333, u334, u335, u336, u337, u338, u339, u340, u341, u342, u343, u344, u345, u346, u347, u348, u349, u350, u351, u352, u353, u354, u355, u356, u357, u358, u359, u360, u361, u362, u363, u364, u365, u366, u367, u368, u369, u370, u371, u372, u373, u374, u375, u376, u377, u378, u379, u380, u381, u382, u383, u384, u385, u386, u387, u388, u389, u390, u391, u392, u393, u394, u395, u396, u397, u398].toArray, dd⟩ wc) :
    (ip_b2).1.wp Try.prog Q ⟨[u0, u1, u2, u3, u4, u5, u6, u7, u8, u9, u10, u11, u12, u13, u14, u15, .slice (some ⟨gA, 0, none⟩) Kl dA, .slice (some ⟨gW, 0, none⟩) Kl dW, u18, .pointer (some ⟨D, 0, none⟩), .int .i64 (a : Int), .int .i64 (b : Int), u22, u23, u24, u25, u26, u27, u28, u29, u30, u31, u32, u33, u34, u35, u36, u37, u38, u39, u40, u41, u42, u43, u44, u45, u46, u47, u48, u49, u50, u51, u52, u53, u54, u55, u56, u57, u58, u59, u60, u61, u62, u63, u64, u65, u66, u67, u68, u69, u70, u71, u72, u73, u74, u75, u76, u77, u78, u79, u80, u81, u82, u83, u84, u85, u86, u87, u88, u89, u90, u91, u92, u93, u94, u95, u96, u97, u98, u99, u100, u101, u102, u103, u104, u105, u106, u107, u108, u109, u110, u111, u112, u113, u114, u115, u116, u117, u118, u119, u120, u121, u122, u123, u124, u125, u126, u127, u128, u129, u130, u131, u132, u133, u134, u135, u136, u137, u138, u139, u140, u141, u142, u143, u144, u145, u146, u147, u148, u149, u150, u151, u152, u153, u154, u155, u156, u157, u158, u159, u160, u161, u162, u163, u164, u165, u166, u167, u168, u169, u170, u171, u172, u173, u174, u175, u176, .int .u64 4, u178, u179, u180, u181, u182, u183, u184, u185, u186, u187, u188, u189, u190, u191, u192, u193, u194, u195, u196, u197, u198, u199, u200, u201, u202, u203, u204, u205, u206, u207, u208, u209, u210, u211, u212, u213, u214, u215, u216, u217, u218, u219, u220, u221, u222, u223, u224, u225, u226, u227, u228, u229, u230, u231, u232, u233, u234, u235, u236, u237, u238, u239, u240, u241, u242, u243, u244, u245, u246, u247, u248, u249, u250, u251, u252, u253, u254, u255, u256, u257, u258, u259, u260, u261, u262, u263, u264, u265, u266, u267, u268, u269, u270, u271, u272, u273, u274, u275, u276, u277, u278, u279, u280, u281, u282, u283, u284, u285, u286, u287, u288, u289, u290, u291, u292, u293, u294, u295, u296, u297, u298, u299, u300, u301, u302, u303, u304, u305, u306, u307, u308, u309, u310, u311, u312, u313, u314, u315, u316, u317, u318, u319, u320, u321, u322, u323, u324, u325, u326, u327, u328, u329, u330, u331, u332, u333, u334, u335, u336, u337, u338, u339, u340, u341, u342, u343, u344, u345, u346, u347, u348, u349, u350, u351, u352, u353, u354, u355, u356, u357, u358, u359, u360, u361, u362, u363, u364, u365, u366, u367, u368, u369, u370, u371, u372, u373, u374, u375, u376, u377, u378, u379, u380, u381, u382, u383, u384, u385, u386, u387, u388, u389, u390, u391, u392, u393, u394, u395, u396, u397, u398].toArray, dd⟩ w6 := by
  change Code.wp _ (Code.block _ _) _ _ _
  obtain ⟨pB, pC, pc, pv, px⟩ := qb
  have hpe := HE.out b _ QB.out
  dsimp only at hpe
  obtain ⟨hpx, hpl⟩ := hpe
  obtain rfl : pc = px := hpx
  have SB := hid (P6.out.sk b _ QB.out)
  dsimp only at SB
  obtain ⟨bp, op, dp, rfl, -, -⟩ := rowsAdr SB.out.2.2.2.1 SB.out.1.pos
  obtain ⟨Lp, hLp⟩ : ∃ L, pc.length = L := ⟨_, rfl⟩
  rw [hLp] at QB
  have HLPE := hid hLp
  have CB : Hid (w6.cell? ⟨gA, b, none⟩ = some (.pointer (some ⟨pB, 0, none⟩))) := hid (rowcell P6.out.all (ptrs_at QB.out))
  have CW6 : Hid (w6.cell? ⟨gW, a, none⟩ = some (.slice (some ⟨bq, oq, none⟩) Lq dq)) := hid (rowcell P6.out.want (lsts_at QA.out))
  have CP6 : Hid (w6.cell? ⟨gW, b, none⟩ = some (.slice (some ⟨bp, op, none⟩) Lp dp)) := hid (rowcell P6.out.want (lsts_at QB.out))
  clear hpl hLp
  by_cases hne : Lq = Lp
  · subst hne
    have HEQ : Hid (qc.length = pc.length) := hid (by rw [HLQ.out, HLPE.out])
    have HLP : Hid (0 < Lq) := hid HCD.out.1
    obtain ⟨sn, hsn⟩ : ∃ x, subS qc pc = x := ⟨_, rfl⟩
    have HSN : Hid (subQ qc pc qc.length = sn) := hid (by rw [← subS_eq]; exact hsn)
    have HSL : Hid (sn.length = Lq) := hid (by rw [← HSN.out, subQ_len]; exact HLQ.out)
    have HSO : Hid (AllOk sn) := hid (by rw [← HSN.out]; exact subQ_ok _ _ _)
    have CSY : Hid (∀ w', Kp Nb w6 w' → Calls Try.prog 21 #[.pointer (some ⟨qB, 0, none⟩), .pointer (some ⟨pB, 0, none⟩)] w' fun e w'' => ∃ B C, e = .returned (.tuple #[.pointer (some ⟨B, 0, none⟩), .int .i64 0]) ∧ SkAt w'' B C sn ∧ w'.heap.size ≤ B ∧ w'.heap.size ≤ C ∧ Kp Nb w' w'') := hid (fun w' k => by
      rw [← hsn]
      exact ksub_any qB qC pB pC qc pc w' (SA.out.1.kept k (fun h => h) (fun h => h)) (SB.out.1.kept k (fun h => h) (fun h => h)) HEQ.out (by have := HLQ.out; have := HL6.out; omega))
    clear hsn
    go_upto_region 35 with fail
    refine ip_r35y HAB HDA CA CB CSY _ ?hS ?hend
    case hS => exact hid ⟨(Kp.refl Nb w6).drew, (fun e => by cases e)⟩
    case hend =>
      intro g w7 hy
      obtain ⟨B9, C9⟩ := g
      obtain ⟨sk7, lB7, lC7⟩ := hy.out.h1 rfl
      dsimp only at sk7 lB7 lC7
      have K7 := hid hy.out.kp
      have P7 := hid (P6.out.kept K7.out)
      have D7 := hid (D6.out.kept K7.out (fun h => h))
      have SK7 := hid sk7
      have NC7 : Hid (NewC K C9) := hid (fun i p e => by
        obtain ⟨t1, t2, t3, t4, t5, t6⟩ := P6.out.sk i p e
        exact ⟨by have := t1.lt.2; omega, newNe t4 lC7 (by rw [← t5]; exact t1.pos)⟩)
      have LC7 : Hid (w.heap.size ≤ C9) := hid (by have := P6.out.kp.size; omega)
      have CW7 : Hid (w7.cell? ⟨gW, a, none⟩ = some (.slice (some ⟨bq, oq, none⟩) Lq dq)) := hid (K7.out.cell CW6.out (fun h => h))
      have CP7 : Hid (w7.cell? ⟨gW, b, none⟩ = some (.slice (some ⟨bp, op, none⟩) Lq dp)) := hid (K7.out.cell CP6.out (fun h => h))
      have LE : Hid (((Lq : Int) == (Lq : Int)) = true) := hid (beq_self_eq_true _)
      have LE2 : Hid (((Lq : Int) != (Lq : Int)) = false) := hid (by simp)
      clear hy sk7 lB7 lC7 P6 D6 CW6 CP6 CB CSY
      go_upto_region 36 with fail
      refine ip_r36y HAB HDA CW7 CP7 LE LE2 _ ?hS ?hend
      case hS => exact hid (Kp.refl Nb w7).drew
      case hend =>
        intro w8 k8
        have P8 := hid (P7.out.kept k8.out)
        have D8 := hid (D7.out.kept k8.out (fun h => h))
        have SK8 := hid (SK7.out.kept k8.out (fun h => h) (fun h => h))
        clear k8 P7 D7 SK7 LE LE2 CW7 CP7 K7
        go_upto_region 41 with fail
        refine ip_r41 (w := w) (C9 := C9) HAB HDA QA QB HKL KL HEQ HLQ HL6 HSN HSO HSL HLP _ ?hS ?hend
        case hS => exact hid (PlS.s2 P8.out sn sn _ _ _ _ _ true false _ _ (fun _ => ⟨SK8.out, LC7.out, NC7.out⟩) (fun e => by cases e) (fun _ e => by cases e))
        case hend =>
          intro g wy hy
          obtain ⟨v1, v2, v3, v4, v5⟩ := g
          have PF := hy.out.fin HSO.out rfl (by rw [HSL.out, ← HLQ.out]; exact SA.out.2.2.2.2.2)
          have RE : Hid (CutS w k a D (opl o) v2 v5 wy) := hid ⟨_, hid PF, hid (by rw [List.length_append, HKL.out]; have := HK.out; have := HAB.out; simp only [List.length_cons, List.length_nil]; omega), hid (fun j q e => by
            rcases snoc_at e with ⟨_, e⟩ | ⟨_, rfl⟩
            · exact HE.out j q e
            · exact ⟨rfl, by have := HSL.out; have := HL6.out; dsimp only; omega⟩), hid (hy.out.st D _ _ D8.out (by decide) (by decide))⟩
          clear hy PF
          go_wp2
          first | exact RE.out | (apply hN; exact RE.out)
  · have LE : Hid (((Lq : Int) == (Lp : Int)) = false) := hid (by simpa using (fun h : (Lq : Int) = (Lp : Int) => hne (by omega)))
    have LE2 : Hid (¬ (Lq : Int) = (Lp : Int)) := hid (fun h => hne (by omega))
    have CSN : Hid (∀ w', Kp Nb w6 w' → Calls Try.prog 21 #[.pointer (some ⟨qB, 0, none⟩), .pointer (some ⟨pB, 0, none⟩)] w' fun e w'' => e = .returned (.tuple #[.pointer none, .int .i64 2]) ∧ Kp Nb w' w'') := hid (fun w' k =>
      ksub_no qB qC pB pC qc pc w' (SA.out.1.kept k (fun h => h) (fun h => h)) (SB.out.1.kept k (fun h => h) (fun h => h)) (by rw [HLQ.out, HLPE.out]; exact hne))
    clear hne
    go_upto_region 35 with fail
    refine ip_r35n HAB HDA CA CB CSN _ ?hS ?hend
    case hS => exact hid (Kp.refl Nb w6).drew
    case hend =>
      intro w7 k7
      have P7 := hid (P6.out.kept k7.out)
      have CW7 : Hid (w7.cell? ⟨gW, a, none⟩ = some (.slice (some ⟨bq, oq, none⟩) Lq dq)) := hid (k7.out.cell CW6.out (fun h => h))
      have CP7 : Hid (w7.cell? ⟨gW, b, none⟩ = some (.slice (some ⟨bp, op, none⟩) Lp dp)) := hid (k7.out.cell CP6.out (fun h => h))
      clear k7 P6 CW6 CP6 D6 CSN CB
      go_upto_region 36 with fail
      refine ip_r36n HAB HDA CW7 CP7 LE LE2 _ ?hS ?hend
      case hS => exact hid (Kp.refl Nb w7).drew
      case hend =>
        intro w8 k8
        have RE := hid (P7.out.kept k8.out)
        clear k8 P7 LE LE2 CW7 CP7
        go_wp2
        first | exact RE.out | (apply hX; exact RE.out)
set_option maxRecDepth 100000 in
set_option maxHeartbeats 32000000 in
theorem ip_arm5 (HAB : Hid (a < Kl ∧ b < Kl)) (HDA : Hid (Kl ≤ dA ∧ dA ≤ maxLen ∧ Kl ≤ dW ∧ dW ≤ maxLen)) (P6 : Hid (PlS w K (.slice (some ⟨gA, 0, none⟩) Kl dA) (.slice (some ⟨gW, 0, none⟩) Kl dW) w6)) (D6 : Hid (Blk w6 D 50 (opl o))) (CA : Hid (w6.cell? ⟨gA, a, none⟩ = some (.pointer (some ⟨qB, 0, none⟩)))) (SA : Hid (SkAt w6 qB qC qc ∧ w.heap.size ≤ qC ∧ AllOk qc ∧ RowsSl cl c0 18 w6 (.slice (some ⟨bq, oq, none⟩) qc.length dq) qc ∧ qc.length = qc.length ∧ fitB (qc.length : Int) = true)) (SA6 : Hid (RowsSl cl c0 18 w6 (.slice (some ⟨bq, oq, none⟩) Lq dq) qc)) (QA : Hid (K[a]? = some ⟨qB, qC, qc, .slice (some ⟨bq, oq, none⟩) Lq dq, qc⟩)) (HLQ : Hid (qc.length = Lq)) (HL6 : Hid (Lq ≤ 60)) (HCD : Hid (0 < Lq ∧ Lq ≤ dq ∧ dq ≤ maxLen)) (HKL : Hid (K.length = Kl)) (HK : Hid (0 < Kl ∧ Kl ≤ k + 2)) (HE : Hid (∀ (j : Nat) (q : En), K[j]? = some q → q.sc = q.wc ∧ q.wc.length ≤ 60)) (HO4 : Hid ((opl o)[0]? = some (.int .i64 kd) ∧ (opl o)[1]? = some (.int .i64 oat) ∧ (opl o)[2]? = some (.int .i64 oto) ∧ (opl o)[3]? = some (.int .i64 on))) (Q : Exit → Act → World → Prop)
    (hN : ∀ (v16 v17 v22 v23 v24 v178 v179 v180 v181 v182 v183 v184 v185 v186 v187 v188 v189 v190 v191 v192 v193 v194 v195 v196 v197 v198 v199 v200 v201 v202 v203 v204 v205 v206 v207 v208 v209 v210 v211 v212 v213 v214 v215 v216 v217 v218 v219 v220 v221 v222 v223 v224 v225 v226 v227 v228 v229 v230 v231 v232 v233 v234 v235 v236 v237 v238 v239 v240 v241 v242 v243 v244 v245 v246 v247 v248 v249 v250 v251 v252 v253 v254 v255 v256 v257 v258 v259 v260 v261 v262 v263 v264 v265 v266 v267 v268 v269 v270 v271 v272 v273 v274 v275 v276 v277 v278 v279 v280 v281 v282 v283 v284 v285 v286 v287 v288 v289 v290 v291 v292 v293 v294 v295 v296 v297 v298 v299 v300 v301 v302 v303 v304 v305 v306 : Value) (wc : World), CutS w k a D (opl o) v16 v17 wc → Q .normal ⟨[u0, u1, u2, u3, u4, u5, u6, u7, u8, u9, u10, u11, u12, u13, u14, u15, v16, v17, u18, .pointer (some ⟨D, 0, none⟩), .int .i64 (a : Int), .int .i64 (b : Int), v22, v23, v24, u25, u26, u27, u28, u29, u30, u31, u32, u33, u34, u35, u36, u37, u38, u39, u40, u41, u42, u43, u44, u45, u46, u47, u48, u49, u50, u51, u52, u53, u54, u55, u56, u57, u58, u59, u60, u61, u62, u63, u64, u65, u66, u67, u68, u69, u70, u71, u72, u73, u74, u75, u76, u77, u78, u79, u80, u81, u82, u83, u84, u85, u86, u87, u88, u89, u90, u91, u92, u93, u94, u95, u96, u97, u98, u99, u100, u101, u102, u103, u104, u105, u106, u107, u108, u109, u110, u111, u112, u113, u114, u115, u116, u117, u118, u119, u120, u121, u122, u123, u124, u125, u126, u127, u128, u129, u130, u131, u132, u133, u134, u135, u136, u137, u138, u139, u140, u141, u142, u143, u144, u145, u146, u147, u148, u149, u150, u151, u152, u153, u154, u155, u156, u157, u158, u159, u160, u161, u162, u163, u164, u165, u166, u167, u168, u169, u170, u171, u172, u173, u174, u175, u176, .int .u64 5, v178, v179, v180, v181, v182, v183, v184, v185, v186, v187, v188, v189, v190, v191, v192, v193, v194, v195, v196, v197, v198, v199, v200, v201, v202, v203, v204, v205, v206, v207, v208, v209, v210, v211, v212, v213, v214, v215, v216, v217, v218, v219, v220, v221, v222, v223, v224, v225, v226, v227, v228, v229, v230, v231, v232, v233, v234, v235, v236, v237, v238, v239, v240, v241, v242, v243, v244, v245, v246, v247, v248, v249, v250, v251, v252, v253, v254, v255, v256, v257, v258, v259, v260, v261, v262, v263, v264, v265, v266, v267, v268, v269, v270, v271, v272, v273, v274, v275, v276, v277, v278, v279, v280, v281, v282, v283, v284, v285, v286, v287, v288, v289, v290, v291, v292, v293, v294, v295, v296, v297, v298, v299, v300, v301, v302, v303, v304, v305, v306, u307, u308, u309, u310, u311, u312, u313, u314, u315, u316, u317, u318, u319, u320, u321, u322, u323, u324, u325, u326, u327, u328, u329, u330, u331, u332, u333, u334, u335, u336, u337, u338, u339, u340, u341, u342, u343, u344, u345, u346, u347, u348, u349, u350, u351, u352, u353, u354, u355, u356, u357, u358, u359, u360, u361, u362, u363, u364, u365, u366, u367, u368, u369, u370, u371, u372, u373, u374, u375, u376, u377, u378, u379, u380, u381, u382, u383, u384, u385, u386, u387, u388, u389, u390, u391, u392, u393, u394, u395, u396, u397, u398].toArray, dd⟩ wc) :
    (ip_b2).1.wp Try.prog Q ⟨[u0, u1, u2, u3, u4, u5, u6, u7, u8, u9, u10, u11, u12, u13, u14, u15, .slice (some ⟨gA, 0, none⟩) Kl dA, .slice (some ⟨gW, 0, none⟩) Kl dW, u18, .pointer (some ⟨D, 0, none⟩), .int .i64 (a : Int), .int .i64 (b : Int), u22, u23, u24, u25, u26, u27, u28, u29, u30, u31, u32, u33, u34, u35, u36, u37, u38, u39, u40, u41, u42, u43, u44, u45, u46, u47, u48, u49, u50, u51, u52, u53, u54, u55, u56, u57, u58, u59, u60, u61, u62, u63, u64, u65, u66, u67, u68, u69, u70, u71, u72, u73, u74, u75, u76, u77, u78, u79, u80, u81, u82, u83, u84, u85, u86, u87, u88, u89, u90, u91, u92, u93, u94, u95, u96, u97, u98, u99, u100, u101, u102, u103, u104, u105, u106, u107, u108, u109, u110, u111, u112, u113, u114, u115, u116, u117, u118, u119, u120, u121, u122, u123, u124, u125, u126, u127, u128, u129, u130, u131, u132, u133, u134, u135, u136, u137, u138, u139, u140, u141, u142, u143, u144, u145, u146, u147, u148, u149, u150, u151, u152, u153, u154, u155, u156, u157, u158, u159, u160, u161, u162, u163, u164, u165, u166, u167, u168, u169, u170, u171, u172, u173, u174, u175, u176, .int .u64 5, u178, u179, u180, u181, u182, u183, u184, u185, u186, u187, u188, u189, u190, u191, u192, u193, u194, u195, u196, u197, u198, u199, u200, u201, u202, u203, u204, u205, u206, u207, u208, u209, u210, u211, u212, u213, u214, u215, u216, u217, u218, u219, u220, u221, u222, u223, u224, u225, u226, u227, u228, u229, u230, u231, u232, u233, u234, u235, u236, u237, u238, u239, u240, u241, u242, u243, u244, u245, u246, u247, u248, u249, u250, u251, u252, u253, u254, u255, u256, u257, u258, u259, u260, u261, u262, u263, u264, u265, u266, u267, u268, u269, u270, u271, u272, u273, u274, u275, u276, u277, u278, u279, u280, u281, u282, u283, u284, u285, u286, u287, u288, u289, u290, u291, u292, u293, u294, u295, u296, u297, u298, u299, u300, u301, u302, u303, u304, u305, u306, u307, u308, u309, u310, u311, u312, u313, u314, u315, u316, u317, u318, u319, u320, u321, u322, u323, u324, u325, u326, u327, u328, u329, u330, u331, u332, u333, u334, u335, u336, u337, u338, u339, u340, u341, u342, u343, u344, u345, u346, u347, u348, u349, u350, u351, u352, u353, u354, u355, u356, u357, u358, u359, u360, u361, u362, u363, u364, u365, u366, u367, u368, u369, u370, u371, u372, u373, u374, u375, u376, u377, u378, u379, u380, u381, u382, u383, u384, u385, u386, u387, u388, u389, u390, u391, u392, u393, u394, u395, u396, u397, u398].toArray, dd⟩ w6 := by
  change Code.wp _ (Code.block _ _) _ _ _
  have cd3 : w6.cell? ⟨D, 3, none⟩ = some (.int .i64 on) := (D6.out.cell 3).trans HO4.out.2.2.2
  obtain ⟨kk, hkk⟩ : ∃ K : Nat, max 0 (min on 100) = (K : Int) := ⟨(max 0 (min on 100)).toNat, by omega⟩
  obtain ⟨mk, hmk⟩ : ∃ m, min kk Lq = m := ⟨_, rfl⟩
  have MK : Hid (min (kk : Int) (Lq : Int) = (mk : Int)) := hid (by omega)
  have MK2 : Hid (mk ≤ Lq ∧ mk ≤ 60) := hid ⟨by omega, by have := HL6.out; omega⟩
  have MK4 : Hid (mk ≤ dq ∧ ¬ dq < mk ∧ ¬ dq = 0) := hid (by have := HCD.out; omega)
  have MK3 : Hid (qc.take kk = qc.take mk) := hid (by rw [← hmk, ← HLQ.out, ← List.take_eq_take_min])
  have CW6 : Hid (w6.cell? ⟨gW, a, none⟩ = some (.slice (some ⟨bq, oq, none⟩) Lq dq)) := hid (rowcell P6.out.want (lsts_at QA.out))
  go_upto_region 23 with fail
  clear hkk hmk cd3
  refine ip_r23 HAB HDA CA CW6 MK MK2 MK3 MK4 SA SA6 HLQ HL6 _ ?hS ?hend
  case hS => exact hid ⟨(Kp.refl Nb w6).drew, (fun e => by cases e)⟩
  case hend =>
    intro g w7 hy
    have RE : Hid (CutS w k a D (opl o) (.slice (some ⟨gA, 0, none⟩) Kl dA) (.slice (some ⟨gW, 0, none⟩) Kl dW) w7) := hid ⟨K, hid (P6.out.kept hy.out.kp), hid (by rw [HKL.out]; have := HK.out; have := HAB.out; omega), HE, hid (D6.out.kept hy.out.kp (fun h => h))⟩
    clear hy MK MK2 MK3 MK4 SA6 CW6
    go_wp2
    first | exact RE.out | (apply hN; exact RE.out)
end

end Go.Proofs.Yteedceepoindeaa

namespace Go.Proofs.Yteedceepoindeaa
open Go.RowKit

section
variable {w w3 W5 w6 w7 w8 wc : World} {K : List En} {gA gW Kl dA dW D a b i kk mk Lq Lp Lc N B1 B2 B9 C9 E qB qC pB pC bq oq dq bp op dp tq ua ub df : Nat} {yf : Option Addr} {qc pc sn : List Cel} {x : Cel} {o : OpQ} {kd oat oto on : Int} {mm : List Int} {bb eb : Bool} {qa qb : En} {k : Nat} {r : Int} {dd : List Deferred}
variable {u0 u1 u2 u3 u4 u5 u6 u7 u8 u9 u10 u11 u12 u13 u14 u15 u16 u17 u18 u19 u20 u21 u22 u23 u24 u25 u26 u27 u28 u29 u30 u31 u32 u33 u34 u35 u36 u37 u38 u39 u40 u41 u42 u43 u44 u45 u46 u47 u48 u49 u50 u51 u52 u53 u54 u55 u56 u57 u58 u59 u60 u61 u62 u63 u64 u65 u66 u67 u68 u69 u70 u71 u72 u73 u74 u75 u76 u77 u78 u79 u80 u81 u82 u83 u84 u85 u86 u87 u88 u89 u90 u91 u92 u93 u94 u95 u96 u97 u98 u99 u100 u101 u102 u103 u104 u105 u106 u107 u108 u109 u110 u111 u112 u113 u114 u115 u116 u117 u118 u119 u120 u121 u122 u123 u124 u125 u126 u127 u128 u129 u130 u131 u132 u133 u134 u135 u136 u137 u138 u139 u140 u141 u142 u143 u144 u145 u146 u147 u148 u149 u150 u151 u152 u153 u154 u155 u156 u157 u158 u159 u160 u161 u162 u163 u164 u165 u166 u167 u168 u169 u170 u171 u172 u173 u174 u175 u176 u177 u178 u179 u180 u181 u182 u183 u184 u185 u186 u187 u188 u189 u190 u191 u192 u193 u194 u195 u196 u197 u198 u199 u200 u201 u202 u203 u204 u205 u206 u207 u208 u209 u210 u211 u212 u213 u214 u215 u216 u217 u218 u219 u220 u221 u222 u223 u224 u225 u226 u227 u228 u229 u230 u231 u232 u233 u234 u235 u236 u237 u238 u239 u240 u241 u242 u243 u244 u245 u246 u247 u248 u249 u250 u251 u252 u253 u254 u255 u256 u257 u258 u259 u260 u261 u262 u263 u264 u265 u266 u267 u268 u269 u270 u271 u272 u273 u274 u275 u276 u277 u278 u279 u280 u281 u282 u283 u284 u285 u286 u287 u288 u289 u290 u291 u292 u293 u294 u295 u296 u297 u298 u299 u300 u301 u302 u303 u304 u305 u306 u307 u308 u309 u310 u311 u312 u313 u314 u315 u316 u317 u318 u319 u320 u321 u322 u323 u324 u325 u326 u327 u328 u329 u330 u331 u332 u333 u334 u335 u336 u337 u338 u339 u340 u341 u342 u343 u344 u345 u346 u347 u348 u349 u350 u351 u352 u353 u354 u355 u356 u357 u358 u359 u360 u361 u362 u363 u364 u365 u366 u367 u368 u369 u370 u371 u372 u373 u374 u375 u376 u377 u378 u379 u380 u381 u382 u383 u384 u385 u386 u387 u388 u389 u390 u391 u392 u393 u394 u395 u396 u397 u398 : Value}
set_option maxRecDepth 100000 in
set_option maxHeartbeats 32000000 in
theorem ip_r43 (HAB : Hid (a < Kl ∧ b < Kl)) (HDA : Hid (Kl ≤ dA ∧ dA ≤ maxLen ∧ Kl ≤ dW ∧ dW ≤ maxLen)) (DC : Hid (Blk wc D 50 (opl o))) (HO4 : Hid ((opl o)[0]? = some (.int .i64 kd) ∧ (opl o)[1]? = some (.int .i64 oat) ∧ (opl o)[2]? = some (.int .i64 oto) ∧ (opl o)[3]? = some (.int .i64 on))) (CW : Hid (wc.cell? ⟨gW, a, none⟩ = some (.slice (some ⟨bq, oq, none⟩) Lq dq))) (BX : Hid (Blk wc E 41 (cl x))) (OX : Hid (CelOk x)) (HLQ : Hid (qc.length = Lq)) (HCD : Hid (0 < Lq ∧ Lq ≤ dq ∧ dq ≤ maxLen)) (RA : Hid (RowsSl cl c0 18 wc (.slice (some ⟨bq, oq, none⟩) Lq dq) qc)) (hbb : bb = decide (0 ≤ on ∧ on < (Lq : Int))) (hx1 : bb = true → x = celAt qc on.toNat) (hx2 : bb = false → x = c0) (Q : Exit → Act → World → Prop)
    (hend : ∀ (v317 v318 v319 v320 v321 v322 v323 v324 v325 v326 v327 v328 v329 v330 v331 v332 v333 v334 v335 v336 v337 v338 v339 v340 v341 v342 v343 v344 v345 v346 v347 v348 v349 v350 v351 v352 v353 v354 : Value) wy, Kp Nb wc wy → Q .normal ⟨[u0, u1, u2, u3, u4, u5, u6, u7, u8, u9, u10, u11, u12, u13, u14, u15, u16, .slice (some ⟨gW, 0, none⟩) Kl dW, u18, .pointer (some ⟨D, 0, none⟩), .int .i64 (a : Int), u21, u22, u23, u24, .pointer (some ⟨E, 0, none⟩), .bool bb, u27, u28, u29, u30, u31, u32, u33, u34, u35, u36, u37, u38, u39, u40, u41, u42, u43, u44, u45, u46, u47, u48, u49, u50, u51, u52, u53, u54, u55, u56, u57, u58, u59, u60, u61, u62, u63, u64, u65, u66, u67, u68, u69, u70, u71, u72, u73, u74, u75, u76, u77, u78, u79, u80, u81, u82, u83, u84, u85, u86, u87, u88, u89, u90, u91, u92, u93, u94, u95, u96, u97, u98, u99, u100, u101, u102, u103, u104, u105, u106, u107, u108, u109, u110, u111, u112, u113, u114, u115, u116, u117, u118, u119, u120, u121, u122, u123, u124, u125, u126, u127, u128, u129, u130, u131, u132, u133, u134, u135, u136, u137, u138, u139, u140, u141, u142, u143, u144, u145, u146, u147, u148, u149, u150, u151, u152, u153, u154, u155, u156, u157, u158, u159, u160, u161, u162, u163, u164, u165, u166, u167, u168, u169, u170, u171, u172, u173, u174, u175, u176, u177, u178, u179, u180, u181, u182, u183, u184, u185, u186, u187, u188, u189, u190, u191, u192, u193, u194, u195, u196, u197, u198, u199, u200, u201, u202, u203, u204, u205, u206, u207, u208, u209, u210, u211, u212, u213, u214, u215, u216, u217, u218, u219, u220, u221, u222, u223, u224, u225, u226, u227, u228, u229, u230, u231, u232, u233, u234, u235, u236, u237, u238, u239, u240, u241, u242, u243, u244, u245, u246, u247, u248, u249, u250, u251, u252, u253, u254, u255, u256, u257, u258, u259, u260, u261, u262, u263, u264, u265, u266, u267, u268, u269, u270, u271, u272, u273, u274, u275, u276, u277, u278, u279, u280, u281, u282, u283, u284, u285, u286, u287, u288, u289, u290, u291, u292, u293, u294, u295, u296, u297, u298, u299, u300, u301, u302, u303, u304, u305, u306, u307, u308, u309, u310, u311, u312, u313, u314, u315, u316, v317, v318, v319, v320, v321, v322, v323, v324, v325, v326, v327, v328, v329, v330, v331, v332, v333, v334, v335, v336, v337, v338, v339, v340, v341, v342, v343, v344, v345, v346, v347, v348, v349, v350, v351, v352, v353, v354, .bool false, u356, u357, u358, u359, u360, u361, u362, u363, u364, u365, u366, u367, u368, u369, u370, u371, u372, u373, u374, u375, u376, u377, u378, u379, u380, u381, u382, u383, u384, u385, u386, u387, u388, u389, u390, u391, u392, u393, u394, u395, u396, u397, u398].toArray, dd⟩ wy) :
    (ip_c43).1.wp Try.prog Q ⟨[u0, u1, u2, u3, u4, u5, u6, u7, u8, u9, u10, u11, u12, u13, u14, u15, u16, .slice (some ⟨gW, 0, none⟩) Kl dW, u18, .pointer (some ⟨D, 0, none⟩), .int .i64 (a : Int), u21, u22, u23, u24, .pointer (some ⟨E, 0, none⟩), .bool bb, u27, u28, u29, u30, u31, u32, u33, u34, u35, u36, u37, u38, u39, u40, u41, u42, u43, u44, u45, u46, u47, u48, u49, u50, u51, u52, u53, u54, u55, u56, u57, u58, u59, u60, u61, u62, u63, u64, u65, u66, u67, u68, u69, u70, u71, u72, u73, u74, u75, u76, u77, u78, u79, u80, u81, u82, u83, u84, u85, u86, u87, u88, u89, u90, u91, u92, u93, u94, u95, u96, u97, u98, u99, u100, u101, u102, u103, u104, u105, u106, u107, u108, u109, u110, u111, u112, u113, u114, u115, u116, u117, u118, u119, u120, u121, u122, u123, u124, u125, u126, u127, u128, u129, u130, u131, u132, u133, u134, u135, u136, u137, u138, u139, u140, u141, u142, u143, u144, u145, u146, u147, u148, u149, u150, u151, u152, u153, u154, u155, u156, u157, u158, u159, u160, u161, u162, u163, u164, u165, u166, u167, u168, u169, u170, u171, u172, u173, u174, u175, u176, u177, u178, u179, u180, u181, u182, u183, u184, u185, u186, u187, u188, u189, u190, u191, u192, u193, u194, u195, u196, u197, u198, u199, u200, u201, u202, u203, u204, u205, u206, u207, u208, u209, u210, u211, u212, u213, u214, u215, u216, u217, u218, u219, u220, u221, u222, u223, u224, u225, u226, u227, u228, u229, u230, u231, u232, u233, u234, u235, u236, u237, u238, u239, u240, u241, u242, u243, u244, u245, u246, u247, u248, u249, u250, u251, u252, u253, u254, u255, u256, u257, u258, u259, u260, u261, u262, u263, u264, u265, u266, u267, u268, u269, u270, u271, u272, u273, u274, u275, u276, u277, u278, u279, u280, u281, u282, u283, u284, u285, u286, u287, u288, u289, u290, u291, u292, u293, u294, u295, u296, u297, u298, u299, u300, u301, u302, u303, u304, u305, u306, u307, u308, u309, u310, u311, u312, u313, u314, u315, u316, u317, u318, u319, u320, u321, u322, u323, u324, u325, u326, u327, u328, u329, u330, u331, u332, u333, u334, u335, u336, u337, u338, u339, u340, u341, u342, u343, u344, u345, u346, u347, u348, u349, u350, u351, u352, u353, u354, u355, u356, u357, u358, u359, u360, u361, u362, u363, u364, u365, u366, u367, u368, u369, u370, u371, u372, u373, u374, u375, u376, u377, u378, u379, u380, u381, u382, u383, u384, u385, u386, u387, u388, u389, u390, u391, u392, u393, u394, u395, u396, u397, u398].toArray, dd⟩ wc := by
  by_cases h0 : on < 0
  · have hb : bb = false := by rw [hbb]; exact decide_eq_false (by omega)
    have hx := hx2 hb
    subst hb hx
    exact ip_r43neg DC HO4 BX (hid ⟨by omega, h0⟩) Q (hid (Kp.refl Nb wc).drew) (fun wy k => hend _ _ _ _ _ _ _ _ _ _ _ _ _ _ _ _ _ _ _ _ _ _ _ _ _ _ _ _ _ _ _ _ _ _ _ _ _ _ wy k.out)
  · by_cases h1 : on < (Lq : Int)
    · have hb : bb = true := by rw [hbb]; exact decide_eq_true ⟨by omega, h1⟩
      have hx := hx1 hb
      obtain ⟨i, hi⟩ : ∃ i : Nat, on = (i : Int) := ⟨on.toNat, by omega⟩
      subst hb
      rw [hi] at hx h1 HO4
      rw [Int.toNat_natCast] at hx
      have hiL : i < Lq := by omega
      have RX : Hid (wc.rangeAt bq (oq + i * 18) (cl x)) := hid (by
        rcases RA.out with ⟨_, e0⟩ | ⟨b', o', c', e1, hc, hm, hr⟩
        · have := HLQ.out; rw [e0] at this; simp at this; omega
        · injection e1 with e1
          injection e1 with e1
          injection e1 with e1 e2
          subst e1 e2
          have h := hr i (by rw [HLQ.out]; exact hiL)
          rw [hx]
          exact h)
      exact ip_r43yes HAB HDA DC CW BX OX (hid HO4.out.2.2.2) (hid (by omega)) (hid hiL) (hid ⟨hiL, HCD.out.2⟩) RX Q (hid (Kp.refl Nb wc).drew) (fun wy k => hend _ _ _ _ _ _ _ _ _ _ _ _ _ _ _ _ _ _ _ _ _ _ _ _ _ _ _ _ _ _ _ _ _ _ _ _ _ _ wy k.out)
    · have hb : bb = false := by rw [hbb]; exact decide_eq_false (by omega)
      have hx := hx2 hb
      subst hb hx
      exact ip_r43big HAB HDA DC HO4 CW BX (hid ⟨by omega, h0⟩) (hid ⟨h1, by omega⟩) Q (hid (Kp.refl Nb wc).drew) (fun wy k => hend _ _ _ _ _ _ _ _ _ _ _ _ _ _ _ _ _ _ _ _ _ _ _ _ _ _ _ _ _ _ _ _ _ _ _ _ _ _ wy k.out)
end

end Go.Proofs.Yteedceepoindeaa

namespace Go.Proofs.Yteedceepoindeaa
open Go.RowKit

theorem fitB_t {n : Int} (h : fitB n = true) : ∃ t : Nat, n = ((3 * t : Nat) : Int) ∧ 0 < t ∧ t ≤ 512 := by
  unfold fitB at h
  obtain ⟨h1, h2, h3⟩ := of_decide_eq_true h
  exact ⟨(n / 3).toNat, by omega, by omega, by omega⟩
theorem build_m0 (w : World) : (Instr.build 23 #[]).run Try.prog w = .ok (markV (List.replicate 16 0)) w := by kernel_rfl
set_option maxRecDepth 100000 in
set_option maxHeartbeats 16000000 in
theorem iplays_nn (n : Int) (vf vl : Value) (cs : List Cel) (Nl : Nat) (w : World) (hn : -9223372036854775808 ≤ n ∧ n < 9223372036854775808) (hv : RowsSl cl c0 18 w vf cs) (ho : AllOk cs) (hl : ∃ y d, vl = .slice y Nl d) (hx : fitB n = false) (hy : fitB (cs.length : Int) = false) :
    Calls Try.prog 4 #[.int .i64 n, vf, vl] w fun e w' => e = .returned (.bool true) ∧ Kp Nb w w' := by
  obtain ⟨yl, dl, rfl⟩ := hl
  obtain ⟨yf, df, rfl⟩ := hv.shape
  obtain ⟨L, hL⟩ : ∃ L, cs.length = L := ⟨_, rfl⟩
  have HV := hid hv
  have HO := hid ho
  have HX := hid hx
  have HY := hid hy
  have HNR := hid hn
  rw [hL] at HV HY ⊢
  have HLL := hid hL
  have CRX : Hid (∀ w, Calls Try.prog 10 #[.int .i64 n] w fun e w' => e = .returned (.bool false) ∧ w = w') := hid (fun w => by rw [← HX.out]; exact rfits_any n w HNR.out.1 HNR.out.2)
  clear hv ho hx hy hn hL
  go_enter Try.func4, Try.ntmps4
  go_wp2_with fail
  refine (ifirst_any _).mono ?_
  rintro e w1 ⟨rfl, k1⟩
  have K1 := hid k1
  clear k1
  by_cases hl : 60 < n
  · have d1 : decide (n > 60) = true := decide_eq_true (by omega)
    go_wp2
    go_ret
    exact ⟨rfl, K1.out⟩
  have d1 : decide (n > 60) = false := decide_eq_false (by omega)
  clear hl
  by_cases hl : 60 < L
  · have d2 : decide ((L : Int) > 60) = true := decide_eq_true (by omega)
    go_wp2
    go_ret
    exact ⟨rfl, K1.out⟩
  have d2 : decide ((L : Int) > 60) = false := decide_eq_false (by omega)
  have HL60 : Hid (L ≤ 60) := hid (by omega)
  clear hl
  by_cases hl : 30 < Nl
  · have d3 : decide ((Nl : Int) > 30) = true := decide_eq_true (by omega)
    go_wp2
    go_ret
    exact ⟨rfl, K1.out⟩
  have d3 : decide ((Nl : Int) > 30) = false := decide_eq_false (by omega)
  clear hl
  have CRY : Hid (∀ w, Calls Try.prog 10 #[.int .i64 (L : Int)] w fun e w' => e = .returned (.bool false) ∧ w = w') := hid (fun w => by rw [← HY.out]; exact rfits_any (L : Int) w (by omega) (by have := HL60.out; omega))
  go_wp2_with fail
  refine (new_no n _ HNR.out.1 HNR.out.2 HX.out).mono ?_
  rintro e w2 ⟨rfl, rfl⟩
  have K2 := K1
  have HV2 := hid (HV.out.kept K2.out)
  have OF2 : Hid (fitB (cs.length : Int) = false) := hid (by rw [HLL.out]; exact HY.out)
  have CF := hid (from_no _ cs _ HV2.out (by rw [HLL.out]; have := HL60.out; omega) OF2.out)
  go_wp2_with fail
  refine CF.out.mono ?_
  rintro e w3 ⟨rfl, rfl⟩
  have K3 := K2
  clear CF
  clear HV2 OF2
  go_wp2_with fail
  refine (CRX.out _).mono ?_
  rintro e w4 ⟨rfl, rfl⟩
  go_wp2_with fail
  refine (CRY.out _).mono ?_
  rintro e w4 ⟨rfl, rfl⟩
  obtain ⟨m0, hm0⟩ : ∃ m, List.replicate 16 (0 : Int) = m := ⟨_, rfl⟩
  have BM : Hid (∀ w, (Instr.build 23 #[]).run Try.prog w = .ok (markV m0) w) := hid (fun w => by rw [← hm0]; exact build_m0 w)
  clear hm0
  go_wp2_with (refine wpList_val (by rfl) _ _ (exec_build rfl (by simp) (BM.out _)) ?_)
  refine (kadd_nil m0 _).mono ?_
  rintro e w5 ⟨rfl, k5⟩
  have K5 := hid (K3.out.trans k5 (fun _ _ h => h))
  clear k5
  go_wp2_with (refine wpList_val (by rfl) _ _ (exec_build rfl (by simp) (BM.out _)) ?_)
  refine (krem_nil m0 _).mono ?_
  rintro e w6 ⟨rfl, k6⟩
  have K6 := hid (K5.out.trans k6 (fun _ _ h => h))
  clear k6
  go_wp2_with fail
  refine (kcell_big (.pointer none) 0 0 _ (by decide) (by decide) (.inl rfl) (fun W _ => size_nil W)).mono ?_
  rintro e w7 ⟨rfl, k7⟩
  have K7 := hid (K6.out.trans k7 (fun _ _ h => h))
  clear k7 K3 K5 K6 BM
  obtain ⟨N, hN⟩ : ∃ N, w7.heap.size = N := ⟨_, rfl⟩
  obtain ⟨W, hW⟩ : ∃ W, W = w7.alloc (.cells (cl c0).toArray 41) := ⟨_, rfl⟩
  have H4 : Hid (Blk W N 41 (cl c0)) := hid (by rw [hW, ← hN]; exact Blk.new w7 _ _)
  have KW : Hid (Kp Nb w W) := hid (by rw [hW]; exact K7.out.alloc _)
  have LN : Hid (w7.heap.size ≤ N) := hid (Nat.le_of_eq hN)
  obtain ⟨P, hP⟩ : ∃ P, P = cl c0 := ⟨_, rfl⟩
  rw [← hP] at H4
  have TH : Hid (W.there N 0 P.toArray.size) := hid (by rw [List.size_toArray]; exact H4.out.there 0 _ (by rw [Nat.zero_add]; exact Nat.le_refl _))
  have SI : Hid ((Try.prog.info? 41).map (·.size) = some P.toArray.size) := hid (by rw [List.size_toArray, hP, cl_length c0_ok]; exact cell_info)
  have ON : Hid (P.toArray.all (·.oneCell') = true) := hid (by rw [hP]; exact all_oneCell_toArray (cellL_one _ _ _))
  have K8 : Hid (Kp Nb w (W.setCells N 0 P)) := hid (Kp.setCells (fun h => by have := LN.out; have := K7.out.size; omega) _ 0 _ KW.out)
  have HPE : Hid (cv c0 = .agg P.toArray) := hid (by rw [hP])
  rw [HPE.out]
  have HW := hid hW
  clear hP H4 KW hW
  go_wp2_with (rw [show w7.alloc (.cells #[.int .i64 0, .int .u8 0, .int .u8 0, .int .u8 0, .int .u8 0, .int .u8 0, .int .u8 0, .int .u8 0, .int .u8 0, .int .u8 0, .int .u8 0, .int .u8 0, .int .u8 0, .int .u8 0, .int .u8 0, .int .u8 0, .int .u8 0, .int .u64 0] 41) = W from HW.out.symm]; refine wpList_store_mid (by rfl) 41 (.tmp 12) (.tmp 97) (by rfl) N 0 P.toArray (by rfl) (by rfl) TH.out SI.out ON.out ?_)
  refine (ksub_nil1 _ (.inl rfl) _).mono ?_
  rintro e w9 ⟨rfl, rfl⟩
  go_wp2_with fail
  refine (size_nil _).mono ?_
  rintro e w9 ⟨rfl, rfl⟩
  go_wp2_with fail
  refine (empty_nil _).mono ?_
  rintro e w10 ⟨rfl, k10⟩
  have K10 := hid (K8.out.trans k10 (fun _ _ h => h))
  clear k10
  go_wp2_with fail
  refine (kclone_nil _).mono ?_
  rintro e w11 ⟨rfl, rfl⟩
  go_wp2_with fail
  refine (gcells0_any 9 _).mono ?_
  rintro e w12 ⟨y12, d12, rfl, k12⟩
  have K12 := hid (K10.out.trans k12 (fun _ _ h => h))
  clear k12
  go_wp2
  go_ret
  exact ⟨rfl, K12.out⟩
set_option maxRecDepth 100000 in
set_option maxHeartbeats 16000000 in
theorem iplays_ny (n : Int) (vf vl : Value) (cs : List Cel) (Nl : Nat) (w : World) (hn : -9223372036854775808 ≤ n ∧ n < 9223372036854775808) (hv : RowsSl cl c0 18 w vf cs) (ho : AllOk cs) (hl : ∃ y d, vl = .slice y Nl d) (hx : fitB n = false) (hy : fitB (cs.length : Int) = true) :
    Calls Try.prog 4 #[.int .i64 n, vf, vl] w fun e w' => e = .returned (.bool true) ∧ Kp Nb w w' := by
  obtain ⟨yl, dl, rfl⟩ := hl
  obtain ⟨yf, df, rfl⟩ := hv.shape
  obtain ⟨L, hL⟩ : ∃ L, cs.length = L := ⟨_, rfl⟩
  have HV := hid hv
  have HO := hid ho
  have HX := hid hx
  have HY := hid hy
  have HNR := hid hn
  rw [hL] at HV HY ⊢
  have HLL := hid hL
  have CRX : Hid (∀ w, Calls Try.prog 10 #[.int .i64 n] w fun e w' => e = .returned (.bool false) ∧ w = w') := hid (fun w => by rw [← HX.out]; exact rfits_any n w HNR.out.1 HNR.out.2)
  clear hv ho hx hy hn hL
  go_enter Try.func4, Try.ntmps4
  go_wp2_with fail
  refine (ifirst_any _).mono ?_
  rintro e w1 ⟨rfl, k1⟩
  have K1 := hid k1
  clear k1
  by_cases hl : 60 < n
  · have d1 : decide (n > 60) = true := decide_eq_true (by omega)
    go_wp2
    go_ret
    exact ⟨rfl, K1.out⟩
  have d1 : decide (n > 60) = false := decide_eq_false (by omega)
  clear hl
  by_cases hl : 60 < L
  · have d2 : decide ((L : Int) > 60) = true := decide_eq_true (by omega)
    go_wp2
    go_ret
    exact ⟨rfl, K1.out⟩
  have d2 : decide ((L : Int) > 60) = false := decide_eq_false (by omega)
  have HL60 : Hid (L ≤ 60) := hid (by omega)
  clear hl
  by_cases hl : 30 < Nl
  · have d3 : decide ((Nl : Int) > 30) = true := decide_eq_true (by omega)
    go_wp2
    go_ret
    exact ⟨rfl, K1.out⟩
  have d3 : decide ((Nl : Int) > 30) = false := decide_eq_false (by omega)
  clear hl
  have CRY : Hid (∀ w, Calls Try.prog 10 #[.int .i64 (L : Int)] w fun e w' => e = .returned (.bool true) ∧ w = w') := hid (fun w => by rw [← HY.out]; exact rfits_any (L : Int) w (by omega) (by have := HL60.out; omega))
  go_wp2_with fail
  refine (new_no n _ HNR.out.1 HNR.out.2 HX.out).mono ?_
  rintro e w2 ⟨rfl, rfl⟩
  have K2 := K1
  have HV2 := hid (HV.out.kept K2.out)
  have OF2 : Hid (fitB (cs.length : Int) = true) := hid (by rw [HLL.out]; exact HY.out)
  have CF := hid (from_yes _ cs _ HV2.out HO.out OF2.out)
  go_wp2_with fail
  refine CF.out.mono ?_
  rintro e w3 ⟨B2, C2, rfl, -, -, -, k3⟩
  have K3 := hid (K2.out.trans k3 (fun _ _ h => h))
  clear k3 CF
  clear HV2 OF2
  go_wp2_with fail
  refine (CRX.out _).mono ?_
  rintro e w4 ⟨rfl, rfl⟩
  go_wp2_with fail
  refine (CRY.out _).mono ?_
  rintro e w4 ⟨rfl, rfl⟩
  obtain ⟨m0, hm0⟩ : ∃ m, List.replicate 16 (0 : Int) = m := ⟨_, rfl⟩
  have BM : Hid (∀ w, (Instr.build 23 #[]).run Try.prog w = .ok (markV m0) w) := hid (fun w => by rw [← hm0]; exact build_m0 w)
  clear hm0
  go_wp2_with (refine wpList_val (by rfl) _ _ (exec_build rfl (by simp) (BM.out _)) ?_)
  refine (kadd_nil m0 _).mono ?_
  rintro e w5 ⟨rfl, k5⟩
  have K5 := hid (K3.out.trans k5 (fun _ _ h => h))
  clear k5
  go_wp2_with (refine wpList_val (by rfl) _ _ (exec_build rfl (by simp) (BM.out _)) ?_)
  refine (krem_nil m0 _).mono ?_
  rintro e w6 ⟨rfl, k6⟩
  have K6 := hid (K5.out.trans k6 (fun _ _ h => h))
  clear k6
  go_wp2_with fail
  refine (kcell_big (.pointer none) 0 0 _ (by decide) (by decide) (.inl rfl) (fun W _ => size_nil W)).mono ?_
  rintro e w7 ⟨rfl, k7⟩
  have K7 := hid (K6.out.trans k7 (fun _ _ h => h))
  clear k7 K3 K5 K6 BM
  obtain ⟨N, hN⟩ : ∃ N, w7.heap.size = N := ⟨_, rfl⟩
  obtain ⟨W, hW⟩ : ∃ W, W = w7.alloc (.cells (cl c0).toArray 41) := ⟨_, rfl⟩
  have H4 : Hid (Blk W N 41 (cl c0)) := hid (by rw [hW, ← hN]; exact Blk.new w7 _ _)
  have KW : Hid (Kp Nb w W) := hid (by rw [hW]; exact K7.out.alloc _)
  have LN : Hid (w7.heap.size ≤ N) := hid (Nat.le_of_eq hN)
  obtain ⟨P, hP⟩ : ∃ P, P = cl c0 := ⟨_, rfl⟩
  rw [← hP] at H4
  have TH : Hid (W.there N 0 P.toArray.size) := hid (by rw [List.size_toArray]; exact H4.out.there 0 _ (by rw [Nat.zero_add]; exact Nat.le_refl _))
  have SI : Hid ((Try.prog.info? 41).map (·.size) = some P.toArray.size) := hid (by rw [List.size_toArray, hP, cl_length c0_ok]; exact cell_info)
  have ON : Hid (P.toArray.all (·.oneCell') = true) := hid (by rw [hP]; exact all_oneCell_toArray (cellL_one _ _ _))
  have K8 : Hid (Kp Nb w (W.setCells N 0 P)) := hid (Kp.setCells (fun h => by have := LN.out; have := K7.out.size; omega) _ 0 _ KW.out)
  have HPE : Hid (cv c0 = .agg P.toArray) := hid (by rw [hP])
  rw [HPE.out]
  have HW := hid hW
  clear hP H4 KW hW
  go_wp2_with (rw [show w7.alloc (.cells #[.int .i64 0, .int .u8 0, .int .u8 0, .int .u8 0, .int .u8 0, .int .u8 0, .int .u8 0, .int .u8 0, .int .u8 0, .int .u8 0, .int .u8 0, .int .u8 0, .int .u8 0, .int .u8 0, .int .u8 0, .int .u8 0, .int .u8 0, .int .u64 0] 41) = W from HW.out.symm]; refine wpList_store_mid (by rfl) 41 (.tmp 12) (.tmp 97) (by rfl) N 0 P.toArray (by rfl) (by rfl) TH.out SI.out ON.out ?_)
  refine (ksub_nil1 _ (.inl rfl) _).mono ?_
  rintro e w9 ⟨rfl, rfl⟩
  go_wp2_with fail
  refine (size_nil _).mono ?_
  rintro e w9 ⟨rfl, rfl⟩
  go_wp2_with fail
  refine (empty_nil _).mono ?_
  rintro e w10 ⟨rfl, k10⟩
  have K10 := hid (K8.out.trans k10 (fun _ _ h => h))
  clear k10
  go_wp2_with fail
  refine (kclone_nil _).mono ?_
  rintro e w11 ⟨rfl, rfl⟩
  go_wp2_with fail
  refine (gcells0_any 9 _).mono ?_
  rintro e w12 ⟨y12, d12, rfl, k12⟩
  have K12 := hid (K10.out.trans k12 (fun _ _ h => h))
  clear k12
  go_wp2
  go_ret
  exact ⟨rfl, K12.out⟩
set_option maxRecDepth 100000 in
set_option maxHeartbeats 16000000 in
theorem iplays_yn (n : Int) (vf vl : Value) (cs : List Cel) (Nl : Nat) (w : World) (hn : -9223372036854775808 ≤ n ∧ n < 9223372036854775808) (hv : RowsSl cl c0 18 w vf cs) (ho : AllOk cs) (hl : ∃ y d, vl = .slice y Nl d) (hx : fitB n = true) (hy : fitB (cs.length : Int) = false) :
    Calls Try.prog 4 #[.int .i64 n, vf, vl] w fun e w' => e = .returned (.bool true) ∧ Kp Nb w w' := by
  obtain ⟨yl, dl, rfl⟩ := hl
  obtain ⟨yf, df, rfl⟩ := hv.shape
  obtain ⟨L, hL⟩ : ∃ L, cs.length = L := ⟨_, rfl⟩
  have HV := hid hv
  have HO := hid ho
  have HX := hid hx
  have HY := hid hy
  have HNR := hid hn
  rw [hL] at HV HY ⊢
  have HLL := hid hL
  have CRX : Hid (∀ w, Calls Try.prog 10 #[.int .i64 n] w fun e w' => e = .returned (.bool true) ∧ w = w') := hid (fun w => by rw [← HX.out]; exact rfits_any n w HNR.out.1 HNR.out.2)
  clear hv ho hx hy hn hL
  go_enter Try.func4, Try.ntmps4
  go_wp2_with fail
  refine (ifirst_any _).mono ?_
  rintro e w1 ⟨rfl, k1⟩
  have K1 := hid k1
  clear k1
  by_cases hl : 60 < n
  · have d1 : decide (n > 60) = true := decide_eq_true (by omega)
    go_wp2
    go_ret
    exact ⟨rfl, K1.out⟩
  have d1 : decide (n > 60) = false := decide_eq_false (by omega)
  clear hl
  by_cases hl : 60 < L
  · have d2 : decide ((L : Int) > 60) = true := decide_eq_true (by omega)
    go_wp2
    go_ret
    exact ⟨rfl, K1.out⟩
  have d2 : decide ((L : Int) > 60) = false := decide_eq_false (by omega)
  have HL60 : Hid (L ≤ 60) := hid (by omega)
  clear hl
  by_cases hl : 30 < Nl
  · have d3 : decide ((Nl : Int) > 30) = true := decide_eq_true (by omega)
    go_wp2
    go_ret
    exact ⟨rfl, K1.out⟩
  have d3 : decide ((Nl : Int) > 30) = false := decide_eq_false (by omega)
  clear hl
  have CRY : Hid (∀ w, Calls Try.prog 10 #[.int .i64 (L : Int)] w fun e w' => e = .returned (.bool false) ∧ w = w') := hid (fun w => by rw [← HY.out]; exact rfits_any (L : Int) w (by omega) (by have := HL60.out; omega))
  obtain ⟨t, ht, t0, t1⟩ := fitB_t HX.out
  have CN : Hid (∀ w, Calls Try.prog 9 #[.int .i64 n] w fun e w' => ∃ B C, e = .returned (.tuple #[.pointer (some ⟨B, 0, none⟩), .int .i64 0]) ∧ SkAt w' B C (zeroS (3 * t)) ∧ w.heap.size ≤ B ∧ w.heap.size ≤ C ∧ Kp Nb w w') := hid (fun w => by rw [ht]; exact new_yes t w t0 t1)
  clear ht t0 t1
  go_wp2_with fail
  refine (CN.out _).mono ?_
  rintro e w2 ⟨B1, C1, rfl, -, -, -, k2⟩
  have K2 := hid (K1.out.trans k2 (fun _ _ h => h))
  clear k2 CN
  have HV2 := hid (HV.out.kept K2.out)
  have OF2 : Hid (fitB (cs.length : Int) = false) := hid (by rw [HLL.out]; exact HY.out)
  have CF := hid (from_no _ cs _ HV2.out (by rw [HLL.out]; have := HL60.out; omega) OF2.out)
  go_wp2_with fail
  refine CF.out.mono ?_
  rintro e w3 ⟨rfl, rfl⟩
  have K3 := K2
  clear CF
  clear HV2 OF2
  go_wp2_with fail
  refine (CRX.out _).mono ?_
  rintro e w4 ⟨rfl, rfl⟩
  go_wp2_with fail
  refine (CRY.out _).mono ?_
  rintro e w4 ⟨rfl, rfl⟩
  obtain ⟨m0, hm0⟩ : ∃ m, List.replicate 16 (0 : Int) = m := ⟨_, rfl⟩
  have BM : Hid (∀ w, (Instr.build 23 #[]).run Try.prog w = .ok (markV m0) w) := hid (fun w => by rw [← hm0]; exact build_m0 w)
  clear hm0
  go_wp2_with (refine wpList_val (by rfl) _ _ (exec_build rfl (by simp) (BM.out _)) ?_)
  refine (kadd_nil m0 _).mono ?_
  rintro e w5 ⟨rfl, k5⟩
  have K5 := hid (K3.out.trans k5 (fun _ _ h => h))
  clear k5
  go_wp2_with (refine wpList_val (by rfl) _ _ (exec_build rfl (by simp) (BM.out _)) ?_)
  refine (krem_nil m0 _).mono ?_
  rintro e w6 ⟨rfl, k6⟩
  have K6 := hid (K5.out.trans k6 (fun _ _ h => h))
  clear k6
  go_wp2_with fail
  refine (kcell_big (.pointer none) 0 0 _ (by decide) (by decide) (.inl rfl) (fun W _ => size_nil W)).mono ?_
  rintro e w7 ⟨rfl, k7⟩
  have K7 := hid (K6.out.trans k7 (fun _ _ h => h))
  clear k7 K3 K5 K6 BM
  obtain ⟨N, hN⟩ : ∃ N, w7.heap.size = N := ⟨_, rfl⟩
  obtain ⟨W, hW⟩ : ∃ W, W = w7.alloc (.cells (cl c0).toArray 41) := ⟨_, rfl⟩
  have H4 : Hid (Blk W N 41 (cl c0)) := hid (by rw [hW, ← hN]; exact Blk.new w7 _ _)
  have KW : Hid (Kp Nb w W) := hid (by rw [hW]; exact K7.out.alloc _)
  have LN : Hid (w7.heap.size ≤ N) := hid (Nat.le_of_eq hN)
  obtain ⟨P, hP⟩ : ∃ P, P = cl c0 := ⟨_, rfl⟩
  rw [← hP] at H4
  have TH : Hid (W.there N 0 P.toArray.size) := hid (by rw [List.size_toArray]; exact H4.out.there 0 _ (by rw [Nat.zero_add]; exact Nat.le_refl _))
  have SI : Hid ((Try.prog.info? 41).map (·.size) = some P.toArray.size) := hid (by rw [List.size_toArray, hP, cl_length c0_ok]; exact cell_info)
  have ON : Hid (P.toArray.all (·.oneCell') = true) := hid (by rw [hP]; exact all_oneCell_toArray (cellL_one _ _ _))
  have K8 : Hid (Kp Nb w (W.setCells N 0 P)) := hid (Kp.setCells (fun h => by have := LN.out; have := K7.out.size; omega) _ 0 _ KW.out)
  have HPE : Hid (cv c0 = .agg P.toArray) := hid (by rw [hP])
  rw [HPE.out]
  have HW := hid hW
  clear hP H4 KW hW
  go_wp2_with (rw [show w7.alloc (.cells #[.int .i64 0, .int .u8 0, .int .u8 0, .int .u8 0, .int .u8 0, .int .u8 0, .int .u8 0, .int .u8 0, .int .u8 0, .int .u8 0, .int .u8 0, .int .u8 0, .int .u8 0, .int .u8 0, .int .u8 0, .int .u8 0, .int .u8 0, .int .u64 0] 41) = W from HW.out.symm]; refine wpList_store_mid (by rfl) 41 (.tmp 12) (.tmp 97) (by rfl) N 0 P.toArray (by rfl) (by rfl) TH.out SI.out ON.out ?_)
  refine (ksub_nil1 _ (.inl rfl) _).mono ?_
  rintro e w9 ⟨rfl, rfl⟩
  go_wp2_with fail
  refine (size_nil _).mono ?_
  rintro e w9 ⟨rfl, rfl⟩
  go_wp2_with fail
  refine (empty_nil _).mono ?_
  rintro e w10 ⟨rfl, k10⟩
  have K10 := hid (K8.out.trans k10 (fun _ _ h => h))
  clear k10
  go_wp2_with fail
  refine (kclone_nil _).mono ?_
  rintro e w11 ⟨rfl, rfl⟩
  go_wp2_with fail
  refine (gcells0_any 9 _).mono ?_
  rintro e w12 ⟨y12, d12, rfl, k12⟩
  have K12 := hid (K10.out.trans k12 (fun _ _ h => h))
  clear k12
  go_wp2
  go_ret
  exact ⟨rfl, K12.out⟩

end Go.Proofs.Yteedceepoindeaa

namespace Go.Proofs.Yteedceepoindeaa
open Go.RowKit

section
variable {w w3 W5 w6 w7 w8 wc : World} {K : List En} {gA gW Kl dA dW D a b i kk mk Lq Lp Lc N B1 B2 B9 C9 E qB qC pB pC bq oq dq bp op dp tq ua ub df : Nat} {yf : Option Addr} {qc pc sn : List Cel} {x : Cel} {o : OpQ} {kd oat oto on : Int} {mm : List Int} {bb eb : Bool} {qa qb : En} {k : Nat} {r : Int} {dd : List Deferred}
variable {u0 u1 u2 u3 u4 u5 u6 u7 u8 u9 u10 u11 u12 u13 u14 u15 u16 u17 u18 u19 u20 u21 u22 u23 u24 u25 u26 u27 u28 u29 u30 u31 u32 u33 u34 u35 u36 u37 u38 u39 u40 u41 u42 u43 u44 u45 u46 u47 u48 u49 u50 u51 u52 u53 u54 u55 u56 u57 u58 u59 u60 u61 u62 u63 u64 u65 u66 u67 u68 u69 u70 u71 u72 u73 u74 u75 u76 u77 u78 u79 u80 u81 u82 u83 u84 u85 u86 u87 u88 u89 u90 u91 u92 u93 u94 u95 u96 u97 u98 u99 u100 u101 u102 u103 u104 u105 u106 u107 u108 u109 u110 u111 u112 u113 u114 u115 u116 u117 u118 u119 u120 u121 u122 u123 u124 u125 u126 u127 u128 u129 u130 u131 u132 u133 u134 u135 u136 u137 u138 u139 u140 u141 u142 u143 u144 u145 u146 u147 u148 u149 u150 u151 u152 u153 u154 u155 u156 u157 u158 u159 u160 u161 u162 u163 u164 u165 u166 u167 u168 u169 u170 u171 u172 u173 u174 u175 u176 u177 u178 u179 u180 u181 u182 u183 u184 u185 u186 u187 u188 u189 u190 u191 u192 u193 u194 u195 u196 u197 u198 u199 u200 u201 u202 u203 u204 u205 u206 u207 u208 u209 u210 u211 u212 u213 u214 u215 u216 u217 u218 u219 u220 u221 u222 u223 u224 u225 u226 u227 u228 u229 u230 u231 u232 u233 u234 u235 u236 u237 u238 u239 u240 u241 u242 u243 u244 u245 u246 u247 u248 u249 u250 u251 u252 u253 u254 u255 u256 u257 u258 u259 u260 u261 u262 u263 u264 u265 u266 u267 u268 u269 u270 u271 u272 u273 u274 u275 u276 u277 u278 u279 u280 u281 u282 u283 u284 u285 u286 u287 u288 u289 u290 u291 u292 u293 u294 u295 u296 u297 u298 u299 u300 u301 u302 u303 u304 u305 u306 u307 u308 u309 u310 u311 u312 u313 u314 u315 u316 u317 u318 u319 u320 u321 u322 u323 u324 u325 u326 u327 u328 u329 u330 u331 u332 u333 u334 u335 u336 u337 u338 u339 u340 u341 u342 u343 u344 u345 u346 u347 u348 u349 u350 u351 u352 u353 u354 u355 u356 u357 u358 u359 u360 u361 u362 u363 u364 u365 u366 u367 u368 u369 u370 u371 u372 u373 u374 u375 u376 u377 u378 u379 u380 u381 u382 u383 u384 u385 u386 u387 u388 u389 u390 u391 u392 u393 u394 u395 u396 u397 u398 : Value}
set_option maxRecDepth 100000 in
set_option maxHeartbeats 32000000 in
theorem ip_blk2 (HAB : Hid (a < Kl ∧ b < Kl)) (HDA : Hid (Kl ≤ dA ∧ dA ≤ maxLen ∧ Kl ≤ dW ∧ dW ≤ maxLen)) (P6 : Hid (PlS w K (.slice (some ⟨gA, 0, none⟩) Kl dA) (.slice (some ⟨gW, 0, none⟩) Kl dW) w6)) (D6 : Hid (Blk w6 D 50 (opl o))) (OM : Hid (MarkOk mm)) (HOM : Hid (((opl o).drop 4).take 16 = markL mm)) (HO4 : Hid ((opl o)[0]? = some (.int .i64 kd) ∧ (opl o)[1]? = some (.int .i64 oat) ∧ (opl o)[2]? = some (.int .i64 oto) ∧ (opl o)[3]? = some (.int .i64 on))) (QA : Hid (K[a]? = some qa)) (QB : Hid (K[b]? = some qb)) (HKL : Hid (K.length = Kl)) (KL : Hid (IntKind.u64.wrap (Kl : Int) = (Kl : Int) ∧ ¬ Kl = 0 ∧ Kl ≤ 40)) (HK : Hid (0 < Kl ∧ Kl ≤ k + 2)) (HE : Hid (∀ (j : Nat) (q : En), K[j]? = some q → q.sc = q.wc ∧ q.wc.length ≤ 60)) (hr : 0 ≤ r ∧ r < 6) (Q : Exit → Act → World → Prop)
    (hN : ∀ (v16 v17 v22 v23 v24 v178 v179 v180 v181 v182 v183 v184 v185 v186 v187 v188 v189 v190 v191 v192 v193 v194 v195 v196 v197 v198 v199 v200 v201 v202 v203 v204 v205 v206 v207 v208 v209 v210 v211 v212 v213 v214 v215 v216 v217 v218 v219 v220 v221 v222 v223 v224 v225 v226 v227 v228 v229 v230 v231 v232 v233 v234 v235 v236 v237 v238 v239 v240 v241 v242 v243 v244 v245 v246 v247 v248 v249 v250 v251 v252 v253 v254 v255 v256 v257 v258 v259 v260 v261 v262 v263 v264 v265 v266 v267 v268 v269 v270 v271 v272 v273 v274 v275 v276 v277 v278 v279 v280 v281 v282 v283 v284 v285 v286 v287 v288 v289 v290 v291 v292 v293 v294 v295 v296 v297 v298 v299 v300 v301 v302 v303 v304 v305 v306 : Value) (wc : World), CutS w k a D (opl o) v16 v17 wc → Q .normal ⟨[u0, u1, u2, u3, u4, u5, u6, u7, u8, u9, u10, u11, u12, u13, u14, u15, v16, v17, u18, .pointer (some ⟨D, 0, none⟩), .int .i64 (a : Int), .int .i64 (b : Int), v22, v23, v24, u25, u26, u27, u28, u29, u30, u31, u32, u33, u34, u35, u36, u37, u38, u39, u40, u41, u42, u43, u44, u45, u46, u47, u48, u49, u50, u51, u52, u53, u54, u55, u56, u57, u58, u59, u60, u61, u62, u63, u64, u65, u66, u67, u68, u69, u70, u71, u72, u73, u74, u75, u76, u77, u78, u79, u80, u81, u82, u83, u84, u85, u86, u87, u88, u89, u90, u91, u92, u93, u94, u95, u96, u97, u98, u99, u100, u101, u102, u103, u104, u105, u106, u107, u108, u109, u110, u111, u112, u113, u114, u115, u116, u117, u118, u119, u120, u121, u122, u123, u124, u125, u126, u127, u128, u129, u130, u131, u132, u133, u134, u135, u136, u137, u138, u139, u140, u141, u142, u143, u144, u145, u146, u147, u148, u149, u150, u151, u152, u153, u154, u155, u156, u157, u158, u159, u160, u161, u162, u163, u164, u165, u166, u167, u168, u169, u170, u171, u172, u173, u174, u175, u176, .int .u64 r, v178, v179, v180, v181, v182, v183, v184, v185, v186, v187, v188, v189, v190, v191, v192, v193, v194, v195, v196, v197, v198, v199, v200, v201, v202, v203, v204, v205, v206, v207, v208, v209, v210, v211, v212, v213, v214, v215, v216, v217, v218, v219, v220, v221, v222, v223, v224, v225, v226, v227, v228, v229, v230, v231, v232, v233, v234, v235, v236, v237, v238, v239, v240, v241, v242, v243, v244, v245, v246, v247, v248, v249, v250, v251, v252, v253, v254, v255, v256, v257, v258, v259, v260, v261, v262, v263, v264, v265, v266, v267, v268, v269, v270, v271, v272, v273, v274, v275, v276, v277, v278, v279, v280, v281, v282, v283, v284, v285, v286, v287, v288, v289, v290, v291, v292, v293, v294, v295, v296, v297, v298, v299, v300, v301, v302, v303, v304, v305, v306, u307, u308, u309, u310, u311, u312, u313, u314, u315, u316, u317, u318, u319, u320, u321, u322, u323, u324, u325, u326, u327, u328, u329, u330, u331, u332, u333, u334, u335, u336, u337, u338, u339, u340, u341, u342, u343, u344, u345, u346, u347, u348, u349, u350, u351, u352, u353, u354, u355, u356, u357, u358, u359, u360, u361, u362, u363, u364, u365, u366, u367, u368, u369, u370, u371, u372, u373, u374, u375, u376, u377, u378, u379, u380, u381, u382, u383, u384, u385, u386, u387, u388, u389, u390, u391, u392, u393, u394, u395, u396, u397, u398].toArray, dd⟩ wc)
    (hX : ∀ (v22 v23 v24 v178 v179 v180 v181 v182 v183 v184 v185 v186 v187 v188 v189 v190 v191 v192 v193 v194 v195 v196 v197 v198 v199 v200 v201 v202 v203 v204 v205 v206 v207 v208 v209 v210 v211 v212 v213 v214 v215 v216 v217 v218 v219 v220 v221 v222 v223 v224 v225 v226 v227 v228 v229 v230 v231 v232 v233 v234 v235 v236 v237 v238 v239 v240 v241 v242 v243 v244 v245 v246 v247 v248 v249 v250 v251 v252 v253 v254 v255 v256 v257 v258 v259 v260 v261 v262 v263 v264 v265 v266 v267 v268 v269 v270 v271 v272 v273 v274 v275 v276 v277 v278 v279 v280 v281 v282 v283 v284 v285 v286 v287 v288 v289 v290 v291 v292 v293 v294 v295 v296 v297 v298 v299 v300 v301 v302 v303 v304 v305 v306 : Value) (wc : World), PlS w K (.slice (some ⟨gA, 0, none⟩) Kl dA) (.slice (some ⟨gW, 0, none⟩) Kl dW) wc → Q (.exit 1) ⟨[u0, u1, u2, u3, u4, u5, u6, u7, u8, u9, u10, u11, u12, u13, u14, u15, .slice (some ⟨gA, 0, none⟩) Kl dA, .slice (some ⟨gW, 0, none⟩) Kl dW, u18, .pointer (some ⟨D, 0, none⟩), .int .i64 (a : Int), .int .i64 (b : Int), v22, v23, v24, u25, u26, u27, u28, u29, u30, u31, u32, u33, u34, u35, u36, u37, u38, u39, u40, u41, u42, u43, u44, u45, u46, u47, u48, u49, u50, u51, u52, u53, u54, u55, u56, u57, u58, u59, u60, u61, u62, u63, u64, u65, u66, u67, u68, u69, u70, u71, u72, u73, u74, u75, u76, u77, u78, u79, u80, u81, u82, u83, u84, u85, u86, u87, u88, u89, u90, u91, u92, u93, u94, u95, u96, u97, u98, u99, u100, u101, u102, u103, u104, u105, u106, u107, u108, u109, u110, u111, u112, u113, u114, u115, u116, u117, u118, u119, u120, u121, u122, u123, u124, u125, u126, u127, u128, u129, u130, u131, u132, u133, u134, u135, u136, u137, u138, u139, u140, u141, u142, u143, u144, u145, u146, u147, u148, u149, u150, u151, u152, u153, u154, u155, u156, u157, u158, u159, u160, u161, u162, u163, u164, u165, u166, u167, u168, u169, u170, u171, u172, u173, u174, u175, u176, .int .u64 r, v178, v179, v180, v181, v182, v183, v184, v185, v186, v187, v188, v189, v190, v191, v192, v193, v194, v195, v196, v197, v198, v199, v200, v201, v202, v203, v204, v205, v206, v207, v208, v209, v210, v211, v212, v213, v214, v215, v216, v217, v218, v219, v220, v221, v222, v223, v224, v225, v226, v227, v228, v229, v230, v231, v232, v233, v234, v235, v236, v237, v238, v239, v240, v241, v242, v243, v244, v245, v246, v247, v248, v249, v250, v251, v252, v253, v254, v255, v256, v257, v258, v259, v260, v261, v262, v263, v264, v265, v266, v267, v268, v269, v270, v271, v272, v273, v274, v275, v276, v277, v278, v279, v280, v281, v282, v283, v284, v285, v286, v287, v288, v289, v290, v291, v292, v293, v294, v295, v296, v297, v298, v299, v300, v301, v302, v303, v304, v305, v306, u307, u308, u309, u310, u311, u312, u313, u314, u315, u316, u317, u318, u319, u320, u321, u322, u323, u324, u325, u326, u327, u328, u329, u330, u331, u332, u333, u334, u335, u336, u337, u338, u339, u340, u341, u342, u343, u344, u345, u346, u347, u348, u349, u350, u351, u352, u353, u354, u355, u356, u357, u358, u359, u360, u361, u362, u363, u364, u365, u366, u367, u368, u369, u370, u371, u372, u373, u374, u375, u376, u377, u378, u379, u380, u381, u382, u383, u384, u385, u386, u387, u388, u389, u390, u391, u392, u393, u394, u395, u396, u397, u398].toArray, dd⟩ wc) :
    (ip_b2).1.wp Try.prog Q ⟨[u0, u1, u2, u3, u4, u5, u6, u7, u8, u9, u10, u11, u12, u13, u14, u15, .slice (some ⟨gA, 0, none⟩) Kl dA, .slice (some ⟨gW, 0, none⟩) Kl dW, u18, .pointer (some ⟨D, 0, none⟩), .int .i64 (a : Int), .int .i64 (b : Int), u22, u23, u24, u25, u26, u27, u28, u29, u30, u31, u32, u33, u34, u35, u36, u37, u38, u39, u40, u41, u42, u43, u44, u45, u46, u47, u48, u49, u50, u51, u52, u53, u54, u55, u56, u57, u58, u59, u60, u61, u62, u63, u64, u65, u66, u67, u68, u69, u70, u71, u72, u73, u74, u75, u76, u77, u78, u79, u80, u81, u82, u83, u84, u85, u86, u87, u88, u89, u90, u91, u92, u93, u94, u95, u96, u97, u98, u99, u100, u101, u102, u103, u104, u105, u106, u107, u108, u109, u110, u111, u112, u113, u114, u115, u116, u117, u118, u119, u120, u121, u122, u123, u124, u125, u126, u127, u128, u129, u130, u131, u132, u133, u134, u135, u136, u137, u138, u139, u140, u141, u142, u143, u144, u145, u146, u147, u148, u149, u150, u151, u152, u153, u154, u155, u156, u157, u158, u159, u160, u161, u162, u163, u164, u165, u166, u167, u168, u169, u170, u171, u172, u173, u174, u175, u176, .int .u64 r, u178, u179, u180, u181, u182, u183, u184, u185, u186, u187, u188, u189, u190, u191, u192, u193, u194, u195, u196, u197, u198, u199, u200, u201, u202, u203, u204, u205, u206, u207, u208, u209, u210, u211, u212, u213, u214, u215, u216, u217, u218, u219, u220, u221, u222, u223, u224, u225, u226, u227, u228, u229, u230, u231, u232, u233, u234, u235, u236, u237, u238, u239, u240, u241, u242, u243, u244, u245, u246, u247, u248, u249, u250, u251, u252, u253, u254, u255, u256, u257, u258, u259, u260, u261, u262, u263, u264, u265, u266, u267, u268, u269, u270, u271, u272, u273, u274, u275, u276, u277, u278, u279, u280, u281, u282, u283, u284, u285, u286, u287, u288, u289, u290, u291, u292, u293, u294, u295, u296, u297, u298, u299, u300, u301, u302, u303, u304, u305, u306, u307, u308, u309, u310, u311, u312, u313, u314, u315, u316, u317, u318, u319, u320, u321, u322, u323, u324, u325, u326, u327, u328, u329, u330, u331, u332, u333, u334, u335, u336, u337, u338, u339, u340, u341, u342, u343, u344, u345, u346, u347, u348, u349, u350, u351, u352, u353, u354, u355, u356, u357, u358, u359, u360, u361, u362, u363, u364, u365, u366, u367, u368, u369, u370, u371, u372, u373, u374, u375, u376, u377, u378, u379, u380, u381, u382, u383, u384, u385, u386, u387, u388, u389, u390, u391, u392, u393, u394, u395, u396, u397, u398].toArray, dd⟩ w6 := by
  obtain ⟨qB, qC, qc, qv, qx⟩ := qa
  have hpe := HE.out a _ QA.out
  dsimp only at hpe
  obtain ⟨hpx, hpl⟩ := hpe
  obtain rfl : qc = qx := hpx
  have SA := hid (P6.out.sk a _ QA.out)
  dsimp only at SA
  obtain ⟨bq, oq, dq, rfl, hcd1, hcd2⟩ := rowsAdr SA.out.2.2.2.1 SA.out.1.pos
  obtain ⟨Lq, hLq⟩ : ∃ L, qc.length = L := ⟨_, rfl⟩
  obtain ⟨tq, htq, tq0, tq1⟩ := fitB_t SA.out.2.2.2.2.2
  have HTQ : Hid (qc.length = 3 * tq ∧ 0 < tq ∧ tq ≤ 512) := hid ⟨by omega, tq0, tq1⟩
  rw [hLq] at QA
  have HLQ := hid hLq
  have HL6 : Hid (Lq ≤ 60) := hid (by omega)
  have HCD : Hid (0 < Lq ∧ Lq ≤ dq ∧ dq ≤ maxLen) := hid ⟨by omega, by omega, hcd2⟩
  have SA6 : Hid (RowsSl cl c0 18 w6 (.slice (some ⟨bq, oq, none⟩) Lq dq) qc) := hid (by have h := SA.out.2.2.2.1; rw [hLq] at h; exact h)
  have HDQ : Hid (¬ D = qC) := hid (fun e => by
    obtain ⟨_, _, _, b2, _⟩ := SA.out.1.at'
    exact blk_ty D6.out b2 (by decide) e)
  have CA : Hid (w6.cell? ⟨gA, a, none⟩ = some (.pointer (some ⟨qB, 0, none⟩))) := hid (rowcell P6.out.all (ptrs_at QA.out))
  clear hpl htq tq0 tq1 hLq hcd1 hcd2
  obtain rfl | rfl | rfl | rfl | rfl | rfl : r = 0 ∨ r = 1 ∨ r = 2 ∨ r = 3 ∨ r = 4 ∨ r = 5 := by omega
  · exact ip_arm0 HAB HDA P6 D6 CA SA HTQ OM HOM QA HLQ HDQ HKL HK HE HL6 Q hN
  · exact ip_arm1 HAB HDA P6 D6 CA SA HTQ OM HOM QA HLQ HDQ HKL HK HE HL6 Q hN
  · exact ip_arm2 HAB HDA P6 D6 CA SA HTQ OM HOM QA HLQ HDQ HKL HK HE HL6 Q hN
  · exact ip_arm3 HAB HDA P6 D6 SA SA6 QA HLQ HL6 HKL KL HK HE Q hN
  · exact ip_arm4 HAB HDA P6 D6 CA SA QA QB HLQ HL6 HCD HKL KL HK HE Q hN hX
  · exact ip_arm5 HAB HDA P6 D6 CA SA SA6 QA HLQ HL6 HCD HKL HK HE HO4 Q hN
end

end Go.Proofs.Yteedceepoindeaa
