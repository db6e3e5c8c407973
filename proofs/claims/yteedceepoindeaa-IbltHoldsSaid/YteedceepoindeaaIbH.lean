/-
  Layer 11: Cells as a slice; the reference's Fits, Same; places for what doesn't fit. Conditions: ints; no more than 100000 cells.
-/
import Derived.Test.YteedceepoindeaaIbG
import Derived.Test.YteedceepoindeaaIbCr
namespace Go.Proofs.Yteedceepoindeaa
open Go.RowKit Go.Shelf
attribute [local go_sem] Oper.semAt_some

theorem rows_own {w : World} {base : Nat} {v : Value} {cs : List Cel} (h : w.ownsRow base 41 18 v cs.length (rws cs)) (ho : AllOk cs) : RowsSl cl c0 18 w v cs := by
  by_cases hn : 0 < cs.length
  · obtain ⟨g, cap, rest, rfl, -, hb, h1, h2⟩ := own_blk h hn
    refine .inr ⟨g, 0, cap, rfl, h1, h2, fun i hi => ?_⟩
    rw [Nat.zero_add]
    exact flat_range hb ho.len i hi (cl_length (ho.at i))
  · have e : cs = [] := List.length_eq_zero_iff.1 (by omega)
    subst e
    obtain ⟨p, q, rfl⟩ := own_shape h
    exact .inl ⟨⟨_, _, rfl⟩, rfl⟩
theorem AllOk.take {cs : List Cel} (h : AllOk cs) (n : Nat) : AllOk (cs.take n) := fun q hq => h q (List.mem_of_mem_take hq)
theorem gcells_any (B C : Nat) (cs : List Cel) (m : Int) (w : World) (h : SkAt w B C cs) (hbig : cs.length ≤ 100000) :
    Calls Try.prog 23 #[.pointer (some ⟨B, 0, none⟩), .int .i64 m] w fun e w' => ∃ v, e = .returned v ∧ RowsSl cl c0 18 w' v (cs.take m.toNat) ∧ Kp Nb w w' :=
  (callsIn_wide.1 (gcells_in 3 (Nat.le_refl _) B C cs m w h hbig)).mono fun _ _ ⟨v, he, h1, hB⟩ => ⟨v, he, rows_own h1 (h.ok.take _), Kp.of_below hB⟩

set_option maxHeartbeats 1000000 in
theorem rfits_any (n : Int) (w : World) (h0 : -9223372036854775808 ≤ n) (h1 : n < 9223372036854775808) : Calls Try.prog 10 #[.int .i64 n] w fun e w' => e = .returned (.bool (fitB n)) ∧ w = w' := by
  go_enter Try.func10, Try.ntmps10
  by_cases a : 2 < n
  · by_cases b : n < 1537
    · by_cases c : n % 3 = 0
      · have e : Hid (fitB n = true) := hid (by unfold fitB; simp; omega)
        have d1 : decide (n > 2) = true := decide_eq_true (by omega)
        have d2 : decide (n < 1537) = true := decide_eq_true (by omega)
        have e1 : n.tmod 3 = 0 := by rw [Int.tmod_eq_emod_of_nonneg (by omega)]; exact c
        have e2 : IntKind.i64.wrap (n.tmod 3) = 0 := by rw [e1]; rfl
        clear a b c h0 h1
        go_wp2
        go_ret
        rw [e.out]; exact ⟨rfl, rfl⟩
      · have e : Hid (fitB n = false) := hid (by unfold fitB; simp; omega)
        have d1 : decide (n > 2) = true := decide_eq_true (by omega)
        have d2 : decide (n < 1537) = true := decide_eq_true (by omega)
        obtain ⟨r, hr⟩ : ∃ r, n.tmod 3 = r := ⟨_, rfl⟩
        have e1 : (r == 0) = false := by rw [beq_eq_false_iff_ne, ← hr, Int.tmod_eq_emod_of_nonneg (by omega)]; exact c
        clear a b c h0 h1
        go_wp2
        go_ret
        rw [e.out]; exact ⟨rfl, rfl⟩
    · have e : Hid (fitB n = false) := hid (by unfold fitB; simp; omega)
      go_wp2
      go_ret
      rw [e.out]; exact ⟨rfl, rfl⟩
  · have e : Hid (fitB n = false) := hid (by unfold fitB; simp; omega)
    go_wp2
    go_ret
    rw [e.out]; exact ⟨rfl, rfl⟩

def sameB (a b : List Cel) : Bool := decide (a = b)
def SmR (a b : List Cel) (w : World) (i : Value) (wr : World) : Prop := ∃ k : Nat, k ≤ a.length ∧ i = .int .i64 k ∧ Hid (a.take k = b.take k) ∧ Hid (Kp Nb w wr)
theorem same_snoc {a b : List Cel} {k : Nat} (ha : k < a.length) (hb : k < b.length) (h : a.take k = b.take k) (he : celAt a k = celAt b k) : a.take (k + 1) = b.take (k + 1) := by
  rw [List.take_add_one, List.take_add_one, h]
  unfold celAt at he
  rw [List.getElem?_eq_getElem ha, List.getElem?_eq_getElem hb] at he ⊢
  simp only [Option.getD_some] at he
  rw [he]
set_option maxRecDepth 100000 in
set_option maxHeartbeats 1000000 in
theorem rsame_any (u v : Value) (a b : List Cel) (w : World) (hu : RowsSl cl c0 18 w u a) (hv : RowsSl cl c0 18 w v b) (oa : AllOk a) (ob : AllOk b) (la : a.length ≤ 100000) :
    Calls Try.prog 26 #[u, v] w fun e w' => e = .returned (.bool (sameB a b)) ∧ Kp Nb w w' := by
  obtain ⟨y1, d1, rfl⟩ := hu.shape
  obtain ⟨y2, d2, rfl⟩ := hv.shape
  have HU := hid hu
  have HV := hid hv
  have OA := hid oa
  have OB := hid ob
  have LA := hid la
  clear hu hv oa ob
  go_enter Try.func26, Try.ntmps26
  by_cases hl : a.length = b.length
  · have HL := hid hl
    have hl' : ((a.length : Nat) : Int) = b.length := by omega
    go_wp2
    go_loopw [13] (SmR a b w) (fun i _ => a.length - (intOf i).toNat)
    case atStart => exact ⟨0, by omega, rfl, hid rfl, hid (Kp.refl _ _)⟩
    case round =>
      obtain ⟨k, hk, rfl, HE, HW⟩ := hrel
      by_cases hlt : k < a.length
      · have hlb : k < b.length := by have := HL.out; omega
        rcases HU.out with ⟨_, he⟩ | ⟨A, oa, ca, e1, f1, f2, f3⟩
        · rw [he] at hlt; simp at hlt
        rcases HV.out with ⟨_, he⟩ | ⟨B, ob, cb, e2, g1, g2, g3⟩
        · rw [he] at hlb; simp at hlb
        injection e1 with e1 e3 e4
        injection e2 with e2 e5 e6
        subst e1 e4 e2 e6
        have XA : Hid (wr.rangeAt A (oa + k * 18) (cl (celAt a k))) := hid (range_kept (f3 k hlt) HW.out)
        have XB : Hid (wr.rangeAt B (ob + k * 18) (cl (celAt b k))) := hid (range_kept (g3 k hlb) HW.out)
        have XO := hid (OA.out.at k)
        have YO := hid (OB.out.at k)
        have EQ := hid (eq_cells (celAt a k) (celAt b k) XO.out.mark.len YO.out.mark.len)
        have HS : Hid (celAt a k = celAt b k → a.take (k + 1) = b.take (k + 1)) := hid (same_snoc hlt hlb HE.out)
        have HN : Hid (celAt a k ≠ celAt b k → sameB a b = false) := hid (fun h => decide_eq_false (fun e => h (by rw [e])))
        have HKA := hid hlt
        unfold maxLen at f2 g2
        have FA : Hid (k < a.length ∧ k < b.length ∧ a.length ≤ d1 ∧ b.length ≤ d2 ∧ d1 ≤ 9223372036854775807 ∧ d2 ≤ 9223372036854775807) := hid ⟨hlt, hlb, f1, g1, by omega, by omega⟩
        clear f1 f2 f3 g1 g2 g3 e3 e5 hlt hlb HU HV HE
        generalize celAt a k = x at XA XO EQ HS HN
        generalize celAt b k = y at XB YO EQ HS HN
        obtain ⟨d, hd⟩ : ∃ d, decide (x = y) = d := ⟨_, rfl⟩
        rw [hd] at EQ
        have HD := hid hd
        clear hd
        have hx := FA.out
        go_upto_region 6 with fail
        refine region_vals2 [none, none, none, none, none, none, none, none, none, none, none, none, none, none, none, none, some 0, some 1, some 2, some 3, some 4, some 5, some 6, some 7, some 8, none] [[(0, none)], [(5, none)], [(16, some 0), (17, some 1)], [(18, some 2)], [(1, none)], [(5, none)], [(20, some 4), (21, some 5)], [(22, some 6)], [(19, some 3), (23, some 7)]] [some 16, some 17, some 18, some 19, some 20, some 21, some 22, some 23, some 24] [.slice (some ⟨A, oa, none⟩) a.length d1, .int .i64 (k : Int), .pointer (some ⟨A, oa + k * 18, none⟩), cv x, .slice (some ⟨B, ob, none⟩) b.length d2, .int .i64 (k : Int), .pointer (some ⟨B, ob + k * 18, none⟩), cv y, .bool (!d)] (fun w' => Hid (Kp Nb wr w')) (by kernel_rfl) (by kernel_rfl) (by kernel_rfl) ?hS (VFrom.all (n := 9) (by kernel_rfl) ?hstep) ?hend
        case hstep =>
          refine VFrom.cons (VStep.val _ rfl _ rfl (.slice (some ⟨A, oa, none⟩) a.length d1) rfl trivial (fun ev wq hS he hr => ?_)) ?_
          · have r0 : ev (.tmp 0) = .slice (some ⟨A, oa, none⟩) a.length d1 := hr (0, none) (by simp); have hk := he.1; clear hr he
            go_simp
          refine VFrom.cons (VStep.val _ rfl _ rfl (.int .i64 (k : Int)) rfl trivial (fun ev wq hS he hr => ?_)) ?_
          · have r0 : ev (.tmp 5) = .int .i64 (k : Int) := hr (5, none) (by simp); have hk := he.1; clear hr he
            go_simp
          refine VFrom.cons (VStep.val _ rfl _ rfl (.pointer (some ⟨A, oa + k * 18, none⟩)) rfl trivial (fun ev wq hS he hr => ?_)) ?_
          · have r0 : ev (.tmp 16) = .slice (some ⟨A, oa, none⟩) a.length d1 := hr (16, some 0) (by simp); have r1 : ev (.tmp 17) = .int .i64 (k : Int) := hr (17, some 1) (by simp); have hk := he.1; clear hr he
            have e1 := FA.out
            go_simp
          refine VFrom.cons (VStep.val _ rfl _ rfl (cv x) rfl trivial (fun ev wq hS he hr => ?_)) ?_
          · have r0 : ev (.tmp 18) = .pointer (some ⟨A, oa + k * 18, none⟩) := hr (18, some 2) (by simp); have hk := he.1; clear hr he
            exact exec_load rfl r0 (load_cell XO.out (range_kept XA.out hS.out))
          refine VFrom.cons (VStep.val _ rfl _ rfl (.slice (some ⟨B, ob, none⟩) b.length d2) rfl trivial (fun ev wq hS he hr => ?_)) ?_
          · have r0 : ev (.tmp 1) = .slice (some ⟨B, ob, none⟩) b.length d2 := hr (1, none) (by simp); have hk := he.1; clear hr he
            go_simp
          refine VFrom.cons (VStep.val _ rfl _ rfl (.int .i64 (k : Int)) rfl trivial (fun ev wq hS he hr => ?_)) ?_
          · have r0 : ev (.tmp 5) = .int .i64 (k : Int) := hr (5, none) (by simp); have hk := he.1; clear hr he
            go_simp
          refine VFrom.cons (VStep.val _ rfl _ rfl (.pointer (some ⟨B, ob + k * 18, none⟩)) rfl trivial (fun ev wq hS he hr => ?_)) ?_
          · have r0 : ev (.tmp 20) = .slice (some ⟨B, ob, none⟩) b.length d2 := hr (20, some 4) (by simp); have r1 : ev (.tmp 21) = .int .i64 (k : Int) := hr (21, some 5) (by simp); have hk := he.1; clear hr he
            have e1 := FA.out
            go_simp
          refine VFrom.cons (VStep.val _ rfl _ rfl (cv y) rfl trivial (fun ev wq hS he hr => ?_)) ?_
          · have r0 : ev (.tmp 22) = .pointer (some ⟨B, ob + k * 18, none⟩) := hr (22, some 6) (by simp); have hk := he.1; clear hr he
            exact exec_load rfl r0 (load_cell YO.out (range_kept XB.out hS.out))
          refine VFrom.cons (VStep.val _ rfl _ rfl (.bool (!d)) rfl trivial (fun ev wq hS he hr => ?_)) ?_
          · have r0 : ev (.tmp 19) = cv x := hr (19, some 3) (by simp); have r1 : ev (.tmp 23) = cv y := hr (23, some 7) (by simp); have hk := he.1; clear hr he
            exact exec_neqCell rfl r0 r1 (EQ.out wq)
          exact VFrom.nil
        case hS => exact hid ((Kp.refl Nb wr).drew)
        case hend =>
          intro w6 h6
          have K6 := hid (HW.out.trans h6.out (fun _ _ h => h))
          clear h6
          simp only [putAll, List.zip_cons_cons, List.zip_nil_right, List.foldl_cons, List.foldl_nil, Act.put, List.setIfInBounds_toArray, List.set_cons_zero, List.set_cons_succ]
          cases d with
          | true =>
            have RE : Hid (SmR a b w (.int .i64 ((k : Int) + 1)) w6) := hid ⟨k + 1, by omega, by go_num, hid (HS.out (of_decide_eq_true HD.out)), K6⟩
            go_wp2
            go_roundw
            case rel => exact RE.out
            case measure => simp [intOf]; omega
          | false =>
            go_wp2
            go_ret
            exact ⟨by rw [HN.out (of_decide_eq_false HD.out)]; rfl, K6.out⟩
      · obtain rfl : k = a.length := by omega
        have hE := HE.out
        rw [List.take_length, HL.out, List.take_length] at hE
        have HE2 := hid hE
        clear hE HE
        go_wp2
        go_ret
        exact ⟨by rw [HE2.out]; unfold sameB; simp, HW.out⟩
  · have HL : Hid (sameB a b = false) := hid (decide_eq_false (fun e => hl (by rw [e])))
    have hl' : (((a.length : Nat) : Int) != ((b.length : Nat) : Int)) = true := by rw [bne_iff_ne]; omega
    clear hl
    go_wp2
    go_ret
    exact ⟨by rw [HL.out]; rfl, Kp.refl _ _⟩

end Go.Proofs.Yteedceepoindeaa
