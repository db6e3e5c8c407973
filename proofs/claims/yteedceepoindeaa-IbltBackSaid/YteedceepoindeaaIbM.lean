/-
  Layer 11: the law IbltBack. Conditions: marks are what their kind holds.
-/
import Derived.Test.YteedceepoindeaaIbL
namespace Go.Proofs.Yteedceepoindeaa
open Go.RowKit Go.Shelf

/-- The sum of counts. -/
def cnt : List Cel → Int
  | [] => 0
  | x :: r => x.1 + cnt r
theorem cnt_append : ∀ (a b : List Cel), cnt (a ++ b) = cnt a + cnt b
  | [], b => by simp [cnt]
  | x :: r, b => by rw [List.cons_append, cnt, cnt, cnt_append r b]; omega
theorem cnt_snoc (cs : List Cel) (k : Nat) (h : k < cs.length) : cnt (cs.take (k + 1)) = cnt (cs.take k) + (celAt cs k).1 := by
  unfold celAt
  rw [List.take_succ_eq_append_getElem h, cnt_append, List.getElem?_eq_getElem h]
  simp [cnt]
theorem cnt_set : ∀ (cs : List Cel) (i : Nat) (x : Cel), i < cs.length → cnt (cs.set i x) = cnt cs + x.1 - (celAt cs i).1
  | [], i, x, h => absurd h (Nat.not_lt_zero _)
  | y :: r, 0, x, _ => by simp [cnt, celAt]; omega
  | y :: r, i + 1, x, h => by
    have e := cnt_set r i x (by simpa using h)
    have e2 : celAt (y :: r) (i + 1) = celAt r i := by simp [celAt]
    rw [List.set_cons_succ, cnt, cnt, e, e2]
    omega
theorem wrap64_mod (x : Int) : ∃ q : Int, IntKind.i64.wrap x = x + 18446744073709551616 * q := by
  rw [IntKind.wrap_i64]
  refine ⟨-((x + 9223372036854775808) / 18446744073709551616), ?_⟩
  omega
theorem cnt_upd (t : Nat) (m : List Int) (cs : List Cel) (hl : cs.length = 3 * t) (h0 : 0 < t) : ∀ k, k ≤ 3 → ∃ q : Int, cnt (updP addC t m cs k) = cnt cs + k + 18446744073709551616 * q
  | 0, _ => ⟨0, by rw [updP]; omega⟩
  | k + 1, hk => by
    obtain ⟨q, hq⟩ := cnt_upd t m cs hl h0 k (by omega)
    rw [updP, cnt_set _ _ _ (by rw [updP_length, hl]; exact plc_lt t m k h0 (by omega))]
    obtain ⟨q2, hq2⟩ := wrap64_mod ((celAt (updP addC t m cs k) (plc t m k)).1 + 1)
    have e : (addC (celAt (updP addC t m cs k) (plc t m k)) (ofC m)).1 = IntKind.i64.wrap ((celAt (updP addC t m cs k) (plc t m k)).1 + 1) := rfl
    rw [e, hq2, hq]
    refine ⟨q + q2, ?_⟩
    push_cast
    omega
theorem cnt_zero : ∀ n, cnt (zeroS n) = 0
  | 0 => rfl
  | n + 1 => by
    have h := cnt_zero n
    unfold zeroS at h ⊢
    rw [List.replicate_succ, cnt, h]
    rfl
theorem cnt_fold (t : Nat) (h0 : 0 < t) : ∀ (ms : List (List Int)) (cs : List Cel), cs.length = 3 * t → ∃ q : Int, cnt (ms.foldl (fun cs m => updP addC t m cs 3) cs) = cnt cs + 3 * ms.length + 18446744073709551616 * q
  | [], cs, _ => ⟨0, by simp⟩
  | m :: r, cs, hl => by
    obtain ⟨q, hq⟩ := cnt_upd t m cs hl h0 3 (by omega)
    obtain ⟨q2, hq2⟩ := cnt_fold t h0 r (updP addC t m cs 3) (by rw [updP_length, hl])
    refine ⟨q + q2, ?_⟩
    rw [List.foldl_cons, hq2, hq, List.length_cons]
    push_cast
    omega
theorem cnt_of (t : Nat) (ms : List (List Int)) (h0 : 0 < t) (hl : ms.length ≤ 60) : IntKind.i64.wrap (cnt (ofS t ms)) = 3 * (ms.length : Int) := by
  obtain ⟨q, hq⟩ := cnt_fold t h0 ms (zeroS (3 * t)) (zeroS_length _)
  rw [show ofS t ms = ms.foldl (fun cs m => updP addC t m cs 3) (zeroS (3 * t)) from rfl, hq, cnt_zero]
  rw [IntKind.wrap_i64]
  omega
theorem celAt_set (cs : List Cel) (i j : Nat) (x : Cel) (h : i < cs.length) : celAt (cs.set i x) j = if i = j then x else celAt cs j := by
  unfold celAt
  rw [List.getElem?_set]
  split
  · simp
  · rfl
theorem subP_at (a b : List Cel) : ∀ k, k ≤ a.length → ∀ j, celAt (subP a b k) j = if j < k then subC (celAt a j) (celAt b j) else celAt a j
  | 0, _, j => by simp [subP]
  | k + 1, hk, j => by
    rw [subP, celAt_set _ _ _ _ (by rw [subP_length]; omega), subP_at a b k (by omega) k, subP_at a b k (by omega) j]
    by_cases e : k = j
    · subst e; simp
    · rw [if_neg e]
      by_cases h : j < k
      · rw [if_pos h, if_pos (by omega)]
      · rw [if_neg h, if_neg (by omega)]
theorem subS_at (a b : List Cel) (j : Nat) (h : j < a.length) : celAt (subS a b) j = subC (celAt a j) (celAt b j) := by
  unfold subS
  rw [subP_at a b a.length (Nat.le_refl _), if_pos h]
theorem subS_length (a b : List Cel) : (subS a b).length = a.length := subP_length a b _
theorem emptyB_of {cs : List Cel} (h : ∀ j, j < cs.length → celAt cs j = c0) : emptyB cs = true := by
  unfold emptyB
  rw [List.all_eq_true]
  intro x hx
  obtain ⟨j, hj, rfl⟩ := List.mem_iff_getElem.1 hx
  have e := h j hj
  unfold celAt at e
  rw [List.getElem?_eq_getElem hj] at e
  exact decide_eq_true e
theorem subS_self {a : List Cel} (ha : AllOk a) : emptyB (subS a a) = true :=
  emptyB_of fun j hj => by
    rw [subS_length] at hj
    rw [subS_at a a j hj]
    exact subC_self (ha.at j)
theorem ofS_ok (t : Nat) : ∀ (ms : List (List Int)) (cs : List Cel), AllOk cs → AllOk (ms.foldl (fun cs m => updP addC t m cs 3) cs)
  | [], _, h => h
  | m :: r, _, h => ofS_ok t r _ (updP_ok (fun _ _ => addC_ok) t m h 3)

/-- The loop that sums counts. -/
def BkR (w : World) (cs : List Cel) (i u : Value) (wr : World) : Prop := ∃ k : Nat, k ≤ cs.length ∧ i = .int .i64 k ∧ u = .int .i64 (IntKind.i64.wrap (cnt (cs.take k))) ∧ Hid (Kp Nb w wr)

set_option maxRecDepth 100000 in
set_option maxHeartbeats 4000000 in
theorem iback_no (n : Int) (v : Value) (ms : List (List Int)) (w : World) (hs : MkSl w v ms) (hn : -9223372036854775808 ≤ n ∧ n < 9223372036854775808) (h : fitB n = false ∨ 300 < n ∨ 60 < ms.length) :
    Calls Try.prog 6 #[.int .i64 n, v] w fun e w' => e = .returned (.bool true) ∧ Kp Nb w w' := by
  obtain ⟨y, d, rfl⟩ := hs.shape
  obtain ⟨b, hb⟩ : ∃ b, fitB n = b := ⟨_, rfl⟩
  have CF : Hid (∀ w, Calls Try.prog 10 #[.int .i64 n] w fun e w' => e = .returned (.bool b) ∧ w = w') := hid (fun w => by rw [← hb]; exact rfits_any n w hn.1 hn.2)
  rw [hb] at h
  obtain ⟨L, hL⟩ : ∃ L, ms.length = L := ⟨_, rfl⟩
  rw [hL] at h ⊢
  clear hb hn hs hL
  cases b with
  | false =>
    clear h
    go_enter Try.func6, Try.ntmps6
    go_wp2_with fail
    refine (ifirst_any _).mono ?_
    rintro e w1 ⟨rfl, k1⟩
    have K1 := hid k1
    clear k1
    go_wp2_with fail
    refine (CF.out _).mono ?_
    rintro e w2 ⟨rfl, rfl⟩
    go_wp2
    go_ret
    exact ⟨rfl, K1.out⟩
  | true =>
    by_cases h3 : 300 < n
    · clear h
      go_enter Try.func6, Try.ntmps6
      go_wp2_with fail
      refine (ifirst_any _).mono ?_
      rintro e w1 ⟨rfl, k1⟩
      have K1 := hid k1
      clear k1
      go_wp2_with fail
      refine (CF.out _).mono ?_
      rintro e w2 ⟨rfl, rfl⟩
      have d1 : decide (n > 300) = true := decide_eq_true h3
      go_wp2
      go_ret
      exact ⟨rfl, K1.out⟩
    · have h6 : 60 < L := by simpa [h3] using h
      clear h
      go_enter Try.func6, Try.ntmps6
      go_wp2_with fail
      refine (ifirst_any _).mono ?_
      rintro e w1 ⟨rfl, k1⟩
      have K1 := hid k1
      clear k1
      go_wp2_with fail
      refine (CF.out _).mono ?_
      rintro e w2 ⟨rfl, rfl⟩
      have d1 : decide (n > 300) = false := decide_eq_false (by omega)
      have d2 : decide ((L : Int) > 60) = true := decide_eq_true (by omega)
      go_wp2
      go_ret
      exact ⟨rfl, K1.out⟩

set_option maxRecDepth 100000 in
set_option maxHeartbeats 8000000 in
theorem iback_yes (t : Nat) (v : Value) (ms : List (List Int)) (w : World) (h0 : 0 < t) (h1 : t ≤ 100) (hs : MkSl w v ms) (hl : ms.length ≤ 60) :
    Calls Try.prog 6 #[.int .i64 ((3 * t : Nat) : Int), v] w fun e w' => e = .returned (.bool true) ∧ Kp Nb w w' := by
  obtain ⟨y, d, rfl⟩ := hs.shape
  have HS := hid hs
  have OF : Hid (∀ (v : Value) w, MkSl w v ms → Calls Try.prog 11 #[.int .i64 ((3 * t : Nat) : Int), v] w fun e w' => ∃ B C, e = .returned (.tuple #[.pointer (some ⟨B, 0, none⟩), .int .i64 0]) ∧ SkAt w' B C (ofS t ms) ∧ w.heap.size ≤ B ∧ w.heap.size ≤ C ∧ Kp Nb w w') := hid (fun v w h => of_yes t v ms w h0 (by omega) h)
  have CF : Hid (∀ w, Calls Try.prog 10 #[.int .i64 ((3 * t : Nat) : Int)] w fun e w' => e = .returned (.bool true) ∧ w = w') := hid (fun w => by
    have h := rfits_any ((3 * t : Nat) : Int) w (by omega) (by omega)
    rw [show fitB ((3 * t : Nat) : Int) = true from decide_eq_true (by omega)] at h
    exact h)
  have HC := hid (cnt_of t ms h0 hl)
  have HO : Hid (AllOk (ofS t ms)) := hid (ofS_ok t ms _ (zeroS_ok _))
  have HL : Hid ((ofS t ms).length ≤ 300) := hid (by rw [ofS_length]; omega)
  have HF : Hid (fitB ((ofS t ms).length) = true) := hid (by rw [ofS_length]; exact decide_eq_true (by omega))
  have HM := hid hl
  obtain ⟨n, hn⟩ : ∃ n, 3 * t = n := ⟨_, rfl⟩
  rw [hn] at OF CF ⊢
  have hn3 : n ≤ 300 := by omega
  obtain ⟨cs, hcs⟩ : ∃ cs, ofS t ms = cs := ⟨_, rfl⟩
  rw [hcs] at OF HC HO HL HF
  have HT : Hid (cs.take (1536 : Int).toNat = cs) := hid (List.take_of_length_le (by have := HL.out; omega))
  obtain ⟨L, hL⟩ : ∃ L, ms.length = L := ⟨_, rfl⟩
  rw [hL] at HC HM HS hl
  clear hcs h0 h1 hn
  rw [hL]
  clear hs
  go_enter Try.func6, Try.ntmps6
  go_wp2_with fail
  refine (ifirst_any _).mono ?_
  rintro e w1 ⟨rfl, k1⟩
  have K1 := hid k1
  have HS1 := hid (HS.out.kept k1)
  clear k1 HS
  go_wp2_with fail
  refine (CF.out _).mono ?_
  rintro e w2 ⟨rfl, rfl⟩
  have d1 : decide ((n : Int) > 300) = false := decide_eq_false (by omega)
  have d2 : decide ((L : Int) > 60) = false := decide_eq_false (by omega)
  go_wp2_with fail
  refine (OF.out _ _ HS1.out).mono ?_
  rintro e w2 ⟨B, C, rfl, s2, -, -, k2⟩
  have S2 := hid s2
  have K2 := hid (K1.out.trans k2 (fun _ _ h => h))
  clear s2 k2 K1 HS1 d1 d2 hn3
  go_wp2_with fail
  refine (gcells_any B C cs 1536 w2 S2.out (by have := HL.out; omega)).mono ?_
  rintro e w3 ⟨v3, rfl, r3, k3⟩
  rw [HT.out] at r3
  have R3 := hid r3
  have S3 := hid (S2.out.kept k3 (fun h => h) (fun h => h))
  have K3 := hid (K2.out.trans k3 (fun _ _ h => h))
  obtain ⟨y3, d3, rfl⟩ := r3.shape
  clear r3 k3 S2 K2
  go_wp2_with fail
  refine (from_yes _ cs w3 R3.out HO.out HF.out).mono ?_
  rintro e w4 ⟨B4, C4, rfl, s4, -, -, k4⟩
  have S4 := hid s4
  have S3' := hid (S3.out.kept k4 (fun h => h) (fun h => h))
  have K4 := hid (K3.out.trans k4 (fun _ _ h => h))
  clear s4 k4 S3 K3 R3
  go_wp2_with fail
  refine (ksub_any B C B4 C4 cs cs w4 S3'.out S4.out rfl (by have := HL.out; omega)).mono ?_
  rintro e w5 ⟨B5, C5, rfl, s5, -, -, k5⟩
  have S5 := hid s5
  have S6 := hid (S3'.out.kept k5 (fun h => h) (fun h => h))
  have K5 := hid (K4.out.trans k5 (fun _ _ h => h))
  clear s5 k5 S4 S3' K4
  go_wp2_with fail
  refine (gcells_any B C cs 1536 w5 S6.out (by have := HL.out; omega)).mono ?_
  rintro e w6 ⟨v6, rfl, r6, k6⟩
  rw [HT.out] at r6
  have R6 := hid r6
  have S7 := hid (S5.out.kept k6 (fun h => h) (fun h => h))
  have K6 := hid (K5.out.trans k6 (fun _ _ h => h))
  obtain ⟨y6, d6, rfl⟩ := r6.shape
  clear r6 k6 S5 S6 K5
  go_wp2
  go_loopw [51, 11] (BkR w6 cs) (fun i _ _ => cs.length - (intOf i).toNat)
  case atStart => exact ⟨0, by omega, rfl, rfl, hid (Kp.refl _ _)⟩
  case round =>
    obtain ⟨k, hk, rfl, rfl, HK⟩ := hrel
    by_cases hlt : k < cs.length
    · rcases R6.out.kept HK.out with ⟨_, e0⟩ | ⟨blk, off, cap, e1, hc, hm, hcell⟩
      · rw [e0] at hlt
        exact absurd hlt (Nat.not_lt_zero _)
      · injection e1 with e1 _ e2
        subst e1 e2
        have HR := hid (show wr.rangeAt blk (off + k * 18) (cl (celAt cs k)) from hcell k hlt)
        have XO := hid (HO.out.at k)
        have HQ := hid (cnt_snoc cs k hlt)
        unfold maxLen at hm
        obtain ⟨x, hx⟩ : ∃ x, celAt cs k = x := ⟨_, rfl⟩
        rw [hx] at HR XO HQ
        have HN : cs.length ≤ 300 := HL.out
        have HW : Hid (IntKind.i64.wrap (IntKind.i64.wrap (cnt (cs.take k)) + x.1) = IntKind.i64.wrap (cnt (cs.take (k + 1)))) := hid (by
          rw [HQ.out]
          simp only [IntKind.wrap_i64]
          omega)
        obtain ⟨c1, hc1⟩ : ∃ c, IntKind.i64.wrap (cnt (cs.take k)) = c := ⟨_, rfl⟩
        obtain ⟨c2, hc2⟩ : ∃ c, IntKind.i64.wrap (cnt (cs.take (k + 1))) = c := ⟨_, rfl⟩
        rw [hc1, hc2] at HW
        rw [hc1]
        have HC2 := hid hc2
        obtain ⟨d', hu, hd⟩ := cell_under
        have HU := hid hu
        have CI := hid (cell_infoL x.1 x.2.1 x.2.2 XO.out.mark.len)
        have hz := Blk.new wr 41 (cl c0)
        obtain ⟨W2, hW2⟩ : ∃ W, W = (wr.alloc (.cells (cl c0).toArray 41)).setCells wr.heap.size 0 (cl x) := ⟨_, rfl⟩
        have kW : Kp Nb wr W2 := by rw [hW2]; exact Kp.setCells (fun h => absurd h (Nat.lt_irrefl _)) _ 0 _ ((Kp.refl Nb wr).alloc _)
        have TH := hid (cell_there hz (cl_length c0_ok) XO.out)
        have SI := hid (cell_sized XO.out)
        have ON := hid (all_oneCell_toArray (cellL_one x.1 x.2.1 x.2.2))
        have HZ : Blk W2 wr.heap.size 41 (cl x) := by rw [hW2]; exact row_set hz (by rw [cl_length XO.out, cl_length c0_ok])
        have h9 := HZ.cell 0
        rw [show (cl x)[0]? = some (.int .i64 x.1) from rfl] at h9
        have HK1 := hid (HK.out.trans kW (fun _ _ h => h))
        clear hz kW hcell hu HZ hc1 hc2 hx HQ
        go_upto_region 14 with (first
          | (refine wpList_load_mid (by rfl) 41 (.tmp 53) (by rfl) blk (off + k * 18) (by rfl) (cl x) d' HR.out HU.out hd CI.out ?_)
          | (refine wpList_store_mid (by rfl) 41 (.tmp 13) (.tmp 54) (by rfl) wr.heap.size 0 (cl x).toArray (by rfl) (by rfl) TH.out SI.out ON.out ?_))
        rw [show (wr.alloc (.cells #[.int .i64 0, .int .u8 0, .int .u8 0, .int .u8 0, .int .u8 0, .int .u8 0, .int .u8 0, .int .u8 0, .int .u8 0, .int .u8 0, .int .u8 0, .int .u8 0, .int .u8 0, .int .u8 0, .int .u8 0, .int .u8 0, .int .u8 0, .int .u64 0] 41)).setCells wr.heap.size 0 (cl x) = W2 from hW2.symm]
        clear hW2 TH SI ON
        obtain ⟨x1, hx1⟩ : ∃ c, x.1 = c := ⟨_, rfl⟩
        rw [hx1] at HW h9
        have hw := HW.out
        clear hx1
        go_wp2
        go_roundw
        case rel => exact ⟨k + 1, by omega, by go_num, by rw [HC2.out], HK1⟩
        case measure => simp [intOf]; omega
    · obtain rfl : k = cs.length := by omega
      have hC := HC.out
      have EB := hid (fun w => empty_any B5 C5 (subS cs cs) w)
      have HB : Hid (emptyB (subS cs cs) = true) := hid (subS_self HO.out)
      have S8 := hid (S7.out.kept HK.out (fun h => h) (fun h => h))
      have LE : Hid ((subS cs cs).length ≤ 100000) := hid (by rw [subS_length]; have := HL.out; omega)
      have K8 := hid (K6.out.trans HK.out (fun _ _ h => h))
      rw [List.take_length, hC]
      clear hC HC HK
      go_wp2_with fail
      refine (EB.out _ S8.out LE.out).mono ?_
      rintro e w8 ⟨rfl, k8⟩
      rw [HB.out]
      have K9 := hid (K8.out.trans k8 (fun _ _ h => h))
      clear k8
      go_wp2
      go_ret
      exact ⟨rfl, K9.out⟩
theorem iback_any (n : Int) (v : Value) (ms : List (List Int)) (w : World) (hs : MkSl w v ms) (h0 : -9223372036854775808 ≤ n) (h1 : n < 9223372036854775808) :
    Calls Try.prog 6 #[.int .i64 n, v] w fun e w' => e = .returned (.bool true) ∧ Kp Nb w w' := by
  by_cases h : fitB n = false ∨ 300 < n ∨ 60 < ms.length
  · exact iback_no n v ms w hs ⟨h0, h1⟩ h
  · have hf : fitB n = true := by cases e : fitB n with
      | true => rfl
      | false => exact absurd (.inl e) h
    have hr : 3 ≤ n ∧ n ≤ 1536 ∧ n % 3 = 0 := of_decide_eq_true hf
    have h2 : ¬ 300 < n := fun e => h (.inr (.inl e))
    have h3 : ¬ 60 < ms.length := fun e => h (.inr (.inr e))
    have h4 := iback_yes (n / 3).toNat v ms w (by omega) (by omega) hs (by omega)
    have e : ((3 * (n / 3).toNat : Nat) : Int) = n := by omega
    rw [e] at h4
    exact h4

end Go.Proofs.Yteedceepoindeaa
