/-
  Layer 34: walks of Requests, Frames, Ticks, Overhead, Payload of none, Steps. Condition: what an int is.
-/
import Derived.Test.YtofjkaemakdmeaaBndA
import Derived.Deep.RegionHeld3
namespace Go.Proofs.Ytofjkaemakdmeaa
open Go.RowKit

theorem bkp_drew {S : Nat → Prop} {w w' : World} (h : Hid (Kp S w w')) : Hid (Kp S w w'.drew) := h.out.drew
theorem bkp_alloc {S : Nat → Prop} {w w' : World} (o : Obj) (h : Hid (Kp S w w')) : Hid (Kp S w (w'.alloc o)) := h.out.alloc o
theorem bkp_trans {S : Nat → Prop} {w w' w'' : World} (h : Hid (Kp S w w')) (k : Kp S w' w'') : Hid (Kp S w w'') := h.out.trans k (fun _ _ h => h)
def reqZ (r n k : Int) : Int := 2 + gA r + gB r + 2 * k + n
theorem reqZ_le {r n k : Int} (h0 : 0 ≤ r) (h1 : r ≤ 4) (hs : sizesOk n k) : 2 ≤ reqZ r n k ∧ reqZ r n k ≤ 20000 := by
  obtain ⟨a, b, c, d⟩ := hs
  have := gA_le r
  have := gB_le r h0 h1
  unfold reqZ
  omega
set_option maxHeartbeats 800000 in
theorem req_yes (e t r i n k : Int) (w : World) (hr : rightB e t r i = true) (hs : sizesOk n k) : Calls Try.prog 31 #[plan e t r i, .int .i64 n, .int .i64 k] w fun x w' => x = .returned (.int .i64 (reqZ r n k)) ∧ Kp Nb w w' := by
  have HK := hid ((Kp.refl Nb w).alloc (.cells #[.int .i64 e, .int .i64 t, .int .i64 r, .int .i64 i] 60))
  have HP : Hid (PlanAt (w.alloc (.cells #[.int .i64 e, .int .i64 t, .int .i64 r, .int .i64 i] 60)) w.heap.size e t r i) := hid (Blk.new w 60 [.int .i64 e, .int .i64 t, .int .i64 r, .int .i64 i])
  have hrr := (rightB_spec hr).2
  have CF : Hid (∀ w, Calls Try.prog 59 #[plan e t r i, .int .i64 n, .int .i64 k] w fun x w' => x = .returned (.bool true) ∧ Kp Nb w w') := hid (fun w => bfits_yes e t r i n k w hr hs)
  have CG : Hid (∀ w, Calls Try.prog 60 #[plan e t r i] w fun x w' => x = .returned (.tuple #[.int .i64 (gA r), .int .i64 (gB r)]) ∧ Kp Nb w w') := hid (fun w => guesses_any e t r i w hrr.1 hrr.2)
  have ha := gA_le r
  have hb := gB_le r hrr.1 hrr.2
  have HQ : Hid (reqZ r n k = 2 + gA r + gB r + 2 * k + n) := hid rfl
  obtain ⟨n0, n1, k0, k1⟩ := hs
  obtain ⟨a, hA⟩ : ∃ a, gA r = a := ⟨_, rfl⟩
  obtain ⟨b, hB⟩ : ∃ b, gB r = b := ⟨_, rfl⟩
  rw [hA, hB] at CG HQ
  rw [hA] at ha
  rw [hB] at hb
  clear hA hB hr hrr
  obtain ⟨a0, a1⟩ := ha
  obtain ⟨b0, b1⟩ := hb
  go_enter Try.func31, Try.ntmps31
  go_wp2_with fail
  refine (CF.out _).mono ?_
  rintro y w1 ⟨rfl, kk⟩
  obtain ⟨c0, c1, c2, c3⟩ := (HP.out.kept kk).cells
  have K1 := hid (HK.out.trans kk (fun _ _ h => h))
  clear kk
  go_wp2_with fail
  refine (CG.out _).mono ?_
  rintro y w2 ⟨rfl, kk⟩
  have K2 := hid (K1.out.trans kk (fun _ _ h => h))
  clear kk
  go_wp2
  go_ret
  exact ⟨tret_int (by rw [HQ.out]), K2.out⟩
set_option maxHeartbeats 800000 in
theorem req_no (e t r i n k : Int) (w : World) (hr : rightB e t r i = true) (hn : n < 0) : Calls Try.prog 31 #[plan e t r i, .int .i64 n, .int .i64 k] w fun x w' => x = .returned (.int .i64 0) ∧ Kp Nb w w' := by
  have HK := hid ((Kp.refl Nb w).alloc (.cells #[.int .i64 e, .int .i64 t, .int .i64 r, .int .i64 i] 60))
  have CF : Hid (∀ w, Calls Try.prog 59 #[plan e t r i, .int .i64 n, .int .i64 k] w fun x w' => x = .returned (.bool false) ∧ Kp Nb w w') := hid (fun w => bfits_no e t r i n k w hr hn)
  clear hr hn
  go_enter Try.func31, Try.ntmps31
  go_wp2_with fail
  refine (CF.out _).mono ?_
  rintro y w1 ⟨rfl, kk⟩
  have K1 := hid (HK.out.trans kk (fun _ _ h => h))
  clear kk
  go_wp2
  go_ret
  exact ⟨rfl, K1.out⟩

def frmZ (t r n k : Int) : Int := reqZ r n k * (t + 1) + 1
theorem frmZ_le {t r n k : Int} (t0 : 0 ≤ t) (t1 : t ≤ 10) (h0 : 0 ≤ r) (h1 : r ≤ 4) (hs : sizesOk n k) : 0 ≤ reqZ r n k * (t + 1) ∧ reqZ r n k * (t + 1) ≤ 220000 := by
  obtain ⟨a, b⟩ := reqZ_le h0 h1 hs
  exact ⟨Int.mul_nonneg (by omega) (by omega), Int.le_trans (Int.mul_le_mul b (show t + 1 ≤ 11 by omega) (by omega) (by omega)) (by decide)⟩
theorem plan_held {wm w' : World} {B : Nat} {e t r i : Int} (h : Hid (PlanAt wm B e t r i)) (k : Hid (Kp Nb wm w')) :
    Hid (Kp Nb wm w') ∧ w'.cell? ⟨B, 0, none⟩ = some (.int .i64 e) ∧ w'.cell? ⟨B, 1, none⟩ = some (.int .i64 t) ∧ w'.cell? ⟨B, 2, none⟩ = some (.int .i64 r) ∧ w'.cell? ⟨B, 3, none⟩ = some (.int .i64 i) := ⟨k, (h.out.kept k.out).cells⟩
set_option maxHeartbeats 2000000 in
theorem frm_yes (e t r i n k : Int) (w : World) (hr : rightB e t r i = true) (hs : sizesOk n k) : Calls Try.prog 32 #[plan e t r i, .int .i64 n, .int .i64 k] w fun x w' => x = .returned (.int .i64 (frmZ t r n k)) ∧ Kp Nb w w' := by
  have HK := hid ((Kp.refl Nb w).alloc (.cells #[.int .i64 e, .int .i64 t, .int .i64 r, .int .i64 i] 60))
  have HP : Hid (PlanAt (w.alloc (.cells #[.int .i64 e, .int .i64 t, .int .i64 r, .int .i64 i] 60)) w.heap.size e t r i) := hid (Blk.new w 60 [.int .i64 e, .int .i64 t, .int .i64 r, .int .i64 i])
  have hrr := rightB_spec hr
  obtain ⟨⟨-, -, t0, t1⟩, r0, r1⟩ := hrr
  have hf := frmZ_le t0 t1 r0 r1 hs
  have CF : Hid (∀ w, Calls Try.prog 59 #[plan e t r i, .int .i64 n, .int .i64 k] w fun x w' => x = .returned (.bool true) ∧ Kp Nb w w') := hid (fun w => bfits_yes e t r i n k w hr hs)
  have CQ : Hid (∀ w, Calls Try.prog 31 #[plan e t r i, .int .i64 n, .int .i64 k] w fun x w' => x = .returned (.int .i64 (reqZ r n k)) ∧ Kp Nb w w') := hid (fun w => req_yes e t r i n k w hr hs)
  have HQ : Hid (frmZ t r n k = reqZ r n k * (t + 1) + 1) := hid rfl
  obtain ⟨q, hq⟩ : ∃ q, reqZ r n k = q := ⟨_, rfl⟩
  rw [hq] at CQ HQ hf
  obtain ⟨p, hp⟩ : ∃ p, q * (t + 1) = p := ⟨_, rfl⟩
  rw [hp] at HQ hf
  obtain ⟨p0, p1⟩ := hf
  have w1 : IntKind.i64.wrap (t + 1) = t + 1 := IntWalk.i64_in _ (by omega)
  have w2 : IntKind.i64.wrap (q * (t + 1)) = p := by rw [hp]; exact IntWalk.i64_in _ (by omega)
  have w3 : IntKind.i64.wrap (p + 1) = p + 1 := IntWalk.i64_in _ (by omega)
  clear hp hq hr hs t0 t1 r0 r1
  go_enter Try.func32, Try.ntmps32
  go_wp2_with fail
  refine (CF.out _).mono ?_
  rintro y w4 ⟨rfl, kk⟩
  have HP2 := hid (HP.out.kept kk)
  obtain ⟨c0, c1, c2, c3⟩ := HP2.out.cells
  have K1 := hid (HK.out.trans kk (fun _ _ h => h))
  have HK0 := hid (Kp.refl Nb w4)
  clear kk
  go_wp2_with fail
  go_region_held3 (fun w' => Hid (Kp Nb w4 w') ∧ w'.cell? ⟨w.heap.size, 0, none⟩ = some (.int .i64 e) ∧ w'.cell? ⟨w.heap.size, 1, none⟩ = some (.int .i64 t) ∧ w'.cell? ⟨w.heap.size, 2, none⟩ = some (.int .i64 r) ∧ w'.cell? ⟨w.heap.size, 3, none⟩ = some (.int .i64 i))
    (exact plan_held HP2 (by repeat (first | with_reducible assumption | with_reducible apply bkp_drew | with_reducible apply bkp_alloc)))
    ((go_at_call 31; refine (CQ.out _).mono ?_; rintro y wy ⟨rfl, kk⟩; have kh : Hid (Kp Nb w4 wy) := bkp_trans (by repeat (first | with_reducible assumption | with_reducible apply bkp_drew | with_reducible apply bkp_alloc)) kk; clear kk))
  have K2 := hid (K1.out.trans kh.out (fun _ _ h => h))
  go_wp2
  go_ret
  exact ⟨tret_int (by rw [HQ.out]), K2.out⟩

def tckZ (e t r n k : Int) : Int := reqZ r n k * longZ e t
theorem longZ_le {e t : Int} (h : tfitsB e t = true) : 1 ≤ longZ e t ∧ longZ e t ≤ 88000 := by
  obtain ⟨a, b, c, d⟩ := tfitsB_spec h
  have h1 := sumZ_le a b (waitsN e t)
  have h2 := waitsN_le e t
  have h3 : 1 ≤ waitsN e t := by unfold waitsN; rw [if_pos h]; omega
  unfold longZ
  omega
theorem tckZ_le {e t r n k : Int} (h : tfitsB e t = true) (h0 : 0 ≤ r) (h1 : r ≤ 4) (hs : sizesOk n k) : 0 ≤ reqZ r n k * longZ e t ∧ reqZ r n k * longZ e t ≤ 1760000000 := by
  obtain ⟨a, b⟩ := reqZ_le h0 h1 hs
  obtain ⟨c, d⟩ := longZ_le h
  exact ⟨Int.mul_nonneg (by omega) (by omega), Int.le_trans (Int.mul_le_mul b d (by omega) (by omega)) (by decide)⟩
set_option maxHeartbeats 2000000 in
theorem tck_yes (e t r i n k : Int) (w : World) (hr : rightB e t r i = true) (hs : sizesOk n k) : Calls Try.prog 33 #[plan e t r i, .int .i64 n, .int .i64 k] w fun x w' => x = .returned (.int .i64 (tckZ e t r n k)) ∧ Kp Nb w w' := by
  have HK := hid ((Kp.refl Nb w).alloc (.cells #[.int .i64 e, .int .i64 t, .int .i64 r, .int .i64 i] 60))
  have HP : Hid (PlanAt (w.alloc (.cells #[.int .i64 e, .int .i64 t, .int .i64 r, .int .i64 i] 60)) w.heap.size e t r i) := hid (Blk.new w 60 [.int .i64 e, .int .i64 t, .int .i64 r, .int .i64 i])
  obtain ⟨-, r0, r1⟩ := rightB_spec hr
  have hf := tckZ_le (rightB_tf hr) r0 r1 hs
  have CQ : Hid (∀ w, Calls Try.prog 31 #[plan e t r i, .int .i64 n, .int .i64 k] w fun x w' => x = .returned (.int .i64 (reqZ r n k)) ∧ Kp Nb w w') := hid (fun w => req_yes e t r i n k w hr hs)
  have CL : Hid (∀ w, Calls Try.prog 61 #[.int .i64 e, .int .i64 t] w fun x w' => x = .returned (.int .i64 (longZ e t)) ∧ Kp Nb w w') := hid (fun w => long_any e t w)
  have HQ : Hid (tckZ e t r n k = reqZ r n k * longZ e t) := hid rfl
  obtain ⟨q, hq⟩ : ∃ q, reqZ r n k = q := ⟨_, rfl⟩
  obtain ⟨l, hl⟩ : ∃ l, longZ e t = l := ⟨_, rfl⟩
  rw [hq] at CQ
  rw [hl] at CL
  rw [hq, hl] at HQ hf
  obtain ⟨p, hp⟩ : ∃ p, q * l = p := ⟨_, rfl⟩
  rw [hp] at HQ hf
  have w2 : IntKind.i64.wrap (q * l) = p := by rw [hp]; exact IntWalk.i64_in _ (by omega)
  have HK0 := hid (Kp.refl Nb (w.alloc (.cells #[.int .i64 e, .int .i64 t, .int .i64 r, .int .i64 i] 60)))
  clear hp hq hl hr hs r0 r1 hf
  go_enter Try.func33, Try.ntmps33
  go_wp2_with fail
  obtain ⟨w4, h4⟩ : ∃ w4, w4 = w.alloc (.cells #[.int .i64 e, .int .i64 t, .int .i64 r, .int .i64 i] 60) := ⟨_, rfl⟩
  rw [← h4] at HK HP HK0 ⊢
  clear h4
  go_region_held3 (fun w' => Hid (Kp Nb w4 w') ∧ w'.cell? ⟨w.heap.size, 0, none⟩ = some (.int .i64 e) ∧ w'.cell? ⟨w.heap.size, 1, none⟩ = some (.int .i64 t) ∧ w'.cell? ⟨w.heap.size, 2, none⟩ = some (.int .i64 r) ∧ w'.cell? ⟨w.heap.size, 3, none⟩ = some (.int .i64 i))
    (exact plan_held HP (by repeat (first | with_reducible assumption | with_reducible apply bkp_drew | with_reducible apply bkp_alloc)))
    (first
      | (go_at_call 31; refine (CQ.out _).mono ?_; rintro y wy ⟨rfl, kk⟩; have kh : Hid (Kp Nb w4 wy) := bkp_trans (by repeat (first | with_reducible assumption | with_reducible apply bkp_drew | with_reducible apply bkp_alloc)) kk; clear kk)
      | (go_at_call 61; refine (CL.out _).mono ?_; rintro y wy ⟨rfl, kk⟩; have kh : Hid (Kp Nb w4 wy) := bkp_trans (by repeat (first | with_reducible assumption | with_reducible apply bkp_drew | with_reducible apply bkp_alloc)) kk; clear kk))
  have K2 := hid (HK.out.trans kh.out (fun _ _ h => h))
  go_wp2
  go_ret
  exact ⟨tret_int (by rw [HQ.out]), K2.out⟩

def ovhZ (r n k : Int) : Int := 284 + gA r * 436 + gB r * 1444 + k * 2044 + k * 1660 + n * 98
set_option maxHeartbeats 2000000 in
theorem ovh_yes (e t r i n k : Int) (w : World) (hr : rightB e t r i = true) (hs : sizesOk n k) : Calls Try.prog 34 #[plan e t r i, .int .i64 n, .int .i64 k] w fun x w' => x = .returned (.int .i64 (ovhZ r n k)) ∧ Kp Nb w w' := by
  have HK := hid ((Kp.refl Nb w).alloc (.cells #[.int .i64 e, .int .i64 t, .int .i64 r, .int .i64 i] 60))
  have HP : Hid (PlanAt (w.alloc (.cells #[.int .i64 e, .int .i64 t, .int .i64 r, .int .i64 i] 60)) w.heap.size e t r i) := hid (Blk.new w 60 [.int .i64 e, .int .i64 t, .int .i64 r, .int .i64 i])
  have hrr := (rightB_spec hr).2
  have CF : Hid (∀ w, Calls Try.prog 59 #[plan e t r i, .int .i64 n, .int .i64 k] w fun x w' => x = .returned (.bool true) ∧ Kp Nb w w') := hid (fun w => bfits_yes e t r i n k w hr hs)
  have CG : Hid (∀ w, Calls Try.prog 60 #[plan e t r i] w fun x w' => x = .returned (.tuple #[.int .i64 (gA r), .int .i64 (gB r)]) ∧ Kp Nb w w') := hid (fun w => guesses_any e t r i w hrr.1 hrr.2)
  have ha := gA_le r
  have hb := gB_le r hrr.1 hrr.2
  have HQ : Hid (ovhZ r n k = 284 + gA r * 436 + gB r * 1444 + k * 2044 + k * 1660 + n * 98) := hid rfl
  obtain ⟨n0, n1, k0, k1⟩ := hs
  obtain ⟨a, hA⟩ : ∃ a, gA r = a := ⟨_, rfl⟩
  obtain ⟨b, hB⟩ : ∃ b, gB r = b := ⟨_, rfl⟩
  rw [hA, hB] at CG HQ
  rw [hA] at ha
  rw [hB] at hb
  clear hA hB hr hrr
  obtain ⟨a0, a1⟩ := ha
  obtain ⟨b0, b1⟩ := hb
  go_enter Try.func34, Try.ntmps34
  go_wp2_with fail
  refine (CF.out _).mono ?_
  rintro y w1 ⟨rfl, kk⟩
  obtain ⟨c0, c1, c2, c3⟩ := (HP.out.kept kk).cells
  have K1 := hid (HK.out.trans kk (fun _ _ h => h))
  clear kk
  go_wp2_with fail
  refine (CG.out _).mono ?_
  rintro y w2 ⟨rfl, kk⟩
  have K2 := hid (K1.out.trans kk (fun _ _ h => h))
  clear kk
  go_wp2_with fail
  refine (pair_any 60 60 71 71 142 _ (by decide) (by decide) (by decide) (by decide) cost_60 cost_60 (by decide) (by decide) (by decide)).mono ?_
  rintro y w' ⟨rfl, rfl⟩
  go_wp2_with fail
  refine (pair_any 60 352 71 365 436 _ (by decide) (by decide) (by decide) (by decide) cost_60 cost_352 (by decide) (by decide) (by decide)).mono ?_
  rintro y w' ⟨rfl, rfl⟩
  go_wp2_with fail
  refine (pair_any 60 1360 71 1373 1444 _ (by decide) (by decide) (by decide) (by decide) cost_60 cost_1360 (by decide) (by decide) (by decide)).mono ?_
  rintro y w' ⟨rfl, rfl⟩
  go_wp2_with fail
  refine (pair_any 60 1960 71 1973 2044 _ (by decide) (by decide) (by decide) (by decide) cost_60 cost_1960 (by decide) (by decide) (by decide)).mono ?_
  rintro y w' ⟨rfl, rfl⟩
  go_wp2_with fail
  refine (pair_any 1620 16 1633 27 1660 _ (by decide) (by decide) (by decide) (by decide) cost_1620 cost_16 (by decide) (by decide) (by decide)).mono ?_
  rintro y w' ⟨rfl, rfl⟩
  go_wp2_with fail
  refine (pair_any 16 60 27 71 98 _ (by decide) (by decide) (by decide) (by decide) cost_16 cost_60 (by decide) (by decide) (by decide)).mono ?_
  rintro y w' ⟨rfl, rfl⟩
  go_wp2
  go_ret
  exact ⟨tret_int (by rw [HQ.out]), K2.out⟩

set_option maxHeartbeats 400000 in
theorem weigh_none (w : World) : Calls Try.prog 72 #[.slice none 0 0] w fun x w' => x = .returned (.int .i64 0) ∧ w = w' := by
  go_enter Try.func72, Try.ntmps72
  go_wp2
  go_loop [3, 8] (fun n i => n = .int .i64 0 ∧ i = .int .i64 0) (fun _ _ => 0)
  case atStart => exact ⟨rfl, rfl⟩
  case round =>
    obtain ⟨rfl, rfl⟩ := hrel
    go_wp2
    go_ret
    exact ⟨rfl, rfl⟩
set_option maxHeartbeats 400000 in
theorem payload_none (w : World) : Calls Try.prog 55 #[.slice none 0 0] w fun x w' => x = .returned (.int .i64 0) ∧ w = w' := by
  go_enter Try.func55, Try.ntmps55
  go_wp2_with (go_at_call 72; refine (weigh_none _).mono ?_; rintro y w' ⟨rfl, rfl⟩)
  go_ret
  exact ⟨rfl, rfl⟩
set_option maxHeartbeats 400000 in
theorem fits_six (w : World) : Calls Try.prog 73 #[.int .i64 6] w fun x w' => x = .returned (.bool true) ∧ w = w' := by
  go_enter Try.func73, Try.ntmps73
  go_wp2
  go_ret
  exact ⟨rfl, rfl⟩
set_option maxHeartbeats 400000 in
theorem steps_six (w : World) : Calls Try.prog 56 #[.int .i64 6] w fun x w' => x = .returned (.int .i64 12) ∧ w = w' := by
  go_enter Try.func56, Try.ntmps56
  go_wp2_with (go_at_call 73; refine (fits_six _).mono ?_; rintro y w' ⟨rfl, rfl⟩)
  go_ret
  exact ⟨rfl, rfl⟩

end Go.Proofs.Ytofjkaemakdmeaa
