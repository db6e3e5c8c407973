/-
  Layer 2: a number is read again from its bytes (the part of PenM that needs no reference). Nothing is walked here. No condition.
  Layer 3: Put, into a new pen. Conditions: at most 2^20 runs; the list's block is not the pen's.
  Layer 2: the eye's walks once more, for any set of blocks S (the eye's among them) in which the bytes do not lie: so that what is written elsewhere in S leaves the eye's bytes alone. Conditions: as in PenA to PenC.
  Layer 3: Get. Conditions: an eye in memory; fewer than 2^47 bytes.
  Layer 3: what is put is got (plain): a right clock of at most 1,024 runs is read again from its bytes.
-/
import Derived.Test.YtbbfibgijackhaaGreatDoorPenD
import Derived.Test.YtbbfibgijackhaaGreatDoorPkJ
import Derived.Test.YtbbfibgijackhaaGreatDoorPenC
namespace Go.Proofs.YtbbfibgijackhaaGreatDoor
open Go.RowKit

theorem bl_bounds : ∀ (f x : Nat), x < 2 ^ f → x ≠ 0 → 1 ≤ Lib.bitLenAux f x ∧ 2 ^ (Lib.bitLenAux f x - 1) ≤ x ∧ x < 2 ^ Lib.bitLenAux f x
  | 0, x, h, h0 => by simp at h; omega
  | f + 1, x, h, h0 => by
    unfold Lib.bitLenAux
    rw [if_neg h0]
    by_cases h2 : x / 2 = 0
    · have hx : x = 1 := by omega
      subst hx
      have e : Lib.bitLenAux f (1 / 2) = 0 := by
        cases f with
        | zero => rfl
        | succ f => unfold Lib.bitLenAux; rfl
      rw [e]
      decide
    · have ih := bl_bounds f (x / 2) (by rw [Nat.pow_succ] at h; omega) h2
      obtain ⟨i1, i2, i3⟩ := ih
      refine ⟨by omega, ?_, ?_⟩
      · have e : 1 + Lib.bitLenAux f (x / 2) - 1 = (Lib.bitLenAux f (x / 2) - 1) + 1 := by omega
        rw [e, Nat.pow_succ]
        omega
      · rw [Nat.add_comm, Nat.pow_succ]
        omega
theorem bitLen_bounds (x : Nat) (h : x < 18446744073709551616) (h0 : x ≠ 0) : 1 ≤ Lib.bitLen x ∧ 2 ^ (Lib.bitLen x - 1) ≤ x ∧ x < 2 ^ Lib.bitLen x := bl_bounds 64 x h h0

theorem kOf_bounds (u : Int) (h0 : 0 < u) (h1 : u < 18446744073709551616) : 1 ≤ kOf u ∧ (2 : Int) ^ (8 * (kOf u - 1)) ≤ u ∧ u < 2 ^ (8 * kOf u) := by
  obtain ⟨U, rfl⟩ := Int.eq_ofNat_of_zero_le (Int.le_of_lt h0)
  have hb := bitLen_bounds U (by omega) (by omega)
  unfold kOf
  rw [Int.toNat_natCast]
  obtain ⟨L, hL⟩ : ∃ L, L = Lib.bitLen U := ⟨_, rfl⟩
  rw [← hL] at hb ⊢
  obtain ⟨b1, b2, b3⟩ := hb
  have e1 : 2 ^ (8 * ((L + 7) / 8 - 1)) ≤ 2 ^ (L - 1) := Nat.pow_le_pow_right (by decide) (by omega)
  have e2 : 2 ^ L ≤ 2 ^ (8 * ((L + 7) / 8)) := Nat.pow_le_pow_right (by decide) (by omega)
  refine ⟨by omega, ?_, ?_⟩
  · have : (((2 ^ (8 * ((L + 7) / 8 - 1)) : Nat)) : Int) ≤ (U : Int) := by omega
    rw [Int.natCast_pow] at this
    exact this
  · have : (U : Int) < (((2 ^ (8 * ((L + 7) / 8)) : Nat)) : Int) := by omega
    rw [Int.natCast_pow] at this
    exact this

/-- A number of bytes, the greatest first. -/
def beN (xs : List Int) : Int := xs.foldl (fun a x => a * 256 + x) 0
theorem beN_snoc (xs : List Int) (x : Int) : beN (xs ++ [x]) = beN xs * 256 + x := by unfold beN; rw [List.foldl_append]; rfl
theorem beN_acc (xs : List Int) : ∀ a : Int, xs.foldl (fun a x => a * 256 + x) a = a * 256 ^ xs.length + beN xs := by
  induction xs with
  | nil => intro a; simp [beN]
  | cons x r ih =>
    intro a
    show r.foldl _ (a * 256 + x) = _
    have h2 : beN (x :: r) = (0 * 256 + x) * 256 ^ r.length + beN r := by show r.foldl _ (0 * 256 + x) = _; rw [ih]
    rw [ih, h2, List.length_cons, Int.pow_succ, Int.add_mul, Int.add_mul, Int.zero_mul, Int.zero_mul, Int.zero_add, Int.mul_comm (256 ^ r.length) 256, ← Int.mul_assoc]
    omega
theorem beN_cons (x : Int) (r : List Int) : beN (x :: r) = x * 256 ^ r.length + beN r := by
  show r.foldl _ (0 * 256 + x) = _
  rw [beN_acc, Int.zero_mul, Int.zero_add]
theorem beN_range (xs : List Int) (h : IsBytes xs) : 0 ≤ beN xs ∧ beN xs < 256 ^ xs.length := by
  induction xs with
  | nil => exact ⟨Int.le_refl _, by decide⟩
  | cons x r ih =>
    have i := ih h.tail
    have hx := h.head
    rw [beN_cons, List.length_cons, Int.pow_succ]
    have hp : (0 : Int) ≤ 256 ^ r.length := Int.pow_nonneg (by decide)
    obtain ⟨Q, hQ⟩ : ∃ Q : Int, Q = 256 ^ r.length := ⟨_, rfl⟩
    rw [← hQ] at i hp ⊢
    have e1 : 0 ≤ x * Q := Int.mul_nonneg hx.1 hp
    have e2 : x * Q ≤ 255 * Q := Int.mul_le_mul_of_nonneg_right (by omega) hp
    omega

theorem div_step (u : Int) (m : Nat) : u / 2 ^ (8 * (m + 1)) * 256 + u / 2 ^ (8 * m) % 256 = u / 2 ^ (8 * m) := by
  have e : (2 : Int) ^ (8 * (m + 1)) = 2 ^ (8 * m) * 256 := by rw [show 8 * (m + 1) = 8 * m + 8 from by omega, Int.pow_add]; rfl
  rw [e, ← Int.ediv_ediv_of_nonneg (Int.pow_nonneg (by decide))]
  omega
theorem digits_num (u : Int) (h0 : 0 ≤ u) (k : Nat) (hk : u < 2 ^ (8 * k)) : ∀ j, j ≤ k → beN (digits u k j) = u / 2 ^ (8 * (k - j))
  | 0, _ => by
    show (0 : Int) = _
    rw [Nat.sub_zero]
    exact (Int.ediv_eq_zero_of_lt h0 hk).symm
  | j + 1, hj => by
    rw [digits_succ, beN_snoc, digits_num u h0 k hk j (by omega)]
    unfold digit
    have e : k - j = (k - (j + 1)) + 1 := by omega
    have e2 : k - 1 - j = k - (j + 1) := by omega
    rw [e, e2]
    exact div_step u _
theorem digits_all (u : Int) (h0 : 0 ≤ u) (k : Nat) (hk : u < 2 ^ (8 * k)) : beN (digits u k k) = u := by
  rw [digits_num u h0 k hk k (Nat.le_refl _), Nat.sub_self]
  exact Int.ediv_one u
theorem digits_length (u : Int) (k j : Nat) : (digits u k j).length = j := by unfold digits; simp
theorem digits_bytes (u : Int) (k j : Nat) : IsBytes (digits u k j) := by
  refine IsBytes.of fun z hz => ?_
  unfold digits at hz
  obtain ⟨i, _, rfl⟩ := List.mem_map.1 hz
  unfold digit
  omega

theorem or_step (A d : Int) (h0 : 0 ≤ A) (h1 : A < 72057594037927936) (d0 : 0 ≤ d) (d1 : d < 256) : bits .or .u64 (IntKind.u64.wrap (A * 256)) d = A * 256 + d := by
  obtain ⟨a, rfl⟩ := Int.eq_ofNat_of_zero_le h0
  obtain ⟨e, rfl⟩ := Int.eq_ofNat_of_zero_le d0
  have hw : IntKind.u64.wrap ((a : Int) * 256) = ((a * 256 : Nat) : Int) := by rw [IntKind.wrap_u64]; omega
  rw [hw, bits_or_u64_nat _ _ (by omega) (by omega)]
  have := Nat.shiftLeft_add_eq_or_of_lt (i := 8) (show e < 2 ^ 8 by omega) a
  rw [Nat.shiftLeft_eq, show (2 : Nat) ^ 8 = 256 from rfl] at this
  omega
theorem beTo_num (zs : List Int) (h : IsBytes zs) : ∀ k, k ≤ 8 → k ≤ zs.length → beTo zs k = beN (zs.take k)
  | 0, _, _ => rfl
  | k + 1, hk, hl => by
    have ih := beTo_num zs h k (by omega) (by omega)
    have hr := beN_range (zs.take k) (h.take k)
    rw [List.length_take, Nat.min_eq_left (by omega)] at hr
    have hp : (256 : Int) ^ k ≤ 256 ^ 7 := by
      rw [pow_nat, pow_nat]
      have := Nat.pow_le_pow_right (n := 2) (by decide) (show 8 * k ≤ 8 * 7 by omega)
      omega
    have hq : (256 : Int) ^ 7 = 72057594037927936 := by decide
    show bits .or .u64 (IntKind.u64.wrap (beTo zs k * 256)) (zs[k]?.getD 0) = _
    rw [ih, take_snoc zs k (by omega), beN_snoc]
    exact or_step _ _ hr.1 (by omega) (h k).1 (h k).2

theorem numBytes_bytes (u : Int) (h0 : 0 ≤ u) (h1 : u < 18446744073709551616) : IsBytes (numBytes u) := by
  unfold numBytes
  split
  · exact IsBytes.one h0 (by omega)
  · have := kOf_le u h1
    exact (IsBytes.one (by omega) (by omega)).append (digits_bytes _ _ _)
theorem numBytes_size (u : Int) : (numBytes u).length = sizeN u := by
  unfold numBytes sizeN
  split
  · rfl
  · rw [List.length_append, digits_length]; rfl
theorem firstOf_numBytes (u : Int) (h0 : 0 ≤ u) (h1 : u < 18446744073709551616) (rest : List Int) (hr : IsBytes rest) : firstOf (numBytes u ++ rest) = (u, sizeN u, 0) := by
  by_cases hu : u ≤ 247
  · have e : numBytes u = [u] := by unfold numBytes; rw [if_pos hu]
    have e2 : sizeN u = 1 := by unfold sizeN; rw [if_pos hu]
    rw [e, e2]
    unfold firstOf
    rw [if_neg (by simp)]
    have e3 : ([u] ++ rest)[0]?.getD 0 = u := rfl
    rw [e3, if_pos hu]
  · obtain ⟨k1, k2, k3⟩ := kOf_bounds u (by omega) h1
    have k8 := kOf_le u h1
    have e : numBytes u = [247 + (kOf u : Int)] ++ digits u (kOf u) (kOf u) := by unfold numBytes; rw [if_neg hu]
    have e2 : sizeN u = 1 + kOf u := by unfold sizeN; rw [if_neg hu]
    rw [e]
    unfold firstOf
    have e3 : ([247 + (kOf u : Int)] ++ digits u (kOf u) (kOf u) ++ rest)[0]?.getD 0 = 247 + (kOf u : Int) := rfl
    have e4 : (247 + (kOf u : Int) - 247).toNat = kOf u := by omega
    have e5 : ([247 + (kOf u : Int)] ++ digits u (kOf u) (kOf u) ++ rest).length = 1 + kOf u + rest.length := by rw [List.length_append, List.length_append, digits_length]; rfl
    have e6 : ([247 + (kOf u : Int)] ++ digits u (kOf u) (kOf u) ++ rest).drop 1 = digits u (kOf u) (kOf u) ++ rest := rfl
    have hb : beTo (digits u (kOf u) (kOf u) ++ rest) (kOf u) = u := by
      rw [beTo_num _ ((digits_bytes _ _ _).append hr) _ k8 (by rw [List.length_append, digits_length]; omega)]
      have : (digits u (kOf u) (kOf u) ++ rest).take (kOf u) = digits u (kOf u) (kOf u) := by
        have := List.take_left (l₁ := digits u (kOf u) (kOf u)) (l₂ := rest)
        rwa [digits_length] at this
      rw [this, digits_all u h0 _ k3]
    rw [e3, e4, e5, e6, hb, if_neg (by omega), if_neg (by omega), if_neg (by omega), if_pos e2, e2]

theorem readN_numBytes (u most : Int) (h0 : 0 ≤ u) (h1 : u < 18446744073709551616) (hm : u ≤ most) (rest : List Int) (hr : IsBytes rest) : readN (numBytes u ++ rest) 0 most = (u, rest, 0) := by
  unfold readN
  rw [firstOf_numBytes u h0 h1 rest hr, if_neg (by simp), if_neg (by simp), if_neg (by show ¬ most < u; omega)]
  show (u, (numBytes u ++ rest).drop (sizeN u), (0 : Int)) = _
  rw [← numBytes_size, List.drop_left]

end Go.Proofs.YtbbfibgijackhaaGreatDoor

namespace Go.Proofs.YtbbfibgijackhaaGreatDoor
open Go.RowKit

def bytesR (q : RunQ) : List Int := numBytes q.1 ++ numBytes q.2.1 ++ numBytes (q.2.2 - q.2.1)
def runsB (c : List RunQ) : List Int := c.flatMap bytesR
def bytesC (c : List RunQ) : List Int := numBytes (c.length : Int) ++ runsB c
theorem runsB_snoc (c : List RunQ) (k : Nat) (hk : k < c.length) : runsB (c.take (k + 1)) = runsB (c.take k) ++ bytesR (runAt c k) := by
  unfold runsB
  rw [take_snocR c k hk, List.flatMap_append]
  simp
theorem runsB_len : ∀ (c : List RunQ), (∀ q ∈ c, goodR q = true) → (runsB c).length ≤ c.length * 27
  | [], _ => by simp [runsB]
  | q :: c, h => by
    have ih := runsB_len c (fun x hx => h x (by simp [hx]))
    have g := goodR_of.1 (h q (by simp))
    have h1 := numBytes_length q.1 (by omega)
    have h2 := numBytes_length q.2.1 (by omega)
    have h3 := numBytes_length (q.2.2 - q.2.1) (by omega)
    have h4 : (bytesR q).length ≤ 27 := by unfold bytesR; rw [List.length_append, List.length_append]; omega
    unfold runsB at ih ⊢
    rw [List.flatMap_cons, List.length_append, List.length_cons]
    omega
theorem ClSl.keptV {S : Nat → Prop} {w w' : World} {v : Value} {c : List RunQ} (h : ClSl w v c) (k : Kp S w w') (hS : ∀ g, v.ownBlock = some g → ¬ S g) : ClSl w' v c := by
  refine ⟨h.1, ?_⟩
  rcases h.2 with h | ⟨blk, off, cap, rfl, hc, hm, hr⟩
  · exact .inl h
  · exact .inr ⟨blk, off, cap, rfl, hc, hm, fun i hi j u hu => k.cell (hr i hi j u hu) (hS blk rfl)⟩
theorem PenTo.kpNb {a b c : World} {P : Nat} {v v' : Value} (h : PenTo a b P v v') (k : Kp Nb b c) : PenTo a c P v v' := ⟨h.kp.trans k (fun _ _ h => h.elim), h.at'⟩
theorem pen_sepC {a b : World} {P : Nat} {v' vl : Value} {c : List RunQ} (h : PenTo a b P (.slice none 0 0) v') (hm : ClSl a vl c) (hne : ∀ g, vl.ownBlock = some g → g ≠ P) : ClSl b vl c :=
  hm.keptV h.kp (fun g hg hs => hs.elim (fun e => hne g hg e) (fun e => by simp [Value.ownBlock] at e))
theorem PenTo.box {a b : World} {P M : Nat} {t : TypeId} {v v' : Value} {vs : List Value} (h : PenTo a b P v v') (hb : Blk a M t vs) (hP : M ≠ P) (hv : v.ownBlock ≠ some M) : Blk b M t vs ∧ v'.ownBlock ≠ some M := by
  refine ⟨hb.kept h.kp (fun hp => hp.elim (fun e => hP e) (fun e => hv e)), ?_⟩
  rcases h.at' with e | e
  · rw [e]; exact hv
  · intro hg; have := e M hg; have := hb.lt; omega
theorem PenAt.own_lt {w : World} {B : Nat} {v : Value} {zs : List Int} (h : PenAt w B v zs) {g : Nat} (hg : v.ownBlock = some g) : g < w.heap.size := (h.own.lt g hg).2
/-- What Put answers. -/
def putB (c : List RunQ) : Bool := rightC c && decide (c.length ≤ 1024)
def PutR (w : World) (P : Nat) (c : List RunQ) (N : Nat) (i : Value) (wr : World) : Prop := ∃ k : Nat, k ≤ N ∧ i = .int .i64 k ∧ Hid (∃ v', PenAt wr P v' (numBytes (N : Int) ++ runsB (c.take k)) ∧ PenTo w wr P (.slice none 0 0) v')
set_option maxRecDepth 100000 in
set_option maxHeartbeats 4000000 in
theorem dput_any (P : Nat) (v : Value) (c : List RunQ) (w : World) (h : ClSl w v c) (hp : PenAt w P (.slice none 0 0) []) (hne : ∀ g, v.ownBlock = some g → g ≠ P) (hl : c.length ≤ 1048576) :
    Calls Tryz.prog 27 #[.pointer (some ⟨P, 0, none⟩), v] w fun e w' => e = .returned (.bool (putB c)) ∧ ∃ v', PenAt w' P v' (if putB c then bytesC c else []) ∧ PenTo w w' P (.slice none 0 0) v' := by
  have CR := hid (dright_any v c w h (by omega))
  have HM := hid h
  have HP := hid hp
  have HNE := hid hne
  obtain ⟨N, hN⟩ : ∃ N, c.length = N := ⟨_, rfl⟩
  have HLE := hid hN
  obtain ⟨y, d, rfl⟩ := h.shape
  have hpb : putB c = (rightC c && decide (N ≤ 1024)) := by unfold putB; rw [hN]
  rw [hpb]
  rw [hN] at CR HM HNE hl ⊢
  obtain ⟨b, hb⟩ : ∃ b, rightC c = b := ⟨_, rfl⟩
  have HRC := hid hb
  rw [hb] at CR ⊢
  clear h hp hne hN hb hpb
  cases b with
  | false =>
    go_enter Tryz.func27, Tryz.ntmps27
    go_wp2_with (go_at_call 9; refine CR.out.mono ?_; rintro r w1 ⟨rfl, k1⟩; have K1 := hid k1; clear k1)
    go_ret
    exact ⟨rfl, _, HP.out.kept K1.out (fun h => h) (fun _ _ h => h), ⟨⟨K1.out.os, K1.out.tape, K1.out.output, K1.out.size, fun i hi _ => K1.out.block i hi (fun h => h)⟩, .inl rfl⟩⟩
  | true =>
    by_cases hbg : N ≤ 1024
    · have hdb : (true && decide (N ≤ 1024)) = true := by simpa using hbg
      rw [hdb]
      have hq : ¬ (N : Int) > 1024 := by omega
      have HN1 := hid hbg
      have HG : Hid (∀ q ∈ c, goodR q = true) := hid (right_good HRC.out)
      have hw : IntKind.u64.wrap (N : Int) = (N : Int) := IntWalk.u64_in _ ⟨Int.natCast_nonneg N, by omega⟩
      clear hdb
      go_enter Tryz.func27, Tryz.ntmps27
      go_wp2_with (go_at_call 9; refine CR.out.mono ?_; rintro r w1 ⟨rfl, k1⟩; have K1 := hid k1; clear k1)
      have P1 : Hid (PenAt w1 P (.slice none 0 0) []) := hid (HP.out.kept K1.out (fun h => h) (fun _ _ h => h))
      have T1 : Hid (PenTo w w1 P (.slice none 0 0) (.slice none 0 0)) := hid ((PenTo.refl w P _).kpNb K1.out)
      refine (pen_number P _ _ (N : Int) w1 P1.out (Int.natCast_nonneg N) (by omega) (by simp)).mono ?_
      rintro e w2 ⟨rfl, v2, p2, t2⟩
      have HI0 : Hid (∃ v', PenAt w2 P v' (numBytes (N : Int) ++ runsB (c.take 0)) ∧ PenTo w w2 P (.slice none 0 0) v') := hid ⟨v2, by simpa [runsB] using p2, T1.out.trans t2⟩
      clear p2 t2 hw hq hbg
      go_wp2
      go_loopw [22] (PutR w P c N) (fun i _ => N - (intOf i).toNat)
      case atStart => exact ⟨0, Nat.zero_le _, rfl, HI0⟩
      case round =>
        clear HI0
        obtain ⟨k, hk, rfl, HPK⟩ := hrel
        by_cases hlt : k < N
        · have HLT := hid hlt
          obtain ⟨v', pk, tk⟩ := HPK.out
          have HSW := hid (pen_sepC tk HM.out HNE.out)
          have HKW := hid (Kp.refl Nb wr)
          have HPL := hid pk.lt
          have HVL : Hid (∀ g, v'.ownBlock = some g → g < wr.heap.size) := hid (fun g hg => pk.own_lt hg)
          have HZS : Hid ((numBytes (N : Int) ++ runsB (c.take k)).length ≤ 30000) := hid (by
            have h1 := numBytes_length (N : Int) (by omega)
            have h2 := runsB_len (c.take k) (fun q hq => HG.out q (List.mem_of_mem_take hq))
            have h3 : (c.take k).length ≤ 1024 := by rw [List.length_take]; have := HN1.out; omega
            rw [List.length_append]
            omega)
          obtain ⟨blk, off, cap, e1, hc, hm, hcell⟩ := cl_shape (HSW.out.kept HKW.out) (by intro h; have := HLE.out; rw [h, List.length_nil] at this; omega)
          rw [HLE.out] at e1 hc hcell
          injection e1 with e1 _ e2
          subst e1 e2
          have HR := hid (hcell k hlt)
          obtain ⟨⟨qn, qf, qt⟩, hq⟩ : ∃ q, runAt c k = q := ⟨_, rfl⟩
          have HOK := HSW.out.1 k
          rw [hq] at HR HOK
          have HQ := hid hq
          obtain ⟨M, hM⟩ : ∃ M, wr.heap.size = M := ⟨_, rfl⟩
          obtain ⟨W2, hW2⟩ : ∃ W, W = (wr.alloc (.cells (runL (0, 0, 0)).toArray 61)).setCells M 0 (runL (qn, qf, qt)) := ⟨_, rfl⟩
          have hz := Blk.new wr 61 (runL (0, 0, 0))
          rw [hM] at hz
          have KW : Hid (Kp Nb wr W2) := hid (by rw [hW2]; exact Kp.setCells (fun h => absurd h (by omega)) _ 0 _ ((Kp.refl Nb wr).alloc _))
          have HMW : Hid (wr.heap.size = M) := hid hM
          have TH := hid (run_there (q := (qn, qf, qt)) hz)
          have HZ : Hid (Blk W2 M 61 (runL (qn, qf, qt))) := hid (by rw [hW2]; exact row_set hz rfl)
          have HK2 := hid (HKW.out.trans KW.out (fun _ _ h => h))
          unfold maxLen at hm
          obtain ⟨fs, hfs⟩ := under_run
          clear hz hcell hq
          go_upto_region 7 with (first
            | (refine wpList_load_mid (by rfl) 61 (.tmp 24) (by rfl) blk (off + k * 3) (by rfl) (runL (qn, qf, qt)) _ HR.out hfs rfl (run_infoL (qn, qf, qt)) ?_)
            | (refine wpList_store_mid (by rfl) 61 (.tmp 6) (.tmp 25) (by rfl) M 0 (runL (qn, qf, qt)).toArray (by rfl) (by rfl) TH.out (run_infoA (qn, qf, qt)) (run_one (qn, qf, qt)) ?_))
          rw [show (wr.alloc (.cells #[.int .i64 0, .int .i64 0, .int .i64 0] 61)).setCells M 0 (runL (qn, qf, qt)) = W2 from hW2.symm]
          clear hW2 TH hM
          have c0 : W2.cell? ⟨M, 0, none⟩ = some (.int .i64 qn) := HZ.out.cell 0
          have c1 : W2.cell? ⟨M, 1, none⟩ = some (.int .i64 qf) := HZ.out.cell 1
          have c2 : W2.cell? ⟨M, 2, none⟩ = some (.int .i64 qt) := HZ.out.cell 2
          have HGQ : Hid (0 ≤ qn ∧ qn ≤ 7 ∧ 1 ≤ qf ∧ qf ≤ qt ∧ qt ≤ 1099511627776) := hid (by
            have := goodR_of.1 (HG.out (runAt c k) (runAt_mem (by rw [HLE.out]; exact hlt)))
            rwa [HQ.out] at this)
          have PK2 : Hid (PenAt W2 P v' (numBytes (N : Int) ++ runsB (c.take k))) := hid (pk.kept KW.out (fun h => h) (fun _ _ h => h))
          have TK2 : Hid (PenTo w W2 P (.slice none 0 0) v') := hid (tk.kpNb KW.out)
          have HMP : Hid (M ≠ P) := hid (by have := HMW.out; have := HPL.out; omega)
          have HVM : Hid (v'.ownBlock ≠ some M) := hid (fun hg => by have := HVL.out M hg; have := HMW.out; omega)
          have HSN : Hid (numBytes (N : Int) ++ runsB (c.take k) ++ numBytes qn ++ numBytes qf ++ numBytes (qt - qf) = numBytes (N : Int) ++ runsB (c.take (k + 1))) := hid (by
            rw [runsB_snoc c k (by rw [HLE.out]; exact hlt), HQ.out]; unfold bytesR; simp only [List.append_assoc])
          have hb1 : (numBytes qn).length ≤ 9 := numBytes_length qn (by have := HGQ.out; omega)
          have hb2 : (numBytes qf).length ≤ 9 := numBytes_length qf (by have := HGQ.out; omega)
          have HB12 := hid (And.intro hb1 hb2)
          clear pk tk HPK hb1 hb2
          obtain ⟨zs, hzs⟩ : ∃ zs, numBytes (N : Int) ++ runsB (c.take k) = zs := ⟨_, rfl⟩
          rw [hzs] at PK2 HZS HSN
          clear hzs
          have hw1 : IntKind.u64.wrap qn = qn := IntWalk.u64_in _ (by have := HGQ.out; omega)
          have hw2 : IntKind.u64.wrap qf = qf := IntWalk.u64_in _ (by have := HGQ.out; omega)
          have hw3 : IntKind.u64.wrap (qt - qf) = qt - qf := IntWalk.u64_in _ (by have := HGQ.out; omega)
          have hw4 : IntKind.i64.wrap (qt - qf) = qt - qf := IntWalk.i64_in _ (by have := HGQ.out; omega)
          go_wp2_with fail
          refine (pen_number P v' zs qn W2 PK2.out HGQ.out.1 (by have := HGQ.out; omega) (by have := HZS.out; omega)).mono ?_
          rintro e w3 ⟨rfl, v3, p3, t3⟩
          obtain ⟨b3, s3⟩ := t3.box HZ.out HMP.out HVM.out
          have HB3 := hid b3
          have HS3 := hid s3
          have PK3 := hid p3
          have TK3 := hid (TK2.out.trans t3)
          clear p3 t3 b3 s3 c0 c1 c2
          have c0 : w3.cell? ⟨M, 0, none⟩ = some (.int .i64 qn) := HB3.out.cell 0
          have c1 : w3.cell? ⟨M, 1, none⟩ = some (.int .i64 qf) := HB3.out.cell 1
          have c2 : w3.cell? ⟨M, 2, none⟩ = some (.int .i64 qt) := HB3.out.cell 2
          go_wp2_with fail
          refine (pen_number P v3 (zs ++ numBytes qn) qf w3 PK3.out (by have := HGQ.out; omega) (by have := HGQ.out; omega) (by have := HZS.out; have := HB12.out; rw [List.length_append]; omega)).mono ?_
          rintro e w4 ⟨rfl, v4, p4, t4⟩
          obtain ⟨b4, s4⟩ := t4.box HB3.out HMP.out HS3.out
          have HB4 := hid b4
          have PK4 := hid p4
          have TK4 := hid (TK3.out.trans t4)
          clear p4 t4 b4 s4 c0 c1 c2
          have c0 : w4.cell? ⟨M, 0, none⟩ = some (.int .i64 qn) := HB4.out.cell 0
          have c1 : w4.cell? ⟨M, 1, none⟩ = some (.int .i64 qf) := HB4.out.cell 1
          have c2 : w4.cell? ⟨M, 2, none⟩ = some (.int .i64 qt) := HB4.out.cell 2
          go_wp2_with fail
          refine (pen_number P v4 (zs ++ numBytes qn ++ numBytes qf) (qt - qf) w4 PK4.out (by have := HGQ.out; omega) (by have := HGQ.out; omega) (by have := HZS.out; have := HB12.out; rw [List.length_append, List.length_append]; omega)).mono ?_
          rintro e w5 ⟨rfl, v5, p5, t5⟩
          have HPN : Hid (∃ v', PenAt w5 P v' (numBytes (N : Int) ++ runsB (c.take (k + 1))) ∧ PenTo w w5 P (.slice none 0 0) v') := hid ⟨v5, by rw [← HSN.out]; exact p5, TK4.out.trans t5⟩
          clear p5 t5 c0 c1 c2 hw1 hw2 hw3 hw4
          go_wp2
          go_roundw
          case rel => exact ⟨k + 1, HLT.out, by go_num, HPN⟩
          case measure => have := HLT.out; simp [intOf]; omega
        · obtain rfl : k = N := by omega
          go_wp2
          go_ret
          obtain ⟨v', pk, tk⟩ := HPK.out
          rw [← HLE.out, List.take_length] at pk
          exact ⟨rfl, v', pk, tk⟩
    · have hdb : (true && decide (N ≤ 1024)) = false := by simpa using hbg
      rw [hdb]
      have hq : (N : Int) > 1024 := by omega
      clear hdb hbg
      go_enter Tryz.func27, Tryz.ntmps27
      go_wp2_with (go_at_call 9; refine CR.out.mono ?_; rintro r w1 ⟨rfl, k1⟩; have K1 := hid k1; clear k1)
      go_ret
      exact ⟨rfl, _, HP.out.kept K1.out (fun h => h) (fun _ _ h => h), ⟨⟨K1.out.os, K1.out.tape, K1.out.output, K1.out.size, fun i hi _ => K1.out.block i hi (fun h => h)⟩, .inl rfl⟩⟩

end Go.Proofs.YtbbfibgijackhaaGreatDoor

namespace Go.Proofs.YtbbfibgijackhaaGreatDoor
open Go.RowKit

def EyeOn (S : Nat → Prop) (w : World) (B : Nat) (zs : List Int) (e : Int) : Prop := ∃ v, Blk w B 71 [v, .int .i64 e] ∧ BySl S w v zs
theorem EyeOn.lt {S : Nat → Prop} {w : World} {B : Nat} {zs : List Int} {e : Int} (h : EyeOn S w B zs e) : B < w.heap.size := by obtain ⟨v, hb, _⟩ := h; exact hb.lt
theorem EyeOn.kept {S S' : Nat → Prop} {w w' : World} {B : Nat} {zs : List Int} {e : Int} (h : EyeOn S w B zs e) (k : Kp S' w w') (hB : ¬ S' B) (hS : ∀ i, S' i → S i) : EyeOn S w' B zs e := by
  obtain ⟨v, hb, hv⟩ := h
  exact ⟨v, hb.kept k hB, hv.kept k hS⟩
theorem EyeOn.drew {S : Nat → Prop} {w : World} {B : Nat} {zs : List Int} {e : Int} (h : EyeOn S w B zs e) : EyeOn S w.drew B zs e := h.kept ((Kp.refl Nb w).drew) (fun h => h) (fun _ h => h.elim)
/-- Of blocks that come later the bytes lie in none. -/
theorem EyeOn.of {w : World} {B : Nat} {zs : List Int} {e : Int} (h : EyeAt w B zs e) (N : Nat) (hN : w.heap.size ≤ N) : EyeOn (fun i => i = B ∨ N ≤ i) w B zs e := by
  obtain ⟨v, hb, hy, hv⟩ := h
  refine ⟨v, hb, hy, ?_⟩
  rcases hv with hv | ⟨blk, off, cap, rfl, hc, hm, hat, hS⟩
  · exact .inl hv
  · refine .inr ⟨blk, off, cap, rfl, hc, hm, hat, fun h0 hp => ?_⟩
    rcases hp with hp | hp
    · exact hS h0 hp
    · have := World.block_lt_of_cell? w _ (hat 0 h0)
      dsimp only at this
      omega
theorem EyeOn.at {S : Nat → Prop} {w : World} {B : Nat} {zs : List Int} {e : Int} (h : EyeOn S w B zs e) (hS : ∀ i, Jb B i → S i) : EyeAt w B zs e := by
  obtain ⟨v, hb, hy, hv⟩ := h
  refine ⟨v, hb, hy, ?_⟩
  rcases hv with hv | ⟨blk, off, cap, rfl, hc, hm, hat, h0⟩
  · exact .inl hv
  · exact .inr ⟨blk, off, cap, rfl, hc, hm, hat, fun h1 hp => h0 h1 (hS _ hp)⟩

set_option maxHeartbeats 400000 in
theorem err_on (B : Nat) (zs : List Int) (e : Int) (w : World) {S : Nat → Prop} (hS : ∀ i, Jb B i → S i) (h : EyeOn S w B zs e) :
    Calls Tryz.prog 35 #[.pointer (some ⟨B, 0, none⟩)] w fun r w' => r = .returned (.int .i64 e) ∧ w = w' := by
  have HS := hid hS
  clear hS
  obtain ⟨v, hb, -⟩ := h
  have c1 := hb.cell 1
  have c0 := hb.cell 0
  simp only [List.getElem?_cons_zero, List.getElem?_cons_succ] at c0 c1
  clear hb
  go_enter Tryz.func35, Tryz.ntmps35
  go_wp2
  go_ret
  exact ⟨rfl, rfl⟩
set_option maxHeartbeats 400000 in
theorem fail_on (B : Nat) (zs : List Int) (e f : Int) (w : World) {S : Nat → Prop} (hS : ∀ i, Jb B i → S i) (h : EyeOn S w B zs e) :
    Calls Tryz.prog 51 #[.pointer (some ⟨B, 0, none⟩), .int .i64 f] w fun r w' => r = .returned (.tuple #[]) ∧ EyeOn S w' B (failS zs e f) (failE e f) ∧ Kp (Jb B) w w' := by
  have HS := hid hS
  clear hS
  obtain ⟨v, hb, hv⟩ := h
  have c1 := hb.cell 1
  have c0 := hb.cell 0
  simp only [List.getElem?_cons_zero, List.getElem?_cons_succ] at c0 c1
  have f0 := hb.frozen 0
  have f1 := hb.frozen 1
  have HB := hid hb
  have HV := hid hv
  clear hb hv
  by_cases h0 : e = 0
  · by_cases h1 : f = 0
    · have HN := hid (show ¬ (e = 0 ∧ f ≠ 0) by omega)
      have g1 : (f != 0) = false := by rw [bne_eq_false_iff_eq]; exact h1
      subst h0
      go_enter Tryz.func51, Tryz.ntmps51
      go_wp2
      go_end0
      exact ⟨rfl, by simp only [failS, failE, ne_eq, not_true_eq_false, and_false, if_false]; exact ⟨v, HB.out, HV.out⟩, Kp.refl _ _⟩
    · have HN := hid (show (e = 0 ∧ f ≠ 0) from ⟨h0, h1⟩)
      have g1 : (f != 0) = true := by rw [bne_iff_ne]; exact h1
      subst h0
      go_enter Tryz.func51, Tryz.ntmps51
      go_wp2
      go_end0
      refine ⟨rfl, ?_, ((Kp.refl (Jb B) w).set 1 _).set 0 _⟩
      have hf := HN.out.2
      simp only [failS, failE, ne_eq, hf, not_false_eq_true, and_true, if_true]
      exact ⟨.slice none 0 0, (HB.out.set 1 (.int .i64 f)).set 0 (.slice none 0 0), fun i => by simp, .inl ⟨⟨none, 0, rfl⟩, rfl⟩⟩
  · have HN := hid (show ¬ (e = 0 ∧ f ≠ 0) by omega)
    have g1 : (e == 0) = false := by rw [beq_eq_false_iff_ne]; exact h0
    go_enter Tryz.func51, Tryz.ntmps51
    go_wp2
    go_end0
    exact ⟨rfl, by unfold failS failE; rw [if_neg HN.out, if_neg HN.out]; exact ⟨v, HB.out, HV.out⟩, Kp.refl _ _⟩
set_option maxRecDepth 100000 in
set_option maxHeartbeats 1000000 in
theorem number_on (B : Nat) (zs : List Int) (e most : Int) (w : World) {S : Nat → Prop} (hS : ∀ i, Jb B i → S i) (h : EyeOn S w B zs e) :
    Calls Tryz.prog 50 #[.pointer (some ⟨B, 0, none⟩), .int .u64 most] w fun r w' => r = .returned (.int .u64 (readN zs e most).1) ∧ EyeOn S w' B (readN zs e most).2.1 (readN zs e most).2.2 ∧ Kp (Jb B) w w' := by
  have HS := hid hS
  clear hS
  have H := hid h
  obtain ⟨v, hb, hv⟩ := h
  have c0 := hb.cell 0
  simp only [List.getElem?_cons_zero] at c0
  have f0 := hb.frozen 0
  have HB := hid hb
  have HV := hid hv
  clear hb hv
  obtain ⟨R, hR⟩ : ∃ R, R = readN zs e most := ⟨_, rfl⟩
  rw [← hR]
  have HR := hid hR
  clear hR
  unfold readN at HR
  by_cases he : e = 0
  · subst he
    have HR2 := HR.out.trans (if_neg (fun h => h rfl))
    have HR := hid HR2
    clear HR2
    have hok := firstOf_ok zs
    have HF : Hid (firstVal zs = .tuple #[.int .u64 (firstOf zs).1, .int .i64 (firstOf zs).2.1, .int .i64 (firstOf zs).2.2]) := (rfl : firstVal zs = firstVal zs)
    obtain ⟨⟨U, N, E⟩, hF⟩ : ∃ F, F = firstOf zs := ⟨_, rfl⟩
    rw [← hF] at HR hok HF
    clear hF
    simp only at HR hok HF
    go_enter Tryz.func50, Tryz.ntmps50
    go_wp2_with fail
    refine (err_on B zs 0 _ HS.out H.out).mono ?_
    rintro r w1 ⟨rfl, rfl⟩
    go_wp2_with fail
    refine (firstb_any v zs _ HV.out).mono ?_
    rintro r w1 ⟨rfl, rfl⟩
    rw [HF.out]
    by_cases hE : E = 0
    · subst hE
      have HR2 := HR.out.trans (if_neg (fun h => h rfl))
      by_cases hm : most < U
      · rw [if_pos hm] at HR2
        subst HR2
        clear HR hok
        go_wp2_with fail
        refine (fail_on B zs 0 12 _ HS.out H.out).mono ?_
        rintro r w2 ⟨rfl, h2, k2⟩
        have H2 := hid h2
        have K2 := hid k2
        clear h2 k2
        go_wp2
        go_ret
        exact ⟨rfl, H2.out, K2.out⟩
      · rw [if_neg hm] at HR2
        subst HR2
        clear HR
        have hN := hok rfl
        clear hok
        obtain ⟨xv, cv, hV1, hV2⟩ := HV.out.cutL N hN.2
        have HV2 := hid hV2
        clear hV2
        go_wp2
        go_ret
        refine ⟨rfl, ⟨_, HB.out.set 0 _, ?_⟩, (Kp.refl _ _).set 0 _⟩
        exact HV2.out.kept ((Kp.refl (Jb B) _).set 0 _) HS.out
    · have HR2 := HR.out
      rw [if_pos hE] at HR2
      subst HR2
      clear HR hok
      have g1 : (E == 0) = false := by rw [beq_eq_false_iff_ne]; exact hE
      have g2 : (E != 0) = true := by rw [bne_iff_ne]; exact hE
      have HE := hid hE
      clear hE
      go_wp2_with fail
      refine (fail_on B zs 0 E _ HS.out H.out).mono ?_
      rintro r w2 ⟨rfl, h2, k2⟩
      have e1 : failS zs 0 E = [] := by unfold failS; rw [if_pos ⟨rfl, HE.out⟩]
      have e2 : failE 0 E = E := by unfold failE; rw [if_pos ⟨rfl, HE.out⟩]
      rw [e1, e2] at h2
      have H2 := hid h2
      have K2 := hid k2
      clear h2 k2 e1 e2
      go_wp2
      go_ret
      exact ⟨rfl, H2.out, K2.out⟩
  · have HR2 := HR.out
    rw [if_pos he] at HR2
    subst HR2
    clear HR
    have g1 : (e != 0) = true := by rw [bne_iff_ne]; exact he
    clear he
    go_enter Tryz.func50, Tryz.ntmps50
    go_wp2_with fail
    refine (err_on B zs e _ HS.out H.out).mono ?_
    rintro r w1 ⟨rfl, rfl⟩
    go_wp2
    go_ret
    exact ⟨rfl, H.out, Kp.refl _ _⟩

end Go.Proofs.YtbbfibgijackhaaGreatDoor

namespace Go.Proofs.YtbbfibgijackhaaGreatDoor
open Go.RowKit Go.Shelf
attribute [local go_sem] Oper.semAt_some

theorem readN_okD (zs : List Int) (e most : Int) (hz : IsBytes zs) : IsBytes (readN zs e most).2.1 := by
  have hn : IsBytes [] := fun i => by simp
  unfold readN
  split
  · exact hz
  · split
    · exact hn
    · split
      · exact hn
      · exact hz.drop _
theorem readN_topD (zs : List Int) (e most : Int) (hz : IsBytes zs) (hm : 0 ≤ most) : 0 ≤ (readN zs e most).1 ∧ (readN zs e most).1 ≤ most := by
  have hr := readN_range zs e most hz
  refine ⟨hr.1, ?_⟩
  unfold readN
  split
  · exact hm
  · split
    · exact hm
    · split
      · exact hm
      · rename_i h
        show (firstOf zs).1 ≤ most
        omega
/-- One run read: what came, what is left, the error. -/
def rdA (z : List Int) (e : Int) : Int × List Int × Int := readN z e 7
def rdB (z : List Int) (e : Int) : Int × List Int × Int := readN (rdA z e).2.1 (rdA z e).2.2 1099511627776
def rdC (z : List Int) (e : Int) : Int × List Int × Int := readN (rdB z e).2.1 (rdB z e).2.2 1099511627776
def getLC : Nat → List Int → Int → List RunQ → Option (List RunQ) × List Int × Int
  | 0, z, e, acc => (some acc, z, e)
  | k + 1, z, e, acc => if (rdC z e).2.2 ≠ 0 then (none, (rdC z e).2.1, (rdC z e).2.2) else getLC k (rdC z e).2.1 (rdC z e).2.2 (acc ++ [((rdA z e).1, (rdB z e).1, (rdB z e).1 + (rdC z e).1)])
def finC : Option (List RunQ) × List Int × Int → List RunQ × List Int × Int
  | (none, z, e) => ([], z, e)
  | (some l, z, e) => if rightC l then (l, z, e) else ([], failS z e 11, failE e 11)
/-- A clock read. -/
def getC (zs : List Int) (e : Int) : List RunQ × List Int × Int := finC (getLC (readN zs e 1024).1.toNat (readN zs e 1024).2.1 (readN zs e 1024).2.2 [])
theorem eyeOn_bytes {S : Nat → Prop} {w : World} {B : Nat} {zs : List Int} {e : Int} (h : EyeOn S w B zs e) : IsBytes zs := by obtain ⟨v, hb, hv⟩ := h; exact hv.1
theorem ownsRow_kpJ {w w' : World} {base e size k B : Nat} {v : Value} {xs : List Value} (h : w.ownsRow base e size v k xs) (hk : Kp (Jb B) w w') (hB : B < base) : w'.ownsRow base e size v k xs :=
  ownsRow_same h (fun g hg => by obtain ⟨h1, o, ho, -⟩ := row_cells h hg; exact hk.heap (Array.getElem?_eq_some_iff.1 ho).1 (fun h => by have h' : g = B := h; omega))
theorem own_nil (w w' : World) : OwnV w (.slice none 0 0) w' := by intro g hg; simp [Value.ownBlock] at hg
def GtR (w : World) (S : Nat → Prop) (B : Nat) (n : Nat) (R : Option (List RunQ) × List Int × Int) (a u : Value) (wr : World) : Prop := ∃ (k : Nat) (out : List RunQ) (z : List Int) (e : Int), k ≤ n ∧ a = .int .i64 k ∧ Hid (EyeOn S wr B z e) ∧ Hid (wr.ownsRow w.heap.size 61 3 u out.length (flatR runL out)) ∧
  Hid (∀ q ∈ out, RunOk q) ∧ Hid (getLC (n - k) z e out = R) ∧ Hid (out.length ≤ k) ∧ Hid (Kp (Jb B) w wr)
set_option maxRecDepth 100000 in
set_option maxHeartbeats 4000000 in
theorem dget_any (B : Nat) (zs : List Int) (e : Int) (w : World) {S : Nat → Prop} (hS : ∀ i, S i ↔ i = B ∨ w.heap.size ≤ i) (h : EyeOn S w B zs e) :
    Calls Tryz.prog 30 #[.pointer (some ⟨B, 0, none⟩)] w fun r w' => ∃ v', r = .returned v' ∧ ClSl w' v' (getC zs e).1 ∧ OwnV w v' w' ∧ EyeOn S w' B (getC zs e).2.1 (getC zs e).2.2 ∧ Kp (Jb B) w w' := by
  have HSB : Hid (∀ i, Jb B i → S i) := hid (fun i h => (hS i).2 (.inl h))
  have HSN : Hid (∀ i, w.heap.size ≤ i → S i) := hid (fun i h => (hS i).2 (.inr h))
  have HB := hid h.lt
  have CN := hid (number_on B zs e 1024 w HSB.out h)
  have hrn := readN_topD zs e 1024 (eyeOn_bytes h) (by decide)
  obtain ⟨⟨n0, z0, e0⟩, hr⟩ : ∃ r, readN zs e 1024 = r := ⟨_, rfl⟩
  rw [hr] at CN hrn
  dsimp only at CN hrn
  obtain ⟨n, rfl⟩ : ∃ n : Nat, n0 = (n : Int) := ⟨n0.toNat, by omega⟩
  obtain ⟨R, hR⟩ : ∃ R, getLC n z0 e0 [] = R := ⟨_, rfl⟩
  have HGM : Hid (getC zs e = finC R) := hid (by unfold getC; rw [hr]; dsimp only; rw [Int.toNat_natCast, hR])
  have HN : Hid (n ≤ 1024) := hid (by omega)
  have HR0 := hid hR
  obtain ⟨G, hG⟩ : ∃ G, getC zs e = G := ⟨_, rfl⟩
  rw [hG] at HGM ⊢
  have hwi : IntKind.i64.wrap (n : Int) = (n : Int) := IntWalk.i64_in _ (by omega)
  clear h hr hrn hR hG hS
  go_enter Tryz.func30, Tryz.ntmps30
  go_wp2_with (go_at_call 50; refine CN.out.mono ?_; rintro r w1 ⟨rfl, h1, k1⟩; have HE1 := hid h1; have K1 := hid k1; clear h1 k1)
  have T0 : Hid (w1.ownsRow w.heap.size 61 3 (.slice none 0 0) ([] : List RunQ).length (flatR runL [])) := hid (World.ownsRow_nil _ _ _ _)
  have T1 : Hid (∀ q ∈ ([] : List RunQ), RunOk q) := hid (fun q hq => by cases hq)
  have T2 : Hid (getLC (n - 0) z0 e0 [] = R) := HR0
  go_loopw [10, 3] (fun a u wr => GtR w S B n R a u wr) (fun a _ _ => n - (intOf a).toNat)
  case atStart => exact ⟨0, [], z0, e0, Nat.zero_le _, rfl, HE1, T0, T1, T2, hid (Nat.le_refl _), K1⟩
  case round =>
    clear T0 T1 T2 HE1 K1 HR0
    obtain ⟨k, out, z, e, hk, rfl, HE, HO, HOK, HG, HLN, HK⟩ := hrel
    by_cases hlt : k < n
    · have HLT := hid hlt
      have hzb := eyeOn_bytes HE.out
      have ba := readN_topD z e 7 hzb (by decide)
      have za := readN_okD z e 7 hzb
      have hga : rdA z e = readN z e 7 := rfl
      have hgb : rdB z e = readN (rdA z e).2.1 (rdA z e).2.2 1099511627776 := rfl
      have hgc : rdC z e = readN (rdB z e).2.1 (rdB z e).2.2 1099511627776 := rfl
      have HGS : Hid (R = if (rdC z e).2.2 ≠ 0 then (none, (rdC z e).2.1, (rdC z e).2.2) else getLC (n - (k + 1)) (rdC z e).2.1 (rdC z e).2.2 (out ++ [((rdA z e).1, (rdB z e).1, (rdB z e).1 + (rdC z e).1)])) := hid (by
        rw [← HG.out, show n - k = (n - (k + 1)) + 1 from by omega, getLC])
      obtain ⟨⟨a, z1, e1⟩, ha⟩ : ∃ r, readN z e 7 = r := ⟨_, rfl⟩
      rw [ha] at hga ba za
      rw [hga] at hgb HGS
      dsimp only at hgb ba za HGS
      have bb := readN_topD z1 e1 1099511627776 za (by decide)
      have zb := readN_okD z1 e1 1099511627776 za
      obtain ⟨⟨b, z2, e2⟩, hb⟩ : ∃ r, readN z1 e1 1099511627776 = r := ⟨_, rfl⟩
      rw [hb] at hgb bb zb
      rw [hgb] at hgc HGS
      dsimp only at hgc bb zb HGS
      have bc := readN_topD z2 e2 1099511627776 zb (by decide)
      obtain ⟨⟨m, z3, e3⟩, hc⟩ : ∃ r, readN z2 e2 1099511627776 = r := ⟨_, rfl⟩
      rw [hc] at hgc bc
      rw [hgc] at HGS
      dsimp only at bc HGS
      have CA : Hid (∀ w, EyeOn S w B z e → Calls Tryz.prog 50 #[.pointer (some ⟨B, 0, none⟩), .int .u64 7] w fun r w' => r = .returned (.int .u64 a) ∧ EyeOn S w' B z1 e1 ∧ Kp (Jb B) w w') := hid (fun w h => by have := number_on B z e 7 w HSB.out h; rwa [ha] at this)
      have CB : Hid (∀ w, EyeOn S w B z1 e1 → Calls Tryz.prog 50 #[.pointer (some ⟨B, 0, none⟩), .int .u64 1099511627776] w fun r w' => r = .returned (.int .u64 b) ∧ EyeOn S w' B z2 e2 ∧ Kp (Jb B) w w') := hid (fun w h => by have := number_on B z1 e1 1099511627776 w HSB.out h; rwa [hb] at this)
      have CC : Hid (∀ w, EyeOn S w B z2 e2 → Calls Tryz.prog 50 #[.pointer (some ⟨B, 0, none⟩), .int .u64 1099511627776] w fun r w' => r = .returned (.int .u64 m) ∧ EyeOn S w' B z3 e3 ∧ Kp (Jb B) w w') := hid (fun w h => by have := number_on B z2 e2 1099511627776 w HSB.out h; rwa [hc] at this)
      have HBD : Hid ((0 ≤ a ∧ a ≤ 7) ∧ (0 ≤ b ∧ b ≤ 1099511627776) ∧ 0 ≤ m ∧ m ≤ 1099511627776) := hid ⟨ba, bb, bc⟩
      have hw1 : IntKind.i64.wrap a = a := IntWalk.i64_in _ (by omega)
      have hw2 : IntKind.i64.wrap b = b := IntWalk.i64_in _ (by omega)
      have hw3 : IntKind.i64.wrap m = m := IntWalk.i64_in _ (by omega)
      have hw4 : IntKind.i64.wrap (b + m) = b + m := IntWalk.i64_in _ (by omega)
      clear hzb ba za hga hgb hgc bb zb bc ha hb hc HG
      obtain ⟨a0, c0, rfl⟩ := own_shape HO.out
      go_wp2_with fail
      refine (CA.out wr HE.out).mono ?_
      rintro r w2 ⟨rfl, h2, k2⟩
      have HE2 := hid h2
      have HK2 := hid (HK.out.trans k2 (fun _ _ h => h))
      have HO2 := hid (ownsRow_kpJ HO.out k2 HB.out)
      clear h2 k2
      go_wp2_with fail
      refine (CB.out w2 HE2.out).mono ?_
      rintro r w3 ⟨rfl, h3, k3⟩
      have HE3 := hid h3
      have HK3 := hid (HK2.out.trans k3 (fun _ _ h => h))
      have HO3 := hid (ownsRow_kpJ HO2.out k3 HB.out)
      clear h3 k3
      go_wp2_with fail
      refine (CC.out w3 HE3.out).mono ?_
      rintro r w4 ⟨rfl, h4, k4⟩
      have HE4 := hid h4
      have HK4 := hid (HK3.out.trans k4 (fun _ _ h => h))
      have HO4 := hid (ownsRow_kpJ HO3.out k4 HB.out)
      clear h4 k4
      have CE := hid (err_on B z3 e3 w4 HSB.out HE4.out)
      by_cases he : e3 = 0
      · subst he
        have HGS2 : Hid (R = getLC (n - (k + 1)) z3 0 (out ++ [(a, b, b + m)])) := hid (by rw [HGS.out]; rfl)
        have MK := hid (make_run1 w4 a b (b + m))
        obtain ⟨i0, zz, hi, hz0, hz1, hz2, hz3⟩ := run_info3
        have B2 : Hid (out.length + [(a, b, b + m)].length ≤ maxLen ∧ (out.length + [(a, b, b + m)].length) * 24 ≤ 140737488355328 ∧ w.heap.size ≤ (w4.alloc (.cells #[.int .i64 a, .int .i64 b, .int .i64 (b + m)] 61 (0, 0))).heap.size) := hid (by
          have h1 := HK4.out.size
          have h2 := ((Kp.refl Nb w4).alloc (.cells #[.int .i64 a, .int .i64 b, .int .i64 (b + m)] 61 (0, 0))).size
          refine ⟨?_, ?_, Nat.le_trans h1 h2⟩ <;> rw [List.length_singleton]
          · unfold maxLen; have := HLN.out; have := HN.out; omega
          · have := HLN.out; have := HN.out; omega)
        clear HGS
        go_wp2_with (first
          | (go_at_call 35; refine CE.out.mono ?_; rintro r w5 ⟨rfl, rfl⟩)
          | (refine wpList_val (by rfl) _ _ (exec_buildSliceD rfl (qs := #[(0, .agg #[.int .i64 a, .int .i64 b, .int .i64 (b + m)])]) (by simp [Act.eval, Act.put]) MK.out) ?_)
          | (at_builtin; refine wpList_append_rows (f := runL) (z := (0, 0, 0)) (c := 3) rfl _ _ 23 rfl w.heap.size 61 i0 zz 24 under_clock hi hz0 hz1 hz2 hz3 (by decide) _ _ _ rfl (ownsRow_kpD HO4.out ((Kp.refl Nb _).alloc _)) _ [(a, b, b + m)] rfl (rows_oneR (Blk.new _ _ _)) (fun x hx => rfl) (fun x _ => run_one' x) B2.out.1 B2.out.2.1 B2.out.2.2 ?_))
        intro v10 w10 hown hgrow
        have HK10 : Hid (Kp (Jb B) w w10) := hid ((HK4.out.trans ((Kp.refl Nb w4).alloc (.cells #[.int .i64 a, .int .i64 b, .int .i64 (b + m)] 61 (0, 0))) (fun _ _ h => h.elim)).grown hgrow (fun g hg h => by have := (row_cells HO4.out hg).1; omega))
        have HE10 : Hid (EyeOn S w10 B z3 0) := hid (by
          have hkn : Kp (fun i => w.heap.size ≤ i) w4 w10 := ((Kp.refl (fun i => w.heap.size ≤ i) w4).alloc (.cells #[.int .i64 a, .int .i64 b, .int .i64 (b + m)] 61 (0, 0))).grown hgrow (fun g hg h => (row_cells HO4.out hg).1)
          exact HE4.out.kept hkn (fun h => by have := HB.out; omega) (fun i h => HSN.out i h))
        have HO10 : Hid (w10.ownsRow w.heap.size 61 3 v10 (out ++ [(a, b, b + m)]).length (flatR runL (out ++ [(a, b, b + m)]))) := hid (by rw [List.length_append, flatR_append]; exact hown)
        have hy := own_shape hown
        obtain ⟨a10, c10, rfl⟩ := hy
        have RE : Hid (GtR w S B n R (.int .i64 ((k : Int) + 1)) (.slice a10 (out.length + [(a, b, b + m)].length) c10) w10) := hid ⟨k + 1, out ++ [(a, b, b + m)], z3, 0, HLT.out, by go_num, HE10, HO10, hid (fun x hx => by
          rcases List.mem_append.1 hx with hx | hx
          · exact HOK.out x hx
          · rw [List.mem_singleton.1 hx]; have := HBD.out; unfold RunOk I64; dsimp only; omega), hid HGS2.out.symm, hid (by rw [List.length_append, List.length_singleton]; have := HLN.out; omega), HK10⟩
        clear hown hgrow HK10 HE10 HO10
        have hn4 := HN.out
        clear hw1 hw2 hw3 hw4
        go_wp2
        go_roundw
        case rel => exact RE.out
        case measure => have := HLT.out; simp [intOf]; omega
      · have HGE : Hid (G = ([], z3, e3)) := hid (by rw [HGM.out, HGS.out, if_pos he]; rfl)
        clear HGS
        go_wp2_with (go_at_call 35; refine CE.out.mono ?_; rintro r w5 ⟨rfl, rfl⟩)
        go_ret
        rw [HGE.out]
        exact ⟨_, rfl, cl_nil _, own_nil _ _, HE4.out, HK4.out⟩
    · obtain rfl : k = n := by omega
      have HRS : Hid (R = (some out, z, e)) := hid (by have := HG.out; rw [Nat.sub_self] at this; exact this.symm)
      have HM : Hid (ClSl wr u3 out) := hid (cl_owned HO.out HOK.out)
      have CR := hid (dright_any _ out wr HM.out (by have := HLN.out; have := HN.out; omega))
      obtain ⟨a0, c0, rfl⟩ := own_shape HO.out
      obtain ⟨b, hb⟩ : ∃ b, rightC out = b := ⟨_, rfl⟩
      rw [hb] at CR
      have HBB := hid hb
      clear HG hb
      cases b with
      | true =>
        have HGE : Hid (G = (out, z, e)) := hid (by rw [HGM.out, HRS.out]; show (if rightC out = true then _ else _) = _; rw [HBB.out]; rfl)
        go_wp2_with (go_at_call 9; refine CR.out.mono ?_; rintro r w5 ⟨rfl, k5⟩; have K5 := hid k5; clear k5)
        go_ret
        rw [HGE.out]
        refine ⟨_, rfl, HM.out.kept K5.out, ?_, HE.out.kept K5.out (fun h => h) (fun _ h => h.elim), HK.out.trans K5.out (fun _ _ h => h.elim)⟩
        intro g hg
        obtain ⟨h1, o, ho, -⟩ := row_cells HO.out hg
        exact ⟨h1, Nat.lt_of_lt_of_le (Array.getElem?_eq_some_iff.1 ho).1 K5.out.size⟩
      | false =>
        have HGE : Hid (G = ([], failS z e 11, failE e 11)) := hid (by rw [HGM.out, HRS.out]; show (if rightC out = true then _ else _) = _; rw [HBB.out]; rfl)
        have CF := fun wx (hx : EyeOn S wx B z e) => fail_on B z e 11 wx HSB.out hx
        have CF := hid CF
        go_wp2_with (first
          | (go_at_call 9; refine CR.out.mono ?_; rintro r w5 ⟨rfl, k5⟩; have HE5 := hid (HE.out.kept k5 (fun h => h) (fun _ h => h.elim)); have K5 := hid (HK.out.trans k5 (fun _ _ h => h.elim)); clear k5)
          | (go_at_call 51; refine (CF.out _ HE5.out).mono ?_; rintro r w6 ⟨rfl, he6, k6⟩; have HE6 := hid he6; have K6 := hid (K5.out.trans k6 (fun _ _ h => h)); clear he6 k6))
        go_ret
        rw [HGE.out]
        exact ⟨_, rfl, cl_nil _, own_nil _ _, HE6.out, K6.out⟩

end Go.Proofs.YtbbfibgijackhaaGreatDoor

namespace Go.Proofs.YtbbfibgijackhaaGreatDoor
open Go.RowKit

theorem isB_append {xs ys : List Int} (h : IsBytes xs) (g : IsBytes ys) : IsBytes (xs ++ ys) := by
  intro i
  by_cases hi : i < xs.length
  · rw [List.getElem?_append_left hi]; exact h i
  · rw [List.getElem?_append_right (by omega)]; exact g _
theorem bytesR_isB {q : RunQ} (h : goodR q = true) : IsBytes (bytesR q) := by
  have g := goodR_of.1 h
  unfold bytesR
  exact isB_append (isB_append (numBytes_bytes _ (by omega) (by omega)) (numBytes_bytes _ (by omega) (by omega))) (numBytes_bytes _ (by omega) (by omega))
theorem runsB_isB : ∀ {c : List RunQ}, (∀ r ∈ c, goodR r = true) → IsBytes (runsB c)
  | [], _ => fun i => by simp [runsB]
  | x :: c, h => by
    have e : runsB (x :: c) = bytesR x ++ runsB c := rfl
    rw [e]
    exact isB_append (bytesR_isB (h x (by simp))) (runsB_isB fun r hr => h r (by simp [hr]))
theorem rd_back {q : RunQ} (h : goodR q = true) (rest : List Int) (hr : IsBytes rest) :
    rdA (bytesR q ++ rest) 0 = (q.1, numBytes q.2.1 ++ (numBytes (q.2.2 - q.2.1) ++ rest), 0) ∧ rdB (bytesR q ++ rest) 0 = (q.2.1, numBytes (q.2.2 - q.2.1) ++ rest, 0) ∧ rdC (bytesR q ++ rest) 0 = (q.2.2 - q.2.1, rest, 0) := by
  have g := goodR_of.1 h
  have b2 := isB_append (numBytes_bytes (q.2.2 - q.2.1) (by omega) (by omega)) hr
  have b1 := isB_append (numBytes_bytes q.2.1 (by omega) (by omega)) b2
  have e1 : rdA (bytesR q ++ rest) 0 = (q.1, numBytes q.2.1 ++ (numBytes (q.2.2 - q.2.1) ++ rest), 0) := by
    unfold rdA bytesR
    rw [List.append_assoc, List.append_assoc]
    exact readN_numBytes _ _ (by omega) (by omega) (by omega) _ b1
  have e2 : rdB (bytesR q ++ rest) 0 = (q.2.1, numBytes (q.2.2 - q.2.1) ++ rest, 0) := by
    unfold rdB
    rw [e1]
    exact readN_numBytes _ _ (by omega) (by omega) (by omega) _ b2
  refine ⟨e1, e2, ?_⟩
  unfold rdC
  rw [e2]
  exact readN_numBytes _ _ (by omega) (by omega) (by omega) _ hr
theorem getLC_back : ∀ (c acc : List RunQ) (rest : List Int), (∀ r ∈ c, goodR r = true) → IsBytes rest → getLC c.length (runsB c ++ rest) 0 acc = (some (acc ++ c), rest, 0)
  | [], acc, rest, _, _ => by rw [List.append_nil]; rfl
  | x :: c, acc, rest, h, hr => by
    have hx := h x (by simp)
    have hc : ∀ r ∈ c, goodR r = true := fun r hr => h r (by simp [hr])
    obtain ⟨e1, e2, e3⟩ := rd_back hx (runsB c ++ rest) (isB_append (runsB_isB hc) hr)
    have e : runsB (x :: c) ++ rest = bytesR x ++ (runsB c ++ rest) := by show bytesR x ++ runsB c ++ rest = _; rw [List.append_assoc]
    rw [e, List.length_cons]
    unfold getLC
    rw [e1, e2, e3, if_neg (by simp)]
    have ex : ((x.1, x.2.1, x.2.1 + (x.2.2 - x.2.1)) : RunQ) = x := by
      obtain ⟨a, b, c⟩ := x
      show (a, b, b + (c - b)) = (a, b, c)
      rw [show b + (c - b) = c by omega]
    show getLC c.length (runsB c ++ rest) 0 (acc ++ [(x.1, x.2.1, x.2.1 + (x.2.2 - x.2.1))]) = _
    rw [ex, getLC_back c _ rest hc hr]
    simp
theorem bytesC_isB {c : List RunQ} (h : rightC c = true) (hl : c.length ≤ 1024) : IsBytes (bytesC c) := by
  unfold bytesC
  exact isB_append (numBytes_bytes _ (by omega) (by omega)) (runsB_isB (rightC_rt.1 h).1)
theorem get_back {c : List RunQ} (h : rightC c = true) (hl : c.length ≤ 1024) : getC (bytesC c) 0 = (c, [], 0) := by
  have hg := (rightC_rt.1 h).1
  have e1 : readN (bytesC c) 0 1024 = ((c.length : Int), runsB c, 0) := by
    unfold bytesC
    exact readN_numBytes _ _ (by omega) (by omega) (by omega) _ (runsB_isB hg)
  have e2 := getLC_back c [] [] hg (fun i => by simp)
  rw [List.append_nil, List.nil_append] at e2
  unfold getC
  rw [e1]
  show finC (getLC ((c.length : Int)).toNat (runsB c) 0 []) = _
  rw [Int.toNat_natCast, e2]
  show (if rightC c then (c, [], (0 : Int)) else _) = _
  rw [if_pos h]
theorem bytesC_len {c : List RunQ} (h : rightC c = true) (hl : c.length ≤ 1024) : (bytesC c).length ≤ 100000 := by
  have h1 := numBytes_length (c.length : Int) (by omega)
  have h2 := runsB_len c (rightC_rt.1 h).1
  unfold bytesC
  rw [List.length_append]
  omega

end Go.Proofs.YtbbfibgijackhaaGreatDoor
