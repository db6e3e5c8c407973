/-
  Layer 2: walks of the pen: Number, Signed, Fixed, Text, Bytes. Conditions: fewer than 2^47 bytes.
-/
import Derived.Test.YtbbfibgijackhaaGreatDoorPenC
import Derived.Deep.AppendLies
import Derived.Deep.RegionLaw
import Derived.Maps.AppendAt
namespace Go.Proofs.YtbbfibgijackhaaGreatDoor
open Go.RowKit

/-- What an operation of the pen at block B, whose slice is v, may turn. -/
def Pb (B : Nat) (v : Value) : Nat → Prop := fun k => k = B ∨ v.ownBlock = some k
structure PenAt (w : World) (B : Nat) (v : Value) (zs : List Int) : Prop where
  blk : Blk w B 43 [v]
  own : w.ownsRow 0 5 1 v zs.length (zs.map (Value.int .u8))
  ne : v.ownBlock ≠ some B
  bytes : IsBytes zs
structure PenTo (w w' : World) (B : Nat) (v v' : Value) : Prop where
  kp : Kp (Pb B v) w w'
  at' : v'.ownBlock = v.ownBlock ∨ ∀ g, v'.ownBlock = some g → w.heap.size ≤ g
theorem PenTo.refl (w : World) (B : Nat) (v : Value) : PenTo w w B v v := ⟨Kp.refl _ _, .inl rfl⟩
theorem PenTo.trans {a b c : World} {B : Nat} {v v' v'' : Value} (h : PenTo a b B v v') (k : PenTo b c B v' v'') : PenTo a c B v v'' := by
  refine ⟨h.kp.trans k.kp (fun i hi hp => ?_), ?_⟩
  · rcases hp with hp | hp
    · exact .inl hp
    · rcases h.at' with e | e
      · exact .inr (by rw [← e]; exact hp)
      · have := e i hp; omega
  · rcases k.at' with e | e
    · rw [e]; exact h.at'
    · exact .inr fun g hg => Nat.le_trans h.kp.size (e g hg)
theorem PenAt.lt {w : World} {B : Nat} {v : Value} {zs : List Int} (h : PenAt w B v zs) : B < w.heap.size := h.blk.lt
theorem ownsRow_block {w w' : World} {base n size : Nat} {t : TypeId} {v : Value} {xs : List Value} (h : w.ownsRow base t size v n xs) (hb : ∀ g, v.ownBlock = some g → w'.heap[g]? = w.heap[g]?) : w'.ownsRow base t size v n xs := by
  refine ⟨h.1, ?_⟩
  rcases h.2 with hn | ⟨g, cap, cur, rfl, hbg, hgg, rest⟩
  · exact .inl hn
  · exact .inr ⟨g, cap, cur, rfl, hbg, by rw [hb g rfl]; exact hgg, rest⟩
theorem PenAt.kept {S : Nat → Prop} {w w' : World} {B : Nat} {v : Value} {zs : List Int} (h : PenAt w B v zs) (k : Kp S w w') (hS : ¬ S B) (hv : ∀ g, v.ownBlock = some g → ¬ S g) : PenAt w' B v zs :=
  ⟨h.blk.kept k hS, ownsRow_block h.own (fun g hg => k.block g (h.own.lt g hg).2 (hv g hg)), h.ne, h.bytes⟩

/-- One append, and the store of what it answers. -/
theorem pen_step {w wA w1 : World} {B H m g cap : Nat} {v : Value} {zs ys : List Int} (h : PenAt w B v zs) (hy : IsBytes ys) (hm : ys.length = m) (hk : Kp Nb w wA)
    (own : w1.ownsRow 0 5 1 (.slice (some ⟨g, 0, none⟩) (zs.length + m) cap) (zs.length + m) (zs.map (Value.int .u8) ++ ys.map (Value.int .u8))) (hg : wA.grownBy w1 v.ownBlock) (hat : v.ownBlock = some g ∨ g = H) (hH : w.heap.size ≤ H) :
    PenAt (w1.setCell ⟨B, 0, none⟩ (.slice (some ⟨g, 0, none⟩) (zs.length + m) cap)) B (.slice (some ⟨g, 0, none⟩) (zs.length + m) cap) (zs ++ ys) ∧ PenTo w (w1.setCell ⟨B, 0, none⟩ (.slice (some ⟨g, 0, none⟩) (zs.length + m) cap)) B v (.slice (some ⟨g, 0, none⟩) (zs.length + m) cap) := by
  have hB := h.lt
  have gb : g ≠ B := by
    rcases hat with e | e
    · intro e2; subst e2; exact h.ne e
    · omega
  have hbA : Blk wA B 43 [v] := h.blk.kept hk (fun h => h)
  have hb1 : Blk w1 B 43 [v] := by
    unfold Blk; rw [hg.block B hbA.lt (fun e => h.ne e.symm)]; exact hbA
  have hl : (zs ++ ys).length = zs.length + m := by rw [List.length_append, hm]
  refine ⟨⟨hb1.set 0 _, ?_, ?_, h.bytes.append hy⟩, ⟨?_, ?_⟩⟩
  · rw [hl, List.map_append]
    exact ownsRow_setCell_other own (by show some g ≠ some B; simpa using gb) _
  · show some g ≠ some B
    simpa using gb
  · refine Kp.setCell (Kp.grown (hk.mono (fun _ _ h => absurd h (fun h => h))) hg (fun k hk _ => .inr hk)) (fun _ => .inl rfl) _
  · rcases hat with e | e
    · exact .inl e.symm
    · exact .inr fun g' hg' => by
        have : g = g' := by simpa [Value.ownBlock] using hg'
        omega

theorem pen_step' {w wA w1 : World} {B H m : Nat} {v v' : Value} {zs ys : List Int} (h : PenAt w B v zs) (hy : IsBytes ys) (hm : ys.length = m) (hk : Kp Nb w wA)
    (own : w1.ownsRow 0 5 1 v' (zs.length + m) (zs.map (Value.int .u8) ++ ys.map (Value.int .u8))) (hg : wA.grownBy w1 v.ownBlock) (hat : v'.ownBlock = v.ownBlock ∨ v'.ownBlock = some H) (hH : w.heap.size ≤ H) :
    PenAt (w1.setCell ⟨B, 0, none⟩ v') B v' (zs ++ ys) ∧ PenTo w (w1.setCell ⟨B, 0, none⟩ v') B v v' := by
  have hB := h.lt
  have gb : v'.ownBlock ≠ some B := by
    rcases hat with e | e
    · rw [e]; exact h.ne
    · rw [e]; intro e2; have : H = B := by simpa using e2
      omega
  have hbA : Blk wA B 43 [v] := h.blk.kept hk (fun h => h)
  have hb1 : Blk w1 B 43 [v] := by
    unfold Blk; rw [hg.block B hbA.lt (fun e => h.ne e.symm)]; exact hbA
  have hl : (zs ++ ys).length = zs.length + m := by rw [List.length_append, hm]
  refine ⟨⟨hb1.set 0 _, ?_, gb, h.bytes.append hy⟩, ⟨?_, ?_⟩⟩
  · rw [hl, List.map_append]
    exact ownsRow_setCell_other own gb _
  · refine Kp.setCell (Kp.grown (hk.mono (fun _ _ h => absurd h (fun h => h))) hg (fun k hk _ => .inr hk)) (fun _ => .inl rfl) _
  · rcases hat with e | e
    · exact .inl e
    · exact .inr fun g' hg' => by
        rw [e] at hg'
        have : H = g' := by simpa using hg'
        omega

theorem pen_mid {w wA w1 : World} {B : Nat} {v : Value} {zs : List Int} (h : PenAt w B v zs) (hk : Kp Nb w wA) (hg : wA.grownBy w1 v.ownBlock) : w1.cell? ⟨B, 0, none⟩ = some v ∧ w1.frozen? ⟨B, 0, none⟩ = false := by
  have hbA : Blk wA B 43 [v] := h.blk.kept hk (fun h => h)
  have hb1 : Blk w1 B 43 [v] := by
    unfold Blk; rw [hg.block B hbA.lt (fun e => h.ne e.symm)]; exact hbA
  exact ⟨hb1.cell 0, hb1.frozen 0⟩

def digit (u : Int) (k i : Nat) : Int := u / 2 ^ (8 * (k - 1 - i)) % 256
def digits (u : Int) (k j : Nat) : List Int := (List.range j).map (digit u k)
def numBytes (u : Int) : List Int := if u ≤ 247 then [u] else [247 + (kOf u : Int)] ++ digits u (kOf u) (kOf u)
theorem digits_succ (u : Int) (k j : Nat) : digits u k (j + 1) = digits u k j ++ [digit u k j] := by unfold digits; rw [List.range_succ, List.map_append]; rfl
def NumR (w : World) (B : Nat) (v0 : Value) (zs : List Int) (u : Int) (k : Nat) (i : Value) (wr : World) : Prop :=
  ∃ (j : Nat) (v : Value), j ≤ k ∧ i = .int .i64 j ∧ Hid (PenAt wr B v (zs ++ [247 + (k : Int)] ++ digits u k j)) ∧ Hid (PenTo w wr B v0 v)

set_option maxRecDepth 100000 in
set_option maxHeartbeats 1000000 in
theorem pen_number (B : Nat) (v : Value) (zs : List Int) (u : Int) (w : World) (h : PenAt w B v zs) (h0 : 0 ≤ u) (h1 : u < 18446744073709551616) (hl : zs.length + 9 ≤ 140737488355328) :
    Calls Tryz.prog 47 #[.pointer (some ⟨B, 0, none⟩), .int .u64 u] w fun e w' => e = .returned (.tuple #[]) ∧ ∃ v', PenAt w' B v' (zs ++ numBytes u) ∧ PenTo w w' B v v' := by
  obtain ⟨i0, hi, hz0, hz1, hz2⟩ := info_parts info_byte
  have c0 := h.blk.cell 0
  simp only [List.getElem?_cons_zero] at c0
  have f0 := h.blk.frozen 0
  have H := hid h
  have hown := h.own
  clear h
  by_cases hle : u ≤ 247
  · have e1 : numBytes u = [u] := by unfold numBytes; rw [if_pos hle]
    rw [e1]
    clear e1
    have HY := hid (show IsBytes [u] from IsBytes.one h0 (by omega))
    go_enter Tryz.func47, Tryz.ntmps47
    go_wp2_with (at_builtin; refine wpList_append_lies _ (by rfl) _ _ _ (by rfl) 0 5 i0 (.int .u8 0) 1 1 Tryz.underlying40 hi hz0 hz1 hz2 rfl (by decide) v zs.length _ (by rfl) (hown.alloc _) ⟨w.heap.size, 0, none⟩ 1 1 [.int .u8 u] (by rfl) (by rfl) (World.news_of_block (cs := #[.int .u8 u]) (t := 5) (fr := (0, 0)) (heap_alloc_new w _)) (by simp [Value.oneCell']) (by omega) (by unfold maxLen; omega) (by omega) (Nat.zero_le _) (w.heap.size + 1) (by simp) ?_; intro g cap w1 hown1 hgrow hat hlt; have cf := pen_mid H.out ((Kp.refl Nb w).alloc _) hgrow; have c1 := cf.1; have f1 := cf.2; clear cf)
    refine bodyPost_ret (results_none rfl _ _ _) rfl ?_
    have hst := pen_step (m := 1) H.out HY.out rfl ((Kp.refl Nb w).alloc _) hown1 hgrow hat (Nat.le_succ _)
    exact ⟨rfl, _, hst.1, hst.2⟩
  · have e1 : numBytes u = [247 + (kOf u : Int)] ++ digits u (kOf u) (kOf u) := by unfold numBytes; rw [if_neg hle]
    rw [e1]
    clear e1
    have hk8 : (kOf u : Int) ≤ 8 := by have := kOf_le u h1; omega
    have hsz : ((sizeN u : Nat) : Int) = (kOf u : Int) + 1 := by unfold sizeN; rw [if_neg hle]; omega
    go_enter Tryz.func47, Tryz.ntmps47
    go_wp2_with fail
    refine (psize_any u _ h0 h1).mono ?_
    rintro e w0 ⟨rfl, rfl⟩
    rw [hsz]
    clear hsz
    obtain ⟨k, hk⟩ : ∃ k, k = kOf u := ⟨_, rfl⟩
    rw [← hk] at hk8 ⊢
    have HKU := hid hk
    clear hk
    have HY := hid (show IsBytes [247 + (k : Int)] from IsBytes.one (by omega) (by omega))
    go_wp2_with (at_builtin; refine wpList_append_lies _ (by rfl) _ _ _ (by rfl) 0 5 i0 (.int .u8 0) 1 1 Tryz.underlying40 hi hz0 hz1 hz2 rfl (by decide) v zs.length _ (by rfl) (hown.alloc _) ⟨w.heap.size, 0, none⟩ 1 1 [.int .u8 (247 + (k : Int))] (by rfl) (by rfl) (World.news_of_block (cs := #[.int .u8 (247 + (k : Int))]) (t := 5) (fr := (0, 0)) (heap_alloc_new w _)) (by simp [Value.oneCell']) (by omega) (by unfold maxLen; omega) (by omega) (Nat.zero_le _) (w.heap.size + 1) (by simp) ?_; intro g cap w1 hown1 hgrow hat hlt; have cf := pen_mid H.out ((Kp.refl Nb w).alloc _) hgrow; have c1 := cf.1; have f1 := cf.2; clear cf)
    have hst := pen_step (m := 1) H.out HY.out rfl ((Kp.refl Nb w).alloc _) hown1 hgrow hat (Nat.le_succ _)
    have HP := hid hst.1
    have HT := hid hst.2
    clear hst hown1 hgrow hat hlt c1 f1 c0 f0 hown
    obtain ⟨w2, hW⟩ : ∃ w2, w2 = w1.setCell ⟨B, 0, none⟩ (.slice (some ⟨g, 0, none⟩) (zs.length + 1) cap) := ⟨_, rfl⟩
    rw [← hW] at HP HT ⊢
    clear hW
    go_loopw [37] (NumR w B v zs u k) (fun i _ => k - (intOf i).toNat)
    case atStart => exact ⟨0, _, Nat.zero_le _, rfl, by unfold digits; rw [List.range_zero, List.map_nil, List.append_nil]; exact HP, HT⟩
    case round =>
      clear HP HT
      obtain ⟨j, v1, hj, rfl, HP, HT⟩ := hrel
      by_cases hjk : j < k
      · have c0 := HP.out.blk.cell 0
        simp only [List.getElem?_cons_zero] at c0
        have f0 := HP.out.blk.frozen 0
        have hown := HP.out.own
        have hlen : Hid ((zs ++ [247 + (k : Int)] ++ digits u k j).length ≤ zs.length + 8) := by unfold Hid digits; simp; omega
        obtain ⟨xs, hxs⟩ : ∃ xs, xs = zs ++ [247 + (k : Int)] ++ digits u k j := ⟨_, rfl⟩
        have hnx := digits_succ u k j
        have HX : Hid (zs ++ [247 + (k : Int)] ++ digits u k (j + 1) = xs ++ [digit u k j]) := by rw [hxs, hnx, ← List.append_assoc]; exact hid rfl
        rw [← hxs] at HP hown hlen
        have hlen' := hlen.out
        clear hxs hnx
        obtain ⟨m, hm⟩ : ∃ m : Nat, m = k - 1 - j := ⟨_, rfl⟩
        have r1 : IntKind.i64.wrap ((k : Int) - 1) = (k : Int) - 1 := IntWalk.i64_in _ (by omega)
        have r2 : IntKind.i64.wrap ((k : Int) - 1 - (j : Int)) = (m : Int) := (IntWalk.i64_in _ (by omega)).trans (by omega)
        have r3 : IntKind.i64.wrap (8 * (m : Int)) = ((8 * m : Nat) : Int) := (IntWalk.i64_in _ (by omega)).trans (by omega)
        obtain ⟨Y, hY⟩ : ∃ Y, Y = u / 2 ^ (8 * m) := ⟨_, rfl⟩
        obtain ⟨D, hD⟩ : ∃ D, D = digit u k j := ⟨_, rfl⟩
        rw [← hD] at HX
        have hw8 : IntKind.u8.wrap Y = D := by rw [hD, IntKind.wrap_u8]; unfold digit; rw [hY, hm]
        have y0 : 0 ≤ Y := by rw [hY]; exact Int.ediv_nonneg h0 (Int.pow_nonneg (by decide))
        have y1 : Y < 18446744073709551616 := by
          have : u / 2 ^ (8 * m) ≤ u := Int.ediv_le_self _ h0
          omega
        have hsf : Op.shift .shr .u64 u .i64 (8 * (m : Int)) = pure (.int .u64 Y) := by
          rw [shift_shr_u64 _ _ _ (by omega) (by omega), hY]
          congr 3
        have HYD := hid (show IsBytes [D] from by rw [hD]; unfold digit; exact IsBytes.one (by omega) (by omega))
        clear hm hY hD
        have hnew : (wr.alloc (.cells #[.int .u8 D] 5)).cell? ⟨B, 0, none⟩ = some v1 := ((Kp.refl Nb wr).alloc _).cell c0 (fun h => h)
        go_wp2_with fail
        go_region_law
          ((refine step_append_lies _ (by rfl) _ _ _ (by rfl) 0 5 i0 (.int .u8 0) 1 1 Tryz.underlying40 hi hz0 hz1 hz2 rfl (by decide) v1 xs.length _ (by rfl) ((hown.alloc _).drew) ⟨wr.heap.size, 0, none⟩ 1 1 [.int .u8 D] (by rfl) (by rfl) (World.news_of_block (cs := #[.int .u8 D]) (t := 5) (fr := (0, 0)) (heap_alloc_new wr _)) (by simp [Value.oneCell']) (by omega) (by unfold maxLen; omega) (by omega) (Nat.zero_le _) (wr.heap.size + 1) (by simp) ?_; intro g1 cap1 w3 hown1 hgrow hat hlt; have cf := pen_mid HP.out (((Kp.refl Nb wr).alloc _).drew) hgrow; have c1 := cf.1; have f1 := cf.2; clear cf))
        all_goals
          have hst := pen_step (m := 1) HP.out HYD.out rfl (((Kp.refl Nb wr).alloc _).drew) hown1 hgrow hat (Nat.le_succ _)
          rw [← HX.out] at hst
          have HR := hid (show NumR w B v zs u k (.int .i64 ((j : Int) + 1)) (w3.setCell ⟨B, 0, none⟩ (.slice (some ⟨g1, 0, none⟩) (xs.length + 1) cap1)) from ⟨j + 1, _, by omega, by go_num, hst.1, HT.out.trans hst.2⟩)
          clear hst hown1 hgrow hat hlt c1 f1 c0 f0 hown
          go_wp2
          exact ⟨HR.out, by simp [intOf]; omega⟩
      · obtain rfl : j = k := by omega
        go_wp2
        go_end0
        exact ⟨rfl, v1, by rw [← HKU.out]; have := HP.out; rw [List.append_assoc] at this; exact this, HT.out⟩





theorem numBytes_length (u : Int) (h1 : u < 18446744073709551616) : (numBytes u).length ≤ 9 := by
  unfold numBytes
  split
  · simp
  · have := kOf_le u h1
    unfold digits
    simp
    omega


set_option maxHeartbeats 400000 in
theorem pen_bytes (B : Nat) (v : Value) (zs : List Int) (w : World) (h : PenAt w B v zs) (hl : zs.length ≤ 140737488355328) :
    Calls Tryz.prog 34 #[.pointer (some ⟨B, 0, none⟩)] w fun e w' => ∃ r, e = .returned r ∧ w'.ownsRow w.heap.size 5 1 r zs.length (zs.map (Value.int .u8)) ∧ Kp Nb w w' := by
  have c0 := h.blk.cell 0
  simp only [List.getElem?_cons_zero] at c0
  have HB := hid (BySl.ofOwn (S := Nb) h.own h.bytes (fun _ _ _ h => h))
  clear h
  go_enter Tryz.func34, Tryz.ntmps34
  go_wp2_with fail
  refine (clone_any v zs _ HB.out hl).mono ?_
  rintro e w2 ⟨r, rfl, ho, k2⟩
  have HO := hid ho
  have K2 := hid k2
  clear ho k2
  go_wp2
  go_ret
  exact ⟨r, rfl, HO.out, K2.out⟩

end Go.Proofs.YtbbfibgijackhaaGreatDoor
