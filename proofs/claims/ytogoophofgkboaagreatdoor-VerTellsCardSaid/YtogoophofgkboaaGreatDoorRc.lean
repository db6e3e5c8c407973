/-
  Of the texts PenD, PenNew, Flat, RegInv, Two, Coll, RowApp, Vals what is used. No condition but what each says.
-/
import Derived.Test.YtogoophofgkboaaGreatDoorRb
import Derived.Deep.AppendLies
import Derived.Deep.RegionLaw
import Derived.Maps.AppendAt
import Derived.Test.YtogoophofgkboaaGreatDoorRa
import Derived.WalkKit
import Derived.OwnWalkIn
import Derived.OrdersIn
import Derived.RangeFuncBox
import Derived.RangeFuncCalls
import Derived.RangeFuncWrites
import Derived.RangeFuncLeaves
import Derived.Laws.AppendOwnNone
namespace Go.Proofs.YtogoophofgkboaaGreatDoor
section
open Go.RowKit
/-- What an operation of the pen at block B, whose slice is v, may turn. -/
def Pb (B : Nat) (v : Value) : Nat → Prop := fun k => k = B ∨ v.ownBlock = some k
structure PenAt (w : World) (B : Nat) (v : Value) (zs : List Int) : Prop where
  blk : Blk w B 45 [v]
  own : w.ownsRow 0 5 1 v zs.length (zs.map (Value.int .u8))
  ne : v.ownBlock ≠ some B
  bytes : IsBytes zs
structure PenTo (w w' : World) (B : Nat) (v v' : Value) : Prop where
  kp : Kp (Pb B v) w w'
  at' : v'.ownBlock = v.ownBlock ∨ ∀ g, v'.ownBlock = some g → w.heap.size ≤ g
theorem PenTo.refl (w : World) (B : Nat) (v : Value) : PenTo w w B v v := ⟨Kp.refl _ _, .inl rfl⟩
theorem PenTo.trans {a b c : World} {B : Nat} {v v' v'' : Value} (h : PenTo a b B v v') (k : PenTo b c B v' v'') : PenTo a c B v v'' := by
  refine ⟨h.kp.trans k.kp (fun i hi hp => ?_), ?_⟩
  · rcases hp with hp | hp
    · exact .inl hp
    · rcases h.at' with e | e
      · exact .inr (by rw [← e]; exact hp)
      · have := e i hp; omega
  · rcases k.at' with e | e
    · rw [e]; exact h.at'
    · exact .inr fun g hg => Nat.le_trans h.kp.size (e g hg)
theorem PenAt.lt {w : World} {B : Nat} {v : Value} {zs : List Int} (h : PenAt w B v zs) : B < w.heap.size := h.blk.lt
theorem ownsRow_block {w w' : World} {base n size : Nat} {t : TypeId} {v : Value} {xs : List Value} (h : w.ownsRow base t size v n xs) (hb : ∀ g, v.ownBlock = some g → w'.heap[g]? = w.heap[g]?) : w'.ownsRow base t size v n xs := by
  refine ⟨h.1, ?_⟩
  rcases h.2 with hn | ⟨g, cap, cur, rfl, hbg, hgg, rest⟩
  · exact .inl hn
  · exact .inr ⟨g, cap, cur, rfl, hbg, by rw [hb g rfl]; exact hgg, rest⟩
theorem PenAt.kept {S : Nat → Prop} {w w' : World} {B : Nat} {v : Value} {zs : List Int} (h : PenAt w B v zs) (k : Kp S w w') (hS : ¬ S B) (hv : ∀ g, v.ownBlock = some g → ¬ S g) : PenAt w' B v zs :=
  ⟨h.blk.kept k hS, ownsRow_block h.own (fun g hg => k.block g (h.own.lt g hg).2 (hv g hg)), h.ne, h.bytes⟩
/-- One append, and the store of what it answers. -/
theorem pen_step {w wA w1 : World} {B H m g cap : Nat} {v : Value} {zs ys : List Int} (h : PenAt w B v zs) (hy : IsBytes ys) (hm : ys.length = m) (hk : Kp Nb w wA)
    (own : w1.ownsRow 0 5 1 (.slice (some ⟨g, 0, none⟩) (zs.length + m) cap) (zs.length + m) (zs.map (Value.int .u8) ++ ys.map (Value.int .u8))) (hg : wA.grownBy w1 v.ownBlock) (hat : v.ownBlock = some g ∨ g = H) (hH : w.heap.size ≤ H) :
    PenAt (w1.setCell ⟨B, 0, none⟩ (.slice (some ⟨g, 0, none⟩) (zs.length + m) cap)) B (.slice (some ⟨g, 0, none⟩) (zs.length + m) cap) (zs ++ ys) ∧ PenTo w (w1.setCell ⟨B, 0, none⟩ (.slice (some ⟨g, 0, none⟩) (zs.length + m) cap)) B v (.slice (some ⟨g, 0, none⟩) (zs.length + m) cap) := by
  have hB := h.lt
  have gb : g ≠ B := by
    rcases hat with e | e
    · intro e2; subst e2; exact h.ne e
    · omega
  have hbA : Blk wA B 45 [v] := h.blk.kept hk (fun h => h)
  have hb1 : Blk w1 B 45 [v] := by
    unfold Blk; rw [hg.block B hbA.lt (fun e => h.ne e.symm)]; exact hbA
  have hl : (zs ++ ys).length = zs.length + m := by rw [List.length_append, hm]
  refine ⟨⟨hb1.set 0 _, ?_, ?_, h.bytes.append hy⟩, ⟨?_, ?_⟩⟩
  · rw [hl, List.map_append]
    exact ownsRow_setCell_other own (by show some g ≠ some B; simpa using gb) _
  · show some g ≠ some B
    simpa using gb
  · refine Kp.setCell (Kp.grown (hk.mono (fun _ _ h => absurd h (fun h => h))) hg (fun k hk _ => .inr hk)) (fun _ => .inl rfl) _
  · rcases hat with e | e
    · exact .inl e.symm
    · exact .inr fun g' hg' => by
        have : g = g' := by simpa [Value.ownBlock] using hg'
        omega
theorem pen_step' {w wA w1 : World} {B H m : Nat} {v v' : Value} {zs ys : List Int} (h : PenAt w B v zs) (hy : IsBytes ys) (hm : ys.length = m) (hk : Kp Nb w wA)
    (own : w1.ownsRow 0 5 1 v' (zs.length + m) (zs.map (Value.int .u8) ++ ys.map (Value.int .u8))) (hg : wA.grownBy w1 v.ownBlock) (hat : v'.ownBlock = v.ownBlock ∨ v'.ownBlock = some H) (hH : w.heap.size ≤ H) :
    PenAt (w1.setCell ⟨B, 0, none⟩ v') B v' (zs ++ ys) ∧ PenTo w (w1.setCell ⟨B, 0, none⟩ v') B v v' := by
  have hB := h.lt
  have gb : v'.ownBlock ≠ some B := by
    rcases hat with e | e
    · rw [e]; exact h.ne
    · rw [e]; intro e2; have : H = B := by simpa using e2
      omega
  have hbA : Blk wA B 45 [v] := h.blk.kept hk (fun h => h)
  have hb1 : Blk w1 B 45 [v] := by
    unfold Blk; rw [hg.block B hbA.lt (fun e => h.ne e.symm)]; exact hbA
  have hl : (zs ++ ys).length = zs.length + m := by rw [List.length_append, hm]
  refine ⟨⟨hb1.set 0 _, ?_, gb, h.bytes.append hy⟩, ⟨?_, ?_⟩⟩
  · rw [hl, List.map_append]
    exact ownsRow_setCell_other own gb _
  · refine Kp.setCell (Kp.grown (hk.mono (fun _ _ h => absurd h (fun h => h))) hg (fun k hk _ => .inr hk)) (fun _ => .inl rfl) _
  · rcases hat with e | e
    · exact .inl e
    · exact .inr fun g' hg' => by
        rw [e] at hg'
        have : H = g' := by simpa using hg'
        omega
theorem pen_mid {w wA w1 : World} {B : Nat} {v : Value} {zs : List Int} (h : PenAt w B v zs) (hk : Kp Nb w wA) (hg : wA.grownBy w1 v.ownBlock) : w1.cell? ⟨B, 0, none⟩ = some v ∧ w1.frozen? ⟨B, 0, none⟩ = false := by
  have hbA : Blk wA B 45 [v] := h.blk.kept hk (fun h => h)
  have hb1 : Blk w1 B 45 [v] := by
    unfold Blk; rw [hg.block B hbA.lt (fun e => h.ne e.symm)]; exact hbA
  exact ⟨hb1.cell 0, hb1.frozen 0⟩
def digit (u : Int) (k i : Nat) : Int := u / 2 ^ (8 * (k - 1 - i)) % 256
def digits (u : Int) (k j : Nat) : List Int := (List.range j).map (digit u k)
def numBytes (u : Int) : List Int := if u ≤ 247 then [u] else [247 + (kOf u : Int)] ++ digits u (kOf u) (kOf u)
theorem digits_succ (u : Int) (k j : Nat) : digits u k (j + 1) = digits u k j ++ [digit u k j] := by unfold digits; rw [List.range_succ, List.map_append]; rfl
def NumR (w : World) (B : Nat) (v0 : Value) (zs : List Int) (u : Int) (k : Nat) (i : Value) (wr : World) : Prop :=
  ∃ (j : Nat) (v : Value), j ≤ k ∧ i = .int .i64 j ∧ Hid (PenAt wr B v (zs ++ [247 + (k : Int)] ++ digits u k j)) ∧ Hid (PenTo w wr B v0 v)
set_option maxRecDepth 100000 in
set_option maxHeartbeats 1000000 in
theorem pen_number (B : Nat) (v : Value) (zs : List Int) (u : Int) (w : World) (h : PenAt w B v zs) (h0 : 0 ≤ u) (h1 : u < 18446744073709551616) (hl : zs.length + 9 ≤ 140737488355328) :
    Calls Tryz.prog 58 #[.pointer (some ⟨B, 0, none⟩), .int .u64 u] w fun e w' => e = .returned (.tuple #[]) ∧ ∃ v', PenAt w' B v' (zs ++ numBytes u) ∧ PenTo w w' B v v' := by
  obtain ⟨i0, hi, hz0, hz1, hz2⟩ := info_parts info_byte
  have c0 := h.blk.cell 0
  simp only [List.getElem?_cons_zero] at c0
  have f0 := h.blk.frozen 0
  have H := hid h
  have hown := h.own
  clear h
  by_cases hle : u ≤ 247
  · have e1 : numBytes u = [u] := by unfold numBytes; rw [if_pos hle]
    rw [e1]
    clear e1
    have HY := hid (show IsBytes [u] from IsBytes.one h0 (by omega))
    go_enter Tryz.func58, Tryz.ntmps58
    go_wp2_with (at_builtin; refine wpList_append_lies _ (by rfl) _ _ _ (by rfl) 0 5 i0 (.int .u8 0) 1 1 Tryz.underlying26 hi hz0 hz1 hz2 rfl (by decide) v zs.length _ (by rfl) (hown.alloc _) ⟨w.heap.size, 0, none⟩ 1 1 [.int .u8 u] (by rfl) (by rfl) (World.news_of_block (cs := #[.int .u8 u]) (t := 5) (fr := (0, 0)) (heap_alloc_new w _)) (by simp [Value.oneCell']) (by omega) (by unfold maxLen; omega) (by omega) (Nat.zero_le _) (w.heap.size + 1) (by simp) ?_; intro g cap w1 hown1 hgrow hat hlt; have cf := pen_mid H.out ((Kp.refl Nb w).alloc _) hgrow; have c1 := cf.1; have f1 := cf.2; clear cf)
    refine bodyPost_ret (results_none rfl _ _ _) rfl ?_
    have hst := pen_step (m := 1) H.out HY.out rfl ((Kp.refl Nb w).alloc _) hown1 hgrow hat (Nat.le_succ _)
    exact ⟨rfl, _, hst.1, hst.2⟩
  · have e1 : numBytes u = [247 + (kOf u : Int)] ++ digits u (kOf u) (kOf u) := by unfold numBytes; rw [if_neg hle]
    rw [e1]
    clear e1
    have hk8 : (kOf u : Int) ≤ 8 := by have := kOf_le u h1; omega
    have hsz : ((sizeN u : Nat) : Int) = (kOf u : Int) + 1 := by unfold sizeN; rw [if_neg hle]; omega
    go_enter Tryz.func58, Tryz.ntmps58
    go_wp2_with fail
    refine (psize_any u _ h0 h1).mono ?_
    rintro e w0 ⟨rfl, rfl⟩
    rw [hsz]
    clear hsz
    obtain ⟨k, hk⟩ : ∃ k, k = kOf u := ⟨_, rfl⟩
    rw [← hk] at hk8 ⊢
    have HKU := hid hk
    clear hk
    have HY := hid (show IsBytes [247 + (k : Int)] from IsBytes.one (by omega) (by omega))
    go_wp2_with (at_builtin; refine wpList_append_lies _ (by rfl) _ _ _ (by rfl) 0 5 i0 (.int .u8 0) 1 1 Tryz.underlying26 hi hz0 hz1 hz2 rfl (by decide) v zs.length _ (by rfl) (hown.alloc _) ⟨w.heap.size, 0, none⟩ 1 1 [.int .u8 (247 + (k : Int))] (by rfl) (by rfl) (World.news_of_block (cs := #[.int .u8 (247 + (k : Int))]) (t := 5) (fr := (0, 0)) (heap_alloc_new w _)) (by simp [Value.oneCell']) (by omega) (by unfold maxLen; omega) (by omega) (Nat.zero_le _) (w.heap.size + 1) (by simp) ?_; intro g cap w1 hown1 hgrow hat hlt; have cf := pen_mid H.out ((Kp.refl Nb w).alloc _) hgrow; have c1 := cf.1; have f1 := cf.2; clear cf)
    have hst := pen_step (m := 1) H.out HY.out rfl ((Kp.refl Nb w).alloc _) hown1 hgrow hat (Nat.le_succ _)
    have HP := hid hst.1
    have HT := hid hst.2
    clear hst hown1 hgrow hat hlt c1 f1 c0 f0 hown
    obtain ⟨w2, hW⟩ : ∃ w2, w2 = w1.setCell ⟨B, 0, none⟩ (.slice (some ⟨g, 0, none⟩) (zs.length + 1) cap) := ⟨_, rfl⟩
    rw [← hW] at HP HT ⊢
    clear hW
    go_loopw [37] (NumR w B v zs u k) (fun i _ => k - (intOf i).toNat)
    case atStart => exact ⟨0, _, Nat.zero_le _, rfl, by unfold digits; rw [List.range_zero, List.map_nil, List.append_nil]; exact HP, HT⟩
    case round =>
      clear HP HT
      obtain ⟨j, v1, hj, rfl, HP, HT⟩ := hrel
      by_cases hjk : j < k
      · have c0 := HP.out.blk.cell 0
        simp only [List.getElem?_cons_zero] at c0
        have f0 := HP.out.blk.frozen 0
        have hown := HP.out.own
        have hlen : Hid ((zs ++ [247 + (k : Int)] ++ digits u k j).length ≤ zs.length + 8) := by unfold Hid digits; simp; omega
        obtain ⟨xs, hxs⟩ : ∃ xs, xs = zs ++ [247 + (k : Int)] ++ digits u k j := ⟨_, rfl⟩
        have hnx := digits_succ u k j
        have HX : Hid (zs ++ [247 + (k : Int)] ++ digits u k (j + 1) = xs ++ [digit u k j]) := by rw [hxs, hnx, ← List.append_assoc]; exact hid rfl
        rw [← hxs] at HP hown hlen
        have hlen' := hlen.out
        clear hxs hnx
        obtain ⟨m, hm⟩ : ∃ m : Nat, m = k - 1 - j := ⟨_, rfl⟩
        have r1 : IntKind.i64.wrap ((k : Int) - 1) = (k : Int) - 1 := IntWalk.i64_in _ (by omega)
        have r2 : IntKind.i64.wrap ((k : Int) - 1 - (j : Int)) = (m : Int) := (IntWalk.i64_in _ (by omega)).trans (by omega)
        have r3 : IntKind.i64.wrap (8 * (m : Int)) = ((8 * m : Nat) : Int) := (IntWalk.i64_in _ (by omega)).trans (by omega)
        obtain ⟨Y, hY⟩ : ∃ Y, Y = u / 2 ^ (8 * m) := ⟨_, rfl⟩
        obtain ⟨D, hD⟩ : ∃ D, D = digit u k j := ⟨_, rfl⟩
        rw [← hD] at HX
        have hw8 : IntKind.u8.wrap Y = D := by rw [hD, IntKind.wrap_u8]; unfold digit; rw [hY, hm]
        have y0 : 0 ≤ Y := by rw [hY]; exact Int.ediv_nonneg h0 (Int.pow_nonneg (by decide))
        have y1 : Y < 18446744073709551616 := by
          have : u / 2 ^ (8 * m) ≤ u := Int.ediv_le_self _ h0
          omega
        have hsf : Op.shift .shr .u64 u .i64 (8 * (m : Int)) = pure (.int .u64 Y) := by
          rw [shift_shr_u64 _ _ _ (by omega) (by omega), hY]
          congr 3
        have HYD := hid (show IsBytes [D] from by rw [hD]; unfold digit; exact IsBytes.one (by omega) (by omega))
        clear hm hY hD
        have hnew : (wr.alloc (.cells #[.int .u8 D] 5)).cell? ⟨B, 0, none⟩ = some v1 := ((Kp.refl Nb wr).alloc _).cell c0 (fun h => h)
        go_wp2_with fail
        go_region_law
          ((refine step_append_lies _ (by rfl) _ _ _ (by rfl) 0 5 i0 (.int .u8 0) 1 1 Tryz.underlying26 hi hz0 hz1 hz2 rfl (by decide) v1 xs.length _ (by rfl) ((hown.alloc _).drew) ⟨wr.heap.size, 0, none⟩ 1 1 [.int .u8 D] (by rfl) (by rfl) (World.news_of_block (cs := #[.int .u8 D]) (t := 5) (fr := (0, 0)) (heap_alloc_new wr _)) (by simp [Value.oneCell']) (by omega) (by unfold maxLen; omega) (by omega) (Nat.zero_le _) (wr.heap.size + 1) (by simp) ?_; intro g1 cap1 w3 hown1 hgrow hat hlt; have cf := pen_mid HP.out (((Kp.refl Nb wr).alloc _).drew) hgrow; have c1 := cf.1; have f1 := cf.2; clear cf))
        all_goals
          have hst := pen_step (m := 1) HP.out HYD.out rfl (((Kp.refl Nb wr).alloc _).drew) hown1 hgrow hat (Nat.le_succ _)
          rw [← HX.out] at hst
          have HR := hid (show NumR w B v zs u k (.int .i64 ((j : Int) + 1)) (w3.setCell ⟨B, 0, none⟩ (.slice (some ⟨g1, 0, none⟩) (xs.length + 1) cap1)) from ⟨j + 1, _, by omega, by go_num, hst.1, HT.out.trans hst.2⟩)
          clear hst hown1 hgrow hat hlt c1 f1 c0 f0 hown
          go_wp2
          exact ⟨HR.out, by simp [intOf]; omega⟩
      · obtain rfl : j = k := by omega
        go_wp2
        go_end0
        exact ⟨rfl, v1, by rw [← HKU.out]; have := HP.out; rw [List.append_assoc] at this; exact this, HT.out⟩
set_option maxRecDepth 100000 in
set_option maxHeartbeats 1000000 in
theorem pen_fixed_some (B : Nat) (v : Value) (zs ys : List Int) (a : Addr) (c : Nat) (w : World) (h : PenAt w B v zs) (hy : IsBytes ys) (hc : ∀ i, i < ys.length → w.cell? (a.add i) = some (.int .u8 (ys[i]?.getD 0))) (hl : zs.length + ys.length ≤ 140737488355328) :
    Calls Tryz.prog 92 #[.pointer (some ⟨B, 0, none⟩), .slice (some a) ys.length c] w fun e w' => e = .returned (.tuple #[]) ∧ ∃ v', PenAt w' B v' (zs ++ ys) ∧ PenTo w w' B v v' := by
  obtain ⟨i0, hi, hz0, hz1, hz2⟩ := info_parts info_byte
  have c0 := h.blk.cell 0
  simp only [List.getElem?_cons_zero] at c0
  have f0 := h.blk.frozen 0
  have H := hid h
  have hown := h.own
  have A := hid hc
  have HY := hid hy
  clear h hc hy
  go_enter Tryz.func92, Tryz.ntmps92
  go_wp2_with (at_builtin; refine wpList_append_own_at _ rfl _ _ 26 rfl 0 5 i0 (.int .u8 0) 1 1 Tryz.underlying26 hi hz0 hz1 hz2 rfl (by decide) v zs.length _ rfl hown a ys.length c (ys.map (Value.int .u8)) rfl ?qc1 ?qc2 ?qc3 ?qc4 ?qc5 ?qc6 ?_)
  case qc1 => simp
  case qc2 =>
    intro j u hj
    have hjn : j < ys.length := by
      have := (List.getElem?_eq_some_iff.1 hj).1
      simpa using this
    rw [A.out j hjn]
    rw [List.getElem?_map, List.getElem?_eq_getElem hjn] at hj
    rw [List.getElem?_eq_getElem hjn]
    exact hj
  case qc3 => intro u hu; obtain ⟨x, _, rfl⟩ := List.mem_map.1 hu; rfl
  case qc4 => unfold maxLen; omega
  case qc5 => omega
  case qc6 => omega
  intro v' w1 hown1 hgrow hnil hat
  obtain ⟨x', c', rfl⟩ := own_slice hown1
  have cf := pen_mid H.out (Kp.refl Nb w) hgrow
  have c1 := cf.1
  have f1 := cf.2
  have hst := hid (pen_step' (m := ys.length) H.out HY.out rfl (Kp.refl Nb w) hown1 hgrow hat (Nat.le_refl _))
  clear cf hnil hat hown1 hgrow
  go_wp2
  go_end0
  exact ⟨rfl, _, hst.out.1, hst.out.2⟩
set_option maxRecDepth 100000 in
set_option maxHeartbeats 1000000 in
theorem pen_fixed_nil (B : Nat) (v : Value) (zs : List Int) (c : Nat) (w : World) (h : PenAt w B v zs) :
    Calls Tryz.prog 92 #[.pointer (some ⟨B, 0, none⟩), .slice none 0 c] w fun e w' => e = .returned (.tuple #[]) ∧ ∃ v', PenAt w' B v' zs ∧ PenTo w w' B v v' := by
  have c0 := h.blk.cell 0
  simp only [List.getElem?_cons_zero] at c0
  have f0 := h.blk.frozen 0
  have H := hid h
  have hown := h.own
  clear h
  have hst : Hid (PenAt (w.setCell ⟨B, 0, none⟩ v) B v zs ∧ PenTo w (w.setCell ⟨B, 0, none⟩ v) B v v) := by
    refine ⟨⟨H.out.blk.set 0 v, ?_, H.out.ne, H.out.bytes⟩, ⟨Kp.setCell (Kp.refl _ _) (fun _ => .inl rfl) _, .inl rfl⟩⟩
    exact ownsRow_setCell_other hown H.out.ne _
  rcases hown.2 with ⟨rfl, h0⟩ | ⟨g, cap, cur, rfl, hb, hg, hnc, hm, hs, ht⟩
  · clear hown
    go_enter Tryz.func92, Tryz.ntmps92
    go_wp2
    go_end0
    exact ⟨rfl, _, hst.out.1, hst.out.2⟩
  · clear hown hb hg hm hs ht
    go_enter Tryz.func92, Tryz.ntmps92
    go_wp2
    go_end0
    exact ⟨rfl, _, hst.out.1, hst.out.2⟩
theorem pen_fixed {S : Nat → Prop} (B : Nat) (v u : Value) (zs ys : List Int) (w : World) (h : PenAt w B v zs) (hu : BySl S w u ys) (hl : zs.length + ys.length ≤ 140737488355328) :
    Calls Tryz.prog 92 #[.pointer (some ⟨B, 0, none⟩), u] w fun e w' => e = .returned (.tuple #[]) ∧ ∃ v', PenAt w' B v' (zs ++ ys) ∧ PenTo w w' B v v' := by
  obtain ⟨hy, ⟨⟨a, c, rfl⟩, rfl⟩ | ⟨blk, off, cap, rfl, hc, hm, hb, -⟩⟩ := hu
  · cases a with
    | none =>
      rw [List.append_nil]
      exact pen_fixed_nil B v zs c w h
    | some a => exact pen_fixed_some B v zs [] a c w h hy (fun i hi => by simp at hi) hl
  · refine pen_fixed_some B v zs ys ⟨blk, off, none⟩ cap w h hy (fun i hi => ?_) hl
    have ea : Addr.add ⟨blk, off, none⟩ i = ⟨blk, off + i, none⟩ := by unfold Addr.add; split <;> simp_all
    rw [ea]
    exact hb i hi
theorem numBytes_length (u : Int) (h1 : u < 18446744073709551616) : (numBytes u).length ≤ 9 := by
  unfold numBytes
  split
  · simp
  · have := kOf_le u h1
    unfold digits
    simp
    omega
set_option maxHeartbeats 400000 in
theorem pen_text (B : Nat) (v u : Value) (zs ys : List Int) (w : World) (h : PenAt w B v zs) (hu : BySl (Pb B v) w u ys) (hl : zs.length + ys.length + 9 ≤ 140737488355328) :
    Calls Tryz.prog 57 #[.pointer (some ⟨B, 0, none⟩), u] w fun e w' => e = .returned (.tuple #[]) ∧ ∃ v', PenAt w' B v' (zs ++ numBytes ys.length ++ ys) ∧ PenTo w w' B v v' := by
  obtain ⟨x, c, rfl⟩ : ∃ x c, u = .slice x ys.length c := by
    rcases hu.2 with ⟨⟨a, c, rfl⟩, rfl⟩ | ⟨blk, off, cap, rfl, -⟩
    · exact ⟨a, c, rfl⟩
    · exact ⟨_, _, rfl⟩
  have H := hid h
  have HU := hid hu
  have hln := numBytes_length (ys.length : Int) (by omega)
  clear h hu
  go_enter Tryz.func57, Tryz.ntmps57
  go_wp2_with fail
  refine (pen_number B v zs (ys.length : Int) _ H.out (by omega) (by omega) (by omega)).mono ?_
  rintro e w2 ⟨rfl, v', h2, k2⟩
  have H2 := hid h2
  have K2 := hid k2
  have HU2 := hid (HU.out.kept k2.kp (fun _ h => h))
  clear h2 k2
  go_wp2_with fail
  refine (pen_fixed B v' _ _ ys _ H2.out HU2.out (by rw [List.length_append]; omega)).mono ?_
  rintro e w3 ⟨rfl, v'', h3, k3⟩
  have H3 := hid h3
  have K3 := hid (K2.out.trans k3)
  clear h3 k3
  go_wp2
  go_end0
  exact ⟨rfl, v'', H3.out, K3.out⟩
set_option maxHeartbeats 400000 in
theorem pen_bytes (B : Nat) (v : Value) (zs : List Int) (w : World) (h : PenAt w B v zs) (hl : zs.length ≤ 140737488355328) :
    Calls Tryz.prog 29 #[.pointer (some ⟨B, 0, none⟩)] w fun e w' => ∃ r, e = .returned r ∧ w'.ownsRow w.heap.size 5 1 r zs.length (zs.map (Value.int .u8)) ∧ Kp Nb w w' := by
  have c0 := h.blk.cell 0
  simp only [List.getElem?_cons_zero] at c0
  have HB := hid (BySl.ofOwn (S := Nb) h.own h.bytes (fun _ _ _ h => h))
  clear h
  go_enter Tryz.func29, Tryz.ntmps29
  go_wp2_with fail
  refine (clone_any v zs _ HB.out hl).mono ?_
  rintro e w2 ⟨r, rfl, ho, k2⟩
  have HO := hid ho
  have K2 := hid k2
  clear ho k2
  go_wp2
  go_ret
  exact ⟨r, rfl, HO.out, K2.out⟩
end
section
open Go.RowKit
theorem pen_new (w : World) : PenAt (w.alloc (.cells #[.slice none 0 0] 45)) w.heap.size (.slice none 0 0) [] :=
  ⟨Blk.new w 45 [.slice none 0 0], World.ownsRow_nil _ _ _ _, by simp [Value.ownBlock], fun i => by simp⟩
end
section
open Go.RowKit
section
variable {α : Type} {f : α → List Value} {z : α} {c : Nat} {qs : List α}
def flatR (f : α → List Value) (qs : List α) : List Value := qs.flatMap f
theorem flatR_cons (q : α) (qs : List α) : flatR f (q :: qs) = f q ++ flatR f qs := rfl
theorem flatR_append (qs rs : List α) : flatR f (qs ++ rs) = flatR f qs ++ flatR f rs := by unfold flatR; rw [List.flatMap_append]
theorem flatR_length : ∀ (qs : List α), (∀ q ∈ qs, (f q).length = c) → (flatR f qs).length = qs.length * c
  | [], _ => by simp [flatR]
  | q :: r, h => by
    rw [flatR_cons, List.length_append, h q (by simp), flatR_length r (fun x hx => h x (by simp [hx])), List.length_cons, Nat.succ_mul]
    omega
theorem flatR_get : ∀ (qs : List α) (i j : Nat), (∀ q ∈ qs, (f q).length = c) → i < qs.length → j < c → (flatR f qs)[i * c + j]? = (f (qs[i]?.getD z))[j]?
  | [], i, _, _, hi, _ => by simp at hi
  | q :: r, 0, j, h, _, hj => by
    rw [flatR_cons, Nat.zero_mul, Nat.zero_add, List.getElem?_append_left (by rw [h q (by simp)]; exact hj)]
    rfl
  | q :: r, i + 1, j, h, hi, hj => by
    rw [flatR_cons, List.getElem?_append_right (by rw [h q (by simp), Nat.succ_mul]; omega), h q (by simp), show (i + 1) * c + j - c = i * c + j from by rw [Nat.succ_mul]; omega]
    rw [flatR_get r i j (fun x hx => h x (by simp [hx])) (by simpa using hi) hj]
    rfl
/-- A row of parts in a block, and what lies behind it. -/
theorem flat_range {w : World} {B T : Nat} {rest : List Value} (h : Blk w B T (flatR f qs ++ rest)) (hl : ∀ q ∈ qs, (f q).length = c) (i : Nat) (hi : i < qs.length) (hf : (f (qs[i]?.getD z)).length = c) : w.rangeAt B (i * c) (f (qs[i]?.getD z)) :=
  h.range (i * c) _ (fun j hj => by
    have hj' : j < c := by rw [← hf]; exact hj
    have hlt : i * c + j < (flatR f qs).length := by
      rw [flatR_length qs hl]
      have h1 : (i + 1) * c ≤ qs.length * c := Nat.mul_le_mul_right c hi
      rw [Nat.succ_mul] at h1
      omega
    rw [List.getElem?_append_left hlt]
    exact flatR_get qs i j hl hi hj')
/-- Its own row (World.ownsRow), as a block. -/
theorem own_blk {w : World} {base e n : Nat} {v : Value} {xs : List Value} (h : w.ownsRow base e c v n xs) (hn : 0 < n) : ∃ g cap rest, v = .slice (some ⟨g, 0, none⟩) n cap ∧ base ≤ g ∧ Blk w g e (xs ++ rest) ∧ n ≤ cap ∧ cap ≤ maxLen := by
  rcases h.2 with ⟨_, h0⟩ | ⟨g, cap, cur, rfl, hb, hg, hc, hm, hs, ht⟩
  · omega
  · refine ⟨g, cap, cur.toList.drop (n * c), rfl, hb, ?_, hc, hm⟩
    unfold Blk
    rw [hg, ← ht, List.take_append_drop]
end
end
section
open Go.RowKit
section
variable {F : Fence} {n : Nat} {P : Program} {ops : Array Oper} {Q : Exit → Act → World → Prop}
def bitsOf (listed : Array Bool) : Nat → Bool := fun i => listed.getD i false
def upd (L : Nat → Bool) (i : Nat) : Nat → Bool := fun j => L j || j == i
theorem bitsOf_set (listed : Array Bool) (i : Nat) (h : i < listed.size) : bitsOf (listed.setIfInBounds i true) = upd (bitsOf listed) i := by
  funext j
  unfold bitsOf upd
  by_cases hij : i = j
  · subst hij
    simp [h]
  · rw [getD_set_ne false hij]
    have : (j == i) = false := by rw [beq_eq_false_iff_ne]; exact fun e => hij e.symm
    rw [this, Bool.or_false]
theorem bits_done (listed : Array Bool) (hs : listed.size = ops.size) (hup : ∀ (i : Nat) (o : Oper), ops[i]? = some o → ∀ e ∈ o.after, Region.binds .any e = true → e.on < i) (hr : Region.ready .any ops listed = []) :
    ∀ i, i < ops.size → bitsOf listed i = true := by
  intro i
  induction i using Nat.strongRecOn with
  | ind i ih =>
    intro hi
    cases hb : bitsOf listed i with
    | true => rfl
    | false =>
      exfalso
      have ho : ops[i]? = some ops[i] := Array.getElem?_eq_getElem hi
      have hm : i ∈ Region.ready .any ops listed := by
        rw [mem_ready]
        refine ⟨?_, ops[i], ho, fun e he hb' => ?_⟩
        · unfold bitsOf at hb
          rw [Array.getD_eq_getD_getElem?, Array.getElem?_eq_getElem (by omega)] at hb ⊢
          exact hb
        · have hlt := hup i _ ho e he hb'
          exact ih e.on hlt (by omega)
      rw [hr] at hm
      cases hm
theorem countP_snoc (listed : Array Bool) (i : Nat) (h : i < listed.size) (hf : listed.getD i true = false) :
    (listed.setIfInBounds i true).toList.countP id = listed.toList.countP id + 1 := by
  rw [Array.toList_setIfInBounds, List.countP_set (by simpa using h)]
  have : listed.toList[i]'(by simpa using h) = false := by
    rw [Array.getD_eq_getD_getElem?, Array.getElem?_eq_getElem h] at hf
    simpa using hf
  rw [this]
  simp
theorem eval_put_same (a : Act) (d : Tmp) (v : Value) (h : d < a.tmps.size) : (a.put (some d) v).eval (.tmp d) = v := by
  simp [Act.put, Act.eval, h]
theorem eval_put_ne (a : Act) (d e : Tmp) (v : Value) (h : d ≠ e) : (a.put (some d) v).eval (.tmp e) = a.eval (.tmp e) := by
  simp [Act.put, Act.eval, Array.getElem?_setIfInBounds_ne h]
theorem size_put (a : Act) (d : Option Tmp) (v : Value) : (a.put d v).tmps.size = a.tmps.size := by
  cases d <;> simp [Act.put]
end
end
section
open Go.RowKit
/-- One of the two: its box, its row, what is put behind, its slots and its operations. -/
structure Ch where
  T : Nat
  B : Nat
  e : Nat
  size : Nat
  base : Nat
  k : Nat
  v : Value
  x : Value
  xs : List Value
  cells : List Value
  tb : Nat
  tx : Nat
  dl : Nat
  dm : Nat
  ds : Nat
  dp : Nat
  il : Nat
  im : Nat
  ib : Nat
  ip : Nat
  it : Nat
  xa : Value
  src : World → Prop
theorem ownsRow_same {w w' : World} {base n size : Nat} {t : TypeId} {v : Value} {xs : List Value} (h : w.ownsRow base t size v n xs) (hb : ∀ g, v.ownBlock = some g → w'.heap[g]? = w.heap[g]?) : w'.ownsRow base t size v n xs := by
  refine ⟨h.1, ?_⟩
  rcases h.2 with hn | ⟨g, cap, cur, rfl, hbg, hgg, rest⟩
  · exact .inl hn
  · exact .inr ⟨g, cap, cur, rfl, hbg, by rw [hb g rfl]; exact hgg, rest⟩
/-- What the program must give of one of the two. -/
structure Ch.Ok (c : Ch) (P : Program) (ops : Array Oper) (N : Nat) : Prop where
  load : ∀ (w : World) (u : Value), w.cell? ⟨c.B, 0, none⟩ = some u → (Instr.loadAt c.T (.pointer (some ⟨c.B, 0, none⟩))).run P w = .ok u w
  make : ∀ w : World, (Instr.buildSlice c.T 1 #[(0, c.x)]).run P w = .ok (.slice (some ⟨w.heap.size, 0, none⟩) 1 1) (w.alloc (.cells c.cells.toArray c.e (0, 0)))
  store : ∀ (w : World) (g n cap : Nat) (u : Value), w.cell? ⟨c.B, 0, none⟩ = some u → w.frozen? ⟨c.B, 0, none⟩ = false → (Instr.storeAt c.T (.pointer (some ⟨c.B, 0, none⟩)) (.slice (some ⟨g, 0, none⟩) n cap)).run P w = .ok () (w.setCell ⟨c.B, 0, none⟩ (.slice (some ⟨g, 0, none⟩) n cap))
  slice : P.underlying c.T = some (.slice c.e)
  info : ∃ i z bytes, P.info? c.e = some i ∧ i.zero = some z ∧ i.size = c.size ∧ i.bytes = bytes ∧ z.cells.size = c.size ∧ (c.k + 1) * bytes ≤ 140737488355328
  size : 0 < c.size
  one : ∀ u ∈ c.cells, u.oneCell' = true
  len : c.cells.length = c.size
  most : c.k + 1 ≤ maxLen
  te : c.T ≠ c.e
  ol : ∃ o, ops[c.il]? = some o ∧ o.op = .load c.T (.tmp c.tb) ∧ o.dst = some c.dl ∧ o.guard = none
  om : ∃ o, ops[c.im]? = some o ∧ (∀ d, o.op ≠ .defer d) ∧ (∀ (w : World) (ev : Operand → Value), o.about P w ev = none) ∧ (∀ (w : World) (a : Act), c.src w → a.eval (.tmp c.tx) = c.xa → (execOp a.eval o).run P w = .ok (.value c.x) w) ∧ o.dst = some c.dm ∧ o.guard = none
  ob : ∃ o, ops[c.ib]? = some o ∧ o.op = .buildSlice c.T 1 #[(0, .tmp c.dm)] ∧ o.dst = some c.ds ∧ o.guard = none ∧ ∃ e ∈ o.after, Region.binds .any e = true ∧ e.on = c.im
  op : ∃ o, ops[c.ip]? = some o ∧ o.op = .call { callee := .builtin .append, args := #[.tmp c.dl, .tmp c.ds], argTypes := #[c.T, c.T] } ∧ o.dst = some c.dp ∧ o.guard = none ∧ (∃ e ∈ o.after, Region.binds .any e = true ∧ e.on = c.il) ∧ (∃ e ∈ o.after, Region.binds .any e = true ∧ e.on = c.ib)
  ot : ∃ o, ops[c.it]? = some o ∧ o.op = .store c.T (.tmp c.tb) (.tmp c.dp) ∧ o.dst = none ∧ o.guard = none ∧ ∃ e ∈ o.after, Region.binds .any e = true ∧ e.on = c.ip
  ds : c.dl < N ∧ c.dm < N ∧ c.ds < N ∧ c.dp < N
  ne : c.tb ≠ c.dl ∧ c.tb ≠ c.dm ∧ c.tb ≠ c.ds ∧ c.tb ≠ c.dp ∧ c.tx ≠ c.dl ∧ c.tx ≠ c.dm ∧ c.tx ≠ c.ds ∧ c.tx ≠ c.dp ∧ c.dl ≠ c.dm ∧ c.dl ≠ c.ds ∧ c.dl ≠ c.dp ∧ c.dm ≠ c.ds ∧ c.dm ≠ c.dp ∧ c.ds ≠ c.dp
  ni : c.il ≠ c.im ∧ c.il ≠ c.ib ∧ c.il ≠ c.ip ∧ c.il ≠ c.it ∧ c.im ≠ c.ib ∧ c.im ≠ c.ip ∧ c.im ≠ c.it ∧ c.ib ≠ c.ip ∧ c.ib ≠ c.it ∧ c.ip ≠ c.it
section
variable {P : Program} {ops : Array Oper} {N : Nat} {c : Ch} {S : Nat → Prop} {L : Nat → Bool} {a : Act} {w : World}
end
section
variable {F : Fence} {n : Nat} {P : Program} {ops : Array Oper} {Q : Exit → Act → World → Prop} {c1 c2 : Ch} {N : Nat} {w0 : World} {S0 : Nat → Prop}
end
end
section
open Go.RowKit
theorem row_cells {W : World} {base e size k : Nat} {v : Value} {xs : List Value} (h : W.ownsRow base e size v k xs) {g : Nat} (hg : v.ownBlock = some g) : base ≤ g ∧ ∃ o, W.heap[g]? = some o ∧ o.isCells = true := by
  rcases h.2 with ⟨rfl, _⟩ | ⟨g', cap, cur, rfl, hb, hgg, _⟩
  · simp [Value.ownBlock] at hg
  · have : g' = g := by simpa [Value.ownBlock] using hg
    subst this
    exact ⟨hb, _, hgg, rfl⟩
theorem own_shape {w : World} {base : Nat} {e : TypeId} {size k : Nat} {v : Value} {xs : List Value} (h : w.ownsRow base e size v k xs) : ∃ a c, v = .slice a k c := by
  rcases h.2 with ⟨rfl, rfl⟩ | ⟨g, cap, cur, rfl, _⟩
  · exact ⟨_, _, rfl⟩
  · exact ⟨_, _, rfl⟩
theorem ownsRow_le {w : World} {base base' : Nat} {e : TypeId} {size k : Nat} {v : Value} {xs : List Value} (h : w.ownsRow base e size v k xs) (hb : base' ≤ base) : w.ownsRow base' e size v k xs := by
  refine ⟨h.1, ?_⟩
  rcases h.2 with h' | ⟨g, cap, cur, e1, e2, rest⟩
  · exact .inl h'
  · exact .inr ⟨g, cap, cur, e1, Nat.le_trans hb e2, rest⟩
end
section
open Go.RowKit
section
variable {P : Program} {α : Type} {f : α → List Value} {z : α} {c : Nat} {w : World}
theorem flat_cell {blk off : Nat} {qs : List α} (hf : ∀ q ∈ qs, (f q).length = c) (h : ∀ i, i < qs.length → w.rangeAt blk (off + i * c) (f (qs[i]?.getD z))) (j : Nat) (u : Value) (hj : (flatR f qs)[j]? = some u) : w.cell? ⟨blk, off + j, none⟩ = some u := by
  have hl := flatR_length qs hf
  have hlt : j < qs.length * c := by
    have := (List.getElem?_eq_some_iff.1 hj).1
    rw [hl] at this
    exact this
  have hc : 0 < c := by
    rcases Nat.eq_zero_or_pos c with h0 | h0
    · rw [h0] at hlt; omega
    · exact h0
  have e : j = j / c * c + j % c := by rw [Nat.mul_comm]; exact (Nat.div_add_mod j c).symm
  have hi : j / c < qs.length := by rw [Nat.div_lt_iff_lt_mul hc]; exact hlt
  have h2 := h (j / c) hi (j % c) u (by
    rw [← flatR_get (f := f) (z := z) (c := c) qs (j / c) (j % c) hf hi (Nat.mod_lt _ hc), ← e]; exact hj)
  rw [show off + j = off + j / c * c + j % c from by rw [Nat.add_assoc, ← e]]
  exact h2
theorem run_append_zero (base : Nat) (t ty e : TypeId) (i : TypeInfo) (size : Nat) (ht : P.underlying t = some (.slice e)) (hi : P.info? e = some i)
    (v : Value) (n : Nat) (xs : List Value) (hown : w.ownsRow base e size v n xs) (cap : Nat) :
    (Builtin.append_ #[t, t] ty #[v, .slice none 0 cap]).run P w = .ok v w := by
  rcases hown.2 with ⟨rfl, rfl⟩ | ⟨g, cap', cur, rfl, _, _, hnc, _⟩
  · simp [Builtin.append_, run_underlying ht, sizeOf, typeInfo, hi, Builtin.lenOf, Builtin.firstCells]
  · simp [Builtin.append_, run_underlying ht, sizeOf, typeInfo, hi, Builtin.lenOf, Builtin.firstCells, hnc, storeCells]
theorem run_append_rows (base : Nat) (t ty e : TypeId) (i : TypeInfo) (z0 : Value) (bytes : Nat) (ht : P.underlying t = some (.slice e)) (hi : P.info? e = some i) (hz : i.zero = some z0)
    (hsize : i.size = c) (hby : i.bytes = bytes) (hzs : z0.cells.size = c) (hsz : 0 < c)
    (v : Value) (n : Nat) (xs : List Value) (hown : w.ownsRow base e c v n xs) (x : Value) (rs : List α) (hx : RowsSl f z c w x rs) (hf : ∀ q ∈ rs, (f q).length = c) (h1 : ∀ q ∈ rs, ∀ u ∈ f q, u.oneCell' = true)
    (h63 : n + rs.length ≤ maxLen) (hbytes : (n + rs.length) * bytes ≤ 140737488355328) (hbase : base ≤ w.heap.size) :
    ∃ v' w', (Builtin.append_ #[t, t] ty #[v, x]).run P w = .ok v' w' ∧ w'.ownsRow base e c v' (n + rs.length) (xs ++ flatR f rs) ∧ w.grownBy w' v.ownBlock := by
  have one : ∀ u ∈ flatR f rs, u.oneCell' = true := fun u hu => by
    obtain ⟨q, hq, hu⟩ := List.mem_flatMap.1 hu
    exact h1 q hq u hu
  rcases hx with ⟨⟨a, cap, rfl⟩, rfl⟩ | ⟨blk, off, cap, rfl, hc, hm, hr⟩
  · cases a with
    | none =>
      refine ⟨v, w, run_append_zero base t ty e i c ht hi v n xs hown cap, ?_, ?_⟩
      · simpa [flatR] using hown
      · exact World.grownBy.refl _ _
    | some ad =>
      obtain ⟨v', w', h2, h3, h4, _⟩ := run_append_own (P := P) w base t ty e i z0 c bytes ht hi hz hsize hby hzs hsz v n xs hown ad 0 cap [] (by simp) (fun j u hj => by simp at hj) (fun u hu => by simp at hu) (by simpa using h63) (by simpa using hbytes) hbase
      exact ⟨v', w', h2, by simpa [flatR] using h3, h4⟩
  · obtain ⟨v', w', h2, h3, h4, _⟩ := run_append_own (P := P) w base t ty e i z0 c bytes ht hi hz hsize hby hzs hsz v n xs hown ⟨blk, off, none⟩ rs.length cap (flatR f rs) (flatR_length rs hf)
      (fun j u hj => by rw [add_mid]; exact flat_cell hf hr j u hj) one h63 hbytes hbase
    exact ⟨v', w', h2, h3, h4⟩
theorem wpList_append_rows {ops : Array Oper} {rest : List Oper} {o : Oper} {a : Act} {Q : Exit → Act → World → Prop} (hgd : o.guard = none) (s x : Operand) (t : TypeId)
    (ho : o.op = .call { callee := .builtin .append, args := #[s, x], argTypes := #[t, t] })
    (base : Nat) (e : TypeId) (i : TypeInfo) (z0 : Value) (bytes : Nat) (ht : P.underlying t = some (.slice e)) (hi : P.info? e = some i) (hz : i.zero = some z0)
    (hsize : i.size = c) (hby : i.bytes = bytes) (hzs : z0.cells.size = c) (hsz : 0 < c)
    (v : Value) (n : Nat) (xs : List Value) (hs : a.eval s = v) (hown : w.ownsRow base e c v n xs) (xv : Value) (rs : List α) (hxv : a.eval x = xv) (hx : RowsSl f z c w xv rs) (hf : ∀ q ∈ rs, (f q).length = c) (h1 : ∀ q ∈ rs, ∀ u ∈ f q, u.oneCell' = true)
    (h63 : n + rs.length ≤ maxLen) (hbytes : (n + rs.length) * bytes ≤ 140737488355328) (hbase : base ≤ w.heap.size)
    (h : ∀ v' w', w'.ownsRow base e c v' (n + rs.length) (xs ++ flatR f rs) → w.grownBy w' v.ownBlock → wpList P ops Q rest (a.put o.dst v') w') : wpList P ops Q (o :: rest) a w := by
  obtain ⟨v', w', hrun, h2, h3⟩ := run_append_rows (P := P) (w := w) base t o.type e i z0 bytes ht hi hz hsize hby hzs hsz v n xs hown xv rs hx hf h1 h63 hbytes hbase
  refine wpList_plain hgd fun K hK => ?_
  unfold Oper.wp
  simp [execOp, ho, resolve, invoke, builtin, hs, hxv, hrun, Result.andThen]
  exact hK _ _ (h v' w' h2 h3)
/-- What the call owns, as a slice of rows. -/
theorem rows_owned {base e : Nat} {v : Value} {qs : List α} (h : w.ownsRow base e c v qs.length (flatR f qs)) (hf : ∀ q ∈ qs, (f q).length = c) : RowsSl f z c w v qs := by
  by_cases hn : 0 < qs.length
  · obtain ⟨g, cap, rest, rfl, -, hb, h1, h2⟩ := own_blk h hn
    refine .inr ⟨g, 0, cap, rfl, h1, h2, fun i hi => ?_⟩
    rw [Nat.zero_add]
    refine flat_range hb hf i hi ?_
    rw [List.getElem?_eq_getElem hi]
    exact hf _ (List.getElem_mem hi)
  · have e : qs = [] := List.length_eq_zero_iff.1 (by omega)
    subst e
    obtain ⟨p, q, rfl⟩ := own_shape h
    exact .inl ⟨⟨_, _, rfl⟩, rfl⟩
end
end
section
open Go.RowKit
theorem region_inv0 {P : Program} {ops : Array Oper} {Q : Exit → Act → World → Prop} {rid : Nat} {a : Act} {w : World} (hm : P.follows .mixedOrders = true) (hup : ∀ (i : Nat) (o : Oper), ops[i]? = some o → ∀ e ∈ o.after, Region.binds .any e = true → e.on < i)
    (Inv : (Nat → Bool) → Act → World → Prop) (h0 : Inv (fun _ => false) a w.drew)
    (hstep : ∀ (L : Nat → Bool) (a : Act) (w : World) (i : Nat) (o : Oper), Inv L a w → ops[i]? = some o → L i = false → (∀ e ∈ o.after, Region.binds .any e = true → L e.on = true) → wpOp P ops Q i (Inv (upd L i)) a w)
    (hend : ∀ (L : Nat → Bool) (a : Act) (w : World), Inv L a w → (∀ i, i < ops.size → L i = true) → Q .normal a w) : (Code.region rid ops true).wp P Q a w := by
  have key : ∀ (fuel : Nat) (listed : Array Bool) (a : Act) (w : World), listed.size = ops.size → ops.size ≤ fuel + listed.toList.countP id → Inv (bitsOf listed) a w → wpAny P .any ops Q fuel listed a w := by
    intro fuel
    induction fuel with
    | zero =>
      intro listed a w hs hc hi
      have hall : ∀ b ∈ listed.toList, b = true := by
        have h1 : listed.toList.countP id ≤ listed.toList.length := List.countP_le_length
        have h2 : listed.toList.length = listed.size := Array.length_toList
        have h3 : listed.toList.countP id = listed.toList.length := by omega
        intro b hb
        exact List.countP_eq_length.1 h3 b hb
      have hr : Region.ready .any ops listed = [] := by
        apply List.eq_nil_iff_forall_not_mem.2
        intro j hj
        have h1 := (mem_ready.1 hj).1
        rw [Array.getD_eq_getD_getElem?] at h1
        cases hg : listed[j]? with
        | none => rw [hg] at h1; cases h1
        | some b =>
          rw [hg] at h1
          have : b ∈ listed.toList := by simpa using Array.mem_of_getElem? hg
          rw [hall b this] at h1
          cases h1
      exact ⟨hr, hend _ a w hi (bits_done listed hs hup hr)⟩
    | succ fuel ih =>
      intro listed a w hs hc hi
      refine ⟨fun hr => hend _ a w hi (bits_done listed hs hup hr), fun i hr => ?_⟩
      obtain ⟨h1, o, ho, hall⟩ := mem_ready.1 hr
      have hlt : i < listed.size := by have := (Array.getElem?_eq_some_iff.1 ho).1; omega
      have hb : bitsOf listed i = false := by
        unfold bitsOf
        rw [Array.getD_eq_getD_getElem?, Array.getElem?_eq_getElem hlt] at h1 ⊢
        exact h1
      refine wpOp_mono (fun a' w' h => ih _ a' w' (by simpa using hs) ?_ ?_) (hstep _ a w i o hi ho hb hall)
      · rw [countP_snoc listed i hlt h1]; omega
      · rw [bitsOf_set listed i hlt]; exact h
  refine wp_region_any hm (key _ _ _ _ (by simp) (by omega) ?_)
  have : bitsOf (Array.replicate ops.size false) = fun _ => false := by
    funext i
    unfold bitsOf
    rw [Array.getD_eq_getD_getElem?, Array.getElem?_replicate]
    split <;> rfl
  rw [this]
  exact h0
def aft (o : Oper) (j : Nat) : Bool := o.after.toList.any fun e => Region.binds .any e && e.on == j
/-- wr: which operation writes a slot; reads: which slots an operation reads, and whose value it finds there (none: that of the beginning). -/
def okOne (ops : Array Oper) (wr : List (Option Nat)) (N i : Nat) (rd : List (Nat × Option Nat)) : Bool :=
  match ops[i]? with
  | none => false
  | some o =>
    (o.after.toList.all fun e => !Region.binds .any e || decide (e.on < i)) &&
    (match o.dst with | none => true | some d => decide (d < N) && wr.getD d none == some i) &&
    (match o.guard with | none => true | some (g, _) => aft o g && (match ops[g]? with | some og => og.dst.isSome | none => false)) &&
    rd.all fun p => match p.2 with
      | some j => wr.getD p.1 none == some j && aft o j
      | none => match wr.getD p.1 none with | none => true | some j => (match ops[j]? with | some oj => aft oj i | none => false)
def okAll (ops : Array Oper) (wr : List (Option Nat)) (N : Nat) (reads : List (List (Nat × Option Nat))) : Bool :=
  ((List.range ops.size).all fun i => okOne ops wr N i (reads.getD i [])) &&
  (wr.length == N && (List.range N).all fun s => match wr.getD s none with | none => true | some i => (match ops[i]? with | some o => o.dst == some s | none => false))
def EvOk (ev : Operand → Value) : Prop := (∀ v, ev (.const v) = v) ∧ (∀ f, ev (.func f) = .func (.func f) #[] #[])
def srcV (a0 : Act) (vals : List Value) : Nat × Option Nat → Value
  | (s, none) => a0.eval (.tmp s)
  | (_, some j) => vals.getD j undef
/-- What an operation's run must be. -/
def RunsTo (P : Program) (S : World → Prop) (o : Oper) (u : Value) (facts : (Operand → Value) → Prop) : Prop :=
  ∀ (ev : Operand → Value) (w : World), S w → EvOk ev → facts ev →
    (execOp ev o).run P w = .ok (.value u) w ∨ ∃ f args, (execOp ev o).run P w = .ok (.enter f args) w ∧ Calls P f args w fun e w' => e = .returned u ∧ S w'
def VStep (P : Program) (S : World → Prop) (ops : Array Oper) (a0 : Act) (vals : List Value) (reads : List (List (Nat × Option Nat))) (i : Nat) : Prop :=
  ∀ o, ops[i]? = some o →
    ((match o.guard with | none => True | some (g, b) => vals.getD g undef = .bool b) ∧ RunsTo P S o (vals.getD i undef) fun ev => ∀ p ∈ reads.getD i [], ev (.tmp p.1) = srcV a0 vals p) ∨
    (match o.guard with | none => False | some (g, b) => vals.getD g undef = .bool (!b) ∧ vals.getD i undef = undef)
def curV (wr : List (Option Nat)) (vals : List Value) (a0 : Act) (L : Nat → Bool) (s : Nat) : Value :=
  match wr.getD s none with
  | none => a0.eval (.tmp s)
  | some i => if L i then vals.getD i undef else a0.eval (.tmp s)
structure InvV (S : World → Prop) (ops : Array Oper) (wr : List (Option Nat)) (vals : List Value) (a0 : Act) (L : Nat → Bool) (a : Act) (w : World) : Prop where
  s : S w
  size : a.tmps.size = a0.tmps.size
  defers : a.defers = a0.defers
  closed : ∀ i o, ops[i]? = some o → L i = true → ∀ e ∈ o.after, Region.binds .any e = true → L e.on = true
  slot : ∀ s, a.eval (.tmp s) = curV wr vals a0 L s
section
variable {P : Program} {ops : Array Oper} {Q : Exit → Act → World → Prop} {S : World → Prop} {wr : List (Option Nat)} {vals : List Value} {reads : List (List (Nat × Option Nat))} {a0 : Act}
theorem aft_spec {o : Oper} {j : Nat} (h : aft o j = true) : ∃ e ∈ o.after, Region.binds .any e = true ∧ e.on = j := by
  unfold aft at h
  rw [List.any_eq_true] at h
  obtain ⟨e, he, hb⟩ := h
  rw [Bool.and_eq_true] at hb
  exact ⟨e, by simpa using he, hb.1, by simpa using hb.2⟩
theorem okAll_one (h : okAll ops wr a0.tmps.size reads = true) {i : Nat} {o : Oper} (ho : ops[i]? = some o) : okOne ops wr a0.tmps.size i (reads.getD i []) = true := by
  unfold okAll at h
  rw [Bool.and_eq_true, List.all_eq_true] at h
  exact h.1 i (by rw [List.mem_range]; exact (Array.getElem?_eq_some_iff.1 ho).1)
theorem okAll_wr (h : okAll ops wr a0.tmps.size reads = true) {s i : Nat} (hs : wr.getD s none = some i) : ∃ o, ops[i]? = some o ∧ o.dst = some s := by
  unfold okAll at h
  rw [Bool.and_eq_true, Bool.and_eq_true] at h
  have hlen : wr.length = a0.tmps.size := by simpa using h.2.1
  have hlt : s < a0.tmps.size := by
    rw [← hlen]
    rcases Nat.lt_or_ge s wr.length with h' | h'
    · exact h'
    · rw [List.getD_eq_getElem?_getD, List.getElem?_eq_none h'] at hs; cases hs
  have := List.all_eq_true.1 h.2.2 s (by rw [List.mem_range]; exact hlt)
  rw [hs] at this
  dsimp only at this
  split at this
  · rename_i o ho
    exact ⟨o, ho, by simpa using this⟩
  · cases this
theorem okAll_up (hok : okAll ops wr a0.tmps.size reads = true) : ∀ (i : Nat) (o : Oper), ops[i]? = some o → ∀ e ∈ o.after, Region.binds .any e = true → e.on < i := by
  intro i o ho e he hb
  have h := okAll_one hok ho
  unfold okOne at h
  rw [ho] at h
  dsimp only at h
  rw [Bool.and_eq_true, Bool.and_eq_true, Bool.and_eq_true] at h
  have h1 := List.all_eq_true.1 h.1.1.1 e (by simpa using he)
  rw [hb] at h1
  simpa using h1
theorem vals_init {w : World} (hS : S w) : InvV S ops wr vals a0 (fun _ => false) a0 w := by
  refine ⟨hS, rfl, rfl, fun i o _ h => (by cases h), fun s => ?_⟩
  unfold curV
  split <;> simp
theorem vals_step {L : Nat → Bool} {a : Act} {w : World} {i : Nat} {o : Oper} {K : Act → World → Prop} (hok : okAll ops wr a0.tmps.size reads = true) (hI : InvV S ops wr vals a0 L a w) (ho : ops[i]? = some o) (hu : L i = false) (hdep : ∀ e ∈ o.after, Region.binds .any e = true → L e.on = true)
    (hstep : VStep P S ops a0 vals reads i) (hK : ∀ a' w', InvV S ops wr vals a0 (upd L i) a' w' → K a' w') : wpOp P ops Q i K a w := by
  have hlt : i < ops.size := (Array.getElem?_eq_some_iff.1 ho).1
  have h := okAll_one hok ho
  unfold okOne at h
  rw [ho] at h
  dsimp only at h
  rw [Bool.and_eq_true, Bool.and_eq_true, Bool.and_eq_true] at h
  obtain ⟨⟨⟨h1, h2⟩, h3⟩, h4⟩ := h
  have hafter : ∀ j, aft o j = true → L j = true := fun j hj => by
    obtain ⟨e, he, hb, rfl⟩ := aft_spec hj
    exact hdep e he hb
  -- what stands in the slots that are read
  have hread : ∀ p ∈ reads.getD i [], a.eval (.tmp p.1) = srcV a0 vals p := by
    rintro ⟨s, src⟩ hp
    have hp' := List.all_eq_true.1 h4 _ hp
    dsimp only at hp'
    rw [hI.slot s]
    unfold curV
    cases src with
    | some j =>
      rw [Bool.and_eq_true] at hp'
      have e1 : wr.getD s none = some j := by simpa using hp'.1
      rw [e1]
      simp only [hafter j hp'.2, if_true]
      rfl
    | none =>
      dsimp only at hp'
      split at hp'
      · rename_i e1
        first | rfl | (rw [e1]; rfl)
      · rename_i j e1
        split at hp'
        · rename_i oj hoj
          obtain ⟨e, he, hb, hon⟩ := aft_spec hp'
          have hj : L j = false := by
            cases hLj : L j with
            | false => rfl
            | true =>
              have := hI.closed j oj hoj hLj e he hb
              rw [hon, hu] at this
              cases this
          first | (simp [hj]; rfl) | (rw [e1]; simp [hj]; rfl)
        · cases hp'
  -- the invariant behind it
  have hnext : ∀ w', S w' → InvV S ops wr vals a0 (upd L i) (a.put o.dst (vals.getD i undef)) w' := fun w' hw' => by
    refine ⟨hw', by rw [size_put]; exact hI.size, ?_, ?_, ?_⟩
    · rw [← hI.defers]; unfold Act.put; split <;> rfl
    · intro j oj hoj hLj e he hb
      unfold upd at hLj ⊢
      rw [Bool.or_eq_true] at hLj
      rcases hLj with hLj | hLj
      · rw [hI.closed j oj hoj hLj e he hb]; rfl
      · have : j = i := by simpa using hLj
        subst this
        rw [ho] at hoj
        injection hoj with hoj
        subst hoj
        rw [hdep e he hb]; rfl
    · intro s
      cases hd : o.dst with
      | none =>
        show a.eval (.tmp s) = _
        rw [hI.slot s]
        unfold curV
        cases hws : wr.getD s none with
        | none => rfl
        | some j =>
          have hne : (j == i) = false := by
            rw [beq_eq_false_iff_ne]
            rintro rfl
            obtain ⟨oj, hoj, hdj⟩ := okAll_wr hok hws
            rw [ho] at hoj
            injection hoj with hoj
            subst hoj
            rw [hd] at hdj
            cases hdj
          simp only [upd, hne, Bool.or_false]
      | some d =>
        rw [hd] at h2
        dsimp only at h2
        rw [Bool.and_eq_true] at h2
        have hdN : d < a.tmps.size := by rw [hI.size]; exact of_decide_eq_true h2.1
        have hwd : wr.getD d none = some i := by simpa using h2.2
        by_cases hsd : d = s
        · subst hsd
          rw [eval_put_same a d _ hdN]
          unfold curV
          rw [hwd]
          simp [upd]
        · rw [eval_put_ne a d s _ hsd, hI.slot s]
          unfold curV
          cases hws : wr.getD s none with
          | none => rfl
          | some j =>
            have hne : (j == i) = false := by
              rw [beq_eq_false_iff_ne]
              rintro rfl
              obtain ⟨oj, hoj, hdj⟩ := okAll_wr hok hws
              rw [ho] at hoj
              injection hoj with hoj
              subst hoj
              rw [hd] at hdj
              injection hdj with hdj
              exact hsd hdj
            simp only [upd, hne, Bool.or_false]
  -- what the guard says
  have hguard : ∀ g b, o.guard = some (g, b) → ∀ c, vals.getD g undef = .bool c → yielded ops a.tmps g = some c := fun g b hg c hc => by
    rw [hg] at h3
    dsimp only at h3
    rw [Bool.and_eq_true] at h3
    split at h3
    · rename_i og hog
      obtain ⟨d, hd⟩ := Option.isSome_iff_exists.1 h3.2
      have hgo := okAll_one hok hog
      unfold okOne at hgo
      rw [hog] at hgo
      dsimp only at hgo
      rw [Bool.and_eq_true, Bool.and_eq_true, Bool.and_eq_true, hd] at hgo
      dsimp only at hgo
      rw [Bool.and_eq_true] at hgo
      have hdN : d < a.tmps.size := by rw [hI.size]; exact of_decide_eq_true hgo.1.1.2.1
      have hwd : wr.getD d none = some g := by simpa using hgo.1.1.2.2
      have he : a.eval (.tmp d) = .bool c := by
        rw [hI.slot d]
        unfold curV
        rw [hwd]
        simp only [hafter g h3.1, if_true, hc]
      have ht : a.tmps[d]? = some (.bool c) := by
        rw [Array.getElem?_eq_getElem hdN]
        congr 1
        rw [← he]
        simp [Act.eval, hdN]
      unfold yielded
      rw [hog]
      simp [hd, ht]
    · cases h3.2
  rcases hstep o ho with ⟨hg, hrun⟩ | hskip
  · have hw : Region.wanted o (yielded ops a.tmps) = true := by
      unfold Region.wanted
      cases hgd : o.guard with
      | none => rfl
      | some gb =>
        obtain ⟨g, b⟩ := gb
        rw [hgd] at hg
        dsimp only at hg ⊢
        rw [hguard g b hgd b hg]
        simp
    unfold wpOp
    rw [ho]
    simp only [hw, if_true]
    refine .inl ?_
    rcases hrun a.eval w hI.s ⟨fun _ => rfl, fun _ => rfl⟩ hread with hr | ⟨f, args, hr, hc⟩
    · unfold Oper.wp
      rw [hr]
      exact hK _ _ (hnext w hI.s)
    · unfold Oper.wp
      rw [hr]
      exact hc.mono fun e w' ⟨he, hS'⟩ => by subst he; exact hK _ _ (hnext w' hS')
  · cases hgd : o.guard with
    | none => rw [hgd] at hskip; exact hskip.elim
    | some gb =>
      obtain ⟨g, b⟩ := gb
      rw [hgd] at hskip
      dsimp only at hskip
      have hw : Region.wanted o (yielded ops a.tmps) = false := by
        unfold Region.wanted
        rw [hgd]
        dsimp only
        rw [hguard g b hgd _ hskip.1]
        cases b <;> rfl
      unfold wpOp
      rw [ho]
      simp only [hw, Bool.false_eq_true, if_false]
      have := hnext w hI.s
      rw [hskip.2] at this
      exact hK _ _ this
theorem vals_end {L : Nat → Bool} {a : Act} {w : World} (hI : InvV S ops wr vals a0 L a w) (hall : ∀ i s, wr.getD s none = some i → L i = true) (aF : Act) (hF : aF.tmps.toList = (List.range a0.tmps.size).map fun s => match wr.getD s none with | none => a0.eval (.tmp s) | some i => vals.getD i undef) (hD : aF.defers = a0.defers) : a = aF := by
  obtain ⟨t, d⟩ := a
  obtain ⟨tF, dF⟩ := aF
  have h1 : t = tF := by
    apply Array.toList_inj.1
    rw [hF]
    have hsz : t.toList.length = a0.tmps.size := hI.size
    apply List.ext_getElem?
    intro s
    rw [List.getElem?_map]
    rcases Nat.lt_or_ge s a0.tmps.size with hs | hs
    · rw [List.getElem?_range hs]
      have e := hI.slot s
      have hts : s < t.size := by rw [show t.size = a0.tmps.size from hI.size]; exact hs
      have e2 : t[s]? = some ((Act.mk t d).eval (.tmp s)) := by
        rw [Array.getElem?_eq_getElem hts]
        simp [Act.eval, hts]
      show t.toList[s]? = _
      rw [Array.getElem?_toList, e2, e]
      unfold curV
      cases hws : wr.getD s none with
      | none => simp only [Option.map_some, hws]
      | some i =>
        simp only [Option.map_some, hws, hall i s hws, if_true]
    · rw [List.getElem?_eq_none (by omega), List.getElem?_eq_none (by simpa using hs)]
      rfl
  have h2 : d = dF := by
    have := hI.defers
    simp only at this hD
    rw [this, hD]
  rw [h1, h2]
def putAll (dsts : List (Option Nat)) (vals : List Value) (a0 : Act) : Act := (dsts.zip vals).foldl (fun a p => a.put p.1 p.2) a0
theorem putAll_defers (dsts : List (Option Nat)) (vals : List Value) (a0 : Act) : (putAll dsts vals a0).defers = a0.defers := by
  unfold putAll
  generalize dsts.zip vals = l
  induction l generalizing a0 with
  | nil => rfl
  | cons p l ih =>
    rw [List.foldl_cons, ih]
    unfold Act.put
    split <;> rfl
theorem region_vals {rid : Nat} {w : World} (wr : List (Option Nat)) (reads : List (List (Nat × Option Nat))) (vals : List Value) (hm : P.follows .mixedOrders = true) (hok : okAll ops wr a0.tmps.size reads = true) (S : World → Prop) (hS : S w.drew)
    (hstep : ∀ i, i < ops.size → VStep P S ops a0 vals reads i) (aF : Act) (hF : aF.tmps.toList = (List.range a0.tmps.size).map fun s => match wr.getD s none with | none => a0.eval (.tmp s) | some i => vals.getD i undef) (hD : aF.defers = a0.defers)
    (hend : ∀ w, S w → Q .normal aF w) : (Code.region rid ops true).wp P Q a0 w := by
  refine region_inv0 hm (okAll_up hok) (InvV S ops wr vals a0) (vals_init hS) ?_ ?_
  · intro L a w i o hI ho hu hdep
    exact vals_step hok hI ho hu hdep (hstep i (Array.getElem?_eq_some_iff.1 ho).1) (fun _ _ h => h)
  · intro L a w hI hall
    have : a = aF := vals_end hI (fun i s hws => by
      obtain ⟨o, ho, _⟩ := okAll_wr hok hws
      exact hall i (Array.getElem?_eq_some_iff.1 ho).1) aF hF hD
    rw [this]
    exact hend w hI.s
theorem region_vals2 {rid : Nat} {w : World} (wr : List (Option Nat)) (reads : List (List (Nat × Option Nat))) (dsts : List (Option Nat)) (vals : List Value) (S : World → Prop) (hm : P.follows .mixedOrders = true) (hok : okAll ops wr a0.tmps.size reads = true)
    (hF : (putAll dsts vals a0).tmps.toList = (List.range a0.tmps.size).map fun s => match wr.getD s none with | none => a0.eval (.tmp s) | some i => vals.getD i undef) (hS : S w.drew)
    (hstep : ∀ i, i < ops.size → VStep P S ops a0 vals reads i) (hend : ∀ w, S w → Q .normal (putAll dsts vals a0) w) : (Code.region rid ops true).wp P Q a0 w :=
  region_vals wr reads vals hm hok S hS hstep _ hF (putAll_defers dsts vals a0) hend
theorem VStep.val {i : Nat} (o : Oper) (ho : ops[i]? = some o) (rd : List (Nat × Option Nat)) (hrd : reads.getD i [] = rd) (u : Value) (hu : vals.getD i undef = u) (hg : match o.guard with | none => True | some (g, b) => vals.getD g undef = .bool b)
    (h : ∀ (ev : Operand → Value) (w : World), S w → EvOk ev → (∀ p ∈ rd, ev (.tmp p.1) = srcV a0 vals p) → (execOp ev o).run P w = .ok (.value u) w) : VStep P S ops a0 vals reads i := by
  intro o' ho'
  rw [ho] at ho'
  injection ho' with ho'
  subst ho' hrd hu
  exact .inl ⟨hg, fun ev w hS he hr => .inl (h ev w hS he hr)⟩
theorem VStep.call {i : Nat} (o : Oper) (ho : ops[i]? = some o) (rd : List (Nat × Option Nat)) (hrd : reads.getD i [] = rd) (u : Value) (hu : vals.getD i undef = u) (hg : match o.guard with | none => True | some (g, b) => vals.getD g undef = .bool b) (f : FuncId) (args : Array Value)
    (h : ∀ (ev : Operand → Value) (w : World), S w → EvOk ev → (∀ p ∈ rd, ev (.tmp p.1) = srcV a0 vals p) → (execOp ev o).run P w = .ok (.enter f args) w)
    (hc : ∀ w, S w → Calls P f args w fun e w' => e = .returned u ∧ S w') : VStep P S ops a0 vals reads i := by
  intro o' ho'
  rw [ho] at ho'
  injection ho' with ho'
  subst ho' hrd hu
  exact .inl ⟨hg, fun ev w hS he hr => .inr ⟨f, args, h ev w hS he hr, hc w hS⟩⟩
theorem VStep.skip {i : Nat} (o : Oper) (ho : ops[i]? = some o) (hu : vals.getD i undef = undef) (hg : match o.guard with | none => False | some (g, b) => vals.getD g undef = .bool (!b)) : VStep P S ops a0 vals reads i := by
  intro o' ho'
  rw [ho] at ho'
  injection ho' with ho'
  subst ho'
  refine .inr ?_
  split at hg
  · exact hg.elim
  · exact ⟨hg, hu⟩
def VFrom (P : Program) (S : World → Prop) (ops : Array Oper) (a0 : Act) (vals : List Value) (reads : List (List (Nat × Option Nat))) (k n : Nat) : Prop := ∀ i, k ≤ i → i < n → VStep P S ops a0 vals reads i
theorem VFrom.cons {k n : Nat} (h : VStep P S ops a0 vals reads k) (t : VFrom P S ops a0 vals reads (k + 1) n) : VFrom P S ops a0 vals reads k n := fun i h1 h2 => by
  by_cases e : i = k
  · subst e; exact h
  · exact t i (by omega) h2
theorem VFrom.nil {n : Nat} : VFrom P S ops a0 vals reads n n := fun i h1 h2 => by omega
theorem VFrom.start {n : Nat} (h : VFrom P S ops a0 vals reads 0 n) : ∀ i, i < n → VStep P S ops a0 vals reads i := fun i hi => h i (Nat.zero_le _) hi
theorem VFrom.all {n : Nat} (hn : ops.size = n) (h : VFrom P S ops a0 vals reads 0 n) : ∀ i, i < ops.size → VStep P S ops a0 vals reads i := fun i hi => h i (Nat.zero_le _) (by rw [← hn]; exact hi)
end
theorem exec_load {P : Program} {ev : Operand → Value} {o : Oper} {T : TypeId} {x : Operand} {a : Addr} {v : Value} {w : World} (ho : o.op = .load T x) (hx : ev x = .pointer (some a)) (hl : (Instr.loadAt T (.pointer (some a))).run P w = .ok v w) : (execOp ev o).run P w = .ok (.value v) w := by
  unfold execOp
  simp only [ho, hx, Sem.run_bind, Sem.run_pure, Result.andThen_ok, hl]
theorem exec_build {P : Program} {ev : Operand → Value} {o : Oper} {T : TypeId} {ps : Array (Nat × Operand)} {qs : Array (Nat × Value)} {v : Value} {w : World} (ho : o.op = .build T ps) (hq : (ps.map fun (i, x) => (i, ev x)) = qs) (hl : (Instr.build T qs).run P w = .ok v w) : (execOp ev o).run P w = .ok (.value v) w := by
  unfold execOp
  simp only [ho, hq, Sem.run_bind, Sem.run_pure, Result.andThen_ok, hl]
end

end Go.Proofs.YtogoophofgkboaaGreatDoor
