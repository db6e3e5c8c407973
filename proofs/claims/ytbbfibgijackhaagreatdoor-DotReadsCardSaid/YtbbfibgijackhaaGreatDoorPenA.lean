/-
  Layer 2: plain functions for numbers as bytes, and walks of the small functions: bits.Len64, Size, Zig, Zag, bytes.Clone, Err, Left, Fail, End. Conditions: fewer than 2^47 bytes.
-/
import Derived.Test.YtbbfibgijackhaaGreatDoorSipF
import Derived.Lib.BitFns
import Derived.Lib.SliceRun
import Derived.Lib.Walk
import Derived.OwnWalk
namespace Go.Proofs.YtbbfibgijackhaaGreatDoor
open Go.RowKit

/-- How many bytes a number takes behind its first one, where it takes more than one. -/
def kOf (u : Int) : Nat := (Lib.bitLen u.toNat + 7) / 8
def sizeN (u : Int) : Nat := if u ≤ 247 then 1 else 1 + kOf u
def zigI (n : Int) : Int := bits .xor .u64 (IntKind.u64.wrap (IntKind.u64.wrap n * 2)) (IntKind.u64.wrap (n / 9223372036854775808))
def zagI (u : Int) : Int := if u % 2 = 1 then - (u / 2) - 1 else u / 2

theorem tab_at (i : Nat) (h : i < Lib.len8tab.size) : (Lib.len8tab[i]'h).toNat = Lib.bitLen i ∧ Lib.bitLen i ≤ 8 := by
  have hi : i < 256 := by rw [Lib.len8tab_size] at h; exact h
  have e := Lib.len8_of (i : Int) (by omega) (by omega)
  have l := Lib.bitLen_le8' (i : Int) (by omega) (by omega)
  rw [Int.toNat_natCast] at e l
  unfold Lib.len8 at e
  rw [Int.toNat_natCast, ByteArray.getElem?_lt' _ _ h, Option.getD_some] at e
  exact ⟨by omega, l⟩

theorem bit_more (x k d : Nat) (h : 2 ^ k ≤ x) (hx : x < 18446744073709551616) (hd : x / 2 ^ k = d) : Lib.bitLen x = k + Lib.bitLen d := by
  rw [← hd]; exact Lib.bitLen_shift k x h hx

set_option maxRecDepth 100000 in
set_option maxHeartbeats 4000000 in
theorem len64_any (x : Int) (w : World) (h0 : 0 ≤ x) (h1 : x ≤ 18446744073709551615) :
    Calls Tryz.prog 71 #[.int .u64 x] w fun e w' => e = .returned (.int .i64 (Lib.bitLen x.toNat)) ∧ w = w' := by
  have hts : Lib.len8tab.size = 256 := Lib.len8tab_size
  go_enter Tryz.func71, Tryz.ntmps71
  go_wp2
  all_goals (go_ret; refine ⟨congrArg Ending.returned (congrArg (Value.int IntKind.i64) ?_), rfl⟩)
  all_goals first
    | (have s := bit_more x.toNat 56 (x / 4294967296 / 65536 / 256).toNat (by omega) (by omega) (by omega)
       have l := tab_at (x / 4294967296 / 65536 / 256).toNat (by rw [hts]; omega)
       rw [l.1]; unfold wrap64; omega)
    | (have s := bit_more x.toNat 48 (x / 4294967296 / 65536).toNat (by omega) (by omega) (by omega)
       have l := tab_at (x / 4294967296 / 65536).toNat (by rw [hts]; omega)
       rw [l.1]; unfold wrap64; omega)
    | (have s := bit_more x.toNat 40 (x / 4294967296 / 256).toNat (by omega) (by omega) (by omega)
       have l := tab_at (x / 4294967296 / 256).toNat (by rw [hts]; omega)
       rw [l.1]; unfold wrap64; omega)
    | (have s := bit_more x.toNat 32 (x / 4294967296).toNat (by omega) (by omega) (by omega)
       have l := tab_at (x / 4294967296).toNat (by rw [hts]; omega)
       rw [l.1]; unfold wrap64; omega)
    | (have s := bit_more x.toNat 24 (x / 65536 / 256).toNat (by omega) (by omega) (by omega)
       have l := tab_at (x / 65536 / 256).toNat (by rw [hts]; omega)
       rw [l.1]; unfold wrap64; omega)
    | (have s := bit_more x.toNat 16 (x / 65536).toNat (by omega) (by omega) (by omega)
       have l := tab_at (x / 65536).toNat (by rw [hts]; omega)
       rw [l.1]; unfold wrap64; omega)
    | (have s := bit_more x.toNat 8 (x / 256).toNat (by omega) (by omega) (by omega)
       have l := tab_at (x / 256).toNat (by rw [hts]; omega)
       rw [l.1]; unfold wrap64; omega)
    | (have l := tab_at x.toNat (by rw [hts]; omega)
       rw [l.1]; unfold wrap64; omega)

theorem bitLen_le (x : Nat) (h : x < 18446744073709551616) : Lib.bitLen x ≤ 64 := by
  by_cases h56 : 2 ^ 56 ≤ x
  · rw [bit_more x 56 (x / 2 ^ 56) h56 h rfl]
    have := (tab_at (x / 2 ^ 56) (by rw [Lib.len8tab_size]; omega)).2
    omega
  · by_cases h48 : 2 ^ 48 ≤ x
    · rw [bit_more x 48 (x / 2 ^ 48) h48 h rfl]
      have := (tab_at (x / 2 ^ 48) (by rw [Lib.len8tab_size]; omega)).2
      omega
    · by_cases h40 : 2 ^ 40 ≤ x
      · rw [bit_more x 40 (x / 2 ^ 40) h40 h rfl]
        have := (tab_at (x / 2 ^ 40) (by rw [Lib.len8tab_size]; omega)).2
        omega
      · by_cases h32 : 2 ^ 32 ≤ x
        · rw [bit_more x 32 (x / 2 ^ 32) h32 h rfl]
          have := (tab_at (x / 2 ^ 32) (by rw [Lib.len8tab_size]; omega)).2
          omega
        · by_cases h24 : 2 ^ 24 ≤ x
          · rw [bit_more x 24 (x / 2 ^ 24) h24 h rfl]
            have := (tab_at (x / 2 ^ 24) (by rw [Lib.len8tab_size]; omega)).2
            omega
          · by_cases h16 : 2 ^ 16 ≤ x
            · rw [bit_more x 16 (x / 2 ^ 16) h16 h rfl]
              have := (tab_at (x / 2 ^ 16) (by rw [Lib.len8tab_size]; omega)).2
              omega
            · by_cases h8 : 2 ^ 8 ≤ x
              · rw [bit_more x 8 (x / 2 ^ 8) h8 h rfl]
                have := (tab_at (x / 2 ^ 8) (by rw [Lib.len8tab_size]; omega)).2
                omega
              · have := (tab_at x (by rw [Lib.len8tab_size]; omega)).2
                omega
theorem kOf_le (u : Int) (h1 : u < 18446744073709551616) : kOf u ≤ 8 := by
  unfold kOf
  have := bitLen_le u.toNat (by omega)
  omega

set_option maxHeartbeats 400000 in
theorem psize_any (u : Int) (w : World) (h0 : 0 ≤ u) (h1 : u < 18446744073709551616) :
    Calls Tryz.prog 62 #[.int .u64 u] w fun e w' => e = .returned (.int .i64 (sizeN u)) ∧ w = w' := by
  have hb := bitLen_le u.toNat (by omega)
  by_cases h : u ≤ 247
  · go_enter Tryz.func62, Tryz.ntmps62
    go_wp2
    go_ret
    exact ⟨by unfold sizeN; rw [if_pos h]; rfl, rfl⟩
  · go_enter Tryz.func62, Tryz.ntmps62
    go_wp2_with fail
    refine (len64_any u _ h0 (by omega)).mono ?_
    rintro e w1 ⟨rfl, rfl⟩
    go_wp2
    go_ret
    refine ⟨?_, rfl⟩
    unfold sizeN kOf
    rw [if_neg (show ¬ u ≤ 247 by omega)]
    refine congrArg Ending.returned (congrArg (Value.int IntKind.i64) ?_)
    omega



theorem info_byte : (Tryz.prog.info? 5).map (fun i => (i.zero, i.size, i.bytes)) = some (some (.int .u8 0), 1, 1) := by kernel_rfl

theorem BySl.ofOwn {S : Nat → Prop} {w : World} {base : Nat} {v : Value} {zs : List Int} (h : w.ownsRow base 5 1 v zs.length (zs.map (Value.int .u8))) (hz : IsBytes zs) (hS : ∀ k, base ≤ k → k < w.heap.size → ¬ S k) : BySl S w v zs := by
  refine ⟨hz, ?_⟩
  rcases h.2 with ⟨rfl, h0⟩ | ⟨g, cap, cur, rfl, hb, hg, hc, hm, hs, ht⟩
  · exact .inl ⟨⟨none, 0, rfl⟩, List.eq_nil_of_length_eq_zero h0⟩
  · refine .inr ⟨g, 0, cap, rfl, hc, hm, fun i hi => ?_, fun _ => hS g hb (Array.getElem?_eq_some_iff.1 hg).1⟩
    have := World.ownsRow.cells h (g := g) rfl i (.int .u8 (zs[i]?.getD 0)) (by rw [List.getElem?_map, List.getElem?_eq_getElem hi]; rfl)
    rw [Addr.add_lit] at this
    exact this

set_option maxRecDepth 100000 in
set_option maxHeartbeats 1000000 in
theorem clone_some (a : Addr) (c : Nat) (zs : List Int) (w : World) (hbig : zs.length ≤ 140737488355328) (hc : ∀ i, i < zs.length → w.cell? (a.add i) = some (.int .u8 (zs[i]?.getD 0))) :
    Calls Tryz.prog 49 #[.slice (some a) zs.length c] w fun e w' => ∃ v', e = .returned v' ∧ w'.ownsRow w.heap.size 5 1 v' zs.length (zs.map (Value.int .u8)) ∧ Kp Nb w w' := by
  obtain ⟨i0, hi, hz0, hz1, hz2⟩ := info_parts info_byte
  have q22 : ∀ (w : World) (a : Option Addr) (n c n' c' : Nat), (binOp .eql 40 (.slice a n c) (.slice none n' c')).run Tryz.prog w = .ok (.bool a.isNone) w := fun w a n c n' c' => Lib.run_eql_slice_nil w _ _ a n c n' c' Tryz.underlying40
  have A := hid hc
  clear hc
  go_enter Tryz.func49, Tryz.ntmps49
  go_wp2_with (at_builtin; refine wpList_append_own _ rfl _ _ 40 rfl w.heap.size 5 i0 (.int .u8 0) 1 1 Tryz.underlying40 hi hz0 hz1 hz2 rfl (by decide) _ _ _ rfl (World.ownsRow_made w #[] 0 (Nat.le_refl _) (Nat.zero_le _) rfl) a zs.length c (zs.map (Value.int .u8)) rfl ?qc1 ?qc2 ?qc3 ?qc4 ?qc5 ?qc6 ?_)
  case qc1 => simp
  case qc2 =>
    intro j u hj
    have hjn : j < zs.length := by
      have := (List.getElem?_eq_some_iff.1 hj).1
      simpa using this
    refine Lib.cell?_alloc_some _ ?_
    rw [A.out j hjn]
    rw [List.getElem?_map, List.getElem?_eq_getElem hjn] at hj
    rw [List.getElem?_eq_getElem hjn]
    exact hj
  case qc3 => intro u hu; obtain ⟨x, _, rfl⟩ := List.mem_map.1 hu; rfl
  case qc4 => unfold maxLen; omega
  case qc5 => omega
  case qc6 => simp
  intro v' w1 hown hgrow hnil
  go_wp2
  go_ret
  exact ⟨v', rfl, by simpa using hown, ((Kp.refl Nb w).alloc _).grown hgrow (fun k hk h => by simp [Value.ownBlock] at hk; omega)⟩

set_option maxHeartbeats 400000 in
theorem clone_nil (n c : Nat) (w : World) : Calls Tryz.prog 49 #[.slice none n c] w fun e w' => e = .returned (.slice none 0 0) ∧ w = w' := by
  have q22 : ∀ (w : World) (a : Option Addr) (n c n' c' : Nat), (binOp .eql 40 (.slice a n c) (.slice none n' c')).run Tryz.prog w = .ok (.bool a.isNone) w := fun w a n c n' c' => Lib.run_eql_slice_nil w _ _ a n c n' c' Tryz.underlying40
  go_enter Tryz.func49, Tryz.ntmps49
  go_wp2
  go_ret
  exact ⟨rfl, rfl⟩

theorem clone_any {S : Nat → Prop} (v : Value) (zs : List Int) (w : World) (h : BySl S w v zs) (hbig : zs.length ≤ 140737488355328) :
    Calls Tryz.prog 49 #[v] w fun e w' => ∃ v', e = .returned v' ∧ w'.ownsRow w.heap.size 5 1 v' zs.length (zs.map (Value.int .u8)) ∧ Kp Nb w w' := by
  obtain ⟨hz, ⟨⟨a, c, rfl⟩, rfl⟩ | ⟨blk, off, cap, rfl, hc, hm, hb, -⟩⟩ := h
  · cases a with
    | none =>
      refine (clone_nil 0 c w).mono ?_
      rintro e w' ⟨rfl, rfl⟩
      exact ⟨_, rfl, World.ownsRow_nil _ _ _ _, Kp.refl Nb w⟩
    | some a => exact clone_some a c [] w hbig (fun i hi => by simp at hi)
  · refine clone_some ⟨blk, off, none⟩ cap zs w hbig (fun i hi => ?_)
    have ea : Addr.add ⟨blk, off, none⟩ i = ⟨blk, off + i, none⟩ := by unfold Addr.add; split <;> simp_all
    rw [ea]
    exact hb i hi

/-- An eye at block B: the bytes that are left, its error. -/
def EyeAt (w : World) (B : Nat) (zs : List Int) (e : Int) : Prop := ∃ v, Blk w B 71 [v, .int .i64 e] ∧ BySl (Jb B) w v zs
theorem EyeAt.kept {S : Nat → Prop} {w w' : World} {B : Nat} {zs : List Int} {e : Int} (h : EyeAt w B zs e) (k : Kp S w w') (hS : ∀ i, i < w.heap.size → ¬ S i) : EyeAt w' B zs e := by
  obtain ⟨v, hb, hv⟩ := h
  have k' : Kp Nb w w' := k.mono (fun i hi h => hS i hi h)
  exact ⟨v, hb.kept k' (fun h => h), hv.kept k' (fun _ h => absurd h (fun h => h))⟩
theorem EyeAt.lt {w : World} {B : Nat} {zs : List Int} {e : Int} (h : EyeAt w B zs e) : B < w.heap.size := by obtain ⟨v, hb, _⟩ := h; exact hb.lt

def failS (zs : List Int) (e f : Int) : List Int := if e = 0 ∧ f ≠ 0 then [] else zs
def failE (e f : Int) : Int := if e = 0 ∧ f ≠ 0 then f else e

set_option maxHeartbeats 400000 in
theorem err_any (B : Nat) (zs : List Int) (e : Int) (w : World) (h : EyeAt w B zs e) :
    Calls Tryz.prog 35 #[.pointer (some ⟨B, 0, none⟩)] w fun r w' => r = .returned (.int .i64 e) ∧ w = w' := by
  obtain ⟨v, hb, -⟩ := h
  have c1 := hb.cell 1
  have c0 := hb.cell 0
  simp only [List.getElem?_cons_zero, List.getElem?_cons_succ] at c0 c1
  clear hb
  go_enter Tryz.func35, Tryz.ntmps35
  go_wp2
  go_ret
  exact ⟨rfl, rfl⟩

set_option maxHeartbeats 400000 in
theorem left_any (B : Nat) (zs : List Int) (e : Int) (w : World) (h : EyeAt w B zs e) :
    Calls Tryz.prog 36 #[.pointer (some ⟨B, 0, none⟩)] w fun r w' => r = .returned (.int .i64 zs.length) ∧ w = w' := by
  obtain ⟨v, hb, hv⟩ := h
  obtain ⟨a, c, rfl⟩ : ∃ a c, v = .slice a zs.length c := by
    rcases hv.2 with ⟨⟨a, c, rfl⟩, rfl⟩ | ⟨blk, off, cap, rfl, -⟩
    · exact ⟨a, c, rfl⟩
    · exact ⟨_, _, rfl⟩
  have c0 := hb.cell 0
  simp only [List.getElem?_cons_zero] at c0
  clear hb hv
  go_enter Tryz.func36, Tryz.ntmps36
  go_wp2
  go_ret
  exact ⟨rfl, rfl⟩

set_option maxHeartbeats 400000 in
theorem fail_any (B : Nat) (zs : List Int) (e f : Int) (w : World) (h : EyeAt w B zs e) :
    Calls Tryz.prog 51 #[.pointer (some ⟨B, 0, none⟩), .int .i64 f] w fun r w' => r = .returned (.tuple #[]) ∧ EyeAt w' B (failS zs e f) (failE e f) ∧ Kp (Jb B) w w' := by
  obtain ⟨v, hb, hv⟩ := h
  have c1 := hb.cell 1
  have c0 := hb.cell 0
  simp only [List.getElem?_cons_zero, List.getElem?_cons_succ] at c0 c1
  have f0 := hb.frozen 0
  have f1 := hb.frozen 1
  have HB := hid hb
  have HV := hid hv
  clear hb hv
  by_cases h0 : e = 0
  · by_cases h1 : f = 0
    · have HN := hid (show ¬ (e = 0 ∧ f ≠ 0) by omega)
      have g1 : (f != 0) = false := by rw [bne_eq_false_iff_eq]; exact h1
      subst h0
      go_enter Tryz.func51, Tryz.ntmps51
      go_wp2
      go_end0
      exact ⟨rfl, by simp only [failS, failE, ne_eq, not_true_eq_false, and_false, if_false]; exact ⟨v, HB.out, HV.out⟩, Kp.refl _ _⟩
    · have HN := hid (show (e = 0 ∧ f ≠ 0) from ⟨h0, h1⟩)
      have g1 : (f != 0) = true := by rw [bne_iff_ne]; exact h1
      subst h0
      go_enter Tryz.func51, Tryz.ntmps51
      go_wp2
      go_end0
      refine ⟨rfl, ?_, ((Kp.refl (Jb B) w).set 1 _).set 0 _⟩
      have hf := HN.out.2
      simp only [failS, failE, ne_eq, hf, not_false_eq_true, and_true, if_true]
      exact ⟨.slice none 0 0, (HB.out.set 1 (.int .i64 f)).set 0 (.slice none 0 0), fun i => by simp, .inl ⟨⟨none, 0, rfl⟩, rfl⟩⟩
  · have HN := hid (show ¬ (e = 0 ∧ f ≠ 0) by omega)
    have g1 : (e == 0) = false := by rw [beq_eq_false_iff_ne]; exact h0
    go_enter Tryz.func51, Tryz.ntmps51
    go_wp2
    go_end0
    exact ⟨rfl, by unfold failS failE; rw [if_neg HN.out, if_neg HN.out]; exact ⟨v, HB.out, HV.out⟩, Kp.refl _ _⟩

def endE (zs : List Int) (e : Int) : Int := if zs = [] then e else failE e 13
def endS (zs : List Int) (e : Int) : List Int := if zs = [] then zs else failS zs e 13


end Go.Proofs.YtbbfibgijackhaaGreatDoor
