/-
  Walks of the statements of layer 1: great, first. No condition but that lists are shorter than 2^62.
-/
import Derived.Test.YtfbpaakgifnmaaaSipE
import Derived.Lib.SlBytesConst
import Derived.Test.YtfbpaakgifnmaaaMark
namespace Go.Proofs.Ytfbpaakgifnmaaa
open Go.RowKit

def flen (ps : List (List Int)) (k : Nat) : Nat := (ps.take k).flatten.length
def bulk (ps : List (List Int)) : Nat := ps.length + ps.flatten.length
def GreatR (ps : List (List Int)) (n i : Value) : Prop := ∃ k : Nat, k ≤ ps.length ∧ i = .int .i64 k ∧ n = .int .i64 ((k : Int) + (flen ps k : Int)) ∧ Hid (k + flen ps k ≤ 3000)

theorem bulk_le (ps : List (List Int)) (k : Nat) (h : k ≤ ps.length) : k + flen ps k ≤ bulk ps := by
  have := flat_le ps k
  unfold bulk flen; omega
theorem bulk_all (ps : List (List Int)) : ps.length + flen ps ps.length = bulk ps := by unfold bulk flen; rw [List.take_length]
theorem flen_succ (ps : List (List Int)) (k : Nat) (h : k < ps.length) : flen ps (k + 1) = flen ps k + (ps[k]?.getD []).length := by unfold flen; rw [flat_snoc ps k h, List.length_append]

set_option maxRecDepth 100000 in
set_option maxHeartbeats 400000 in
theorem great_some (blk off cap : Nat) (ps : List (List Int)) (w : World) (hc : ps.length ≤ cap) (hm : cap ≤ maxLen) (hp : ∀ i, i < ps.length → ∃ u, w.cell? ⟨blk, off + i, none⟩ = some u ∧ BySl Nb w u (ps[i]?.getD [])) (hz : ∀ i, i < ps.length → (ps[i]?.getD []).length < 4611686018427387904) :
    Calls Try.prog 13 #[.slice (some ⟨blk, off, none⟩) ps.length cap] w fun e w' => e = .returned (.bool (decide (3000 < bulk ps))) ∧ w = w' := by
  have HP := hid hp
  have HZ := hid hz
  unfold maxLen at hm
  clear hp hz
  go_enter Try.func13, Try.ntmps13
  go_wp2
  go_loop [3, 8] (GreatR ps) (fun _ i => ps.length - (intOf i).toNat)
  case atStart => exact ⟨0, Nat.zero_le _, rfl, rfl, Nat.zero_le _⟩
  case round =>
    obtain ⟨k, hk, rfl, rfl, hn⟩ := hrel
    by_cases hlt : k < ps.length
    · obtain ⟨u, hu, hbs⟩ := HP.out k hlt
      have hlen := HZ.out k hlt
      have hfl := flen_succ ps k hlt
      have hle := bulk_le ps (k + 1) (by omega)
      rw [hfl] at hle
      have hn' := hn.out
      obtain ⟨F, hF⟩ : ∃ F, F = flen ps k := ⟨_, rfl⟩
      obtain ⟨L, hL⟩ : ∃ L, L = (ps[k]?.getD []).length := ⟨_, rfl⟩
      rw [← hF, ← hL] at hle hfl
      rw [← hF] at hn'
      rw [← hL] at hlen
      rw [← hF]
      have hu2 : ∃ a c, u = .slice a L c := by
        rcases hbs.2 with ⟨⟨a, cap, rfl⟩, h0⟩ | ⟨blk, off, cap, rfl, -⟩
        · exact ⟨a, cap, by rw [hL, h0]; rfl⟩
        · exact ⟨_, _, by rw [hL]⟩
      obtain ⟨a, c, rfl⟩ := hu2
      have HF := hid hF
      have HFL := hid hfl
      have HLE := hid hle
      clear hbs hfl hF hL hle hn
      by_cases h3 : 3000 < F + L + k + 1
      · have g : (3000 : Int) < (k : Int) + (F : Int) + (1 + (L : Int)) := by omega
        go_wp2
        go_ret
        exact ⟨by simp; have := HLE.out; omega, rfl⟩
      · have g : ¬ (3000 : Int) < (k : Int) + (F : Int) + (1 + (L : Int)) := by omega
        have HR := hid (show GreatR ps (.int .i64 ((k : Int) + F + (1 + (L : Int)))) (.int .i64 ((k : Int) + 1)) from ⟨k + 1, by omega, by go_num, by rw [HFL.out]; congr 1; push_cast; omega, by unfold Hid; rw [HFL.out]; omega⟩)
        go_wp2
        exact ⟨HR.out, by simp [intOf]; omega⟩
    · obtain rfl : k = ps.length := by omega
      have hn' := hn.out
      have hb := bulk_all ps
      have HB := hid (show decide (3000 < bulk ps) = false by simp; omega)
      clear hn' hb
      go_wp2
      go_ret
      exact ⟨by rw [HB.out]; rfl, rfl⟩

theorem great_any (v : Value) (ps : List (List Int)) (w : World) (hp : PsSl w v ps) (hz : ∀ i, i < ps.length → (ps[i]?.getD []).length < 4611686018427387904) :
    Calls Try.prog 13 #[v] w fun e w' => e = .returned (.bool (decide (3000 < bulk ps))) ∧ w = w' := by
  rcases hp with ⟨⟨x, cap, rfl⟩, rfl⟩ | ⟨blk, off, cap, rfl, hc, hm, hp⟩
  · go_enter Try.func13, Try.ntmps13
    go_wp2
    refine wp_loop_rounds 1 ?_
    rw [rounds_succ]
    go_wp2
    go_ret
    exact ⟨rfl, rfl⟩
  · exact great_some blk off cap ps w hc hm hp hz

theorem IsBytes.of {zs : List Int} (h : ∀ z ∈ zs, 0 ≤ z ∧ z < 256) : IsBytes zs := by
  intro i
  by_cases hi : i < zs.length
  · rw [List.getElem?_eq_getElem hi]; exact h _ (List.getElem_mem hi)
  · rw [List.getElem?_eq_none (by omega)]; exact ⟨by decide, by decide⟩
theorem BySl.lit (w : World) (t : TypeId) (zs : List Int) (hz : ∀ z ∈ zs, 0 ≤ z ∧ z < 256) (hm : zs.length ≤ maxLen) (S : Nat → Prop) (hn : ¬ S w.heap.size) :
    BySl S (w.alloc (.cells (zs.map (Value.int .u8)).toArray t)) (.slice (some ⟨w.heap.size, 0, none⟩) zs.length zs.length) zs := by
  refine ⟨IsBytes.of hz, .inr ⟨_, _, _, rfl, Nat.le_refl _, hm, fun i hi => ?_, fun _ => hn⟩⟩
  rw [Nat.zero_add, (Blk.new w t (zs.map (Value.int .u8))).cell i, List.getElem?_map, List.getElem?_eq_getElem hi]
  rfl

theorem BySl.constant (w : World) (t : TypeId) (z : Int) (hz : 0 ≤ z ∧ z < 256) (fr : Nat × Nat) : BySl Nb (w.alloc (.cells #[.int .u8 z] t fr)) (.slice (some ⟨w.heap.size, 0, none⟩) 1 1) [z] := by
  refine ⟨IsBytes.of (by simpa using hz), .inr ⟨_, _, _, rfl, Nat.le_refl _, by decide, fun i hi => ?_, fun _ h => h⟩⟩
  have : i = 0 := by simp at hi; omega
  subst this
  have hb : (w.alloc (.cells #[.int .u8 z] t fr)).heap[w.heap.size]? = some (.cells #[.int .u8 z] t fr) := heap_alloc_new w _
  unfold World.cell?
  rw [hb]
  rfl
theorem PsSl.one {w : World} {v : Value} {zs : List Int} (h : BySl Nb w v zs) (t : TypeId) : PsSl (w.alloc (.cells #[v] t)) (.slice (some ⟨w.heap.size, 0, none⟩) 1 1) [zs] := by
  refine .inr ⟨_, _, _, rfl, Nat.le_refl _, by decide, fun i hi => ⟨v, ?_, ?_⟩⟩
  · have : i = 0 := by simp at hi; omega
    subst this
    exact World.cell?_alloc_new w #[v] t 0
  · have : i = 0 := by simp at hi; omega
    subst this
    exact h.kept ((Kp.refl Nb w).alloc _) (fun _ h => h)

theorem first_hash : hash 506097522914230528 1084818905618843912 [] = 8246050544436514353 := by kernel_rfl
def firstSp : Sp := ((Sp.init 506097522914230528 1084818905618843912).write [0, 1, 2, 3, 4, 5, 6]).write [7, 8, 9, 10, 11, 12, 13, 14]
theorem first_sum : firstSp.sum = 11613035633349379557 := by kernel_rfl
theorem first_len : firstSp.n = 15 := by kernel_rfl
theorem first_seedA : seedA 3 = 3 := by kernel_rfl
theorem first_seedB : seedB 3 = 18446744073709551612 := by kernel_rfl
theorem first_mark : markVal (markA [97]) (markB [97]) = .agg #[.int .u8 42, .int .u8 146, .int .u8 3, .int .u8 220, .int .u8 188, .int .u8 64, .int .u8 41, .int .u8 35, .int .u8 190, .int .u8 6, .int .u8 240, .int .u8 177, .int .u8 186, .int .u8 46, .int .u8 185, .int .u8 191] := by
  have h : markList (markA [97]) (markB [97]) 8 = [42, 146, 3, 220, 188, 64, 41, 35, 190, 6, 240, 177, 186, 46, 185, 191] := by kernel_rfl
  unfold markVal markCells
  rw [h]; rfl

theorem hash_first (w : World) : Calls Try.prog 15 #[.agg #[.int .u64 506097522914230528, .int .u64 1084818905618843912], .slice none 0 0] w fun e w' => e = .returned (.int .u64 8246050544436514353) ∧ Kp Nb w w' := by
  have h := hash_nil 506097522914230528 1084818905618843912 none 0 w
  rw [first_hash] at h
  exact h
theorem sum_first (B : Nat) (w : World) (hs : SipAt w B firstSp) : Calls Try.prog 24 #[.pointer (some ⟨B, 0, none⟩)] w fun e w' => e = .returned (.int .u64 11613035633349379557) ∧ Kp Nb w w' := by
  have h := sum_any B firstSp w hs (by rw [first_len]; decide)
  rw [first_sum] at h
  exact h
theorem seed_first (w : World) : Calls Try.prog 19 #[.int .i64 3] w fun e w' => e = .returned (.agg #[.int .u64 3, .int .u64 18446744073709551612]) ∧ Kp Nb w w' := by
  have h := seed_any 3 w
  rw [first_seedA, first_seedB] at h
  exact h
set_option maxHeartbeats 400000 in
theorem len_any (B : Nat) (s : Sp) (w : World) (hs : SipAt w B s) : Calls Try.prog 25 #[.pointer (some ⟨B, 0, none⟩)] w fun e w' => e = .returned (.int .i64 s.n) ∧ w = w' := by
  obtain ⟨-, -, -, -, -, c5, -⟩ := hs.facts
  clear hs
  go_enter Try.func25, Try.ntmps25
  go_wp2
  go_ret
  exact ⟨rfl, rfl⟩
theorem len_first (B : Nat) (w : World) (hs : SipAt w B firstSp) : Calls Try.prog 25 #[.pointer (some ⟨B, 0, none⟩)] w fun e w' => e = .returned (.int .i64 15) ∧ w = w' := by
  have h := len_any B firstSp w hs
  rw [first_len] at h
  exact h
/-- A list of one list of bytes, both new. -/
theorem mark_first (w : World) (B : Nat) (h : PsSl w (.slice (some ⟨B, 0, none⟩) 1 1) [[97]]) : Calls Try.prog 17 #[.slice (some ⟨B, 0, none⟩) 1 1] w fun e w' => e = .returned (.agg #[.int .u8 42, .int .u8 146, .int .u8 3, .int .u8 220, .int .u8 188, .int .u8 64, .int .u8 41, .int .u8 35, .int .u8 190, .int .u8 6, .int .u8 240, .int .u8 177, .int .u8 186, .int .u8 46, .int .u8 185, .int .u8 191]) ∧ Kp Nb w w' := by
  have h := mark_any _ [[97]] w h (by decide)
  rw [show ([[97]] : List (List Int)).flatten = [97] from rfl, first_mark] at h
  exact h

set_option maxRecDepth 100000 in
set_option maxHeartbeats 400000 in
theorem first_any (w : World) : Calls Try.prog 12 #[] w fun e w' => e = .returned (.bool true) ∧ Kp Nb w w' := by
  have hme : ∀ w : World, Sem.run Try.prog (Op.equalIn 10000 32 (Value.agg #[Value.int .u8 42, Value.int .u8 146, Value.int .u8 3, Value.int .u8 220, Value.int .u8 188, Value.int .u8 64, Value.int .u8 41, Value.int .u8 35, Value.int .u8 190, Value.int .u8 6, Value.int .u8 240, Value.int .u8 177, Value.int .u8 186, Value.int .u8 46, Value.int .u8 185, Value.int .u8 191]) (Value.agg #[Value.int .u8 0, Value.int .u8 0, Value.int .u8 0, Value.int .u8 0, Value.int .u8 0, Value.int .u8 0, Value.int .u8 0, Value.int .u8 0, Value.int .u8 0, Value.int .u8 0, Value.int .u8 0, Value.int .u8 0, Value.int .u8 0, Value.int .u8 0, Value.int .u8 0, Value.int .u8 0])) w = .ok false w := fun w => run_mark_eq [42, 146, 3, 220, 188, 64, 41, 35, 190, 6, 240, 177, 186, 46, 185, 191] [0, 0, 0, 0, 0, 0, 0, 0, 0, 0, 0, 0, 0, 0, 0, 0] rfl rfl w
  have kc := fun (w : World) (C : Array Value) (n c : Nat) => Lib.run_convert_bytes_const (P := Try.prog) w 42 5 C n c Try.underlying42 Try.underlying5
  go_enter Try.func12, Try.ntmps12
  go_wp2_with fail
  refine (new_any _ _ _).mono ?_
  rintro e w1 ⟨B, hB, rfl, h1, k1⟩
  have hB' : w.heap.size + 1 ≤ B := by simpa using hB
  have K1 := hid (((Kp.refl Nb w).alloc _).trans k1 (fun _ _ h => h))
  have H1 := hid h1
  have HB1 := hid h1.lt
  have b0 := hid ((Blk.new w 24 [.int .u64 506097522914230528, .int .u64 1084818905618843912]).kept k1 (fun h => h))
  clear h1 k1 hB
  go_wp2_with fail
  refine (write_any B _ _ [0, 1, 2, 3, 4, 5, 6] _ (Blk.alloc H1.out _) (Sp.init_ok _ _) (by decide) (BySl.lit w1 5 [0, 1, 2, 3, 4, 5, 6] (by decide) (by decide) (Jb B) (by have := HB1.out; unfold Jb; omega))).mono ?_
  rintro e w2 ⟨rfl, h2, k2⟩
  have K2 := hid ((K1.out.alloc _).trans k2 (fun i hi h => by unfold Jb at h; omega))
  have H2 := hid h2
  have HB2 := hid h2.lt
  have b2 := hid ((Blk.alloc b0.out _).kept k2 (fun h => by unfold Jb at h; omega))
  clear h2 k2
  go_wp2_with fail
  refine (write_any B _ _ [7, 8, 9, 10, 11, 12, 13, 14] _ (Blk.alloc H2.out _) (Sp.write_ok _ _ (Sp.init_ok _ _)) (by rw [Sp.write_n]; decide) (BySl.lit w2 5 [7, 8, 9, 10, 11, 12, 13, 14] (by decide) (by decide) (Jb B) (by have := HB2.out; unfold Jb; omega))).mono ?_
  rintro e w3 ⟨rfl, h3, k3⟩
  have K3 := hid ((K2.out.alloc _).trans k3 (fun i hi h => by unfold Jb at h; omega))
  have H3 := hid (show SipAt w3 B firstSp from h3)
  have b3 := hid ((Blk.alloc b2.out _).kept k3 (fun h => by unfold Jb at h; omega))
  have d0 := b3.out.cell 0
  have d1 := b3.out.cell 1
  clear h3 k3
  go_wp2_with fail
  refine (hash_first _).mono ?_
  rintro e w4 ⟨rfl, k4⟩
  have K4 := hid k4
  clear k4
  go_wp2_with fail
  refine (sum_first B _ (H3.out.kept K4.out (fun h => h))).mono ?_
  rintro e w5 ⟨rfl, k5⟩
  have K5 := hid (K4.out.trans k5 (fun _ _ h => h))
  clear k5
  go_wp2_with fail
  refine (len_first B _ (H3.out.kept K5.out (fun h => h))).mono ?_
  rintro e w6 ⟨rfl, rfl⟩
  go_wp2_with fail
  refine (seed_first _).mono ?_
  rintro e w7 ⟨rfl, k7⟩
  have K7 := hid (K5.out.trans k7 (fun _ _ h => h))
  clear k7
  go_wp2_with fail
  refine (mark_first _ _ (by have := PsSl.one (BySl.constant w7 5 97 (by decide) (1, 2)) 42; rw [World.size_alloc] at this; exact this)).mono ?_
  rintro e w8 ⟨rfl, k8⟩
  have K8 := hid (((K7.out.alloc _).alloc _).trans k8 (fun _ _ h => h))
  clear k8
  go_wp2
  go_ret
  exact ⟨rfl, K3.out.trans K8.out (fun _ _ h => h)⟩

end Go.Proofs.Ytfbpaakgifnmaaa
