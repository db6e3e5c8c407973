/-
  For the statements of layer 1 against the document's own answer: bytes as a string (st), string(b) of a slice of bytes, and joined (lists of bytes as one string). No condition but that the bytes are fewer than 2^62.
-/
import Derived.Test.YtfbpaakgifnmaaaSipF
import Derived.Laws.IdiomStrings
namespace Go.Proofs.Ytfbpaakgifnmaaa
open Go.RowKit

def st (zs : List Int) : ByteArray := ⟨(zs.map fun z => UInt8.ofNat z.toNat).toArray⟩

theorem st_size (zs : List Int) : (st zs).size = zs.length := by simp [st, ByteArray.size]
theorem st_append (xs ys : List Int) : st (xs ++ ys) = st xs ++ st ys := by
  apply ByteArray.ext
  simp [st, ByteArray.data_append]

theorem conv_any {w : World} {v : Value} {zs : List Int} {S : Nat → Prop} (h : BySl S w v zs) : (convert 42 9 v).run Try.prog w = .ok (.string (st zs)) w := by
  obtain ⟨hz, ⟨⟨a, cap, rfl⟩, rfl⟩ | ⟨blk, off, cap, rfl, hc, hm, hb, _⟩⟩ := h
  · cases a with
    | none =>
      rw [run_convert_bytes_string w 42 9 5 none 0 cap Try.underlying42 Try.underlying5 Try.underlying9]
      simp [Conv.bytesToString, go_sem, st]
      rfl
    | some a => exact run_convert_bytes_back (P := Try.prog) w 42 9 5 a cap [] Try.underlying42 Try.underlying5 Try.underlying9 (fun j hj => by simp at hj)
  · have := run_convert_bytes_back (P := Try.prog) w 42 9 5 ⟨blk, off, none⟩ cap (zs.map fun z => UInt8.ofNat z.toNat) Try.underlying42 Try.underlying5 Try.underlying9 (fun j hj => by
      have hj' : j < zs.length := by simpa using hj
      have e := hb j hj'
      have r := hz j
      rw [List.getElem?_eq_getElem hj'] at e r
      simp only [Option.getD_some] at e r
      have ea : Addr.add ⟨blk, off, none⟩ j = ⟨blk, off + j, none⟩ := by unfold Addr.add; split <;> simp_all
      rw [ea, e]
      congr 2
      simp only [List.getElem_map, UInt8.toNat_ofNat']
      omega)
    rw [List.length_map] at this
    exact this

def JoinR (ps : List (List Int)) (s i : Value) : Prop := ∃ k : Nat, k ≤ ps.length ∧ i = .int .i64 k ∧ s = .string (st (ps.take k).flatten)

set_option maxRecDepth 100000 in
set_option maxHeartbeats 400000 in
theorem joined_some (blk off cap : Nat) (ps : List (List Int)) (w : World) (hc : ps.length ≤ cap) (hm : cap ≤ maxLen) (hp : ∀ i, i < ps.length → ∃ u, w.cell? ⟨blk, off + i, none⟩ = some u ∧ BySl Nb w u (ps[i]?.getD [])) (hsz : ps.flatten.length < 4611686018427387904) :
    Calls Try.prog 14 #[.slice (some ⟨blk, off, none⟩) ps.length cap] w fun e w' => e = .returned (.string (st ps.flatten)) ∧ w = w' := by
  have HP := hid hp
  have HZ := hid hsz
  unfold maxLen at hm
  clear hp hsz
  go_enter Try.func14, Try.ntmps14
  go_wp2
  go_loop [3, 8] (JoinR ps) (fun _ i => ps.length - (intOf i).toNat)
  case atStart => exact ⟨0, Nat.zero_le _, rfl, rfl⟩
  case round =>
    obtain ⟨k, hk, rfl, rfl⟩ := hrel
    by_cases hlt : k < ps.length
    · obtain ⟨u, hu, hbs⟩ := HP.out k hlt
      have hfl := flat_le ps (k + 1)
      rw [flat_snoc ps k hlt, List.length_append] at hfl
      have hfe := flat_snoc ps k hlt
      obtain ⟨zk, hzk⟩ : ∃ zk, ps[k]?.getD [] = zk := ⟨_, rfl⟩
      rw [hzk] at hbs hfl hfe
      have hcv := conv_any hbs
      have hsum : ¬ (9223372036854775807 < (st (ps.take k).flatten).size + (st zk).size) := by rw [st_size, st_size]; have := HZ.out; omega
      have HR := hid (show JoinR ps (.string (st (ps.take k).flatten ++ st zk)) (.int .i64 ((k : Int) + 1)) from ⟨k + 1, by omega, by go_num, by rw [hfe, st_append]⟩)
      clear hbs hfl hfe hzk
      go_wp2
      go_round
      case rel => exact HR.out
      case measure => simp [intOf]; omega
    · obtain rfl : k = ps.length := by omega
      rw [List.take_length]
      go_wp2
      go_ret
      exact ⟨rfl, rfl⟩

set_option maxRecDepth 100000 in
set_option maxHeartbeats 400000 in
theorem joined_nil (x : Option Addr) (cap : Nat) (w : World) :
    Calls Try.prog 14 #[.slice x 0 cap] w fun e w' => e = .returned (.string (st [])) ∧ w = w' := by
  go_enter Try.func14, Try.ntmps14
  go_wp2
  refine wp_loop_rounds 1 ?_
  rw [rounds_succ]
  go_wp2
  go_ret
  exact ⟨rfl, rfl⟩

theorem joined_any (v : Value) (ps : List (List Int)) (w : World) (hp : PsSl w v ps) (hsz : ps.flatten.length < 4611686018427387904) :
    Calls Try.prog 14 #[v] w fun e w' => e = .returned (.string (st ps.flatten)) ∧ w = w' := by
  rcases hp with ⟨⟨a, cap, rfl⟩, rfl⟩ | ⟨blk, off, cap, rfl, hc, hm, h⟩
  · exact joined_nil a cap w
  · exact joined_some blk off cap ps w hc hm h hsz

end Go.Proofs.Ytfbpaakgifnmaaa
