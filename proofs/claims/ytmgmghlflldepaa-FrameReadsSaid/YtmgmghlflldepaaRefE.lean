/-
  Walks of the document's own mark for layer 1: Eight, Mark. Condition: fewer than 2^62 bytes.
-/
import Derived.Test.YtmgmghlflldepaaRefH
import Derived.Test.YtmgmghlflldepaaRefB
namespace Go.Proofs.Ytmgmghlflldepaa
open Go.RowKit

theorem bits_range (o : BinOp) (a b : Int) (h : o = .xor) : 0 ≤ bits o .u64 a b ∧ bits o .u64 a b < 18446744073709551616 := by
  subst h
  unfold bits
  show 0 ≤ IntKind.u64.wrap _ ∧ IntKind.u64.wrap _ < _
  rw [IntKind.wrap_u64]
  omega
theorem hash_range (a b : Int) (zs : List Int) : 0 ≤ hash a b zs ∧ hash a b zs < 18446744073709551616 := bits_range .xor _ _ rfl

def eightOf (x : Int) : List Int := (List.range 8).map (byteOf x)
def EightR (x : Int) (w : World) (v s i : Value) (wr : World) : Prop :=
  ∃ k : Nat, k ≤ 8 ∧ i = .int .i64 k ∧ v = .int .u64 (x / 2 ^ (8 * k)) ∧ s = .string (st ((eightOf x).drop (8 - k))) ∧ Hid (Kp Nb w wr)

theorem eight_step (x : Int) : ∀ k, k < 8 → (eightOf x).drop (8 - (k + 1)) = (x / 2 ^ (8 * k) % 256) :: (eightOf x).drop (8 - k)
  | 0, _ => rfl | 1, _ => rfl | 2, _ => rfl | 3, _ => rfl | 4, _ => rfl | 5, _ => rfl | 6, _ => rfl | 7, _ => rfl

set_option maxRecDepth 100000 in
set_option maxHeartbeats 400000 in
theorem ref_eight (x : Int) (w : World) (h0 : 0 ≤ x) (h1 : x < 18446744073709551616) :
    Calls Try.prog 20 #[.int .u64 x] w fun e w' => e = .returned (.string (st (eightOf x))) ∧ Kp Nb w w' := by
  have H0 := hid h0
  have H1 := hid h1
  clear h0 h1
  go_enter Try.func20, Try.ntmps20
  go_wp2_with fail
  go_loopw [0, 3, 4] (EightR x w) (fun _ _ i _ => 8 - (intOf i).toNat)
  case atStart => exact ⟨0, Nat.zero_le _, rfl, by simp, rfl, Kp.refl Nb w⟩
  case round =>
    obtain ⟨k, hk, rfl, rfl, rfl, hkp⟩ := hrel
    by_cases hlt : k < 8
    · obtain ⟨X, hX⟩ : ∃ X, X = x / 2 ^ (8 * k) := ⟨_, rfl⟩
      have hX0 : 0 ≤ X := by rw [hX]; exact Int.ediv_nonneg H0.out (Int.pow_nonneg (by decide))
      have hX1 : X < 18446744073709551616 := by
        have h2 : x / 2 ^ (8 * k) ≤ x := Int.ediv_le_self _ H0.out
        have := H1.out
        omega
      have hn : X / 256 = x / 2 ^ (8 * (k + 1)) := by
        rw [hX, Int.ediv_ediv_of_nonneg (Int.pow_nonneg (by decide)), show (2 : Int) ^ (8 * (k + 1)) = 2 ^ (8 * k) * 256 from by rw [show 8 * (k + 1) = 8 * k + 8 from by omega, Int.pow_add]; rfl]
      have hs := eight_step x k hlt
      rw [← hX] at hs ⊢
      have hc := conv_one wr (X % 256) (by omega) (by omega)
      obtain ⟨S, hS⟩ : ∃ S, S = st ((eightOf x).drop (8 - k)) := ⟨_, rfl⟩
      have hSz : S.size ≤ 8 := by rw [hS, st_size, List.length_drop]; unfold eightOf; simp
      have hSt : Hid (st [X % 256] ++ S = st ((eightOf x).drop (8 - (k + 1)))) := by rw [hs, hS]; unfold Hid; rw [← st_append]; rfl
      have g2 : ¬ (9223372036854775807 < (st [X % 256]).size + S.size) := by rw [st_size]; simp only [List.length_cons, List.length_nil]; omega
      rw [← hS]
      have HR := hid (show EightR x w (.int .u64 (X / 256)) (.string (st [X % 256] ++ S)) (.int .i64 ((k : Int) + 1)) (wr.alloc (.cells #[.int .u8 (X % 256)] 5)) from
        ⟨k + 1, by omega, by go_num, by rw [hn], by rw [hSt.out], hkp.out.alloc _⟩)
      clear hX hn hs hS hSt
      go_wp2
      exact ⟨HR.out, by simp [intOf]; omega⟩
    · obtain rfl : k = 8 := by omega
      go_wp2
      go_ret
      exact ⟨rfl, hkp.out⟩

def tCells (T : List Int) (k : Nat) : List Value := (T.take k ++ List.replicate (16 - k) 0).map (Value.int .u8)
theorem tCells_succ (T : List Int) (hT : T.length = 16) (k : Nat) (hk : k < 16) : (tCells T k).set k (.int .u8 (T[k]?.getD 0)) = tCells T (k + 1) := by
  unfold tCells
  rw [← List.map_set, List.set_append_right _ _ (by rw [List.length_take]; omega), List.length_take, Nat.min_eq_left (by omega), Nat.sub_self, show 16 - k = (16 - (k + 1)) + 1 from by omega, List.replicate_succ, List.set_cons_zero, take_snoc T k (by omega), List.append_assoc]
  rfl
theorem tCells_get (T : List Int) (hT : T.length = 16) (k : Nat) (hk : k < 16) : ∃ u, (tCells T k)[k]? = some u := by
  have : k < (tCells T k).length := by unfold tCells; simp; omega
  exact ⟨_, List.getElem?_eq_getElem this⟩
theorem eightOf_bytes (x : Int) : IsBytes (eightOf x) := by
  refine IsBytes.of fun z hz => ?_
  unfold eightOf at hz
  obtain ⟨i, _, rfl⟩ := List.mem_map.1 hz
  unfold byteOf
  omega
theorem eightOf_length (x : Int) : (eightOf x).length = 8 := by unfold eightOf; simp


end Go.Proofs.Ytmgmghlflldepaa
