/-
  Lists of bytes as strings: which stands ahead. Plain facts. No condition.
-/
import Derived.Test.YtmgmghlflldepaaJoined
import Derived.Test.YtmgmghlflldepaaRefP
namespace Go.Proofs.Ytmgmghlflldepaa
open Go.RowKit

/-- Which list of bytes stands ahead. -/
def lexI : List Int → List Int → Bool
  | _, [] => false
  | [], _ :: _ => true
  | a :: x, b :: y => decide (a < b) || (a == b && lexI x y)

theorem st_list (xs : List Int) : (st xs).toList = xs.map fun z => UInt8.ofNat z.toNat := ByteArray.toList_mk _
theorem byte_lt (a b : Int) (ha : 0 ≤ a ∧ a < 256) (hb : 0 ≤ b ∧ b < 256) : (UInt8.ofNat a.toNat < UInt8.ofNat b.toNat) ↔ a < b := by
  rw [UInt8.lt_iff_toNat_lt, UInt8.toNat_ofNat', UInt8.toNat_ofNat']
  omega
theorem byte_eq (a b : Int) (ha : 0 ≤ a ∧ a < 256) (hb : 0 ≤ b ∧ b < 256) : (UInt8.ofNat a.toNat = UInt8.ofNat b.toNat) ↔ a = b := by
  rw [← UInt8.toNat_inj, UInt8.toNat_ofNat', UInt8.toNat_ofNat']
  omega
theorem lex_st : ∀ (xs ys : List Int), IsBytes xs → IsBytes ys → Op.bytesLess (xs.map fun z => UInt8.ofNat z.toNat) (ys.map fun z => UInt8.ofNat z.toNat) = lexI xs ys
  | [], [], _, _ => rfl
  | [], _ :: _, _, _ => rfl
  | _ :: _, [], _, _ => rfl
  | a :: x, b :: y, hx, hy => by
    have ih := lex_st x y hx.tail hy.tail
    have e1 := byte_lt a b hx.head hy.head
    have e2 := byte_eq a b hx.head hy.head
    show (decide (UInt8.ofNat a.toNat < UInt8.ofNat b.toNat) || (UInt8.ofNat a.toNat == UInt8.ofNat b.toNat && Op.bytesLess _ _)) = (decide (a < b) || (a == b && lexI x y))
    rw [ih, decide_eq_decide.2 e1]
    congr 2
    rw [Bool.eq_iff_iff, beq_iff_eq, beq_iff_eq]
    exact e2
theorem st_lt (xs ys : List Int) (hx : IsBytes xs) (hy : IsBytes ys) : Op.bytesLess (st xs).toList (st ys).toList = lexI xs ys := by rw [st_list, st_list]; exact lex_st xs ys hx hy
theorem map_eq : ∀ (xs ys : List Int), IsBytes xs → IsBytes ys → (xs.map (fun z => UInt8.ofNat z.toNat) = ys.map (fun z => UInt8.ofNat z.toNat)) → xs = ys
  | [], [], _, _, _ => rfl
  | [], _ :: _, _, _, h => by simp at h
  | _ :: _, [], _, _, h => by simp at h
  | a :: x, b :: y, hx, hy, h => by
    rw [List.map_cons, List.map_cons, List.cons.injEq] at h
    rw [(byte_eq a b hx.head hy.head).1 h.1, map_eq x y hx.tail hy.tail h.2]
theorem st_beq (xs ys : List Int) (hx : IsBytes xs) (hy : IsBytes ys) : ((st xs).toList == (st ys).toList) = decide (xs = ys) := by
  rw [st_list, st_list]
  by_cases h : xs = ys
  · subst h; simp
  · rw [decide_eq_false h, beq_eq_false_iff_ne]
    exact fun e => h (map_eq xs ys hx hy e)
theorem lexI_irrefl : ∀ (x : List Int), lexI x x = false
  | [] => rfl
  | a :: x => by rw [lexI, lexI_irrefl x, decide_eq_false (Int.lt_irrefl a), Bool.and_false, Bool.or_false]
theorem lexI_trans : ∀ (x y z : List Int), lexI x y = true → lexI y z = true → lexI x z = true
  | _, [], _, h, _ => by cases ‹List Int› <;> simp [lexI] at h
  | [], _ :: _, [], _, h => by simp [lexI] at h
  | [], _ :: _, _ :: _, _, _ => rfl
  | _ :: _, _ :: _, [], _, h => by simp [lexI] at h
  | a :: x, b :: y, c :: z, h1, h2 => by
    simp only [lexI, Bool.or_eq_true, decide_eq_true_eq, Bool.and_eq_true, beq_iff_eq] at h1 h2 ⊢
    rcases h1 with h1 | ⟨rfl, h1⟩
    · rcases h2 with h2 | ⟨rfl, h2⟩
      · exact .inl (by omega)
      · exact .inl h1
    · rcases h2 with h2 | ⟨rfl, h2⟩
      · exact .inl h2
      · exact .inr ⟨rfl, lexI_trans x y z h1 h2⟩
theorem lexI_tri : ∀ (x y : List Int), lexI x y = false → lexI y x = false → x = y
  | [], [], _, _ => rfl
  | [], _ :: _, h, _ => by simp [lexI] at h
  | _ :: _, [], _, h => by simp [lexI] at h
  | a :: x, b :: y, h1, h2 => by
    simp only [lexI, Bool.or_eq_false_iff, decide_eq_false_iff_not, Bool.and_eq_false_iff, beq_eq_false_iff_ne] at h1 h2
    have e : a = b := by omega
    subst e
    rw [lexI_tri x y (h1.2.resolve_left fun h => h rfl) (h2.2.resolve_left fun h => h rfl)]

end Go.Proofs.Ytmgmghlflldepaa
