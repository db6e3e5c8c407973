/-
  Layer 10: plain facts on cells as values: sums don't ask for the order, what is taken off again is gone. Conditions: marks have sixteen bytes, counts and checks are what their kinds hold.
-/
import Derived.Test.YteedceepoindeaaCelHk
import Derived.Laws.BitsAllLaws
namespace Go.Proofs.Yteedceepoindeaa
open Go.RowKit

abbrev cv (x : Cel) : Value := cellV x.1 x.2.1 x.2.2
def subC (x y : Cel) : Cel := (IntKind.i64.wrap (x.1 - y.1), layL x.2.1 y.2.1, bits .xor .u64 x.2.2 y.2.2)
def ofC (m : List Int) : Cel := (1, m, chk m)
def c0 : Cel := (0, List.replicate 16 0, 0)
structure CelOk (x : Cel) : Prop where
  lo : -9223372036854775808 ≤ x.1
  hi : x.1 < 9223372036854775808
  mark : MarkOk x.2.1
  klo : 0 ≤ x.2.2
  khi : x.2.2 < 18446744073709551616

theorem x8_comm (a b : Int) (a0 : 0 ≤ a) (a1 : a < 256) (b0 : 0 ≤ b) (b1 : b < 256) : bits .xor .u8 a b = bits .xor .u8 b a := by
  rw [u8_xor a b a0 a1 b0 b1, u8_xor b a b0 b1 a0 a1, Nat.xor_comm]
theorem x8_rng (a b : Int) : 0 ≤ bits .xor .u8 a b ∧ bits .xor .u8 a b < 256 := ⟨bits_lo_u8 .xor a b, by have := bits_hi_u8 .xor a b; omega⟩
theorem x8_assoc (a b c : Int) (a0 : 0 ≤ a) (a1 : a < 256) (b0 : 0 ≤ b) (b1 : b < 256) (c0 : 0 ≤ c) (c1 : c < 256) : bits .xor .u8 (bits .xor .u8 a b) c = bits .xor .u8 a (bits .xor .u8 b c) := by
  have r1 := x8_rng a b
  have r2 := x8_rng b c
  rw [u8_xor _ c r1.1 r1.2 c0 c1, u8_xor a _ a0 a1 r2.1 r2.2, u8_xor a b a0 a1 b0 b1, u8_xor b c b0 b1 c0 c1, Int.toNat_natCast, Int.toNat_natCast, Nat.xor_assoc]
theorem x8_self (a : Int) (a0 : 0 ≤ a) (a1 : a < 256) : bits .xor .u8 a a = 0 := by
  rw [u8_xor a a a0 a1 a0 a1, Nat.xor_self]; rfl
theorem x8_zero (a : Int) (a0 : 0 ≤ a) (a1 : a < 256) : bits .xor .u8 a 0 = a := by
  rw [u8_xor a 0 a0 a1 (by omega) (by omega), show (0 : Int).toNat = 0 from rfl, Nat.xor_zero]; omega
theorem x64_comm (a b : Int) (a0 : 0 ≤ a) (a1 : a < 18446744073709551616) (b0 : 0 ≤ b) (b1 : b < 18446744073709551616) : bits .xor .u64 a b = bits .xor .u64 b a := by
  rw [Go.u64_xor a b a0 a1 b0 b1, Go.u64_xor b a b0 b1 a0 a1, Nat.xor_comm]
theorem x64_rng (a b : Int) : 0 ≤ bits .xor .u64 a b ∧ bits .xor .u64 a b < 18446744073709551616 := ⟨bits_lo_u64 .xor a b, by have := bits_hi_u64 .xor a b; omega⟩
theorem x64_assoc (a b c : Int) (a0 : 0 ≤ a) (a1 : a < 18446744073709551616) (b0 : 0 ≤ b) (b1 : b < 18446744073709551616) (c0 : 0 ≤ c) (c1 : c < 18446744073709551616) : bits .xor .u64 (bits .xor .u64 a b) c = bits .xor .u64 a (bits .xor .u64 b c) := by
  have r1 := x64_rng a b
  have r2 := x64_rng b c
  rw [Go.u64_xor _ c r1.1 r1.2 c0 c1, Go.u64_xor a _ a0 a1 r2.1 r2.2, Go.u64_xor a b a0 a1 b0 b1, Go.u64_xor b c b0 b1 c0 c1, Int.toNat_natCast, Int.toNat_natCast, Nat.xor_assoc]
theorem x64_self (a : Int) (a0 : 0 ≤ a) (a1 : a < 18446744073709551616) : bits .xor .u64 a a = 0 := by
  rw [Go.u64_xor a a a0 a1 a0 a1, Nat.xor_self]; rfl
theorem x64_zero (a : Int) (a0 : 0 ≤ a) (a1 : a < 18446744073709551616) : bits .xor .u64 a 0 = a := by
  rw [Go.u64_xor a 0 a0 a1 (by omega) (by omega), show (0 : Int).toNat = 0 from rfl, Nat.xor_zero]; omega

theorem layL_length (a b : List Int) : (layL a b).length = 16 := layK_length a b 16
theorem layL_get (a b : List Int) (i : Nat) (h : i < 16) : (layL a b)[i]?.getD 0 = bits .xor .u8 (a[i]?.getD 0) (b[i]?.getD 0) := by
  unfold layL; rw [layK_get a b 16 i h, if_pos h]
theorem MarkOk.at {m : List Int} (h : MarkOk m) (i : Nat) : 0 ≤ m[i]?.getD 0 ∧ m[i]?.getD 0 < 256 := h.bytes i
theorem mark_ext {a b : List Int} (ha : a.length = 16) (hb : b.length = 16) (h : ∀ i, i < 16 → a[i]?.getD 0 = b[i]?.getD 0) : a = b := by
  apply List.ext_getElem (by omega)
  intro i h1 h2
  have := h i (by omega)
  rw [List.getElem?_eq_getElem h1, List.getElem?_eq_getElem h2] at this
  exact this
theorem layL_ok (a b : List Int) : MarkOk (layL a b) := by
  refine ⟨layL_length a b, fun i => ?_⟩
  rcases Nat.lt_or_ge i 16 with h | h
  · rw [layL_get a b i h]; exact x8_rng _ _
  · rw [List.getElem?_eq_none (by rw [layL_length]; exact h)]; exact ⟨by decide, by decide⟩
theorem zero_ok : MarkOk (List.replicate 16 0) := ⟨rfl, isBytes_of (by decide)⟩
theorem lay_comm {a b : List Int} (ha : MarkOk a) (hb : MarkOk b) : layL a b = layL b a :=
  mark_ext (layL_length _ _) (layL_length _ _) fun i h => by rw [layL_get _ _ i h, layL_get _ _ i h]; exact x8_comm _ _ (ha.at i).1 (ha.at i).2 (hb.at i).1 (hb.at i).2
theorem lay_assoc {a b c : List Int} (ha : MarkOk a) (hb : MarkOk b) (hc : MarkOk c) : layL (layL a b) c = layL a (layL b c) :=
  mark_ext (layL_length _ _) (layL_length _ _) fun i h => by
    rw [layL_get _ _ i h, layL_get _ _ i h, layL_get _ _ i h, layL_get _ _ i h]; exact x8_assoc _ _ _ (ha.at i).1 (ha.at i).2 (hb.at i).1 (hb.at i).2 (hc.at i).1 (hc.at i).2
theorem zero_at (i : Nat) : (List.replicate 16 (0 : Int))[i]?.getD 0 = 0 := by
  rw [List.getElem?_replicate]; split <;> rfl
theorem lay_self {a : List Int} (ha : MarkOk a) : layL a a = List.replicate 16 0 :=
  mark_ext (layL_length _ _) (by simp) fun i h => by rw [layL_get _ _ i h, zero_at]; exact x8_self _ (ha.at i).1 (ha.at i).2
theorem lay_zero {a : List Int} (ha : MarkOk a) : layL a (List.replicate 16 0) = a :=
  mark_ext (layL_length _ _) ha.len fun i h => by rw [layL_get _ _ i h, zero_at]; exact x8_zero _ (ha.at i).1 (ha.at i).2
theorem lay_back {a b : List Int} (ha : MarkOk a) (hb : MarkOk b) : layL (layL a b) b = a := by rw [lay_assoc ha hb hb, lay_self hb, lay_zero ha]

theorem wrap64_range (x : Int) : -9223372036854775808 ≤ IntKind.i64.wrap x ∧ IntKind.i64.wrap x < 9223372036854775808 := by
  have h := wrap_within .i64 x
  have h1 : IntKind.i64.min = -9223372036854775808 := by decide
  have h2 : IntKind.i64.max = 9223372036854775807 := by decide
  rw [h1, h2] at h
  omega
theorem chk_range (m : List Int) : 0 ≤ chk m ∧ chk m < 18446744073709551616 := x64_rng _ _
theorem addC_ok {x y : Cel} : CelOk (addC x y) := ⟨(wrap64_range _).1, (wrap64_range _).2, layL_ok _ _, (x64_rng _ _).1, (x64_rng _ _).2⟩
theorem subC_ok {x y : Cel} : CelOk (subC x y) := ⟨(wrap64_range _).1, (wrap64_range _).2, layL_ok _ _, (x64_rng _ _).1, (x64_rng _ _).2⟩
theorem ofC_ok {m : List Int} (h : MarkOk m) : CelOk (ofC m) := ⟨by show (-9223372036854775808 : Int) ≤ 1; decide, by show (1 : Int) < _; decide, h, (chk_range m).1, (chk_range m).2⟩
theorem c0_ok : CelOk c0 := ⟨by decide, by decide, zero_ok, by decide, by decide⟩
theorem addC_comm {x y : Cel} (hx : CelOk x) (hy : CelOk y) : addC x y = addC y x := by
  unfold addC; rw [Int.add_comm, lay_comm hx.mark hy.mark, x64_comm _ _ hx.klo hx.khi hy.klo hy.khi]
theorem addC_assoc {x y z : Cel} (hx : CelOk x) (hy : CelOk y) (hz : CelOk z) : addC (addC x y) z = addC x (addC y z) := by
  unfold addC
  dsimp only
  rw [lay_assoc hx.mark hy.mark hz.mark, x64_assoc _ _ _ hx.klo hx.khi hy.klo hy.khi hz.klo hz.khi]
  congr 1
  simp only [IntKind.wrap_i64]
  omega
theorem subC_back {x y : Cel} (hx : CelOk x) (hy : CelOk y) : subC (addC x y) y = x := by
  unfold subC addC
  dsimp only
  rw [lay_back hx.mark hy.mark, x64_assoc _ _ _ hx.klo hx.khi hy.klo hy.khi hy.klo hy.khi, x64_self _ hy.klo hy.khi, x64_zero _ hx.klo hx.khi]
  have := hx.lo
  have := hx.hi
  rw [show IntKind.i64.wrap (IntKind.i64.wrap (x.1 + y.1) - y.1) = x.1 from by simp only [IntKind.wrap_i64]; omega]
theorem subC_self {x : Cel} (hx : CelOk x) : subC x x = c0 := by
  unfold subC c0
  rw [lay_self hx.mark, x64_self _ hx.klo hx.khi, Int.sub_self]
  rfl
theorem addC_zero {x : Cel} (hx : CelOk x) : addC x c0 = x := by
  unfold addC c0
  dsimp only
  rw [lay_zero hx.mark, x64_zero _ hx.klo hx.khi, Int.add_zero]
  have := hx.lo
  have := hx.hi
  rw [show IntKind.i64.wrap x.1 = x.1 from by simp only [IntKind.wrap_i64]; omega]
theorem sumC_ok (cs : List Cel) : CelOk (sumC cs) := by
  unfold sumC
  rcases List.eq_nil_or_concat cs with rfl | ⟨l, x, rfl⟩
  · exact c0_ok
  · rw [List.concat_eq_append, List.foldl_append]; exact addC_ok
theorem foldC_add {x : Cel} (hx : CelOk x) : ∀ (cs : List Cel), (∀ c ∈ cs, CelOk c) → cs.foldl addC x = addC x (sumC cs)
  | [], _ => (addC_zero hx).symm
  | c :: l, h => by
    have hc := h c (by simp)
    have hl : ∀ c ∈ l, CelOk c := fun c hc => h c (by simp [hc])
    have e1 : (c :: l).foldl addC x = l.foldl addC (addC x c) := rfl
    have e2 : sumC (c :: l) = l.foldl addC (addC c0 c) := rfl
    rw [e1, e2, foldC_add addC_ok l hl, addC_comm c0_ok hc, addC_zero hc, foldC_add hc l hl, addC_assoc hx hc (sumC_ok l)]
theorem sumC_append (us bs : List Cel) (hb : ∀ c ∈ bs, CelOk c) : sumC (us ++ bs) = addC (sumC us) (sumC bs) := by
  rw [← foldC_add (sumC_ok us) bs hb]; unfold sumC; rw [List.foldl_append]
theorem sumC_one {c : Cel} (hc : CelOk c) : sumC [c] = c := by
  show addC c0 c = c
  rw [addC_comm c0_ok hc, addC_zero hc]
theorem sumC_reverse : ∀ (cs : List Cel), (∀ c ∈ cs, CelOk c) → sumC cs.reverse = sumC cs
  | [], _ => rfl
  | c :: l, h => by
    have hc := h c (by simp)
    have hl : ∀ c ∈ l, CelOk c := fun c hc => h c (by simp [hc])
    rw [List.reverse_cons, sumC_append _ [c] (by simpa using hc), sumC_reverse l hl, sumC_one hc, addC_comm (sumC_ok l) hc]
    have e : sumC (c :: l) = addC c (sumC l) := by
      have h1 := sumC_append [c] l hl
      rw [sumC_one hc] at h1
      exact h1
    exact e.symm

theorem cadd_c (x y : Cel) (w : World) (hx : CelOk x) (hy : CelOk y) : Calls Try.prog 44 #[cv x, cv y] w fun e w' => e = .returned (cv (addC x y)) ∧ Kp Nb w w' := cadd_any x.1 y.1 x.2.1 y.2.1 x.2.2 y.2.2 w hx.mark.len hy.mark.len
theorem csub_c (x y : Cel) (w : World) (hx : CelOk x) (hy : CelOk y) : Calls Try.prog 45 #[cv x, cv y] w fun e w' => e = .returned (cv (subC x y)) ∧ Kp Nb w w' := csub_any x.1 y.1 x.2.1 y.2.1 x.2.2 y.2.2 w hx.mark.len hy.mark.len

end Go.Proofs.Yteedceepoindeaa
