/-
  Plain functions: what a sum of bytes is, over Int, in the spelling in which the walk leaves numbers of 64 bits without a sign. Nothing of the program is named here. No condition.
-/
import Derived.Test.YtbbfibgijackhaaGreatDoorU64
import Derived.Test.YtbbfibgijackhaaGreatDoorKp
namespace Go.Proofs.YtbbfibgijackhaaGreatDoor
open Go.RowKit

def rotl (x : Int) (k : Nat) : Int := bits .or .u64 (IntKind.u64.wrap (x * 2 ^ k)) (x / 2 ^ (64 - k))

structure V4 where
  a : Int
  b : Int
  c : Int
  d : Int

def rnd (v : V4) : V4 :=
  let a := (v.a + v.b) % 18446744073709551616
  let b := bits .xor .u64 (rotl v.b 13) a
  let a := rotl a 32
  let c := (v.c + v.d) % 18446744073709551616
  let d := bits .xor .u64 (rotl v.d 16) c
  let a := (a + d) % 18446744073709551616
  let d := bits .xor .u64 (rotl d 21) a
  let c := (c + b) % 18446744073709551616
  let b := bits .xor .u64 (rotl b 17) c
  let c := rotl c 32
  ⟨a, b, c, d⟩

def rnds : Nat → V4 → V4
  | 0, v => v
  | n + 1, v => rnd (rnds n v)

theorem rnds_succ (n : Nat) (v : V4) : rnds (n + 1) v = rnd (rnds n v) := rfl

/-- A sum of bytes: its four numbers, the bytes that make no whole word yet, how many bytes there are. -/
structure Sp where
  v : V4
  rest : Int
  n : Nat

def Sp.cells (s : Sp) : List Value := [.int .u64 s.v.a, .int .u64 s.v.b, .int .u64 s.v.c, .int .u64 s.v.d, .int .u64 s.rest, .int .i64 s.n]

def Sp.xorD (s : Sp) (x : Int) : Sp := { s with v := { s.v with d := bits .xor .u64 s.v.d x } }
def Sp.xorA (s : Sp) (x : Int) : Sp := { s with v := { s.v with a := bits .xor .u64 s.v.a x } }
def Sp.xorC (s : Sp) (x : Int) : Sp := { s with v := { s.v with c := bits .xor .u64 s.v.c x } }
def Sp.rounds (s : Sp) (t : Nat) : Sp := { s with v := rnds t s.v }
def Sp.count (s : Sp) (k : Nat) : Sp := { s with n := s.n + k }
def Sp.left (s : Sp) (x : Int) : Sp := { s with rest := x }
def Sp.word (s : Sp) (x : Int) : Sp := ((s.xorD x).rounds 2).xorA x

def Sp.put (s : Sp) (x : Int) : Int := bits .or .u64 s.rest (IntKind.u64.wrap (x * 2 ^ (8 * (s.n % 8))))
def Sp.single (s : Sp) (x : Int) : Sp :=
  if (s.n + 1) % 8 = 0 then (((s.left (s.put x)).count 1).word (s.put x)).left 0 else (s.left (s.put x)).count 1




def ByAt (w : World) (blk off : Nat) (zs : List Int) : Prop := ∀ i, i < zs.length → w.cell? ⟨blk, off + i, none⟩ = some (.int .u8 (zs[i]?.getD 0))
def IsBytes (zs : List Int) : Prop := ∀ i : Nat, 0 ≤ zs[i]?.getD 0 ∧ zs[i]?.getD 0 < 256

def loadTo (zs : List Int) : Nat → Int
  | 0 => 0
  | k + 1 => bits .or .u64 (loadTo zs k) (IntKind.u64.wrap (zs[k]?.getD 0 * 2 ^ (8 * k)))
def Sp.write (s : Sp) (zs : List Int) : Sp := zs.foldl Sp.single s
def Sp.Ok (s : Sp) : Prop := s.n % 8 = 0 → s.rest = 0

theorem Sp.single_n (s : Sp) (x : Int) : (s.single x).n = s.n + 1 := by unfold Sp.single; split <;> rfl
theorem Sp.single_ok (s : Sp) (x : Int) : (s.single x).Ok := by
  unfold Sp.Ok
  rw [Sp.single_n]
  intro h
  unfold Sp.single
  rw [if_pos h]; rfl
theorem Sp.write_nil (s : Sp) : s.write [] = s := rfl
theorem Sp.write_append (s : Sp) (a b : List Int) : s.write (a ++ b) = (s.write a).write b := List.foldl_append
theorem Sp.write_n (zs : List Int) : ∀ s : Sp, (s.write zs).n = s.n + zs.length := by
  induction zs with
  | nil => intro s; rfl
  | cons x r ih => intro s; show ((s.single x).write r).n = _; rw [ih, Sp.single_n, List.length_cons]; omega
theorem Sp.write_ok (zs : List Int) : ∀ s : Sp, s.Ok → (s.write zs).Ok := by
  induction zs with
  | nil => intro s h; exact h
  | cons x r ih => intro s _; exact ih _ (s.single_ok x)
theorem take_snoc (zs : List Int) (k : Nat) (h : k < zs.length) : zs.take (k + 1) = zs.take k ++ [zs[k]?.getD 0] := by
  rw [List.take_succ_eq_append_getElem h, List.getElem?_eq_getElem h]; rfl
theorem Sp.write_snoc (s : Sp) (zs : List Int) (k : Nat) (h : k < zs.length) : s.write (zs.take (k + 1)) = (s.write (zs.take k)).single (zs[k]?.getD 0) := by
  rw [take_snoc zs k h, Sp.write_append]; rfl
theorem Sp.write_few (s : Sp) (zs : List Int) (h : 8 ≤ zs.length) (hn : s.n % 8 = 0) (hr : s.rest = 0) : ∀ k, k < 8 → s.write (zs.take k) = (s.left (loadTo zs k)).count k
  | 0, _ => by
    show s = _
    cases s; simp only at hr; subst hr; rfl
  | k + 1, hk => by
    rw [Sp.write_snoc s zs k (by omega), Sp.write_few s zs h hn hr k (by omega)]
    have e : (((s.left (loadTo zs k)).count k).n + 1) % 8 ≠ 0 := by show (s.n + k + 1) % 8 ≠ 0; omega
    have e2 : ((s.left (loadTo zs k)).count k).n % 8 = k := by show (s.n + k) % 8 = k; omega
    unfold Sp.single
    rw [if_neg e]
    unfold Sp.put
    rw [e2]
    rfl
theorem Sp.write_eight (s : Sp) (zs : List Int) (h : 8 ≤ zs.length) (hn : s.n % 8 = 0) (hr : s.rest = 0) : s.write (zs.take 8) = (s.word (loadTo zs 8)).count 8 := by
  rw [Sp.write_snoc s zs 7 (by omega), Sp.write_few s zs h hn hr 7 (by omega)]
  have e : (((s.left (loadTo zs 7)).count 7).n + 1) % 8 = 0 := by show (s.n + 7 + 1) % 8 = 0; omega
  have e2 : ((s.left (loadTo zs 7)).count 7).n % 8 = 7 := by show (s.n + 7) % 8 = 7; omega
  have e3 : ((s.left (loadTo zs 7)).count 7).put (zs[7]?.getD 0) = loadTo zs 8 := by unfold Sp.put; rw [e2]; rfl
  unfold Sp.single
  rw [if_pos e, e3]
  generalize loadTo zs 8 = L
  generalize loadTo zs 7 = M
  obtain ⟨v, rest, n⟩ := s
  simp only at hr
  subst hr
  rfl
theorem Sp.step_eight (s : Sp) (zs : List Int) (q n : Nat) (hl : zs.length = n) (ho : s.Ok) (h8 : 8 ≤ n - q) (hq : (s.n + q) % 8 = 0) :
    ((s.write (zs.take q)).word (loadTo (zs.drop q) 8)).count 8 = s.write (zs.take (q + 8)) := by
  have hn : (s.write (zs.take q)).n = s.n + q := by rw [Sp.write_n, List.length_take, hl]; omega
  have hr : (s.write (zs.take q)).rest = 0 := Sp.write_ok _ _ ho (by rw [hn]; exact hq)
  rw [← Sp.write_eight (s.write (zs.take q)) (zs.drop q) (by rw [List.length_drop, hl]; exact h8) (by rw [hn]; exact hq) hr, ← Sp.write_append, List.take_add]
theorem Sp.word_n (s : Sp) (x : Int) : (s.word x).n = s.n := rfl
theorem Sp.take_n (s : Sp) (zs : List Int) (q n : Nat) (hl : zs.length = n) (hq : q ≤ n) : (s.write (zs.take q)).n = s.n + q := by rw [Sp.write_n, List.length_take, hl]; omega
theorem IsBytes.drop {zs : List Int} (h : IsBytes zs) (q : Nat) : IsBytes (zs.drop q) := by
  intro i; rw [List.getElem?_drop]; exact h (q + i)
theorem ByAt.drop {S : Nat → Prop} {w wr : World} {blk off n : Nat} {zs : List Int} (h : ByAt w blk off zs) (hl : zs.length = n) (hk : Kp S w wr) (hne : ¬ S blk) (q : Nat) (hq : q ≤ n) : ByAt wr blk (off + q) (zs.drop q) := by
  intro i hi
  rw [List.length_drop] at hi
  rw [List.getElem?_drop, Nat.add_assoc]
  exact hk.cell (h (q + i) (by omega)) hne
def Sp.tail (s : Sp) : Int := bits .or .u64 s.rest (IntKind.u64.wrap ((s.n : Int) * 72057594037927936))
def Sp.out (s : Sp) : Int := bits .xor .u64 (bits .xor .u64 (bits .xor .u64 s.v.a s.v.b) s.v.c) s.v.d
def Sp.sum (s : Sp) : Int := (((s.word s.tail).xorC 255).rounds 4).out
def Sp.init (a b : Int) : Sp := ⟨⟨bits .xor .u64 a 8317987319222330741, bits .xor .u64 b 7237128888997146477, bits .xor .u64 a 7816392313619706465, bits .xor .u64 b 8387220255154660723⟩, 0, 0⟩
theorem Sp.init_ok (a b : Int) : (Sp.init a b).Ok := fun _ => rfl
theorem flat_snoc (ps : List (List Int)) (k : Nat) (h : k < ps.length) : (ps.take (k + 1)).flatten = (ps.take k).flatten ++ ps[k]?.getD [] := by
  rw [List.take_succ_eq_append_getElem h, List.getElem?_eq_getElem h, List.flatten_append]; simp
theorem flat_le (ps : List (List Int)) (k : Nat) : (ps.take k).flatten.length ≤ ps.flatten.length := by
  have h : ps.flatten = (ps.take k).flatten ++ (ps.drop k).flatten := by rw [← List.flatten_append, List.take_append_drop]
  rw [h, List.length_append]; omega
def seedA (n : Int) : Int := IntKind.u64.wrap n
def seedB (n : Int) : Int := bits .xor .u64 IntKind.u64.max (IntKind.u64.wrap n)
def hash (a b : Int) (zs : List Int) : Int := ((Sp.init a b).write zs).sum
/-- The i-th byte of a number of 64 bits, the greatest first. -/
def byteOf (h : Int) (i : Nat) : Int := h / 2 ^ (56 - 8 * i) % 256
/-- The bytes of a mark when k rounds are over. -/
def markList (h g : Int) (k : Nat) : List Int := (List.range 16).map fun i => if i < 8 then (if i < k then byteOf h i else 0) else if i - 8 < k then byteOf g (i - 8) else 0
def markCells (h g : Int) (k : Nat) : List Value := (markList h g k).map (Value.int .u8)
def markVal (h g : Int) : Value := .agg (markCells h g 8).toArray
theorem markCells_succ (h g : Int) : ∀ k, k < 8 → ((markCells h g k).set k (.int .u8 (byteOf h k))).set (8 + k) (.int .u8 (byteOf g k)) = markCells h g (k + 1)
  | 0, _ => rfl | 1, _ => rfl | 2, _ => rfl | 3, _ => rfl | 4, _ => rfl | 5, _ => rfl | 6, _ => rfl | 7, _ => rfl
theorem markCells_get (h g : Int) : ∀ k, k < 8 → ∃ u v, (markCells h g k)[k]? = some u ∧ (markCells h g k)[8 + k]? = some v
  | 0, _ => ⟨_, _, rfl, rfl⟩ | 1, _ => ⟨_, _, rfl, rfl⟩ | 2, _ => ⟨_, _, rfl, rfl⟩ | 3, _ => ⟨_, _, rfl, rfl⟩ | 4, _ => ⟨_, _, rfl, rfl⟩ | 5, _ => ⟨_, _, rfl, rfl⟩ | 6, _ => ⟨_, _, rfl, rfl⟩ | 7, _ => ⟨_, _, rfl, rfl⟩
def markA (zs : List Int) : Int := hash (seedA 1) (seedB 1) zs
def markB (zs : List Int) : Int := hash (seedA 2) (seedB 2) zs
def lenOf : Value → Nat | .slice _ n _ => n | _ => 0

end Go.Proofs.YtbbfibgijackhaaGreatDoor
