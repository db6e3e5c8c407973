/-
  For the statement of layer 1 on parts: what its last statement's calls are handed (slices of one, two and three lists), in the worlds that its orders lead through. Contracts of Hash, Sum and Mark in terms of the bytes alone.
-/
import Derived.Test.YteedceepoindeaaSipF
import Derived.Deep.RegionHeld3
namespace Go.Proofs.Yteedceepoindeaa
open Go.RowKit

def PartR (w : World) (B : Nat) (a b : Int) (zs : List Int) (i : Value) (wr : World) : Prop :=
  ∃ k : Nat, k ≤ zs.length ∧ i = .int .i64 k ∧ Hid (SipAt wr B ((Sp.init a b).write (zs.take k))) ∧ Hid (Kp Nb w wr) ∧ Hid (Blk wr w.heap.size 80 [.int .u64 a, .int .u64 b])

theorem part_held {w4 w' : World} {B : Nat} {t : TypeId} {a b : Value} (h : Blk w4 B t [a, b]) (k : Kp Nb w4 w') : Hid (Kp Nb w4 w') ∧ w'.cell? ⟨B, 0, none⟩ = some a ∧ w'.cell? ⟨B, 1, none⟩ = some b :=
  ⟨k, (h.kept k (fun h => h)).cell 0, (h.kept k (fun h => h)).cell 1⟩

theorem PsSl.two {w4 wx : World} {u v : Value} {ys zs : List Int} (k : Kp Nb w4 wx) (h1 : BySl Nb w4 u ys) (h2 : BySl Nb w4 v zs) (t : TypeId) : PsSl (wx.alloc (.cells #[u, v] t)) (.slice (some ⟨wx.heap.size, 0, none⟩) 2 2) [ys, zs] := by
  refine .inr ⟨_, _, _, rfl, Nat.le_refl _, by decide, fun i hi => ?_⟩
  have ka : Kp Nb w4 (wx.alloc (.cells #[u, v] t)) := k.alloc _
  rcases (show i = 0 ∨ i = 1 by simp at hi; omega) with rfl | rfl
  · exact ⟨u, World.cell?_alloc_new wx #[u, v] t 0, h1.kept ka (fun _ h => h)⟩
  · exact ⟨v, World.cell?_alloc_new wx #[u, v] t 1, h2.kept ka (fun _ h => h)⟩
theorem PsSl.three {w4 wx : World} {u v x : Value} {xs ys zs : List Int} (k : Kp Nb w4 wx) (h1 : BySl Nb w4 u xs) (h2 : BySl Nb w4 v ys) (h3 : BySl Nb w4 x zs) (t : TypeId) : PsSl (wx.alloc (.cells #[u, v, x] t)) (.slice (some ⟨wx.heap.size, 0, none⟩) 3 3) [xs, ys, zs] := by
  refine .inr ⟨_, _, _, rfl, Nat.le_refl _, by decide, fun i hi => ?_⟩
  have ka : Kp Nb w4 (wx.alloc (.cells #[u, v, x] t)) := k.alloc _
  rcases (show i = 0 ∨ i = 1 ∨ i = 2 by simp at hi; omega) with rfl | rfl | rfl
  · exact ⟨u, World.cell?_alloc_new wx #[u, v, x] t 0, h1.kept ka (fun _ h => h)⟩
  · exact ⟨v, World.cell?_alloc_new wx #[u, v, x] t 1, h2.kept ka (fun _ h => h)⟩
  · exact ⟨x, World.cell?_alloc_new wx #[u, v, x] t 2, h3.kept ka (fun _ h => h)⟩

theorem PsSl.one' {w4 wx : World} {u : Value} {ys : List Int} (k : Kp Nb w4 wx) (h1 : BySl Nb w4 u ys) (t : TypeId) : PsSl (wx.alloc (.cells #[u] t)) (.slice (some ⟨wx.heap.size, 0, none⟩) 1 1) [ys] := PsSl.one (h1.kept k (fun _ h => h)) t
theorem PsSl.one_up {w4 wx : World} {u : Value} {ys : List Int} (k : Kp Nb w4 wx) (h1 : BySl Nb w4 u ys) (t : TypeId) (o : Obj) : PsSl ((wx.alloc o).alloc (.cells #[u] t)) (.slice (some ⟨wx.heap.size + 1, 0, none⟩) 1 1) [ys] := by
  have := PsSl.one' (k.alloc o) h1 t
  rw [World.size_alloc] at this
  exact this
theorem PsSl.two_up {w4 wx : World} {u v : Value} {ys zs : List Int} (k : Kp Nb w4 wx) (h1 : BySl Nb w4 u ys) (h2 : BySl Nb w4 v zs) (t : TypeId) (o : Obj) : PsSl ((wx.alloc o).alloc (.cells #[u, v] t)) (.slice (some ⟨wx.heap.size + 1, 0, none⟩) 2 2) [ys, zs] := by
  have := PsSl.two (k.alloc o) h1 h2 t
  rw [World.size_alloc] at this
  exact this

theorem hash_zs (a b : Int) {v : Value} {ps : List (List Int)} {zs : List Int} {w : World} (hp : PsSl w v ps) (hf : ps.flatten = zs) (hn : zs.length ≤ 3000) :
    Calls Try.prog 38 #[.agg #[.int .u64 a, .int .u64 b], v] w fun e w' => e = .returned (.int .u64 (hash a b zs)) ∧ Kp Nb w w' := by
  subst hf
  exact hash_any a b v ps w hp (by omega)
theorem sum_zs (a b : Int) {B : Nat} {zs : List Int} {w : World} (hs : SipAt w B ((Sp.init a b).write zs)) (hn : zs.length ≤ 3000) :
    Calls Try.prog 61 #[.pointer (some ⟨B, 0, none⟩)] w fun e w' => e = .returned (.int .u64 (hash a b zs)) ∧ Kp Nb w w' :=
  sum_any B _ w hs (by rw [Sp.write_n]; show 0 + _ < _; omega)
theorem mark_same (zs : List Int) (w : World) : Sem.run Try.prog (Op.equalIn 10000 23 (.agg #[.int .u8 (byteOf (markA zs) 0), .int .u8 (byteOf (markA zs) 1), .int .u8 (byteOf (markA zs) 2), .int .u8 (byteOf (markA zs) 3), .int .u8 (byteOf (markA zs) 4), .int .u8 (byteOf (markA zs) 5), .int .u8 (byteOf (markA zs) 6), .int .u8 (byteOf (markA zs) 7), .int .u8 (byteOf (markB zs) 0), .int .u8 (byteOf (markB zs) 1), .int .u8 (byteOf (markB zs) 2), .int .u8 (byteOf (markB zs) 3), .int .u8 (byteOf (markB zs) 4), .int .u8 (byteOf (markB zs) 5), .int .u8 (byteOf (markB zs) 6), .int .u8 (byteOf (markB zs) 7)]) (.agg #[.int .u8 (byteOf (markA zs) 0), .int .u8 (byteOf (markA zs) 1), .int .u8 (byteOf (markA zs) 2), .int .u8 (byteOf (markA zs) 3), .int .u8 (byteOf (markA zs) 4), .int .u8 (byteOf (markA zs) 5), .int .u8 (byteOf (markA zs) 6), .int .u8 (byteOf (markA zs) 7), .int .u8 (byteOf (markB zs) 0), .int .u8 (byteOf (markB zs) 1), .int .u8 (byteOf (markB zs) 2), .int .u8 (byteOf (markB zs) 3), .int .u8 (byteOf (markB zs) 4), .int .u8 (byteOf (markB zs) 5), .int .u8 (byteOf (markB zs) 6), .int .u8 (byteOf (markB zs) 7)])) w = .ok true w := by
  have := run_mark_eq (markList (markA zs) (markB zs) 8) (markList (markA zs) (markB zs) 8) rfl rfl w
  rw [decide_eq_true rfl] at this
  exact this

theorem by_cut {w : World} {blk off cap : Nat} {zs : List Int} (hc : zs.length ≤ cap) (hm : cap ≤ maxLen) (hz : IsBytes zs) (hb : ByAt w blk off zs) (k n : Nat) (h : k + n ≤ zs.length) : BySl Nb w (.slice (some ⟨blk, off + k, none⟩) n (cap - k)) ((zs.drop k).take n) := by
  have hl : ((zs.drop k).take n).length = n := by simp; omega
  refine ⟨fun i => ?_, .inr ⟨blk, off + k, cap - k, by rw [hl], by omega, by omega, fun i hi => ?_, fun _ h => h⟩⟩
  · by_cases hi : i < n
    · rw [List.getElem?_take_of_lt hi, List.getElem?_drop]; exact hz _
    · rw [List.getElem?_eq_none (by omega)]; exact ⟨by decide, by decide⟩
  · rw [hl] at hi
    have := hb (k + i) (by omega)
    rw [List.getElem?_take_of_lt hi, List.getElem?_drop, Nat.add_assoc]
    exact this

theorem by_single {w wr : World} {blk off cap B : Nat} {zs : List Int} (hc : zs.length ≤ cap) (hm : cap ≤ maxLen) (hz : IsBytes zs) (hb : ByAt w blk off zs) (k : Nat) (hk : k < zs.length) (kp : Kp Nb w wr) (hB : w.heap.size ≤ B) : BySl (Jb B) wr (.slice (some ⟨blk, off + k, none⟩) 1 (cap - k)) [zs[k]?.getD 0] := by
  have h := by_cut hc hm hz hb k 1 (by omega)
  have e : (zs.drop k).take 1 = [zs[k]?.getD 0] := by
    rw [List.take_one]
    simp [List.head?_drop, List.getElem?_eq_getElem hk]
  rw [e] at h
  exact h.fresh B hB Nb kp (fun _ _ h => h)

end Go.Proofs.Yteedceepoindeaa
