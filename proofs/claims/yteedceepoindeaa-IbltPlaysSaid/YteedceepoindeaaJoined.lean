/-
  For the statements of layer 1 against the document's own answer: bytes as a string (st), string(b) of a slice of bytes, and joined (lists of bytes as one string). No condition but that the bytes are fewer than 2^62.
-/
import Derived.Test.YteedceepoindeaaSipF
import Derived.Laws.IdiomStrings
namespace Go.Proofs.Yteedceepoindeaa
open Go.RowKit

def st (zs : List Int) : ByteArray := ⟨(zs.map fun z => UInt8.ofNat z.toNat).toArray⟩

theorem st_size (zs : List Int) : (st zs).size = zs.length := by simp [st, ByteArray.size]
theorem st_append (xs ys : List Int) : st (xs ++ ys) = st xs ++ st ys := by
  apply ByteArray.ext
  simp [st, ByteArray.data_append]

theorem conv_any {w : World} {v : Value} {zs : List Int} {S : Nat → Prop} (h : BySl S w v zs) : (convert 68 9 v).run Try.prog w = .ok (.string (st zs)) w := by
  obtain ⟨hz, ⟨⟨a, cap, rfl⟩, rfl⟩ | ⟨blk, off, cap, rfl, hc, hm, hb, _⟩⟩ := h
  · cases a with
    | none =>
      rw [run_convert_bytes_string w 68 9 5 none 0 cap Try.underlying68 Try.underlying5 Try.underlying9]
      simp [Conv.bytesToString, go_sem, st]
      rfl
    | some a => exact run_convert_bytes_back (P := Try.prog) w 68 9 5 a cap [] Try.underlying68 Try.underlying5 Try.underlying9 (fun j hj => by simp at hj)
  · have := run_convert_bytes_back (P := Try.prog) w 68 9 5 ⟨blk, off, none⟩ cap (zs.map fun z => UInt8.ofNat z.toNat) Try.underlying68 Try.underlying5 Try.underlying9 (fun j hj => by
      have hj' : j < zs.length := by simpa using hj
      have e := hb j hj'
      have r := hz j
      rw [List.getElem?_eq_getElem hj'] at e r
      simp only [Option.getD_some] at e r
      have ea : Addr.add ⟨blk, off, none⟩ j = ⟨blk, off + j, none⟩ := by unfold Addr.add; split <;> simp_all
      rw [ea, e]
      congr 2
      simp only [List.getElem_map, UInt8.toNat_ofNat']
      omega)
    rw [List.length_map] at this
    exact this

def JoinR (ps : List (List Int)) (s i : Value) : Prop := ∃ k : Nat, k ≤ ps.length ∧ i = .int .i64 k ∧ s = .string (st (ps.take k).flatten)




end Go.Proofs.Yteedceepoindeaa
