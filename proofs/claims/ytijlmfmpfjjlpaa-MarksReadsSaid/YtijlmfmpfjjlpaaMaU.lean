/-
  Layer 9: a slice made of two marks. Condition: marks of 16 bytes.
-/
import Derived.Test.YtijlmfmpfjjlpaaMaS
namespace Go.Proofs.Ytijlmfmpfjjlpaa
open Go.RowKit

theorem list16 {a : List Int} (h : a.length = 16) : ∃ x0 x1 x2 x3 x4 x5 x6 x7 x8 x9 xa xb xc xd xe xf, a = [x0, x1, x2, x3, x4, x5, x6, x7, x8, x9, xa, xb, xc, xd, xe, xf] := by
  match a, h with
  | [x0, x1, x2, x3, x4, x5, x6, x7, x8, x9, xa, xb, xc, xd, xe, xf], _ => exact ⟨x0, x1, x2, x3, x4, x5, x6, x7, x8, x9, xa, xb, xc, xd, xe, xf, rfl⟩
theorem make_mark2 {a b : List Int} (ha : a.length = 16) (hb : b.length = 16) (w : World) : (Instr.buildSlice 22 2 #[(0, markV a), (1, markV b)]).run Try.prog w = .ok (.slice (some ⟨w.heap.size, 0, none⟩) 2 2) (w.alloc (.cells (flatR markL [a, b]).toArray 24 (0, 0))) := by
  obtain ⟨x0, x1, x2, x3, x4, x5, x6, x7, x8, x9, xa, xb, xc, xd, xe, xf, rfl⟩ := list16 ha
  obtain ⟨y0, y1, y2, y3, y4, y5, y6, y7, y8, y9, ya, yb, yc, yd, ye, yf, rfl⟩ := list16 hb
  kernel_rfl

end Go.Proofs.Ytijlmfmpfjjlpaa
