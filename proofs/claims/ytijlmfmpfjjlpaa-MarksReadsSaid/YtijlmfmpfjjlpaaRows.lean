/-
  No cell of these rows narrows 'for every input' (looked for: loops, veiled, ifaces, maps, wideKeys, modest, calm, conditions, laid).
  DERIVED. THE GIVEN ROWS OF THIS SEAT. 5 by the template 'for every input the law returns true; each argument reads behind the call as it read before'; 0 by the template 'total and deterministic' (their statements: YtijlmfmpfjjlpaaTotals.lean).
  GIVEN WITH THE SEED: the statements are not yours to turn. If you find one false, say at which input.
  Laid BY PROGRAM, IN A SANDBOX (cutbox-rows.mjs): the forced cells as the released guide's own fill.sh prints them over the translation 74690ed85f9d5f0b… (all of the seat's roots in one cut). By AI agents, Wed Nov 11 2026. No macro, syntax, notation, axiom, sorry.
-/
import Derived.Test.YtijlmfmpfjjlpaaChecked
import GoSem.Claim
import GoSem.ClaimJoined
import GoSem.ClaimMapViews
import Derived.JoinedTies
import Derived.KernelRfl
namespace Go.Proofs.Ytijlmfmpfjjlpaa
/- THE CELL 'sum', in the pinned program and in every row, IS THE sha256 OF THE DUMP (.gsa) THAT YtijlmfmpfjjlpaaProg.lean LOADS. Nothing in Lean hashes anything: it is a label: what it is worth is what the hold of that sum in a sandbox is worth. -/
noncomputable def Try.pinned : Pinned := { name := "ytijlmfmpfjjlpaa", sum := "74690ed85f9d5f0b455582e3675e2f8e03dfc791737ba1d93a1245da898c0e8c", checked := Try.checked }
namespace Rows
def none {H : Type} : Left H := { results := [], args := [] }

/-- 'gleaningslaw09.MarksSets': WHATEVER THE INPUT: true; the input reads as it did. -/
def marksSetsSpec : ChangeSpec := { name := "marksSets", fn := fun _ => fun
  | [d1, d2, d3] => { results := [.lit (.bool true)], args := [d1, d2, d3] }
  | _ => none }
def marksSetsRow : OpenClaim := { program := "ytijlmfmpfjjlpaa", sum := "74690ed85f9d5f0b455582e3675e2f8e03dfc791737ba1d93a1245da898c0e8c", func := "gleanings/gleaningslaw09.MarksSets", spec := "marksSets", inPlace := ["internal/bytealg.Compare"], unfollowed := true, recurses := true, apart := false }
def MarksSetsSaid : Prop := marksSetsRow.holds Try.pinned (OpenSpec.ofChange marksSetsSpec)

/-- ITS FALSE NEIGHBOUR: 'it returns false'. Refute it at one input. -/
def marksSetsWrong : ChangeSpec := { name := "marksSets", fn := fun _ => fun
  | [d1, d2, d3] => { results := [.lit (.bool false)], args := [d1, d2, d3] }
  | _ => none }
def MarksSetsWrongFalsely : Prop := marksSetsRow.holds Try.pinned (OpenSpec.ofChange marksSetsWrong)

/-- 'gleaningslaw09.MarksBeside': WHATEVER THE INPUT: true; the input reads as it did. -/
def marksBesideSpec : ChangeSpec := { name := "marksBeside", fn := fun _ => fun
  | [d] => { results := [.lit (.bool true)], args := [d] }
  | _ => none }
def marksBesideRow : OpenClaim := { program := "ytijlmfmpfjjlpaa", sum := "74690ed85f9d5f0b455582e3675e2f8e03dfc791737ba1d93a1245da898c0e8c", func := "gleanings/gleaningslaw09.MarksBeside", spec := "marksBeside", inPlace := ["internal/bytealg.Compare"], unfollowed := true, recurses := true, apart := false }
def MarksBesideSaid : Prop := marksBesideRow.holds Try.pinned (OpenSpec.ofChange marksBesideSpec)

/-- ITS FALSE NEIGHBOUR: 'it returns false'. Refute it at one input. -/
def marksBesideWrong : ChangeSpec := { name := "marksBeside", fn := fun _ => fun
  | [d] => { results := [.lit (.bool false)], args := [d] }
  | _ => none }
def MarksBesideWrongFalsely : Prop := marksBesideRow.holds Try.pinned (OpenSpec.ofChange marksBesideWrong)

/-- 'gleaningslaw09.MarksReads': WHATEVER THE INPUT: true; the input reads as it did. -/
def marksReadsSpec : ChangeSpec := { name := "marksReads", fn := fun _ => fun
  | [d1, d2] => { results := [.lit (.bool true)], args := [d1, d2] }
  | _ => none }
def marksReadsRow : OpenClaim := { program := "ytijlmfmpfjjlpaa", sum := "74690ed85f9d5f0b455582e3675e2f8e03dfc791737ba1d93a1245da898c0e8c", func := "gleanings/gleaningslaw09.MarksReads", spec := "marksReads", inPlace := ["internal/bytealg.Compare"], unfollowed := true, recurses := true, apart := false }
def MarksReadsSaid : Prop := marksReadsRow.holds Try.pinned (OpenSpec.ofChange marksReadsSpec)

/-- ITS FALSE NEIGHBOUR: 'it returns false'. Refute it at one input. -/
def marksReadsWrong : ChangeSpec := { name := "marksReads", fn := fun _ => fun
  | [d1, d2] => { results := [.lit (.bool false)], args := [d1, d2] }
  | _ => none }
def MarksReadsWrongFalsely : Prop := marksReadsRow.holds Try.pinned (OpenSpec.ofChange marksReadsWrong)

/-- 'gleaningslaw09.MarksWhole': WHATEVER THE INPUT: true; the input reads as it did. -/
def marksWholeSpec : ChangeSpec := { name := "marksWhole", fn := fun _ => fun
  | [d1, d2] => { results := [.lit (.bool true)], args := [d1, d2] }
  | _ => none }
def marksWholeRow : OpenClaim := { program := "ytijlmfmpfjjlpaa", sum := "74690ed85f9d5f0b455582e3675e2f8e03dfc791737ba1d93a1245da898c0e8c", func := "gleanings/gleaningslaw09.MarksWhole", spec := "marksWhole", inPlace := ["internal/bytealg.Compare"], unfollowed := true, recurses := true, apart := false }
def MarksWholeSaid : Prop := marksWholeRow.holds Try.pinned (OpenSpec.ofChange marksWholeSpec)

/-- ITS FALSE NEIGHBOUR: 'it returns false'. Refute it at one input. -/
def marksWholeWrong : ChangeSpec := { name := "marksWhole", fn := fun _ => fun
  | [d1, d2] => { results := [.lit (.bool false)], args := [d1, d2] }
  | _ => none }
def MarksWholeWrongFalsely : Prop := marksWholeRow.holds Try.pinned (OpenSpec.ofChange marksWholeWrong)

/-- 'gleaningslaw09.MarksPieces': WHATEVER THE INPUT: true; the input reads as it did. -/
def marksPiecesSpec : ChangeSpec := { name := "marksPieces", fn := fun _ => fun
  | [d1, d2] => { results := [.lit (.bool true)], args := [d1, d2] }
  | _ => none }
def marksPiecesRow : OpenClaim := { program := "ytijlmfmpfjjlpaa", sum := "74690ed85f9d5f0b455582e3675e2f8e03dfc791737ba1d93a1245da898c0e8c", func := "gleanings/gleaningslaw09.MarksPieces", spec := "marksPieces", inPlace := ["internal/bytealg.Compare"], unfollowed := true, recurses := true, apart := false }
def MarksPiecesSaid : Prop := marksPiecesRow.holds Try.pinned (OpenSpec.ofChange marksPiecesSpec)

/-- ITS FALSE NEIGHBOUR: 'it returns false'. Refute it at one input. -/
def marksPiecesWrong : ChangeSpec := { name := "marksPieces", fn := fun _ => fun
  | [d1, d2] => { results := [.lit (.bool false)], args := [d1, d2] }
  | _ => none }
def MarksPiecesWrongFalsely : Prop := marksPiecesRow.holds Try.pinned (OpenSpec.ofChange marksPiecesWrong)

/- THE SECOND FORM. 'bulk': how many values and letters a reading holds, each counted each time it is reached (what is shared counts as often as it is met; a slice's spare places count too). A statement '..UptoSaid' is the law's where the arguments, and the package variables that the reading takes, are together of bulk at most 1048576: NARROWER than '..Said'. Prove '..Said' where nothing that the law and all that it calls make is longer than what came in: it says more and counts as full. Else prove '..UptoSaid'. A law counts once. -/
mutual
def uptoBulk {H : Type} : DataW H → Nat
  | .lit (.string bytes) => bytes.length + 1
  | .lit _ => 1
  | .nil => 1
  | .ptr d => uptoBulk d + 1
  | .slice elems spare => uptoBulkAll elems + uptoBulkAll spare + 1
  | .agg parts => uptoBulkAll parts + 1
  | .iface _ d => uptoBulk d + 1
  | .map entries => uptoBulkEntries entries + 1
  | .held _ => 1
def uptoBulkAll {H : Type} : List (DataW H) → Nat
  | [] => 0
  | d :: r => uptoBulk d + uptoBulkAll r
def uptoBulkEntries {H : Type} : List (Lit × DataW H) → Nat
  | [] => 0
  | x :: r => uptoBulkEntry x + uptoBulkEntries r
def uptoBulkEntry {H : Type} : Lit × DataW H → Nat
  | (.string bytes, d) => bytes.length + uptoBulk d + 1
  | (_, d) => uptoBulk d + 1
 end
def uptoSmall : (H : Type) → List (DataW H) → Bool := fun _ ds => decide (uptoBulkAll ds ≤ 1048576)
def OpenSpec.upto (s : _root_.Go.ChangeSpec) : _root_.Go.OpenSpec := { _root_.Go.OpenSpec.ofChange s with cond := some uptoSmall }

/-- 'gleaningslaw09.MarksSets', WHERE WHAT IT READS IS OF BULK AT MOST 1048576: true; the input reads as it did. -/
def marksSetsUptoRow : OpenClaim := { program := "ytijlmfmpfjjlpaa", sum := "74690ed85f9d5f0b455582e3675e2f8e03dfc791737ba1d93a1245da898c0e8c", func := "gleanings/gleaningslaw09.MarksSets", spec := "marksSets", inPlace := ["internal/bytealg.Compare"], unfollowed := true, recurses := true, apart := false, narrowed := true }
def MarksSetsUptoSaid : Prop := marksSetsUptoRow.holds Try.pinned (OpenSpec.upto marksSetsSpec)

/-- 'gleaningslaw09.MarksBeside', WHERE WHAT IT READS IS OF BULK AT MOST 1048576: true; the input reads as it did. -/
def marksBesideUptoRow : OpenClaim := { program := "ytijlmfmpfjjlpaa", sum := "74690ed85f9d5f0b455582e3675e2f8e03dfc791737ba1d93a1245da898c0e8c", func := "gleanings/gleaningslaw09.MarksBeside", spec := "marksBeside", inPlace := ["internal/bytealg.Compare"], unfollowed := true, recurses := true, apart := false, narrowed := true }
def MarksBesideUptoSaid : Prop := marksBesideUptoRow.holds Try.pinned (OpenSpec.upto marksBesideSpec)

/-- 'gleaningslaw09.MarksReads', WHERE WHAT IT READS IS OF BULK AT MOST 1048576: true; the input reads as it did. -/
def marksReadsUptoRow : OpenClaim := { program := "ytijlmfmpfjjlpaa", sum := "74690ed85f9d5f0b455582e3675e2f8e03dfc791737ba1d93a1245da898c0e8c", func := "gleanings/gleaningslaw09.MarksReads", spec := "marksReads", inPlace := ["internal/bytealg.Compare"], unfollowed := true, recurses := true, apart := false, narrowed := true }
def MarksReadsUptoSaid : Prop := marksReadsUptoRow.holds Try.pinned (OpenSpec.upto marksReadsSpec)

/-- 'gleaningslaw09.MarksWhole', WHERE WHAT IT READS IS OF BULK AT MOST 1048576: true; the input reads as it did. -/
def marksWholeUptoRow : OpenClaim := { program := "ytijlmfmpfjjlpaa", sum := "74690ed85f9d5f0b455582e3675e2f8e03dfc791737ba1d93a1245da898c0e8c", func := "gleanings/gleaningslaw09.MarksWhole", spec := "marksWhole", inPlace := ["internal/bytealg.Compare"], unfollowed := true, recurses := true, apart := false, narrowed := true }
def MarksWholeUptoSaid : Prop := marksWholeUptoRow.holds Try.pinned (OpenSpec.upto marksWholeSpec)

/-- 'gleaningslaw09.MarksPieces', WHERE WHAT IT READS IS OF BULK AT MOST 1048576: true; the input reads as it did. -/
def marksPiecesUptoRow : OpenClaim := { program := "ytijlmfmpfjjlpaa", sum := "74690ed85f9d5f0b455582e3675e2f8e03dfc791737ba1d93a1245da898c0e8c", func := "gleanings/gleaningslaw09.MarksPieces", spec := "marksPieces", inPlace := ["internal/bytealg.Compare"], unfollowed := true, recurses := true, apart := false, narrowed := true }
def MarksPiecesUptoSaid : Prop := marksPiecesUptoRow.holds Try.pinned (OpenSpec.upto marksPiecesSpec)

end Rows
end Go.Proofs.Ytijlmfmpfjjlpaa
