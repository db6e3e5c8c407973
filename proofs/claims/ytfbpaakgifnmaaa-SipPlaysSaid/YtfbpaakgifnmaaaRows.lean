/-
  No cell of these rows narrows 'for every input' (looked for: loops, veiled, ifaces, maps, wideKeys, modest, calm, conditions, laid).
  DERIVED. THE GIVEN ROWS OF THIS SEAT. 9 by the template 'for every input the law returns true; each argument reads behind the call as it read before'; 0 by the template 'total and deterministic' (their statements: YtfbpaakgifnmaaaTotals.lean).
  GIVEN WITH THE SEED: the statements are not yours to turn. If you find one false, say at which input.
  Laid BY PROGRAM, IN A SANDBOX (cutbox-rows.mjs): the forced cells as the released guide's own fill.sh prints them over the translation da0fdeae91f201a8… (all of the seat's roots in one cut). By AI agents, Wed Nov 11 2026. No macro, syntax, notation, axiom, sorry.
-/
import Derived.Test.YtfbpaakgifnmaaaChecked
import GoSem.Claim
import GoSem.ClaimJoined
import GoSem.ClaimMapViews
import Derived.JoinedTies
import Derived.KernelRfl
namespace Go.Proofs.Ytfbpaakgifnmaaa
/- THE CELL 'sum', in the pinned program and in every row, IS THE sha256 OF THE DUMP (.gsa) THAT YtfbpaakgifnmaaaProg.lean LOADS. Nothing in Lean hashes anything: it is a label: what it is worth is what the hold of that sum in a sandbox is worth. -/
noncomputable def Try.pinned : Pinned := { name := "ytfbpaakgifnmaaa", sum := "da0fdeae91f201a8b2bf69679c2a2485be2da4cad99814a031256de8382c22f6", checked := Try.checked }
namespace Rows
def none {H : Type} : Left H := { results := [], args := [] }

/-- 'gleaningslaw01.SipSums': WHATEVER THE INPUT: true; the input reads as it did. -/
def sipSumsSpec : ChangeSpec := { name := "sipSums", fn := fun _ => fun
  | [d1, d2, d3] => { results := [.lit (.bool true)], args := [d1, d2, d3] }
  | _ => none }
def sipSumsRow : OpenClaim := { program := "ytfbpaakgifnmaaa", sum := "da0fdeae91f201a8b2bf69679c2a2485be2da4cad99814a031256de8382c22f6", func := "gleanings/gleaningslaw01.SipSums", spec := "sipSums", apart := false }
def SipSumsSaid : Prop := sipSumsRow.holds Try.pinned (OpenSpec.ofChange sipSumsSpec)

/-- ITS FALSE NEIGHBOUR: 'it returns false'. Refute it at one input. -/
def sipSumsWrong : ChangeSpec := { name := "sipSums", fn := fun _ => fun
  | [d1, d2, d3] => { results := [.lit (.bool false)], args := [d1, d2, d3] }
  | _ => none }
def SipSumsWrongFalsely : Prop := sipSumsRow.holds Try.pinned (OpenSpec.ofChange sipSumsWrong)

/-- 'gleaningslaw01.SipPlays': WHATEVER THE INPUT: true; the input reads as it did. -/
def sipPlaysSpec : ChangeSpec := { name := "sipPlays", fn := fun _ => fun
  | [d1, d2] => { results := [.lit (.bool true)], args := [d1, d2] }
  | _ => none }
def sipPlaysRow : OpenClaim := { program := "ytfbpaakgifnmaaa", sum := "da0fdeae91f201a8b2bf69679c2a2485be2da4cad99814a031256de8382c22f6", func := "gleanings/gleaningslaw01.SipPlays", spec := "sipPlays", apart := false }
def SipPlaysSaid : Prop := sipPlaysRow.holds Try.pinned (OpenSpec.ofChange sipPlaysSpec)

/-- ITS FALSE NEIGHBOUR: 'it returns false'. Refute it at one input. -/
def sipPlaysWrong : ChangeSpec := { name := "sipPlays", fn := fun _ => fun
  | [d1, d2] => { results := [.lit (.bool false)], args := [d1, d2] }
  | _ => none }
def SipPlaysWrongFalsely : Prop := sipPlaysRow.holds Try.pinned (OpenSpec.ofChange sipPlaysWrong)

/-- 'gleaningslaw01.SipParts': WHATEVER THE INPUT: true; the input reads as it did. -/
def sipPartsSpec : ChangeSpec := { name := "sipParts", fn := fun _ => fun
  | [d1, d2, d3] => { results := [.lit (.bool true)], args := [d1, d2, d3] }
  | _ => none }
def sipPartsRow : OpenClaim := { program := "ytfbpaakgifnmaaa", sum := "da0fdeae91f201a8b2bf69679c2a2485be2da4cad99814a031256de8382c22f6", func := "gleanings/gleaningslaw01.SipParts", spec := "sipParts", apart := false }
def SipPartsSaid : Prop := sipPartsRow.holds Try.pinned (OpenSpec.ofChange sipPartsSpec)

/-- ITS FALSE NEIGHBOUR: 'it returns false'. Refute it at one input. -/
def sipPartsWrong : ChangeSpec := { name := "sipParts", fn := fun _ => fun
  | [d1, d2, d3] => { results := [.lit (.bool false)], args := [d1, d2, d3] }
  | _ => none }
def SipPartsWrongFalsely : Prop := sipPartsRow.holds Try.pinned (OpenSpec.ofChange sipPartsWrong)

/-- 'gleaningslaw01.SipHalves': WHATEVER THE INPUT: true; the input reads as it did. -/
def sipHalvesSpec : ChangeSpec := { name := "sipHalves", fn := fun _ => fun
  | [d] => { results := [.lit (.bool true)], args := [d] }
  | _ => none }
def sipHalvesRow : OpenClaim := { program := "ytfbpaakgifnmaaa", sum := "da0fdeae91f201a8b2bf69679c2a2485be2da4cad99814a031256de8382c22f6", func := "gleanings/gleaningslaw01.SipHalves", spec := "sipHalves", apart := false }
def SipHalvesSaid : Prop := sipHalvesRow.holds Try.pinned (OpenSpec.ofChange sipHalvesSpec)

/-- ITS FALSE NEIGHBOUR: 'it returns false'. Refute it at one input. -/
def sipHalvesWrong : ChangeSpec := { name := "sipHalves", fn := fun _ => fun
  | [d] => { results := [.lit (.bool false)], args := [d] }
  | _ => none }
def SipHalvesWrongFalsely : Prop := sipHalvesRow.holds Try.pinned (OpenSpec.ofChange sipHalvesWrong)

/-- 'gleaningslaw02.PenWrites': WHATEVER THE INPUT: true; the input reads as it did. -/
def penWritesSpec : ChangeSpec := { name := "penWrites", fn := fun _ => fun
  | [d1, d2, d3] => { results := [.lit (.bool true)], args := [d1, d2, d3] }
  | _ => none }
def penWritesRow : OpenClaim := { program := "ytfbpaakgifnmaaa", sum := "da0fdeae91f201a8b2bf69679c2a2485be2da4cad99814a031256de8382c22f6", func := "gleanings/gleaningslaw02.PenWrites", spec := "penWrites", apart := false }
def PenWritesSaid : Prop := penWritesRow.holds Try.pinned (OpenSpec.ofChange penWritesSpec)

/-- ITS FALSE NEIGHBOUR: 'it returns false'. Refute it at one input. -/
def penWritesWrong : ChangeSpec := { name := "penWrites", fn := fun _ => fun
  | [d1, d2, d3] => { results := [.lit (.bool false)], args := [d1, d2, d3] }
  | _ => none }
def PenWritesWrongFalsely : Prop := penWritesRow.holds Try.pinned (OpenSpec.ofChange penWritesWrong)

/-- 'gleaningslaw02.PenReads': WHATEVER THE INPUT: true; the input reads as it did. -/
def penReadsSpec : ChangeSpec := { name := "penReads", fn := fun _ => fun
  | [d1, d2] => { results := [.lit (.bool true)], args := [d1, d2] }
  | _ => none }
def penReadsRow : OpenClaim := { program := "ytfbpaakgifnmaaa", sum := "da0fdeae91f201a8b2bf69679c2a2485be2da4cad99814a031256de8382c22f6", func := "gleanings/gleaningslaw02.PenReads", spec := "penReads", apart := false }
def PenReadsSaid : Prop := penReadsRow.holds Try.pinned (OpenSpec.ofChange penReadsSpec)

/-- ITS FALSE NEIGHBOUR: 'it returns false'. Refute it at one input. -/
def penReadsWrong : ChangeSpec := { name := "penReads", fn := fun _ => fun
  | [d1, d2] => { results := [.lit (.bool false)], args := [d1, d2] }
  | _ => none }
def PenReadsWrongFalsely : Prop := penReadsRow.holds Try.pinned (OpenSpec.ofChange penReadsWrong)

/-- 'gleaningslaw02.PenWords': WHATEVER THE INPUT: true; the input reads as it did. -/
def penWordsSpec : ChangeSpec := { name := "penWords", fn := fun _ => fun
  | [d1, d2] => { results := [.lit (.bool true)], args := [d1, d2] }
  | _ => none }
def penWordsRow : OpenClaim := { program := "ytfbpaakgifnmaaa", sum := "da0fdeae91f201a8b2bf69679c2a2485be2da4cad99814a031256de8382c22f6", func := "gleanings/gleaningslaw02.PenWords", spec := "penWords", unfollowed := true, recurses := true, apart := false }
def PenWordsSaid : Prop := penWordsRow.holds Try.pinned (OpenSpec.ofChange penWordsSpec)

/-- ITS FALSE NEIGHBOUR: 'it returns false'. Refute it at one input. -/
def penWordsWrong : ChangeSpec := { name := "penWords", fn := fun _ => fun
  | [d1, d2] => { results := [.lit (.bool false)], args := [d1, d2] }
  | _ => none }
def PenWordsWrongFalsely : Prop := penWordsRow.holds Try.pinned (OpenSpec.ofChange penWordsWrong)

/-- 'gleaningslaw02.PenOrder': WHATEVER THE INPUT: true; the input reads as it did. -/
def penOrderSpec : ChangeSpec := { name := "penOrder", fn := fun _ => fun
  | [d] => { results := [.lit (.bool true)], args := [d] }
  | _ => none }
def penOrderRow : OpenClaim := { program := "ytfbpaakgifnmaaa", sum := "da0fdeae91f201a8b2bf69679c2a2485be2da4cad99814a031256de8382c22f6", func := "gleanings/gleaningslaw02.PenOrder", spec := "penOrder", apart := false }
def PenOrderSaid : Prop := penOrderRow.holds Try.pinned (OpenSpec.ofChange penOrderSpec)

/-- ITS FALSE NEIGHBOUR: 'it returns false'. Refute it at one input. -/
def penOrderWrong : ChangeSpec := { name := "penOrder", fn := fun _ => fun
  | [d] => { results := [.lit (.bool false)], args := [d] }
  | _ => none }
def PenOrderWrongFalsely : Prop := penOrderRow.holds Try.pinned (OpenSpec.ofChange penOrderWrong)

/-- 'gleaningslaw02.PenStops': WHATEVER THE INPUT: true; the input reads as it did. -/
def penStopsSpec : ChangeSpec := { name := "penStops", fn := fun _ => fun
  | [d1, d2, d3] => { results := [.lit (.bool true)], args := [d1, d2, d3] }
  | _ => none }
def penStopsRow : OpenClaim := { program := "ytfbpaakgifnmaaa", sum := "da0fdeae91f201a8b2bf69679c2a2485be2da4cad99814a031256de8382c22f6", func := "gleanings/gleaningslaw02.PenStops", spec := "penStops", apart := false }
def PenStopsSaid : Prop := penStopsRow.holds Try.pinned (OpenSpec.ofChange penStopsSpec)

/-- ITS FALSE NEIGHBOUR: 'it returns false'. Refute it at one input. -/
def penStopsWrong : ChangeSpec := { name := "penStops", fn := fun _ => fun
  | [d1, d2, d3] => { results := [.lit (.bool false)], args := [d1, d2, d3] }
  | _ => none }
def PenStopsWrongFalsely : Prop := penStopsRow.holds Try.pinned (OpenSpec.ofChange penStopsWrong)

/- THE SECOND FORM. 'bulk': how many values and letters a reading holds, each counted each time it is reached (what is shared counts as often as it is met; a slice's spare places count too). A statement '..UptoSaid' is the law's where the arguments, and the package variables that the reading takes, are together of bulk at most 1048576: NARROWER than '..Said'. Prove '..Said' where nothing that the law and all that it calls make is longer than what came in: it says more and counts as full. Else prove '..UptoSaid'. A law counts once. -/
mutual
def uptoBulk {H : Type} : DataW H → Nat
  | .lit (.string bytes) => bytes.length + 1
  | .lit _ => 1
  | .nil => 1
  | .ptr d => uptoBulk d + 1
  | .slice elems spare => uptoBulkAll elems + uptoBulkAll spare + 1
  | .agg parts => uptoBulkAll parts + 1
  | .iface _ d => uptoBulk d + 1
  | .map entries => uptoBulkEntries entries + 1
  | .held _ => 1
def uptoBulkAll {H : Type} : List (DataW H) → Nat
  | [] => 0
  | d :: r => uptoBulk d + uptoBulkAll r
def uptoBulkEntries {H : Type} : List (Lit × DataW H) → Nat
  | [] => 0
  | x :: r => uptoBulkEntry x + uptoBulkEntries r
def uptoBulkEntry {H : Type} : Lit × DataW H → Nat
  | (.string bytes, d) => bytes.length + uptoBulk d + 1
  | (_, d) => uptoBulk d + 1
 end
def uptoSmall : (H : Type) → List (DataW H) → Bool := fun _ ds => decide (uptoBulkAll ds ≤ 1048576)
def OpenSpec.upto (s : _root_.Go.ChangeSpec) : _root_.Go.OpenSpec := { _root_.Go.OpenSpec.ofChange s with cond := some uptoSmall }

/-- 'gleaningslaw01.SipSums', WHERE WHAT IT READS IS OF BULK AT MOST 1048576: true; the input reads as it did. -/
def sipSumsUptoRow : OpenClaim := { program := "ytfbpaakgifnmaaa", sum := "da0fdeae91f201a8b2bf69679c2a2485be2da4cad99814a031256de8382c22f6", func := "gleanings/gleaningslaw01.SipSums", spec := "sipSums", apart := false, narrowed := true }
def SipSumsUptoSaid : Prop := sipSumsUptoRow.holds Try.pinned (OpenSpec.upto sipSumsSpec)

/-- 'gleaningslaw01.SipPlays', WHERE WHAT IT READS IS OF BULK AT MOST 1048576: true; the input reads as it did. -/
def sipPlaysUptoRow : OpenClaim := { program := "ytfbpaakgifnmaaa", sum := "da0fdeae91f201a8b2bf69679c2a2485be2da4cad99814a031256de8382c22f6", func := "gleanings/gleaningslaw01.SipPlays", spec := "sipPlays", apart := false, narrowed := true }
def SipPlaysUptoSaid : Prop := sipPlaysUptoRow.holds Try.pinned (OpenSpec.upto sipPlaysSpec)

/-- 'gleaningslaw01.SipParts', WHERE WHAT IT READS IS OF BULK AT MOST 1048576: true; the input reads as it did. -/
def sipPartsUptoRow : OpenClaim := { program := "ytfbpaakgifnmaaa", sum := "da0fdeae91f201a8b2bf69679c2a2485be2da4cad99814a031256de8382c22f6", func := "gleanings/gleaningslaw01.SipParts", spec := "sipParts", apart := false, narrowed := true }
def SipPartsUptoSaid : Prop := sipPartsUptoRow.holds Try.pinned (OpenSpec.upto sipPartsSpec)

/-- 'gleaningslaw01.SipHalves', WHERE WHAT IT READS IS OF BULK AT MOST 1048576: true; the input reads as it did. -/
def sipHalvesUptoRow : OpenClaim := { program := "ytfbpaakgifnmaaa", sum := "da0fdeae91f201a8b2bf69679c2a2485be2da4cad99814a031256de8382c22f6", func := "gleanings/gleaningslaw01.SipHalves", spec := "sipHalves", apart := false, narrowed := true }
def SipHalvesUptoSaid : Prop := sipHalvesUptoRow.holds Try.pinned (OpenSpec.upto sipHalvesSpec)

/-- 'gleaningslaw02.PenWrites', WHERE WHAT IT READS IS OF BULK AT MOST 1048576: true; the input reads as it did. -/
def penWritesUptoRow : OpenClaim := { program := "ytfbpaakgifnmaaa", sum := "da0fdeae91f201a8b2bf69679c2a2485be2da4cad99814a031256de8382c22f6", func := "gleanings/gleaningslaw02.PenWrites", spec := "penWrites", apart := false, narrowed := true }
def PenWritesUptoSaid : Prop := penWritesUptoRow.holds Try.pinned (OpenSpec.upto penWritesSpec)

/-- 'gleaningslaw02.PenReads', WHERE WHAT IT READS IS OF BULK AT MOST 1048576: true; the input reads as it did. -/
def penReadsUptoRow : OpenClaim := { program := "ytfbpaakgifnmaaa", sum := "da0fdeae91f201a8b2bf69679c2a2485be2da4cad99814a031256de8382c22f6", func := "gleanings/gleaningslaw02.PenReads", spec := "penReads", apart := false, narrowed := true }
def PenReadsUptoSaid : Prop := penReadsUptoRow.holds Try.pinned (OpenSpec.upto penReadsSpec)

/-- 'gleaningslaw02.PenWords', WHERE WHAT IT READS IS OF BULK AT MOST 1048576: true; the input reads as it did. -/
def penWordsUptoRow : OpenClaim := { program := "ytfbpaakgifnmaaa", sum := "da0fdeae91f201a8b2bf69679c2a2485be2da4cad99814a031256de8382c22f6", func := "gleanings/gleaningslaw02.PenWords", spec := "penWords", unfollowed := true, recurses := true, apart := false, narrowed := true }
def PenWordsUptoSaid : Prop := penWordsUptoRow.holds Try.pinned (OpenSpec.upto penWordsSpec)

/-- 'gleaningslaw02.PenOrder', WHERE WHAT IT READS IS OF BULK AT MOST 1048576: true; the input reads as it did. -/
def penOrderUptoRow : OpenClaim := { program := "ytfbpaakgifnmaaa", sum := "da0fdeae91f201a8b2bf69679c2a2485be2da4cad99814a031256de8382c22f6", func := "gleanings/gleaningslaw02.PenOrder", spec := "penOrder", apart := false, narrowed := true }
def PenOrderUptoSaid : Prop := penOrderUptoRow.holds Try.pinned (OpenSpec.upto penOrderSpec)

/-- 'gleaningslaw02.PenStops', WHERE WHAT IT READS IS OF BULK AT MOST 1048576: true; the input reads as it did. -/
def penStopsUptoRow : OpenClaim := { program := "ytfbpaakgifnmaaa", sum := "da0fdeae91f201a8b2bf69679c2a2485be2da4cad99814a031256de8382c22f6", func := "gleanings/gleaningslaw02.PenStops", spec := "penStops", apart := false, narrowed := true }
def PenStopsUptoSaid : Prop := penStopsUptoRow.holds Try.pinned (OpenSpec.upto penStopsSpec)

end Rows
end Go.Proofs.Ytfbpaakgifnmaaa
