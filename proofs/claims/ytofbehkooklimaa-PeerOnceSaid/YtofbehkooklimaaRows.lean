/-
  No cell of these rows narrows 'for every input' (looked for: loops, veiled, ifaces, maps, wideKeys, modest, calm, conditions, laid).
  DERIVED. THE GIVEN ROWS OF THIS SEAT. 8 by the template 'for every input the law returns true; each argument reads behind the call as it read before'; 0 by the template 'total and deterministic' (their statements: YtofbehkooklimaaTotals.lean).
  GIVEN WITH THE SEED: the statements are not yours to turn. If you find one false, say at which input.
  Laid BY PROGRAM, IN A SANDBOX (cutbox-rows.mjs): the forced cells as the released guide's own fill.sh prints them over the translation bdde6117c33bf74b… (all of the seat's roots in one cut). By AI agents, Wed Nov 11 2026. No macro, syntax, notation, axiom, sorry.
-/
import Derived.Test.YtofbehkooklimaaChecked
import GoSem.Claim
import GoSem.ClaimJoined
import GoSem.ClaimMapViews
import Derived.JoinedTies
import Derived.KernelRfl
namespace Go.Proofs.Ytofbehkooklimaa
/- THE CELL 'sum', in the pinned program and in every row, IS THE sha256 OF THE DUMP (.gsa) THAT YtofbehkooklimaaProg.lean LOADS. Nothing in Lean hashes anything: it is a label: what it is worth is what the hold of that sum in a sandbox is worth. -/
noncomputable def Try.pinned : Pinned := { name := "ytofbehkooklimaa", sum := "bdde6117c33bf74b11324a30d54b475992ac4e4d41c1664437bb75a51d5c7c41", checked := Try.checked }
namespace Rows
def none {H : Type} : Left H := { results := [], args := [] }

/-- 'gleaningslaw14.SizesRounds': WHATEVER THE INPUT: true; the input reads as it did. -/
def sizesRoundsSpec : ChangeSpec := { name := "sizesRounds", fn := fun _ => fun
  | [d1, d2, d3] => { results := [.lit (.bool true)], args := [d1, d2, d3] }
  | _ => none }
def sizesRoundsRow : OpenClaim := { program := "ytofbehkooklimaa", sum := "bdde6117c33bf74b11324a30d54b475992ac4e4d41c1664437bb75a51d5c7c41", func := "gleanings/gleaningslaw14.SizesRounds", spec := "sizesRounds", unfollowed := true, recurses := true, apart := false }
def SizesRoundsSaid : Prop := sizesRoundsRow.holds Try.pinned (OpenSpec.ofChange sizesRoundsSpec)

/-- ITS FALSE NEIGHBOUR: 'it returns false'. Refute it at one input. -/
def sizesRoundsWrong : ChangeSpec := { name := "sizesRounds", fn := fun _ => fun
  | [d1, d2, d3] => { results := [.lit (.bool false)], args := [d1, d2, d3] }
  | _ => none }
def SizesRoundsWrongFalsely : Prop := sizesRoundsRow.holds Try.pinned (OpenSpec.ofChange sizesRoundsWrong)

/-- 'gleaningslaw14.SizesParts': WHATEVER THE INPUT: true; the input reads as it did. -/
def sizesPartsSpec : ChangeSpec := { name := "sizesParts", fn := fun _ => fun
  | [d1, d2] => { results := [.lit (.bool true)], args := [d1, d2] }
  | _ => none }
def sizesPartsRow : OpenClaim := { program := "ytofbehkooklimaa", sum := "bdde6117c33bf74b11324a30d54b475992ac4e4d41c1664437bb75a51d5c7c41", func := "gleanings/gleaningslaw14.SizesParts", spec := "sizesParts", unfollowed := true, recurses := true, apart := false }
def SizesPartsSaid : Prop := sizesPartsRow.holds Try.pinned (OpenSpec.ofChange sizesPartsSpec)

/-- ITS FALSE NEIGHBOUR: 'it returns false'. Refute it at one input. -/
def sizesPartsWrong : ChangeSpec := { name := "sizesParts", fn := fun _ => fun
  | [d1, d2] => { results := [.lit (.bool false)], args := [d1, d2] }
  | _ => none }
def SizesPartsWrongFalsely : Prop := sizesPartsRow.holds Try.pinned (OpenSpec.ofChange sizesPartsWrong)

/-- 'gleaningslaw23.TimerPlays': WHATEVER THE INPUT: true; the input reads as it did. -/
def timerPlaysSpec : ChangeSpec := { name := "timerPlays", fn := fun _ => fun
  | [d1, d2, d3] => { results := [.lit (.bool true)], args := [d1, d2, d3] }
  | _ => none }
def timerPlaysRow : OpenClaim := { program := "ytofbehkooklimaa", sum := "bdde6117c33bf74b11324a30d54b475992ac4e4d41c1664437bb75a51d5c7c41", func := "gleanings/gleaningslaw23.TimerPlays", spec := "timerPlays", unfollowed := true, recurses := true, apart := false }
def TimerPlaysSaid : Prop := timerPlaysRow.holds Try.pinned (OpenSpec.ofChange timerPlaysSpec)

/-- ITS FALSE NEIGHBOUR: 'it returns false'. Refute it at one input. -/
def timerPlaysWrong : ChangeSpec := { name := "timerPlays", fn := fun _ => fun
  | [d1, d2, d3] => { results := [.lit (.bool false)], args := [d1, d2, d3] }
  | _ => none }
def TimerPlaysWrongFalsely : Prop := timerPlaysRow.holds Try.pinned (OpenSpec.ofChange timerPlaysWrong)

/-- 'gleaningslaw23.TimerWaits': WHATEVER THE INPUT: true; the input reads as it did. -/
def timerWaitsSpec : ChangeSpec := { name := "timerWaits", fn := fun _ => fun
  | [d1, d2, d3] => { results := [.lit (.bool true)], args := [d1, d2, d3] }
  | _ => none }
def timerWaitsRow : OpenClaim := { program := "ytofbehkooklimaa", sum := "bdde6117c33bf74b11324a30d54b475992ac4e4d41c1664437bb75a51d5c7c41", func := "gleanings/gleaningslaw23.TimerWaits", spec := "timerWaits", unfollowed := true, recurses := true, apart := false }
def TimerWaitsSaid : Prop := timerWaitsRow.holds Try.pinned (OpenSpec.ofChange timerWaitsSpec)

/-- ITS FALSE NEIGHBOUR: 'it returns false'. Refute it at one input. -/
def timerWaitsWrong : ChangeSpec := { name := "timerWaits", fn := fun _ => fun
  | [d1, d2, d3] => { results := [.lit (.bool false)], args := [d1, d2, d3] }
  | _ => none }
def TimerWaitsWrongFalsely : Prop := timerWaitsRow.holds Try.pinned (OpenSpec.ofChange timerWaitsWrong)

/-- 'gleaningslaw23.TimerEnds': WHATEVER THE INPUT: true; the input reads as it did. -/
def timerEndsSpec : ChangeSpec := { name := "timerEnds", fn := fun _ => fun
  | [d1, d2, d3] => { results := [.lit (.bool true)], args := [d1, d2, d3] }
  | _ => none }
def timerEndsRow : OpenClaim := { program := "ytofbehkooklimaa", sum := "bdde6117c33bf74b11324a30d54b475992ac4e4d41c1664437bb75a51d5c7c41", func := "gleanings/gleaningslaw23.TimerEnds", spec := "timerEnds", unfollowed := true, recurses := true, apart := false }
def TimerEndsSaid : Prop := timerEndsRow.holds Try.pinned (OpenSpec.ofChange timerEndsSpec)

/-- ITS FALSE NEIGHBOUR: 'it returns false'. Refute it at one input. -/
def timerEndsWrong : ChangeSpec := { name := "timerEnds", fn := fun _ => fun
  | [d1, d2, d3] => { results := [.lit (.bool false)], args := [d1, d2, d3] }
  | _ => none }
def TimerEndsWrongFalsely : Prop := timerEndsRow.holds Try.pinned (OpenSpec.ofChange timerEndsWrong)

/-- 'gleaningslaw23.TimerStops': WHATEVER THE INPUT: true; the input reads as it did. -/
def timerStopsSpec : ChangeSpec := { name := "timerStops", fn := fun _ => fun
  | [d1, d2, d3] => { results := [.lit (.bool true)], args := [d1, d2, d3] }
  | _ => none }
def timerStopsRow : OpenClaim := { program := "ytofbehkooklimaa", sum := "bdde6117c33bf74b11324a30d54b475992ac4e4d41c1664437bb75a51d5c7c41", func := "gleanings/gleaningslaw23.TimerStops", spec := "timerStops", unfollowed := true, recurses := true, apart := false }
def TimerStopsSaid : Prop := timerStopsRow.holds Try.pinned (OpenSpec.ofChange timerStopsSpec)

/-- ITS FALSE NEIGHBOUR: 'it returns false'. Refute it at one input. -/
def timerStopsWrong : ChangeSpec := { name := "timerStops", fn := fun _ => fun
  | [d1, d2, d3] => { results := [.lit (.bool false)], args := [d1, d2, d3] }
  | _ => none }
def TimerStopsWrongFalsely : Prop := timerStopsRow.holds Try.pinned (OpenSpec.ofChange timerStopsWrong)

/-- 'gleaningslaw29.PeerTells': WHATEVER THE INPUT: true; the input reads as it did. -/
def peerTellsSpec : ChangeSpec := { name := "peerTells", fn := fun _ => fun
  | [d] => { results := [.lit (.bool true)], args := [d] }
  | _ => none }
def peerTellsRow : OpenClaim := { program := "ytofbehkooklimaa", sum := "bdde6117c33bf74b11324a30d54b475992ac4e4d41c1664437bb75a51d5c7c41", func := "gleanings/gleaningslaw29.PeerTells", spec := "peerTells", unfollowed := true, recurses := true, apart := false }
def PeerTellsSaid : Prop := peerTellsRow.holds Try.pinned (OpenSpec.ofChange peerTellsSpec)

/-- ITS FALSE NEIGHBOUR: 'it returns false'. Refute it at one input. -/
def peerTellsWrong : ChangeSpec := { name := "peerTells", fn := fun _ => fun
  | [d] => { results := [.lit (.bool false)], args := [d] }
  | _ => none }
def PeerTellsWrongFalsely : Prop := peerTellsRow.holds Try.pinned (OpenSpec.ofChange peerTellsWrong)

/-- 'gleaningslaw29.PeerOnce': WHATEVER THE INPUT: true; the input reads as it did. -/
def peerOnceSpec : ChangeSpec := { name := "peerOnce", fn := fun _ => fun
  | [d1, d2, d3] => { results := [.lit (.bool true)], args := [d1, d2, d3] }
  | _ => none }
def peerOnceRow : OpenClaim := { program := "ytofbehkooklimaa", sum := "bdde6117c33bf74b11324a30d54b475992ac4e4d41c1664437bb75a51d5c7c41", func := "gleanings/gleaningslaw29.PeerOnce", spec := "peerOnce", unfollowed := true, recurses := true, apart := false }
def PeerOnceSaid : Prop := peerOnceRow.holds Try.pinned (OpenSpec.ofChange peerOnceSpec)

/-- ITS FALSE NEIGHBOUR: 'it returns false'. Refute it at one input. -/
def peerOnceWrong : ChangeSpec := { name := "peerOnce", fn := fun _ => fun
  | [d1, d2, d3] => { results := [.lit (.bool false)], args := [d1, d2, d3] }
  | _ => none }
def PeerOnceWrongFalsely : Prop := peerOnceRow.holds Try.pinned (OpenSpec.ofChange peerOnceWrong)

/- THE SECOND FORM. 'bulk': how many values and letters a reading holds, each counted each time it is reached (what is shared counts as often as it is met; a slice's spare places count too). A statement '..UptoSaid' is the law's where the arguments, and the package variables that the reading takes, are together of bulk at most 1048576: NARROWER than '..Said'. Prove '..Said' where nothing that the law and all that it calls make is longer than what came in: it says more and counts as full. Else prove '..UptoSaid'. A law counts once. -/
mutual
def uptoBulk {H : Type} : DataW H → Nat
  | .lit (.string bytes) => bytes.length + 1
  | .lit _ => 1
  | .nil => 1
  | .ptr d => uptoBulk d + 1
  | .slice elems spare => uptoBulkAll elems + uptoBulkAll spare + 1
  | .agg parts => uptoBulkAll parts + 1
  | .iface _ d => uptoBulk d + 1
  | .map entries => uptoBulkEntries entries + 1
  | .held _ => 1
def uptoBulkAll {H : Type} : List (DataW H) → Nat
  | [] => 0
  | d :: r => uptoBulk d + uptoBulkAll r
def uptoBulkEntries {H : Type} : List (Lit × DataW H) → Nat
  | [] => 0
  | x :: r => uptoBulkEntry x + uptoBulkEntries r
def uptoBulkEntry {H : Type} : Lit × DataW H → Nat
  | (.string bytes, d) => bytes.length + uptoBulk d + 1
  | (_, d) => uptoBulk d + 1
 end
def uptoSmall : (H : Type) → List (DataW H) → Bool := fun _ ds => decide (uptoBulkAll ds ≤ 1048576)
def OpenSpec.upto (s : _root_.Go.ChangeSpec) : _root_.Go.OpenSpec := { _root_.Go.OpenSpec.ofChange s with cond := some uptoSmall }

/-- 'gleaningslaw14.SizesRounds', WHERE WHAT IT READS IS OF BULK AT MOST 1048576: true; the input reads as it did. -/
def sizesRoundsUptoRow : OpenClaim := { program := "ytofbehkooklimaa", sum := "bdde6117c33bf74b11324a30d54b475992ac4e4d41c1664437bb75a51d5c7c41", func := "gleanings/gleaningslaw14.SizesRounds", spec := "sizesRounds", unfollowed := true, recurses := true, apart := false, narrowed := true }
def SizesRoundsUptoSaid : Prop := sizesRoundsUptoRow.holds Try.pinned (OpenSpec.upto sizesRoundsSpec)

/-- 'gleaningslaw14.SizesParts', WHERE WHAT IT READS IS OF BULK AT MOST 1048576: true; the input reads as it did. -/
def sizesPartsUptoRow : OpenClaim := { program := "ytofbehkooklimaa", sum := "bdde6117c33bf74b11324a30d54b475992ac4e4d41c1664437bb75a51d5c7c41", func := "gleanings/gleaningslaw14.SizesParts", spec := "sizesParts", unfollowed := true, recurses := true, apart := false, narrowed := true }
def SizesPartsUptoSaid : Prop := sizesPartsUptoRow.holds Try.pinned (OpenSpec.upto sizesPartsSpec)

/-- 'gleaningslaw23.TimerPlays', WHERE WHAT IT READS IS OF BULK AT MOST 1048576: true; the input reads as it did. -/
def timerPlaysUptoRow : OpenClaim := { program := "ytofbehkooklimaa", sum := "bdde6117c33bf74b11324a30d54b475992ac4e4d41c1664437bb75a51d5c7c41", func := "gleanings/gleaningslaw23.TimerPlays", spec := "timerPlays", unfollowed := true, recurses := true, apart := false, narrowed := true }
def TimerPlaysUptoSaid : Prop := timerPlaysUptoRow.holds Try.pinned (OpenSpec.upto timerPlaysSpec)

/-- 'gleaningslaw23.TimerWaits', WHERE WHAT IT READS IS OF BULK AT MOST 1048576: true; the input reads as it did. -/
def timerWaitsUptoRow : OpenClaim := { program := "ytofbehkooklimaa", sum := "bdde6117c33bf74b11324a30d54b475992ac4e4d41c1664437bb75a51d5c7c41", func := "gleanings/gleaningslaw23.TimerWaits", spec := "timerWaits", unfollowed := true, recurses := true, apart := false, narrowed := true }
def TimerWaitsUptoSaid : Prop := timerWaitsUptoRow.holds Try.pinned (OpenSpec.upto timerWaitsSpec)

/-- 'gleaningslaw23.TimerEnds', WHERE WHAT IT READS IS OF BULK AT MOST 1048576: true; the input reads as it did. -/
def timerEndsUptoRow : OpenClaim := { program := "ytofbehkooklimaa", sum := "bdde6117c33bf74b11324a30d54b475992ac4e4d41c1664437bb75a51d5c7c41", func := "gleanings/gleaningslaw23.TimerEnds", spec := "timerEnds", unfollowed := true, recurses := true, apart := false, narrowed := true }
def TimerEndsUptoSaid : Prop := timerEndsUptoRow.holds Try.pinned (OpenSpec.upto timerEndsSpec)

/-- 'gleaningslaw23.TimerStops', WHERE WHAT IT READS IS OF BULK AT MOST 1048576: true; the input reads as it did. -/
def timerStopsUptoRow : OpenClaim := { program := "ytofbehkooklimaa", sum := "bdde6117c33bf74b11324a30d54b475992ac4e4d41c1664437bb75a51d5c7c41", func := "gleanings/gleaningslaw23.TimerStops", spec := "timerStops", unfollowed := true, recurses := true, apart := false, narrowed := true }
def TimerStopsUptoSaid : Prop := timerStopsUptoRow.holds Try.pinned (OpenSpec.upto timerStopsSpec)

/-- 'gleaningslaw29.PeerTells', WHERE WHAT IT READS IS OF BULK AT MOST 1048576: true; the input reads as it did. -/
def peerTellsUptoRow : OpenClaim := { program := "ytofbehkooklimaa", sum := "bdde6117c33bf74b11324a30d54b475992ac4e4d41c1664437bb75a51d5c7c41", func := "gleanings/gleaningslaw29.PeerTells", spec := "peerTells", unfollowed := true, recurses := true, apart := false, narrowed := true }
def PeerTellsUptoSaid : Prop := peerTellsUptoRow.holds Try.pinned (OpenSpec.upto peerTellsSpec)

/-- 'gleaningslaw29.PeerOnce', WHERE WHAT IT READS IS OF BULK AT MOST 1048576: true; the input reads as it did. -/
def peerOnceUptoRow : OpenClaim := { program := "ytofbehkooklimaa", sum := "bdde6117c33bf74b11324a30d54b475992ac4e4d41c1664437bb75a51d5c7c41", func := "gleanings/gleaningslaw29.PeerOnce", spec := "peerOnce", unfollowed := true, recurses := true, apart := false, narrowed := true }
def PeerOnceUptoSaid : Prop := peerOnceUptoRow.holds Try.pinned (OpenSpec.upto peerOnceSpec)

end Rows
end Go.Proofs.Ytofbehkooklimaa
