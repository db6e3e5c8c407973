/-
  DERIVED. GIVEN WITH THE SEED: THE CARDS: each row of YtbbfibgijackhaaGreatDoorRows.lean that lists a variable, with what it lists TIED to the program's text (the seventh form; the later family's looks); each row that meets fmt, with fmt's text TOLD by the authors' own Lean function (tested against real Go, not proved from fmt's source: count such statements apart). THE CARD IS WHAT COUNTS. Prove the row's statement (the work); the ties are given (YtbbfibgijackhaaGreatDoorTie.lean); close each card by the builder's one call (the guide's Derived/Test/ToyasCard.lean, 'card_holds'). Laid BY PROGRAM, IN A SANDBOX (cutbox-door.mjs). By AI agents, Wed Nov 11 2026. No macro, syntax, notation, axiom, sorry.
-/
import Derived.Test.YtbbfibgijackhaaGreatDoorRows
import GoSem.ClaimSeven
namespace Go.Proofs.YtbbfibgijackhaaGreatDoor
namespace Rows

/-- THE TIED CARD OF 'gleaningslaw03.DotClocks'. -/
def dotClocksCard : Claim7 := { stood := { row := dotClocksRow, standIns := [], harness := (true, "edc3372ffed4d9763fb7b08be02f12697ea96801fbb80ce8544cf282a63c490c"), looks := true }, kinds := [], alts := [], laidByText := true, laidKinds := [.data, .data, .data, .data, .sentinel, .sentinel, .pinned], laidTests := true, laidLooks := .later }
def DotClocksCardSaid : Prop := Claim7.holds Tryz.pinned (.plain (OpenSpec.ofChange dotClocksSpec)) dotClocksCard

/-- THE TIED CARD OF 'gleaningslaw03.DotReads'. -/
def dotReadsCard : Claim7 := { stood := { row := dotReadsRow, standIns := [], harness := (true, "edc3372ffed4d9763fb7b08be02f12697ea96801fbb80ce8544cf282a63c490c"), looks := true }, kinds := [], alts := [], laidByText := true, laidKinds := [.data, .data, .data, .data, .sentinel, .sentinel, .pinned], laidTests := true, laidLooks := .later }
def DotReadsCardSaid : Prop := Claim7.holds Tryz.pinned (.plain (OpenSpec.ofChange dotReadsSpec)) dotReadsCard

/-- THE SECOND FORM's CARD OF 'gleaningslaw03.DotClocks'. -/
def dotClocksUptoCard : Claim7 := { stood := { row := dotClocksUptoRow, standIns := [], harness := (true, "edc3372ffed4d9763fb7b08be02f12697ea96801fbb80ce8544cf282a63c490c"), looks := true }, kinds := [], alts := [], laidByText := true, laidKinds := [.data, .data, .data, .data, .sentinel, .sentinel, .pinned], laidTests := true, laidLooks := .later }
def DotClocksUptoCardSaid : Prop := Claim7.holds Tryz.pinned (.plain (OpenSpec.upto dotClocksSpec)) dotClocksUptoCard

/-- THE SECOND FORM's CARD OF 'gleaningslaw03.DotReads'. -/
def dotReadsUptoCard : Claim7 := { stood := { row := dotReadsUptoRow, standIns := [], harness := (true, "edc3372ffed4d9763fb7b08be02f12697ea96801fbb80ce8544cf282a63c490c"), looks := true }, kinds := [], alts := [], laidByText := true, laidKinds := [.data, .data, .data, .data, .sentinel, .sentinel, .pinned], laidTests := true, laidLooks := .later }
def DotReadsUptoCardSaid : Prop := Claim7.holds Tryz.pinned (.plain (OpenSpec.upto dotReadsSpec)) dotReadsUptoCard
end Rows
end Go.Proofs.YtbbfibgijackhaaGreatDoor
