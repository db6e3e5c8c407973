/-
  DERIVED. GIVEN WITH THE SEED: THE CARDS: each row of YtbbfibgijackhaaDoorRows.lean that lists a variable, with what it lists TIED to the program's text (the seventh form; the later family's looks); each row that meets fmt, with fmt's text TOLD by the authors' own Lean function (tested against real Go, not proved from fmt's source: count such statements apart). THE CARD IS WHAT COUNTS. Prove the row's statement (the work); the ties are given (YtbbfibgijackhaaDoorTie.lean); close each card by the builder's one call (the guide's Derived/Test/ToyasCard.lean, 'card_holds'). Laid BY PROGRAM, IN A SANDBOX (cutbox-door.mjs). By AI agents, Wed Nov 11 2026. No macro, syntax, notation, axiom, sorry.
-/
import Derived.Test.YtbbfibgijackhaaDoorRows
import GoSem.ClaimSeven
namespace Go.Proofs.YtbbfibgijackhaaDoor
namespace Rows

/-- THE TIED CARD OF 'gleaningslaw03.DotMissing'. -/
def dotMissingCard : Claim7 := { stood := { row := dotMissingRow, standIns := [], harness := (true, "5926b44886510267cb6c3b9eac5a60373766624603e92ece8add3a18435ab496"), looks := true }, kinds := [], alts := [], laidByText := true, laidKinds := [.data, .data, .data, .data, .sentinel, .sentinel, .pinned], laidTests := true, laidLooks := .later }
def DotMissingCardSaid : Prop := Claim7.holds Tryd.pinned (.plain (OpenSpec.ofChange dotMissingSpec)) dotMissingCard

/-- THE TIED CARD OF 'gleaningslaw03.DotLeast'. -/
def dotLeastCard : Claim7 := { stood := { row := dotLeastRow, standIns := [], harness := (true, "5926b44886510267cb6c3b9eac5a60373766624603e92ece8add3a18435ab496"), looks := true }, kinds := [], alts := [], laidByText := true, laidKinds := [.data, .data, .data, .data, .sentinel, .sentinel, .pinned], laidTests := true, laidLooks := .later }
def DotLeastCardSaid : Prop := Claim7.holds Tryd.pinned (.plain (OpenSpec.ofChange dotLeastSpec)) dotLeastCard

/-- THE TIED CARD OF 'gleaningslaw03.DotSets'. -/
def dotSetsCard : Claim7 := { stood := { row := dotSetsRow, standIns := [], harness := (true, "5926b44886510267cb6c3b9eac5a60373766624603e92ece8add3a18435ab496"), looks := true }, kinds := [], alts := [], laidByText := true, laidKinds := [.data, .data, .data, .data, .sentinel, .sentinel, .pinned], laidTests := true, laidLooks := .later }
def DotSetsCardSaid : Prop := Claim7.holds Tryd.pinned (.plain (OpenSpec.ofChange dotSetsSpec)) dotSetsCard

/-- THE SECOND FORM's CARD OF 'gleaningslaw03.DotMissing'. -/
def dotMissingUptoCard : Claim7 := { stood := { row := dotMissingUptoRow, standIns := [], harness := (true, "5926b44886510267cb6c3b9eac5a60373766624603e92ece8add3a18435ab496"), looks := true }, kinds := [], alts := [], laidByText := true, laidKinds := [.data, .data, .data, .data, .sentinel, .sentinel, .pinned], laidTests := true, laidLooks := .later }
def DotMissingUptoCardSaid : Prop := Claim7.holds Tryd.pinned (.plain (OpenSpec.upto dotMissingSpec)) dotMissingUptoCard

/-- THE SECOND FORM's CARD OF 'gleaningslaw03.DotLeast'. -/
def dotLeastUptoCard : Claim7 := { stood := { row := dotLeastUptoRow, standIns := [], harness := (true, "5926b44886510267cb6c3b9eac5a60373766624603e92ece8add3a18435ab496"), looks := true }, kinds := [], alts := [], laidByText := true, laidKinds := [.data, .data, .data, .data, .sentinel, .sentinel, .pinned], laidTests := true, laidLooks := .later }
def DotLeastUptoCardSaid : Prop := Claim7.holds Tryd.pinned (.plain (OpenSpec.upto dotLeastSpec)) dotLeastUptoCard

/-- THE SECOND FORM's CARD OF 'gleaningslaw03.DotSets'. -/
def dotSetsUptoCard : Claim7 := { stood := { row := dotSetsUptoRow, standIns := [], harness := (true, "5926b44886510267cb6c3b9eac5a60373766624603e92ece8add3a18435ab496"), looks := true }, kinds := [], alts := [], laidByText := true, laidKinds := [.data, .data, .data, .data, .sentinel, .sentinel, .pinned], laidTests := true, laidLooks := .later }
def DotSetsUptoCardSaid : Prop := Claim7.holds Tryd.pinned (.plain (OpenSpec.upto dotSetsSpec)) dotSetsUptoCard
end Rows
end Go.Proofs.YtbbfibgijackhaaDoor
