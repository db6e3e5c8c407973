/-
  Of earlier texts what is used here: U64, SipPlain, SipA, SipB, SipC, SipD .. No condition.
-/
import Derived.Test.YtijlmfmpfjjlpaaKp
import Derived.Test.YtijlmfmpfjjlpaaRow
import Derived.Test.YtijlmfmpfjjlpaaRowCut
import Derived.Test.YtijlmfmpfjjlpaaGhostR
import Derived.Test.YtijlmfmpfjjlpaaRowApp
import Derived.Test.YtijlmfmpfjjlpaaColl
import Derived.Test.YtijlmfmpfjjlpaaVars
import Derived.Test.YtijlmfmpfjjlpaaMkit
import Derived.Test.YtijlmfmpfjjlpaaMkf
import Derived.Test.YtijlmfmpfjjlpaaMkp
import Derived.Test.YtijlmfmpfjjlpaaMke
import Derived.Test.YtijlmfmpfjjlpaaMkr
import Derived.Test.YtijlmfmpfjjlpaaProg
import Derived.BigQuiet
import Derived.ChangeAlike
import Derived.ChangeKeysEq
import Derived.Deep.QuietTactic
import Derived.Lib.BitFns
import Derived.Lib.SlBytesConst
import Derived.Lib.SliceRun
import Derived.Lib.Walk
import Derived.OwnWalk
import Derived.RegionTactic
import Derived.StillTailTactics
import Derived.WalkKit
import Derived.WalkLawsBesides
import Derived.WalkSpells
namespace Go.Proofs.Ytijlmfmpfjjlpaa
section
open Go.RowKit
theorem firstOf_range (zs : List Int) (hz : IsBytes zs) : 0 ≤ (firstOf zs).1 ∧ (firstOf zs).1 < 18446744073709551616 := by
  unfold firstOf
  have h0 := hz 0
  have h1 := beTo_range (zs.drop 1) (zs[0]?.getD 0 - 247).toNat
  split
  · exact ⟨Int.le_refl _, by show (0 : Int) < _; decide⟩
  · split
    · exact ⟨h0.1, by show zs[0]?.getD 0 < _; omega⟩
    · split
      · exact ⟨Int.le_refl _, by show (0 : Int) < _; decide⟩
      · split
        · exact h1
        · exact ⟨Int.le_refl _, by show (0 : Int) < _; decide⟩
theorem readN_range (zs : List Int) (e most : Int) (hz : IsBytes zs) : 0 ≤ (readN zs e most).1 ∧ (readN zs e most).1 < 18446744073709551616 := by
  have h := firstOf_range zs hz
  unfold readN
  split
  · exact ⟨Int.le_refl _, by show (0 : Int) < _; decide⟩
  · split
    · exact ⟨Int.le_refl _, by show (0 : Int) < _; decide⟩
    · split
      · exact ⟨Int.le_refl _, by show (0 : Int) < _; decide⟩
      · exact h
end

end Go.Proofs.Ytijlmfmpfjjlpaa
