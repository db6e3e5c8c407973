/-
  Of earlier texts what is used here: U64, SipPlain, SipA, SipB, SipC, SipD .. No condition.
-/
import Derived.Test.YtijlmfmpfjjlpaaKp
import Derived.Test.YtijlmfmpfjjlpaaRow
import Derived.Test.YtijlmfmpfjjlpaaRowCut
import Derived.Test.YtijlmfmpfjjlpaaGhostR
import Derived.Test.YtijlmfmpfjjlpaaRowApp
import Derived.Test.YtijlmfmpfjjlpaaColl
import Derived.Test.YtijlmfmpfjjlpaaVars
import Derived.Test.YtijlmfmpfjjlpaaMkit
import Derived.Test.YtijlmfmpfjjlpaaMkf
import Derived.Test.YtijlmfmpfjjlpaaMkp
import Derived.Test.YtijlmfmpfjjlpaaMke
import Derived.Test.YtijlmfmpfjjlpaaMkr
import Derived.Test.YtijlmfmpfjjlpaaMaV
import Derived.Test.YtijlmfmpfjjlpaaProg
import Derived.BigQuiet
import Derived.ChangeAlike
import Derived.ChangeKeysEq
import Derived.Deep.Matrix
import Derived.Deep.QuietTactic
import Derived.Deep.Strs
import Derived.Lib.SlBytesConst
import Derived.OpenShut
import Derived.ProofKit
import Derived.RegionTactic
import Derived.SizedLaws
import Derived.StillTailTactics
import Derived.WalkKit
import Derived.WalkLawsBesides
import Derived.WalkSpells
namespace Go.Proofs.Ytijlmfmpfjjlpaa
section
open Go.ChangeShapes Go.WideShapes Go.ChangeAt Go.RowKit
theorem open_bytes {H : Type} {enc : TypeId × Value → H} {W : World} {v : Value} {d : DataW H} {p : List MemPlace}
    (h : DataW.Trod enc Try.prog W 0 (fun _ => true) true 45 v d p) (hv : ∃ a len cap, v = .slice a len cap) : ∃ zs, BySl Nb W v zs := by
  obtain ⟨x, len, cap, rfl⟩ := hv
  obtain ⟨fuel, hf⟩ := h
  rcases open_ints Try.underlying45 Try.underlying5 cells_byte hf with ⟨hcs, _⟩ | ⟨y, l, c, zs, hcs, _, hl, hm, hz, _, hcell, hwz⟩
  · simp [Value.cells] at hcs
    obtain ⟨rfl, rfl, rfl⟩ := hcs
    exact ⟨[], fun i => by simp, .inl ⟨⟨_, _, rfl⟩, rfl⟩⟩
  · simp [Value.cells] at hcs
    obtain ⟨rfl, rfl, rfl⟩ := hcs
    have hz' : zs.length = cap := by simpa using hz
    by_cases hn : len = 0
    · subst hn
      exact ⟨[], fun i => by simp, .inl ⟨⟨_, _, rfl⟩, rfl⟩⟩
    · obtain ⟨blk, off, spot⟩ := y
      have hspot : spot = none := by
        have := World.cell?_spot (hcell 0 (by omega))
        simpa [Addr.add] using this
      subst hspot
      have elen : (zs.take len).length = len := by simp; omega
      refine ⟨zs.take len, fun i => ?_, .inr ⟨blk, off, cap, by rw [elen], by omega, hm, fun i hi => ?_, fun _ h => h⟩⟩
      · have hr := range_u8 (zs := zs.take len) (fun n hn => hwz n (List.mem_of_mem_take hn)) i
        omega
      · rw [elen] at hi
        have := hcell i (by omega)
        rw [add_none] at this
        rw [List.getElem?_take_of_lt hi]
        simpa [List.getD] using this
end

end Go.Proofs.Ytijlmfmpfjjlpaa
