/-
  Layer 22: the program's plus, isKind, sum. Conditions: what a number of 64 bits holds.
-/
import Derived.Test.YtjipcmhknikcgaaDoorKp
import Derived.Test.YtjipcmhknikcgaaDoorRow
import Derived.Test.YtjipcmhknikcgaaDoorRowCut
import Derived.Test.YtjipcmhknikcgaaDoorVals
import Derived.Test.YtjipcmhknikcgaaDoorGhostL
import Derived.Test.YtjipcmhknikcgaaDoorVars
import Derived.Test.YtjipcmhknikcgaaDoorRgn
import Derived.Test.YtjipcmhknikcgaaDoorProg
namespace Go.Proofs.YtjipcmhknikcgaaDoor
open Go.RowKit

def mx64 : Int := 18446744073709551615
def u64R (n : Int) : Prop := 0 ≤ n ∧ n ≤ mx64
/-- Up to the end. -/
def plusS (a b : Int) : Int := min (a + b) mx64
theorem plusS_ok {a b : Int} (ha : u64R a) (hb : u64R b) : u64R (plusS a b) := by
  unfold u64R plusS at *
  omega
set_option maxRecDepth 100000 in
theorem plus_any (a b : Int) (w : World) (ha : u64R a) (hb : u64R b) : Calls Tryd.prog 29 #[.int .u64 a, .int .u64 b] w fun e w' => e = .returned (.int .u64 (plusS a b)) ∧ w = w' := by
  obtain ⟨d, hd⟩ : ∃ d, IntKind.u64.wrap (18446744073709551615 - b) = d := ⟨_, rfl⟩
  obtain ⟨s, hs⟩ : ∃ s, IntKind.u64.wrap (a + b) = s := ⟨_, rfl⟩
  have e1 : IntKind.u64.wrap (18446744073709551615 - b) = (18446744073709551615 - b) % 18446744073709551616 := by simp [IntKind.wrap, IntKind.bits, IntKind.signed]
  have e2 : IntKind.u64.wrap (a + b) = (a + b) % 18446744073709551616 := by simp [IntKind.wrap, IntKind.bits, IntKind.signed]
  have hd2 : d = 18446744073709551615 - b := by
    unfold u64R mx64 at hb
    rw [← hd, e1]
    omega
  have HD := hid hd2
  by_cases h : d < a
  · have HP : Hid (plusS a b = 18446744073709551615) := hid (by unfold plusS mx64; have := HD.out; omega)
    rw [HP.out]
    clear e1 e2 hd2 ha hb hs
    go_enter Tryd.func29, Tryd.ntmps29
    go_wp2
    go_ret
    exact ⟨rfl, rfl⟩
  · have HP : Hid (plusS a b = s) := hid (by
      unfold u64R mx64 at ha hb
      have := HD.out
      rw [← hs, e2]
      unfold plusS mx64
      omega)
    rw [HP.out]
    clear e1 e2 hd2 ha hb
    go_enter Tryd.func29, Tryd.ntmps29
    go_wp2
    go_ret
    exact ⟨rfl, rfl⟩
/-- Is there such a kind? -/
def knd (k : Int) : Bool := decide (1 ≤ k ∧ k ≤ 14)
theorem kind_any (k : Int) (w : World) : Calls Tryd.prog 21 #[.int .i64 k] w fun e w' => e = .returned (.bool (knd k)) ∧ w = w' := by
  by_cases h1 : k < 1
  · have HK : Hid (knd k = false) := hid (decide_eq_false (by omega))
    rw [HK.out]
    have d1 : decide (k ≥ 1) = false := decide_eq_false (by omega)
    go_enter Tryd.func21, Tryd.ntmps21
    go_wp2
    go_ret
    exact ⟨rfl, rfl⟩
  · have HK : Hid (knd k = decide (k ≤ 14)) := hid (by unfold knd; exact decide_eq_decide.2 (by omega))
    rw [HK.out]
    have d1 : decide (k ≥ 1) = true := decide_eq_true (by omega)
    go_enter Tryd.func21, Tryd.ntmps21
    go_wp2
    go_ret
    exact ⟨rfl, rfl⟩
/-- A row's cells. -/
abbrev RwQ : Type := Int × Int
def rL (q : RwQ) : List Value := [.int .u64 q.1, .int .u64 q.2]
abbrev rV (q : RwQ) : Value := .agg (rL q).toArray
def RwOk (q : RwQ) : Prop := u64R q.1 ∧ u64R q.2
def sumR (a b : RwQ) : RwQ := (plusS a.1 b.1, plusS a.2 b.2)
theorem sumR_ok {a b : RwQ} (ha : RwOk a) (hb : RwOk b) : RwOk (sumR a b) := ⟨plusS_ok ha.1 hb.1, plusS_ok ha.2 hb.2⟩

end Go.Proofs.YtjipcmhknikcgaaDoor
