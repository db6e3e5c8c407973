/-
  Of the texts VeA what is used. No condition but what each says.
-/
import Derived.Test.YtogoophofgkboaaGreatDoorRf
import Derived.Test.YtogoophofgkboaaGreatDoorRh
import Derived.Test.YtogoophofgkboaaGreatDoorRd
namespace Go.Proofs.YtogoophofgkboaaGreatDoor
section
open Go.RowKit
/-- An item, plainly. -/
structure ItQ where
  key : List Int
  dn : Int
  dd : Int
  past : List RunQ
  gone : Bool
  val : List Int
abbrev itL (ks : ByteArray) (dn dd : Int) (vp : Value) (gone : Bool) (vv : Value) : List Value := [.string ks, .int .i64 dn, .int .i64 dd, vp, .bool gone, vv]
abbrev itV (ks : ByteArray) (dn dd : Int) (vp : Value) (gone : Bool) (vv : Value) : Value := .agg #[.string ks, .int .i64 dn, .int .i64 dd, vp, .bool gone, vv]
/-- A value is an item. -/
structure ItOk (w : World) (x : ItQ) (vp vv : Value) : Prop where
  key : IsBytes x.key
  dn : I64 x.dn
  dd : I64 x.dd
  past : ClSl w vp x.past
  val : BySl Nb w vv x.val
theorem ItOk.kept {w w' : World} {x : ItQ} {vp vv : Value} (h : ItOk w x vp vv) (k : Kp Nb w w') : ItOk w' x vp vv := ⟨h.key, h.dn, h.dd, h.past.kept k, h.val.kept k (fun _ h => h)⟩
abbrev itVq (x : ItQ) (vp vv : Value) : Value := itV (st x.key) x.dn x.dd vp x.gone vv
theorem by_shape {S : Nat → Prop} {w : World} {v : Value} {zs : List Int} (h : BySl S w v zs) : ∃ y d, v = .slice y zs.length d := by
  rcases h.2 with ⟨⟨a, c, rfl⟩, rfl⟩ | ⟨blk, off, cap, rfl, _⟩
  · exact ⟨a, c, rfl⟩
  · exact ⟨_, _, rfl⟩
theorem under_dotI : ∃ fs, Tryz.prog.underlying 23 = some (.struct fs) := ⟨_, Tryz.underlying23⟩
theorem dot_infoI (n d : Int) : (Tryz.prog.info? 23).map (·.size) = some ([Value.int .i64 n, .int .i64 d]).length := by kernel_rfl
theorem load_dotI {w : World} {N : Nat} {t : TypeId} {ks : ByteArray} {dn dd : Int} {vp vv : Value} {g : Bool} (h : Blk w N t (itL ks dn dd vp g vv)) : (Instr.loadAt 23 (.pointer (some ⟨N, 1, none⟩))).run Tryz.prog w = .ok (dotV dn dd) w := by
  obtain ⟨fs, hu⟩ := under_dotI
  exact run_loadAt_mid w N 1 23 [.int .i64 dn, .int .i64 dd] _ (h.range 1 _ (fun j hj => by
    match j, hj with
    | 0, _ => rfl
    | 1, _ => rfl)) hu rfl (dot_infoI dn dd)
/-- A right item? -/
def rightI (x : ItQ) : Bool := decide (1 ≤ x.key.length) && decide (x.key.length ≤ 24) && goodB x.dn x.dd && decide (x.past.length ≤ 32) && rightC x.past && decide (topC x.past x.dn < x.dd) && decide (x.val.length ≤ 64) && !(x.gone && decide (0 < x.val.length))
set_option maxRecDepth 100000 in
set_option maxHeartbeats 8000000 in
theorem iright_any (x : ItQ) (vp vv : Value) (w : World) (h : ItOk w x vp vv) : Calls Tryz.prog 13 #[itVq x vp vv] w fun e w' => e = .returned (.bool (rightI x)) ∧ Kp Nb w w' := by
  obtain ⟨pp, dp, rfl⟩ := h.past.shape
  obtain ⟨pv, dv, rfl⟩ := by_shape h.val
  have HPA := hid h.past
  have HSK0 := st_size x.key
  have HR0 : rightI x = (decide (1 ≤ x.key.length) && decide (x.key.length ≤ 24) && goodB x.dn x.dd && decide (x.past.length ≤ 32) && rightC x.past && decide (topC x.past x.dn < x.dd) && decide (x.val.length ≤ 64) && !(x.gone && decide (0 < x.val.length))) := rfl
  obtain ⟨R, hR⟩ : ∃ b, rightI x = b := ⟨_, rfl⟩
  rw [hR] at HR0 ⊢
  have HCL := hid HPA.out
  obtain ⟨key, dn, dd, past, gn, val⟩ := x
  unfold itVq itV
  dsimp only at HPA HSK0 HR0 HCL ⊢
  clear h hR HPA
  have HCP := HCL
  clear HCL
  obtain ⟨sk, hsk⟩ : ∃ s, st key = s := ⟨_, rfl⟩
  rw [hsk] at HSK0 ⊢
  obtain ⟨nk, hnk⟩ : ∃ n, key.length = n := ⟨_, rfl⟩
  obtain ⟨nP, hnP⟩ : ∃ n, past.length = n := ⟨_, rfl⟩
  obtain ⟨nV, hnV⟩ : ∃ n, val.length = n := ⟨_, rfl⟩
  have HNP := hid hnP
  rw [hnk] at HSK0 HR0
  rw [hnP] at HR0 HCP ⊢
  rw [hnV] at HR0 ⊢
  have HSK := hid HSK0
  clear hsk HSK0 hnk hnP hnV
  obtain ⟨N, hN⟩ : ∃ N, w.heap.size = N := ⟨_, rfl⟩
  obtain ⟨W, hW⟩ : ∃ W, W = w.alloc (.cells #[.string sk, .int .i64 dn, .int .i64 dd, .slice pp nP dp, .bool gn, .slice pv nV dv] 28) := ⟨_, rfl⟩
  have HB : Hid (Blk W N 28 (itL sk dn dd (.slice pp nP dp) gn (.slice pv nV dv))) := hid (by rw [hW, ← hN]; exact Blk.new w _ (itL sk dn dd (.slice pp nP dp) gn (.slice pv nV dv)))
  have K0 : Hid (Kp Nb w W) := hid (by rw [hW]; exact (Kp.refl Nb w).alloc _)
  have HC : Hid (ClSl W (.slice pp nP dp) past) := hid (HCP.out.kept K0.out)
  clear HCP

  obtain ⟨tp, htp⟩ : ∃ t, topC past dn = t := ⟨_, rfl⟩
  rw [htp] at HR0
  obtain ⟨y1, hy1⟩ : ∃ b, decide (1 ≤ nk) = b := ⟨_, rfl⟩
  obtain ⟨x2, hx2⟩ : ∃ b, decide (nk ≤ 24) = b := ⟨_, rfl⟩
  obtain ⟨x3, hx3⟩ : ∃ b, goodB dn dd = b := ⟨_, rfl⟩
  obtain ⟨x4, hx4⟩ : ∃ b, decide (nP ≤ 32) = b := ⟨_, rfl⟩
  obtain ⟨x5, hx5⟩ : ∃ b, rightC past = b := ⟨_, rfl⟩
  obtain ⟨x6, hx6⟩ : ∃ b, decide (tp < dd) = b := ⟨_, rfl⟩
  obtain ⟨x7, hx7⟩ : ∃ b, decide (nV ≤ 64) = b := ⟨_, rfl⟩
  obtain ⟨x8, hx8⟩ : ∃ b, decide (0 < nV) = b := ⟨_, rfl⟩
  rw [hy1, hx2, hx3, hx4, hx5, hx6, hx7, hx8] at HR0
  have H1 : Hid ((y1 = false → ¬ ((nk : Int) ≥ 1)) ∧ (y1 = true → (nk : Int) ≥ 1)) := hid ⟨fun h => by subst h; have := of_decide_eq_false hy1; omega, fun h => by subst h; have := of_decide_eq_true hy1; omega⟩
  have H2 : Hid ((x2 = false → ¬ ((nk : Int) ≤ 24)) ∧ (x2 = true → (nk : Int) ≤ 24)) := hid ⟨fun h => by subst h; have := of_decide_eq_false hx2; omega, fun h => by subst h; have := of_decide_eq_true hx2; omega⟩
  have H4 : Hid ((x4 = false → ¬ ((nP : Int) ≤ 32)) ∧ (x4 = true → (nP : Int) ≤ 32)) := hid ⟨fun h => by subst h; have := of_decide_eq_false hx4; omega, fun h => by subst h; have := of_decide_eq_true hx4; omega⟩
  have H6 : Hid ((x6 = false → ¬ (tp < dd)) ∧ (x6 = true → tp < dd)) := hid ⟨fun h => by subst h; have := of_decide_eq_false hx6; omega, fun h => by subst h; have := of_decide_eq_true hx6; omega⟩
  have H7 : Hid ((x7 = false → ¬ ((nV : Int) ≤ 64)) ∧ (x7 = true → (nV : Int) ≤ 64)) := hid ⟨fun h => by subst h; have := of_decide_eq_false hx7; omega, fun h => by subst h; have := of_decide_eq_true hx7; omega⟩
  have H8 : Hid ((x8 = false → ¬ ((nV : Int) > 0)) ∧ (x8 = true → (nV : Int) > 0)) := hid ⟨fun h => by subst h; have := of_decide_eq_false hx8; omega, fun h => by subst h; have := of_decide_eq_true hx8; omega⟩
  obtain ⟨y2, hy2⟩ : ∃ b, (y1 && x2) = b := ⟨_, rfl⟩
  obtain ⟨y3, hy3⟩ : ∃ b, (y2 && x3) = b := ⟨_, rfl⟩
  have CG : Hid (∀ wx, Calls Tryz.prog 44 #[dotV dn dd] wx fun e w' => e = .returned (.bool x3) ∧ Kp Nb wx w') := hid (fun wx => by rw [← hx3]; exact good_any dn dd wx)
  have CR : Hid (∀ b, (y3 && x4) = b → b = true → ∀ wx, Kp Nb W wx → Calls Tryz.prog 45 #[.slice pp nP dp] wx fun e w' => e = .returned (.bool x5) ∧ Kp Nb wx w') := hid (fun b e1 e2 wx k => by
    subst e2
    have h4 : x4 = true := by cases y3 <;> simp at e1 <;> exact e1
    rw [h4] at hx4
    have := of_decide_eq_true hx4
    rw [← hx5]
    exact dright_any _ past wx (HC.out.kept k) (by have := HNP.out; omega))
  have CT : Hid (∀ b, (y3 && x4) = b → (b && x5) = true → ∀ wx, Kp Nb W wx → Calls Tryz.prog 46 #[.slice pp nP dp, .int .i64 dn] wx fun e w' => e = .returned (.int .i64 tp) ∧ Kp Nb wx w') := hid (fun b e1 e2 wx k => by
    have h4 : x4 = true := by subst e1; cases y3 <;> cases x4 <;> simp at e2 <;> rfl
    rw [h4] at hx4
    have := of_decide_eq_true hx4
    rw [← htp]
    exact top_any _ past dn wx (HC.out.kept k) (by have := HNP.out; omega))
  obtain ⟨y4, hy4⟩ : ∃ b, (y3 && x4) = b := ⟨_, rfl⟩
  obtain ⟨y5, hy5⟩ : ∃ b, (y4 && x5) = b := ⟨_, rfl⟩
  obtain ⟨y6, hy6⟩ : ∃ b, (y5 && x6) = b := ⟨_, rfl⟩
  obtain ⟨y7, hy7⟩ : ∃ b, (y6 && x7) = b := ⟨_, rfl⟩
  obtain ⟨x9, hx9⟩ : ∃ b, (gn && x8) = b := ⟨_, rfl⟩
  obtain ⟨y8, hy8⟩ : ∃ b, (y7 && gn) = b := ⟨_, rfl⟩
  rw [hy2, hy3, hy4, hy5, hy6, hy7, hx9] at HR0
  have Y2 := hid hy2
  have Y3 := hid hy3
  have Y4 := hid hy4
  have Y5 := hid hy5
  have Y6 := hid hy6
  have Y7 := hid hy7
  have Y8 := hid hy8
  have Y9 := hid hx9
  have YR := hid HR0.symm
  clear HR0 hy1 hx2 hx3 hx4 hx5 hx6 hx7 hx8 hy2 hy3 hy4 hy5 hy6 hy7 hx9 hy8 htp HNP HC
  go_enter Tryz.func13, Tryz.ntmps13
  go_upto_region 1 with fail
  rw [← hW]
  clear hW hN
  refine V3.region_vals2 [none, none, some 55, some 0, some 1, some 2, some 3, some 4, some 5, some 6, some 7, some 8, some 9, some 10, some 11, some 12, some 13, some 14, some 15, some 16, some 17, some 18, some 19, some 20, some 21, some 22, some 23, some 24, some 25, some 26, some 27, some 28, some 29, some 30, some 31, some 32, some 33, some 34, some 35, some 36, some 37, some 38, some 39, some 40, some 41, some 42, some 43, some 44, some 45, some 46, some 47, some 48, some 49, some 50, some 51, some 52, some 53, some 54] [[(1, none)], [(3, some 0)], [(4, some 1)], [(5, some 2)], [(6, some 3)], [(1, none)], [(8, some 5)], [(9, some 6)], [(10, some 7)], [(7, some 4), (11, some 8)], [(12, some 9)], [(1, none)], [(14, some 11)], [(15, some 12)], [(13, some 10), (16, some 13)], [(17, some 14)], [(1, none)], [(19, some 16)], [(20, some 17)], [(21, some 18)], [(18, some 15), (22, some 19)], [(23, some 20)], [(1, none)], [(25, some 22)], [(26, some 23)], [(24, some 21), (27, some 24)], [(28, some 25)], [(1, none)], [(30, some 27)], [(1, none)], [(32, some 29)], [(33, some 30)], [(31, some 28), (34, some 31)], [(1, none)], [(36, some 33)], [(37, some 34)], [(35, some 32), (38, some 35)], [(29, some 26), (39, some 36)], [(40, some 37)], [(1, none)], [(42, some 39)], [(43, some 40)], [(44, some 41)], [(41, some 38), (45, some 42)], [(46, some 43)], [(1, none)], [(48, some 45)], [(49, some 46)], [(1, none)], [(51, some 48)], [(52, some 49)], [(53, some 50)], [(50, some 47), (54, some 51)], [(55, some 52)], [(47, some 44), (56, some 53)], [(57, some 54)]] [some 3, some 4, some 5, some 6, some 7, some 8, some 9, some 10, some 11, some 12, some 13, some 14, some 15, some 16, some 17, some 18, some 19, some 20, some 21, some 22, some 23, some 24, some 25, some 26, some 27, some 28, some 29, some 30, some 31, some 32, some 33, some 34, some 35, some 36, some 37, some 38, some 39, some 40, some 41, some 42, some 43, some 44, some 45, some 46, some 47, some 48, some 49, some 50, some 51, some 52, some 53, some 54, some 55, some 56, some 57, some 2] [.pointer (some ⟨N, 0, none⟩), .string sk, .int .i64 (nk : Int), .bool y1, .bool y1, V3.gV y1 (.pointer (some ⟨N, 0, none⟩)), V3.gV y1 (.string sk), V3.gV y1 (.int .i64 (nk : Int)), V3.gV y1 (.bool x2), .bool y2, .bool y2, V3.gV y2 (.pointer (some ⟨N, 1, none⟩)), V3.gV y2 (dotV dn dd), V3.gV y2 (.bool x3), .bool y3, .bool y3, V3.gV y3 (.pointer (some ⟨N, 3, none⟩)), V3.gV y3 (.slice pp nP dp), V3.gV y3 (.int .i64 (nP : Int)), V3.gV y3 (.bool x4), .bool y4, .bool y4, V3.gV y4 (.pointer (some ⟨N, 3, none⟩)), V3.gV y4 (.slice pp nP dp), V3.gV y4 (.bool x5), .bool y5, .bool y5, V3.gV y5 (.pointer (some ⟨N, 3, none⟩)), V3.gV y5 (.slice pp nP dp), V3.gV y5 (.pointer (some ⟨N, 1, none⟩)), V3.gV y5 (.pointer (some ⟨N, 1, none⟩)), V3.gV y5 (.int .i64 dn), V3.gV y5 (.int .i64 tp), V3.gV y5 (.pointer (some ⟨N, 1, none⟩)), V3.gV y5 (.pointer (some ⟨N, 2, none⟩)), V3.gV y5 (.int .i64 dd), V3.gV y5 (.bool x6), .bool y6, .bool y6, V3.gV y6 (.pointer (some ⟨N, 5, none⟩)), V3.gV y6 (.slice pv nV dv), V3.gV y6 (.int .i64 (nV : Int)), V3.gV y6 (.bool x7), .bool y7, .bool y7, V3.gV y7 (.pointer (some ⟨N, 4, none⟩)), V3.gV y7 (.bool gn), V3.gV y7 (.bool gn), V3.gV y8 (.pointer (some ⟨N, 5, none⟩)), V3.gV y8 (.slice pv nV dv), V3.gV y8 (.int .i64 (nV : Int)), V3.gV y8 (.bool x8), V3.gV y7 (.bool x9), V3.gV y7 (.bool (!x9)), .bool R, .bool R] (fun w' => Hid (Kp Nb W w')) (by kernel_rfl) (by kernel_rfl) (by kernel_rfl) ?hS (V3.VFrom.all (n := 56) (by kernel_rfl) ?hstep) ?hend
  case hstep =>
    refine V3.VFrom.cons (V3.VStep.val _ rfl _ rfl (.pointer (some ⟨N, 0, none⟩)) rfl trivial (fun ev wq hS he hr => ?_)) ?_
    · have r0 : ev (.tmp 1) = .pointer (some ⟨N, 0, none⟩) := hr (1, none) (by simp); have hk := he.1; clear hr he
      go_simp
    refine V3.VFrom.cons (V3.VStep.val _ rfl _ rfl (.string sk) rfl trivial (fun ev wq hS he hr => ?_)) ?_
    · have r0 : ev (.tmp 3) = .pointer (some ⟨N, 0, none⟩) := hr (3, some 0) (by simp); have hk := he.1; clear hr he
      have c0 := (show World.cell? wq ⟨N, 0, none⟩ = some (.string sk) from (HB.out.kept hS.out (fun h => h)).cell 0)
      go_simp
    refine V3.VFrom.cons (V3.VStep.val _ rfl _ rfl (.int .i64 (nk : Int)) rfl trivial (fun ev wq hS he hr => ?_)) ?_
    · have r0 : ev (.tmp 4) = .string sk := hr (4, some 1) (by simp); have hk := he.1; clear hr he
      have e1 := HSK.out
      go_simp
    refine V3.VFrom.cons (V3.VStep.val _ rfl _ rfl (.bool y1) rfl trivial (fun ev wq hS he hr => ?_)) ?_
    · have r0 : ev (.tmp 5) = .int .i64 (nk : Int) := hr (5, some 2) (by simp); have hk := he.1; clear hr he
      cases y1 <;> first | (have e1 := H1.out.1 rfl; go_simp; done) | (have e1 := H1.out.2 rfl; go_simp)
    refine V3.VFrom.cons (V3.VStep.val _ rfl _ rfl (.bool y1) rfl trivial (fun ev wq hS he hr => ?_)) ?_
    · have r0 : ev (.tmp 6) = .bool y1 := hr (6, some 3) (by simp); have hk := he.1; clear hr he
      go_simp
    refine V3.VFrom.cons (V3.VStep.valG _ rfl _ rfl y1 (.pointer (some ⟨N, 0, none⟩)) rfl 4 true rfl (fun h => by subst h; rfl) (fun h => by subst h; exact .inl rfl) (fun hy ev wq hS he hr => ?_)) ?_
    · subst hy; have r0 : ev (.tmp 1) = .pointer (some ⟨N, 0, none⟩) := hr (1, none) (by simp); have hk := he.1; clear hr he
      go_simp
    refine V3.VFrom.cons (V3.VStep.valG _ rfl _ rfl y1 (.string sk) rfl 4 true rfl (fun h => by subst h; rfl) (fun h => by subst h; exact .inl rfl) (fun hy ev wq hS he hr => ?_)) ?_
    · subst hy; have r0 : ev (.tmp 8) = .pointer (some ⟨N, 0, none⟩) := hr (8, some 5) (by simp); have hk := he.1; clear hr he
      have c0 := (show World.cell? wq ⟨N, 0, none⟩ = some (.string sk) from (HB.out.kept hS.out (fun h => h)).cell 0)
      go_simp
    refine V3.VFrom.cons (V3.VStep.valG _ rfl _ rfl y1 (.int .i64 (nk : Int)) rfl 4 true rfl (fun h => by subst h; rfl) (fun h => by subst h; exact .inl rfl) (fun hy ev wq hS he hr => ?_)) ?_
    · subst hy; have r0 : ev (.tmp 9) = .string sk := hr (9, some 6) (by simp); have hk := he.1; clear hr he
      have e1 := HSK.out
      go_simp
    refine V3.VFrom.cons (V3.VStep.valG _ rfl _ rfl y1 (.bool x2) rfl 4 true rfl (fun h => by subst h; rfl) (fun h => by subst h; exact .inl rfl) (fun hy ev wq hS he hr => ?_)) ?_
    · subst hy; have r0 : ev (.tmp 10) = .int .i64 (nk : Int) := hr (10, some 7) (by simp); have hk := he.1; clear hr he
      cases x2 <;> first | (have e1 := H2.out.1 rfl; go_simp; done) | (have e1 := H2.out.2 rfl; go_simp)
    refine V3.VFrom.cons (V3.VStep.val _ rfl _ rfl (.bool y2) rfl trivial (fun ev wq hS he hr => ?_)) ?_
    · have r0 : ev (.tmp 7) = .bool y1 := hr (7, some 4) (by simp); have r1 : ev (.tmp 11) = V3.gV y1 (.bool x2) := hr (11, some 8) (by simp); have hk := he.1; clear hr he
      have e := Y2.out; cases y1 <;> (simp only [Bool.false_and, Bool.true_and] at e; subst e; dsimp only [V3.gV] at r1; go_simp)
    refine V3.VFrom.cons (V3.VStep.val _ rfl _ rfl (.bool y2) rfl trivial (fun ev wq hS he hr => ?_)) ?_
    · have r0 : ev (.tmp 12) = .bool y2 := hr (12, some 9) (by simp); have hk := he.1; clear hr he
      go_simp
    refine V3.VFrom.cons (V3.VStep.valG _ rfl _ rfl y2 (.pointer (some ⟨N, 1, none⟩)) rfl 10 true rfl (fun h => by subst h; rfl) (fun h => by subst h; exact .inl rfl) (fun hy ev wq hS he hr => ?_)) ?_
    · subst hy; have r0 : ev (.tmp 1) = .pointer (some ⟨N, 0, none⟩) := hr (1, none) (by simp); have hk := he.1; clear hr he
      go_simp
    refine V3.VFrom.cons (V3.VStep.valG _ rfl _ rfl y2 (dotV dn dd) rfl 10 true rfl (fun h => by subst h; rfl) (fun h => by subst h; exact .inl rfl) (fun hy ev wq hS he hr => ?_)) ?_
    · subst hy; have r0 : ev (.tmp 14) = .pointer (some ⟨N, 1, none⟩) := hr (14, some 11) (by simp); have hk := he.1; clear hr he
      exact exec_loadD rfl r0 (load_dotI (HB.out.kept hS.out (fun h => h)))
    refine V3.VFrom.cons (V3.VStep.callG _ rfl _ rfl y2 (.bool x3) rfl 10 true rfl (fun h => by subst h; rfl) (fun h => by subst h; exact .inl rfl) 44 #[dotV dn dd] (fun hy ev wq hS he hr => ?_) (fun hy wq hS => ?_)) ?_
    · subst hy; have r0 : ev (.tmp 15) = dotV dn dd := hr (15, some 12) (by simp); have hk := he.1; have hf := he.2; clear hr he
      go_simp
    · subst hy; exact (CG.out wq).mono fun e w' ⟨h1, h2⟩ => ⟨h1, hS.out.trans h2 (fun _ _ h => h)⟩
    refine V3.VFrom.cons (V3.VStep.val _ rfl _ rfl (.bool y3) rfl trivial (fun ev wq hS he hr => ?_)) ?_
    · have r0 : ev (.tmp 13) = .bool y2 := hr (13, some 10) (by simp); have r1 : ev (.tmp 16) = V3.gV y2 (.bool x3) := hr (16, some 13) (by simp); have hk := he.1; clear hr he
      have e := Y3.out; cases y2 <;> (simp only [Bool.false_and, Bool.true_and] at e; subst e; dsimp only [V3.gV] at r1; go_simp)
    refine V3.VFrom.cons (V3.VStep.val _ rfl _ rfl (.bool y3) rfl trivial (fun ev wq hS he hr => ?_)) ?_
    · have r0 : ev (.tmp 17) = .bool y3 := hr (17, some 14) (by simp); have hk := he.1; clear hr he
      go_simp
    refine V3.VFrom.cons (V3.VStep.valG _ rfl _ rfl y3 (.pointer (some ⟨N, 3, none⟩)) rfl 15 true rfl (fun h => by subst h; rfl) (fun h => by subst h; exact .inl rfl) (fun hy ev wq hS he hr => ?_)) ?_
    · subst hy; have r0 : ev (.tmp 1) = .pointer (some ⟨N, 0, none⟩) := hr (1, none) (by simp); have hk := he.1; clear hr he
      go_simp
    refine V3.VFrom.cons (V3.VStep.valG _ rfl _ rfl y3 (.slice pp nP dp) rfl 15 true rfl (fun h => by subst h; rfl) (fun h => by subst h; exact .inl rfl) (fun hy ev wq hS he hr => ?_)) ?_
    · subst hy; have r0 : ev (.tmp 19) = .pointer (some ⟨N, 3, none⟩) := hr (19, some 16) (by simp); have hk := he.1; clear hr he
      have c0 := (show World.cell? wq ⟨N, 3, none⟩ = some (.slice pp nP dp) from (HB.out.kept hS.out (fun h => h)).cell 3)
      go_simp
    refine V3.VFrom.cons (V3.VStep.valG _ rfl _ rfl y3 (.int .i64 (nP : Int)) rfl 15 true rfl (fun h => by subst h; rfl) (fun h => by subst h; exact .inl rfl) (fun hy ev wq hS he hr => ?_)) ?_
    · subst hy; have r0 : ev (.tmp 20) = .slice pp nP dp := hr (20, some 17) (by simp); have hk := he.1; clear hr he
      go_simp
    refine V3.VFrom.cons (V3.VStep.valG _ rfl _ rfl y3 (.bool x4) rfl 15 true rfl (fun h => by subst h; rfl) (fun h => by subst h; exact .inl rfl) (fun hy ev wq hS he hr => ?_)) ?_
    · subst hy; have r0 : ev (.tmp 21) = .int .i64 (nP : Int) := hr (21, some 18) (by simp); have hk := he.1; clear hr he
      cases x4 <;> first | (have e1 := H4.out.1 rfl; go_simp; done) | (have e1 := H4.out.2 rfl; go_simp)
    refine V3.VFrom.cons (V3.VStep.val _ rfl _ rfl (.bool y4) rfl trivial (fun ev wq hS he hr => ?_)) ?_
    · have r0 : ev (.tmp 18) = .bool y3 := hr (18, some 15) (by simp); have r1 : ev (.tmp 22) = V3.gV y3 (.bool x4) := hr (22, some 19) (by simp); have hk := he.1; clear hr he
      have e := Y4.out; cases y3 <;> (simp only [Bool.false_and, Bool.true_and] at e; subst e; dsimp only [V3.gV] at r1; go_simp)
    refine V3.VFrom.cons (V3.VStep.val _ rfl _ rfl (.bool y4) rfl trivial (fun ev wq hS he hr => ?_)) ?_
    · have r0 : ev (.tmp 23) = .bool y4 := hr (23, some 20) (by simp); have hk := he.1; clear hr he
      go_simp
    refine V3.VFrom.cons (V3.VStep.valG _ rfl _ rfl y4 (.pointer (some ⟨N, 3, none⟩)) rfl 21 true rfl (fun h => by subst h; rfl) (fun h => by subst h; exact .inl rfl) (fun hy ev wq hS he hr => ?_)) ?_
    · subst hy; have r0 : ev (.tmp 1) = .pointer (some ⟨N, 0, none⟩) := hr (1, none) (by simp); have hk := he.1; clear hr he
      go_simp
    refine V3.VFrom.cons (V3.VStep.valG _ rfl _ rfl y4 (.slice pp nP dp) rfl 21 true rfl (fun h => by subst h; rfl) (fun h => by subst h; exact .inl rfl) (fun hy ev wq hS he hr => ?_)) ?_
    · subst hy; have r0 : ev (.tmp 25) = .pointer (some ⟨N, 3, none⟩) := hr (25, some 22) (by simp); have hk := he.1; clear hr he
      have c0 := (show World.cell? wq ⟨N, 3, none⟩ = some (.slice pp nP dp) from (HB.out.kept hS.out (fun h => h)).cell 3)
      go_simp
    refine V3.VFrom.cons (V3.VStep.callG _ rfl _ rfl y4 (.bool x5) rfl 21 true rfl (fun h => by subst h; rfl) (fun h => by subst h; exact .inl rfl) 45 #[.slice pp nP dp] (fun hy ev wq hS he hr => ?_) (fun hy wq hS => ?_)) ?_
    · subst hy; have r0 : ev (.tmp 26) = .slice pp nP dp := hr (26, some 23) (by simp); have hk := he.1; have hf := he.2; clear hr he
      go_simp
    · subst hy; exact (CR.out _ Y4.out rfl wq hS.out).mono fun e w' ⟨h1, h2⟩ => ⟨h1, hS.out.trans h2 (fun _ _ h => h)⟩
    refine V3.VFrom.cons (V3.VStep.val _ rfl _ rfl (.bool y5) rfl trivial (fun ev wq hS he hr => ?_)) ?_
    · have r0 : ev (.tmp 24) = .bool y4 := hr (24, some 21) (by simp); have r1 : ev (.tmp 27) = V3.gV y4 (.bool x5) := hr (27, some 24) (by simp); have hk := he.1; clear hr he
      have e := Y5.out; cases y4 <;> (simp only [Bool.false_and, Bool.true_and] at e; subst e; dsimp only [V3.gV] at r1; go_simp)
    refine V3.VFrom.cons (V3.VStep.val _ rfl _ rfl (.bool y5) rfl trivial (fun ev wq hS he hr => ?_)) ?_
    · have r0 : ev (.tmp 28) = .bool y5 := hr (28, some 25) (by simp); have hk := he.1; clear hr he
      go_simp
    refine V3.VFrom.cons (V3.VStep.valG _ rfl _ rfl y5 (.pointer (some ⟨N, 3, none⟩)) rfl 26 true rfl (fun h => by subst h; rfl) (fun h => by subst h; exact .inl rfl) (fun hy ev wq hS he hr => ?_)) ?_
    · subst hy; have r0 : ev (.tmp 1) = .pointer (some ⟨N, 0, none⟩) := hr (1, none) (by simp); have hk := he.1; clear hr he
      go_simp
    refine V3.VFrom.cons (V3.VStep.valG _ rfl _ rfl y5 (.slice pp nP dp) rfl 26 true rfl (fun h => by subst h; rfl) (fun h => by subst h; exact .inl rfl) (fun hy ev wq hS he hr => ?_)) ?_
    · subst hy; have r0 : ev (.tmp 30) = .pointer (some ⟨N, 3, none⟩) := hr (30, some 27) (by simp); have hk := he.1; clear hr he
      have c0 := (show World.cell? wq ⟨N, 3, none⟩ = some (.slice pp nP dp) from (HB.out.kept hS.out (fun h => h)).cell 3)
      go_simp
    refine V3.VFrom.cons (V3.VStep.valG _ rfl _ rfl y5 (.pointer (some ⟨N, 1, none⟩)) rfl 26 true rfl (fun h => by subst h; rfl) (fun h => by subst h; exact .inl rfl) (fun hy ev wq hS he hr => ?_)) ?_
    · subst hy; have r0 : ev (.tmp 1) = .pointer (some ⟨N, 0, none⟩) := hr (1, none) (by simp); have hk := he.1; clear hr he
      go_simp
    refine V3.VFrom.cons (V3.VStep.valG _ rfl _ rfl y5 (.pointer (some ⟨N, 1, none⟩)) rfl 26 true rfl (fun h => by subst h; rfl) (fun h => by subst h; exact .inl rfl) (fun hy ev wq hS he hr => ?_)) ?_
    · subst hy; have r0 : ev (.tmp 32) = .pointer (some ⟨N, 1, none⟩) := hr (32, some 29) (by simp); have hk := he.1; clear hr he
      go_simp
    refine V3.VFrom.cons (V3.VStep.valG _ rfl _ rfl y5 (.int .i64 dn) rfl 26 true rfl (fun h => by subst h; rfl) (fun h => by subst h; exact .inl rfl) (fun hy ev wq hS he hr => ?_)) ?_
    · subst hy; have r0 : ev (.tmp 33) = .pointer (some ⟨N, 1, none⟩) := hr (33, some 30) (by simp); have hk := he.1; clear hr he
      have c0 := (show World.cell? wq ⟨N, 1, none⟩ = some (.int .i64 dn) from (HB.out.kept hS.out (fun h => h)).cell 1)
      go_simp
    refine V3.VFrom.cons (V3.VStep.callG _ rfl _ rfl y5 (.int .i64 tp) rfl 26 true rfl (fun h => by subst h; rfl) (fun h => by subst h; exact .inl rfl) 46 #[.slice pp nP dp, .int .i64 dn] (fun hy ev wq hS he hr => ?_) (fun hy wq hS => ?_)) ?_
    · subst hy; have r0 : ev (.tmp 31) = .slice pp nP dp := hr (31, some 28) (by simp); have r1 : ev (.tmp 34) = .int .i64 dn := hr (34, some 31) (by simp); have hk := he.1; have hf := he.2; clear hr he
      go_simp
    · subst hy; exact (CT.out _ Y4.out Y5.out wq hS.out).mono fun e w' ⟨h1, h2⟩ => ⟨h1, hS.out.trans h2 (fun _ _ h => h)⟩
    refine V3.VFrom.cons (V3.VStep.valG _ rfl _ rfl y5 (.pointer (some ⟨N, 1, none⟩)) rfl 26 true rfl (fun h => by subst h; rfl) (fun h => by subst h; exact .inl rfl) (fun hy ev wq hS he hr => ?_)) ?_
    · subst hy; have r0 : ev (.tmp 1) = .pointer (some ⟨N, 0, none⟩) := hr (1, none) (by simp); have hk := he.1; clear hr he
      go_simp
    refine V3.VFrom.cons (V3.VStep.valG _ rfl _ rfl y5 (.pointer (some ⟨N, 2, none⟩)) rfl 26 true rfl (fun h => by subst h; rfl) (fun h => by subst h; exact .inl rfl) (fun hy ev wq hS he hr => ?_)) ?_
    · subst hy; have r0 : ev (.tmp 36) = .pointer (some ⟨N, 1, none⟩) := hr (36, some 33) (by simp); have hk := he.1; clear hr he
      go_simp
    refine V3.VFrom.cons (V3.VStep.valG _ rfl _ rfl y5 (.int .i64 dd) rfl 26 true rfl (fun h => by subst h; rfl) (fun h => by subst h; exact .inl rfl) (fun hy ev wq hS he hr => ?_)) ?_
    · subst hy; have r0 : ev (.tmp 37) = .pointer (some ⟨N, 2, none⟩) := hr (37, some 34) (by simp); have hk := he.1; clear hr he
      have c0 := (show World.cell? wq ⟨N, 2, none⟩ = some (.int .i64 dd) from (HB.out.kept hS.out (fun h => h)).cell 2)
      go_simp
    refine V3.VFrom.cons (V3.VStep.valG _ rfl _ rfl y5 (.bool x6) rfl 26 true rfl (fun h => by subst h; rfl) (fun h => by subst h; exact .inl rfl) (fun hy ev wq hS he hr => ?_)) ?_
    · subst hy; have r0 : ev (.tmp 35) = .int .i64 tp := hr (35, some 32) (by simp); have r1 : ev (.tmp 38) = .int .i64 dd := hr (38, some 35) (by simp); have hk := he.1; clear hr he
      cases x6 <;> first | (have e1 := H6.out.1 rfl; go_simp; done) | (have e1 := H6.out.2 rfl; go_simp)
    refine V3.VFrom.cons (V3.VStep.val _ rfl _ rfl (.bool y6) rfl trivial (fun ev wq hS he hr => ?_)) ?_
    · have r0 : ev (.tmp 29) = .bool y5 := hr (29, some 26) (by simp); have r1 : ev (.tmp 39) = V3.gV y5 (.bool x6) := hr (39, some 36) (by simp); have hk := he.1; clear hr he
      have e := Y6.out; cases y5 <;> (simp only [Bool.false_and, Bool.true_and] at e; subst e; dsimp only [V3.gV] at r1; go_simp)
    refine V3.VFrom.cons (V3.VStep.val _ rfl _ rfl (.bool y6) rfl trivial (fun ev wq hS he hr => ?_)) ?_
    · have r0 : ev (.tmp 40) = .bool y6 := hr (40, some 37) (by simp); have hk := he.1; clear hr he
      go_simp
    refine V3.VFrom.cons (V3.VStep.valG _ rfl _ rfl y6 (.pointer (some ⟨N, 5, none⟩)) rfl 38 true rfl (fun h => by subst h; rfl) (fun h => by subst h; exact .inl rfl) (fun hy ev wq hS he hr => ?_)) ?_
    · subst hy; have r0 : ev (.tmp 1) = .pointer (some ⟨N, 0, none⟩) := hr (1, none) (by simp); have hk := he.1; clear hr he
      go_simp
    refine V3.VFrom.cons (V3.VStep.valG _ rfl _ rfl y6 (.slice pv nV dv) rfl 38 true rfl (fun h => by subst h; rfl) (fun h => by subst h; exact .inl rfl) (fun hy ev wq hS he hr => ?_)) ?_
    · subst hy; have r0 : ev (.tmp 42) = .pointer (some ⟨N, 5, none⟩) := hr (42, some 39) (by simp); have hk := he.1; clear hr he
      have c0 := (show World.cell? wq ⟨N, 5, none⟩ = some (.slice pv nV dv) from (HB.out.kept hS.out (fun h => h)).cell 5)
      go_simp
    refine V3.VFrom.cons (V3.VStep.valG _ rfl _ rfl y6 (.int .i64 (nV : Int)) rfl 38 true rfl (fun h => by subst h; rfl) (fun h => by subst h; exact .inl rfl) (fun hy ev wq hS he hr => ?_)) ?_
    · subst hy; have r0 : ev (.tmp 43) = .slice pv nV dv := hr (43, some 40) (by simp); have hk := he.1; clear hr he
      go_simp
    refine V3.VFrom.cons (V3.VStep.valG _ rfl _ rfl y6 (.bool x7) rfl 38 true rfl (fun h => by subst h; rfl) (fun h => by subst h; exact .inl rfl) (fun hy ev wq hS he hr => ?_)) ?_
    · subst hy; have r0 : ev (.tmp 44) = .int .i64 (nV : Int) := hr (44, some 41) (by simp); have hk := he.1; clear hr he
      cases x7 <;> first | (have e1 := H7.out.1 rfl; go_simp; done) | (have e1 := H7.out.2 rfl; go_simp)
    refine V3.VFrom.cons (V3.VStep.val _ rfl _ rfl (.bool y7) rfl trivial (fun ev wq hS he hr => ?_)) ?_
    · have r0 : ev (.tmp 41) = .bool y6 := hr (41, some 38) (by simp); have r1 : ev (.tmp 45) = V3.gV y6 (.bool x7) := hr (45, some 42) (by simp); have hk := he.1; clear hr he
      have e := Y7.out; cases y6 <;> (simp only [Bool.false_and, Bool.true_and] at e; subst e; dsimp only [V3.gV] at r1; go_simp)
    refine V3.VFrom.cons (V3.VStep.val _ rfl _ rfl (.bool y7) rfl trivial (fun ev wq hS he hr => ?_)) ?_
    · have r0 : ev (.tmp 46) = .bool y7 := hr (46, some 43) (by simp); have hk := he.1; clear hr he
      go_simp
    refine V3.VFrom.cons (V3.VStep.valG _ rfl _ rfl y7 (.pointer (some ⟨N, 4, none⟩)) rfl 44 true rfl (fun h => by subst h; rfl) (fun h => by subst h; exact .inl rfl) (fun hy ev wq hS he hr => ?_)) ?_
    · subst hy; have r0 : ev (.tmp 1) = .pointer (some ⟨N, 0, none⟩) := hr (1, none) (by simp); have hk := he.1; clear hr he
      go_simp
    refine V3.VFrom.cons (V3.VStep.valG _ rfl _ rfl y7 (.bool gn) rfl 44 true rfl (fun h => by subst h; rfl) (fun h => by subst h; exact .inl rfl) (fun hy ev wq hS he hr => ?_)) ?_
    · subst hy; have r0 : ev (.tmp 48) = .pointer (some ⟨N, 4, none⟩) := hr (48, some 45) (by simp); have hk := he.1; clear hr he
      have c0 := (show World.cell? wq ⟨N, 4, none⟩ = some (.bool gn) from (HB.out.kept hS.out (fun h => h)).cell 4)
      go_simp
    refine V3.VFrom.cons (V3.VStep.valG _ rfl _ rfl y7 (.bool gn) rfl 44 true rfl (fun h => by subst h; rfl) (fun h => by subst h; exact .inl rfl) (fun hy ev wq hS he hr => ?_)) ?_
    · subst hy; have r0 : ev (.tmp 49) = .bool gn := hr (49, some 46) (by simp); have hk := he.1; clear hr he
      go_simp
    refine V3.VFrom.cons (V3.VStep.valG _ rfl _ rfl y8 (.pointer (some ⟨N, 5, none⟩)) rfl 47 true rfl (fun h => by have e := Y8.out; subst h; cases y7 <;> cases gn <;> simp at e; rfl) (fun h => by have e := Y8.out; subst h; cases y7 <;> cases gn <;> simp at e <;> first | exact .inr rfl | exact .inl rfl) (fun hy ev wq hS he hr => ?_)) ?_
    · subst hy; have r0 : ev (.tmp 1) = .pointer (some ⟨N, 0, none⟩) := hr (1, none) (by simp); have hk := he.1; clear hr he
      go_simp
    refine V3.VFrom.cons (V3.VStep.valG _ rfl _ rfl y8 (.slice pv nV dv) rfl 47 true rfl (fun h => by have e := Y8.out; subst h; cases y7 <;> cases gn <;> simp at e; rfl) (fun h => by have e := Y8.out; subst h; cases y7 <;> cases gn <;> simp at e <;> first | exact .inr rfl | exact .inl rfl) (fun hy ev wq hS he hr => ?_)) ?_
    · subst hy; have r0 : ev (.tmp 51) = .pointer (some ⟨N, 5, none⟩) := hr (51, some 48) (by simp); have hk := he.1; clear hr he
      have c0 := (show World.cell? wq ⟨N, 5, none⟩ = some (.slice pv nV dv) from (HB.out.kept hS.out (fun h => h)).cell 5)
      go_simp
    refine V3.VFrom.cons (V3.VStep.valG _ rfl _ rfl y8 (.int .i64 (nV : Int)) rfl 47 true rfl (fun h => by have e := Y8.out; subst h; cases y7 <;> cases gn <;> simp at e; rfl) (fun h => by have e := Y8.out; subst h; cases y7 <;> cases gn <;> simp at e <;> first | exact .inr rfl | exact .inl rfl) (fun hy ev wq hS he hr => ?_)) ?_
    · subst hy; have r0 : ev (.tmp 52) = .slice pv nV dv := hr (52, some 49) (by simp); have hk := he.1; clear hr he
      go_simp
    refine V3.VFrom.cons (V3.VStep.valG _ rfl _ rfl y8 (.bool x8) rfl 47 true rfl (fun h => by have e := Y8.out; subst h; cases y7 <;> cases gn <;> simp at e; rfl) (fun h => by have e := Y8.out; subst h; cases y7 <;> cases gn <;> simp at e <;> first | exact .inr rfl | exact .inl rfl) (fun hy ev wq hS he hr => ?_)) ?_
    · subst hy; have r0 : ev (.tmp 53) = .int .i64 (nV : Int) := hr (53, some 50) (by simp); have hk := he.1; clear hr he
      cases x8 <;> first | (have e1 : (nV : Int) = 0 := (by have := H8.out.1 rfl; omega); rw [e1] at r0; go_simp; done) | (have e1 : 0 < nV := (by have := H8.out.2 rfl; omega); go_simp)
    refine V3.VFrom.cons (V3.VStep.valG _ rfl _ rfl y7 (.bool x9) rfl 44 true rfl (fun h => by subst h; rfl) (fun h => by subst h; exact .inl rfl) (fun hy ev wq hS he hr => ?_)) ?_
    · subst hy; have r0 : ev (.tmp 50) = .bool gn := hr (50, some 47) (by simp); have r1 : ev (.tmp 54) = V3.gV y8 (.bool x8) := hr (54, some 51) (by simp); have hk := he.1; clear hr he
      have e := Y8.out; have e2 := Y9.out; simp only [Bool.true_and] at e; subst e; cases gn <;> (simp only [Bool.false_and, Bool.true_and] at e2; subst e2; dsimp only [V3.gV] at r1; go_simp)
    refine V3.VFrom.cons (V3.VStep.valG _ rfl _ rfl y7 (.bool (!x9)) rfl 44 true rfl (fun h => by subst h; rfl) (fun h => by subst h; exact .inl rfl) (fun hy ev wq hS he hr => ?_)) ?_
    · subst hy; have r0 : ev (.tmp 55) = .bool x9 := hr (55, some 52) (by simp); have hk := he.1; clear hr he
      go_simp
    refine V3.VFrom.cons (V3.VStep.val _ rfl _ rfl (.bool R) rfl trivial (fun ev wq hS he hr => ?_)) ?_
    · have r0 : ev (.tmp 47) = .bool y7 := hr (47, some 44) (by simp); have r1 : ev (.tmp 56) = V3.gV y7 (.bool (!x9)) := hr (56, some 53) (by simp); have hk := he.1; clear hr he
      have e := YR.out; cases y7 <;> (simp only [Bool.false_and, Bool.true_and] at e; subst e; dsimp only [V3.gV] at r1; go_simp)
    refine V3.VFrom.cons (V3.VStep.val _ rfl _ rfl (.bool R) rfl trivial (fun ev wq hS he hr => ?_)) ?_
    · have r0 : ev (.tmp 57) = .bool R := hr (57, some 54) (by simp); have hk := he.1; clear hr he
      go_simp
    exact V3.VFrom.nil
  case hS => exact hid ((Kp.refl Nb W).drew)
  case hend =>
    intro w5 h5
    have K5 := hid (K0.out.trans h5.out (fun _ _ h => h))
    clear h5 K0
    simp only [V3.putAll, List.zip_cons_cons, List.zip_nil_right, List.foldl_cons, List.foldl_nil, Act.put, List.setIfInBounds_toArray, List.set_cons_zero, List.set_cons_succ]
    go_wp2
    go_ret
    exact ⟨rfl, K5.out⟩
set_option maxRecDepth 100000 in
set_option maxHeartbeats 8000000 in
theorem riright_any (x : ItQ) (vp vv : Value) (w : World) (h : ItOk w x vp vv) : Calls Tryz.prog 9 #[itVq x vp vv] w fun e w' => e = .returned (.bool (rightI x)) ∧ Kp Nb w w' := by
  obtain ⟨pp, dp, rfl⟩ := h.past.shape
  obtain ⟨pv, dv, rfl⟩ := by_shape h.val
  have HPA := hid h.past
  have HSK0 := st_size x.key
  have HR0 : rightI x = (decide (1 ≤ x.key.length) && decide (x.key.length ≤ 24) && goodB x.dn x.dd && decide (x.past.length ≤ 32) && rightC x.past && decide (topC x.past x.dn < x.dd) && decide (x.val.length ≤ 64) && !(x.gone && decide (0 < x.val.length))) := rfl
  obtain ⟨R, hR⟩ : ∃ b, rightI x = b := ⟨_, rfl⟩
  rw [hR] at HR0 ⊢
  have HCL := hid HPA.out
  obtain ⟨key, dn, dd, past, gn, val⟩ := x
  unfold itVq itV
  dsimp only at HPA HSK0 HR0 HCL ⊢
  clear h hR HPA
  have HCP := HCL
  clear HCL
  obtain ⟨sk, hsk⟩ : ∃ s, st key = s := ⟨_, rfl⟩
  rw [hsk] at HSK0 ⊢
  obtain ⟨nk, hnk⟩ : ∃ n, key.length = n := ⟨_, rfl⟩
  obtain ⟨nP, hnP⟩ : ∃ n, past.length = n := ⟨_, rfl⟩
  obtain ⟨nV, hnV⟩ : ∃ n, val.length = n := ⟨_, rfl⟩
  have HNP := hid hnP
  rw [hnk] at HSK0 HR0
  rw [hnP] at HR0 HCP ⊢
  rw [hnV] at HR0 ⊢
  have HSK := hid HSK0
  clear hsk HSK0 hnk hnP hnV
  obtain ⟨N, hN⟩ : ∃ N, w.heap.size = N := ⟨_, rfl⟩
  obtain ⟨W, hW⟩ : ∃ W, W = w.alloc (.cells #[.string sk, .int .i64 dn, .int .i64 dd, .slice pp nP dp, .bool gn, .slice pv nV dv] 28) := ⟨_, rfl⟩
  have HB : Hid (Blk W N 28 (itL sk dn dd (.slice pp nP dp) gn (.slice pv nV dv))) := hid (by rw [hW, ← hN]; exact Blk.new w _ (itL sk dn dd (.slice pp nP dp) gn (.slice pv nV dv)))
  have K0 : Hid (Kp Nb w W) := hid (by rw [hW]; exact (Kp.refl Nb w).alloc _)
  have HC : Hid (ClSl W (.slice pp nP dp) past) := hid (HCP.out.kept K0.out)
  clear HCP
  obtain ⟨tp, htp⟩ : ∃ t, topC past dn = t := ⟨_, rfl⟩
  rw [htp] at HR0
  obtain ⟨y1, hy1⟩ : ∃ b, decide (1 ≤ nk) = b := ⟨_, rfl⟩
  obtain ⟨x2, hx2⟩ : ∃ b, decide (nk ≤ 24) = b := ⟨_, rfl⟩
  obtain ⟨x3, hx3⟩ : ∃ b, goodB dn dd = b := ⟨_, rfl⟩
  obtain ⟨x4, hx4⟩ : ∃ b, decide (nP ≤ 32) = b := ⟨_, rfl⟩
  obtain ⟨x5, hx5⟩ : ∃ b, rightC past = b := ⟨_, rfl⟩
  obtain ⟨x6, hx6⟩ : ∃ b, decide (tp < dd) = b := ⟨_, rfl⟩
  obtain ⟨x7, hx7⟩ : ∃ b, decide (nV ≤ 64) = b := ⟨_, rfl⟩
  obtain ⟨x8, hx8⟩ : ∃ b, decide (0 < nV) = b := ⟨_, rfl⟩
  rw [hy1, hx2, hx3, hx4, hx5, hx6, hx7, hx8] at HR0
  have H1 : Hid ((y1 = false → ¬ ((nk : Int) ≥ 1)) ∧ (y1 = true → (nk : Int) ≥ 1)) := hid ⟨fun h => by subst h; have := of_decide_eq_false hy1; omega, fun h => by subst h; have := of_decide_eq_true hy1; omega⟩
  have H2 : Hid ((x2 = false → ¬ ((nk : Int) ≤ 24)) ∧ (x2 = true → (nk : Int) ≤ 24)) := hid ⟨fun h => by subst h; have := of_decide_eq_false hx2; omega, fun h => by subst h; have := of_decide_eq_true hx2; omega⟩
  have H4 : Hid ((x4 = false → ¬ ((nP : Int) ≤ 32)) ∧ (x4 = true → (nP : Int) ≤ 32)) := hid ⟨fun h => by subst h; have := of_decide_eq_false hx4; omega, fun h => by subst h; have := of_decide_eq_true hx4; omega⟩
  have H6 : Hid ((x6 = false → ¬ (tp < dd)) ∧ (x6 = true → tp < dd)) := hid ⟨fun h => by subst h; have := of_decide_eq_false hx6; omega, fun h => by subst h; have := of_decide_eq_true hx6; omega⟩
  have H7 : Hid ((x7 = false → ¬ ((nV : Int) ≤ 64)) ∧ (x7 = true → (nV : Int) ≤ 64)) := hid ⟨fun h => by subst h; have := of_decide_eq_false hx7; omega, fun h => by subst h; have := of_decide_eq_true hx7; omega⟩
  have H8 : Hid ((x8 = false → ¬ ((nV : Int) > 0)) ∧ (x8 = true → (nV : Int) > 0)) := hid ⟨fun h => by subst h; have := of_decide_eq_false hx8; omega, fun h => by subst h; have := of_decide_eq_true hx8; omega⟩
  obtain ⟨z1, hz1⟩ : ∃ b, x3 = b := ⟨_, rfl⟩
  rw [hz1] at HR0 hx3
  have CG : Hid (∀ wx, Calls Tryz.prog 37 #[dotV dn dd] wx fun e w' => e = .returned (.bool z1) ∧ Kp Nb wx w') := hid (fun wx => by rw [← hx3]; exact rgood_any dn dd wx)
  have CR : Hid (∀ b, (z1 && x4) = b → b = true → ∀ wx, Kp Nb W wx → Calls Tryz.prog 38 #[.slice pp nP dp] wx fun e w' => e = .returned (.bool x5) ∧ Kp Nb wx w') := hid (fun b e1 e2 wx k => by
    subst e2
    have h4 : x4 = true := by cases z1 <;> simp at e1 <;> exact e1
    rw [h4] at hx4
    have := of_decide_eq_true hx4
    rw [← hx5]
    exact rright_any _ past wx (HC.out.kept k) (by have := HNP.out; omega))
  have CT : Hid (∀ b, (z1 && x4) = b → (b && x5) = true → ∀ wx, Kp Nb W wx → Calls Tryz.prog 39 #[.slice pp nP dp, .int .i64 dn] wx fun e w' => e = .returned (.int .i64 tp) ∧ Kp Nb wx w') := hid (fun b e1 e2 wx k => by
    have h4 : x4 = true := by subst e1; cases z1 <;> cases x4 <;> simp at e2 <;> rfl
    rw [h4] at hx4
    have := of_decide_eq_true hx4
    rw [← htp]
    exact rtop_any _ past dn wx (HC.out.kept k) (by have := HNP.out; omega))
  obtain ⟨z2, hz2⟩ : ∃ b, (z1 && x4) = b := ⟨_, rfl⟩
  obtain ⟨z3, hz3⟩ : ∃ b, (z2 && x5) = b := ⟨_, rfl⟩
  have Z2 := hid hz2
  have Z3 := hid hz3
  have HRR := hid HR0
  have CK : Hid (W.cell? ⟨N, 0, none⟩ = some (.string sk) ∧ W.cell? ⟨N, 4, none⟩ = some (.bool gn) ∧ W.cell? ⟨N, 5, none⟩ = some (.slice pv nV dv)) := hid ⟨HB.out.cell 0, HB.out.cell 4, HB.out.cell 5⟩
  have hszk := HSK.out
  have HY1 := hid hy1
  have HX2 := hid hx2
  have HX7 := hid hx7
  have HX8 := hid hx8
  clear HR0 hy1 hx2 hx3 hx4 hx5 hx6 hx7 hx8 hz1 hz2 hz3 htp HNP HC
  go_enter Tryz.func9, Tryz.ntmps9
  go_upto_region 1 with fail
  rw [← hW]
  clear hW hN
  have c0 := CK.out.1
  have c4 := CK.out.2.1
  have c5 := CK.out.2.2
  by_cases h1 : nk = 0
  · have g1 : (nk : Int) = 0 := by omega
    have g2 : ((nk : Int) == 0) = true := by rw [g1]; rfl
    have HF : Hid (R = false) := hid (by have h : y1 = false := by rw [← HY1.out]; exact decide_eq_false (by omega)
                                         rw [HRR.out, h]; rfl)
    clear h1
    go_wp2
    go_ret
    exact ⟨by rw [HF.out]; rfl, K0.out⟩
  have g1 : ¬ ((nk : Int) = 0) := by omega
  have g1b : ((nk : Int) == 0) = false := by rw [beq_eq_false_iff_ne]; exact g1
  have e1 : y1 = true := by rw [← HY1.out]; exact decide_eq_true (by omega)
  have E1 := hid e1
  clear h1 e1
  by_cases h2 : nk > 24
  · have g2 : (nk : Int) > 24 := by omega
    have HF : Hid (R = false) := hid (by have h : x2 = false := by rw [← HX2.out]; exact decide_eq_false (by omega)
                                         rw [HRR.out, h]; simp)
    clear h2
    go_wp2
    go_ret
    exact ⟨by rw [HF.out]; rfl, K0.out⟩
  have g2 : ¬ ((nk : Int) > 24) := by omega
  have E2 : Hid (x2 = true) := hid (by rw [← HX2.out]; exact decide_eq_true (by omega))
  clear h2
  by_cases h3 : nV > 64
  · have g3 : (nV : Int) > 64 := by omega
    have HF : Hid (R = false) := hid (by have h : x7 = false := by rw [← HX7.out]; exact decide_eq_false (by omega)
                                         rw [HRR.out, h]; simp)
    clear h3
    go_wp2
    go_ret
    exact ⟨by rw [HF.out]; rfl, K0.out⟩
  have g3 : ¬ ((nV : Int) > 64) := by omega
  have E7 : Hid (x7 = true) := hid (by rw [← HX7.out]; exact decide_eq_true (by omega))
  clear h3
  by_cases h4 : gn = true ∧ nV > 0
  · obtain ⟨rfl, h5⟩ := h4
    have g5 : (nV : Int) > 0 := by omega
    have HF : Hid (R = false) := hid (by have h : x8 = true := by rw [← HX8.out]; exact decide_eq_true (by omega)
                                         rw [HRR.out, h]; simp)
    clear h5
    go_wp2
    go_ret
    exact ⟨by rw [HF.out]; rfl, K0.out⟩
  have E9 : Hid ((gn && x8) = false) := hid (by
    rw [← HX8.out]
    cases gn with
    | false => rfl
    | true => exact decide_eq_false (fun h => h4 ⟨rfl, h⟩))
  have ZR : Hid ((z3 && x6) = R) := hid (by rw [HRR.out, E1.out, E2.out, E7.out, E9.out, ← Z3.out, ← Z2.out]; simp only [Bool.true_and, Bool.and_true, Bool.not_false])
  have FIN : Hid (∀ w', Kp Nb W w' → Kp Nb w w') := hid (fun w' k => K0.out.trans k (fun _ _ h => h))
  cases gn with
  | false =>
    go_upto_region 3 with fail
    clear c0 c4 c5
    refine V3.region_vals2 [none, none, some 26, none, none, none, none, none, none, none, none, none, none, none, none, none, none, none, none, none, none, none, none, none, none, none, none, none, none, some 0, some 1, some 2, some 3, some 4, some 5, some 6, some 7, some 8, some 9, some 10, some 11, some 12, some 13, some 14, some 15, some 16, some 17, some 18, some 19, some 20, some 21, some 22, some 23, some 24, some 25] [[(1, none)], [(29, some 0)], [(30, some 1)], [(31, some 2)], [(1, none)], [(33, some 4)], [(34, some 5)], [(35, some 6)], [(32, some 3), (36, some 7)], [(37, some 8)], [(1, none)], [(39, some 10)], [(40, some 11)], [(38, some 9), (41, some 12)], [(42, some 13)], [(1, none)], [(44, some 15)], [(1, none)], [(46, some 17)], [(47, some 18)], [(45, some 16), (48, some 19)], [(1, none)], [(50, some 21)], [(51, some 22)], [(49, some 20), (52, some 23)], [(43, some 14), (53, some 24)], [(54, some 25)]] [some 29, some 30, some 31, some 32, some 33, some 34, some 35, some 36, some 37, some 38, some 39, some 40, some 41, some 42, some 43, some 44, some 45, some 46, some 47, some 48, some 49, some 50, some 51, some 52, some 53, some 54, some 2] [.pointer (some ⟨N, 1, none⟩), dotV dn dd, .bool z1, .bool z1, V3.gV z1 (.pointer (some ⟨N, 3, none⟩)), V3.gV z1 (.slice pp nP dp), V3.gV z1 (.int .i64 (nP : Int)), V3.gV z1 (.bool x4), .bool z2, .bool z2, V3.gV z2 (.pointer (some ⟨N, 3, none⟩)), V3.gV z2 (.slice pp nP dp), V3.gV z2 (.bool x5), .bool z3, .bool z3, V3.gV z3 (.pointer (some ⟨N, 3, none⟩)), V3.gV z3 (.slice pp nP dp), V3.gV z3 (.pointer (some ⟨N, 1, none⟩)), V3.gV z3 (.pointer (some ⟨N, 1, none⟩)), V3.gV z3 (.int .i64 dn), V3.gV z3 (.int .i64 tp), V3.gV z3 (.pointer (some ⟨N, 1, none⟩)), V3.gV z3 (.pointer (some ⟨N, 2, none⟩)), V3.gV z3 (.int .i64 dd), V3.gV z3 (.bool x6), .bool R, .bool R] (fun w' => Hid (Kp Nb W w')) (by kernel_rfl) (by kernel_rfl) (by kernel_rfl) ?hS (V3.VFrom.all (n := 27) (by kernel_rfl) ?hstep) ?hend
    case hstep =>
      refine V3.VFrom.cons (V3.VStep.val _ rfl _ rfl (.pointer (some ⟨N, 1, none⟩)) rfl trivial (fun ev wq hS he hr => ?_)) ?_
      · have r0 : ev (.tmp 1) = .pointer (some ⟨N, 0, none⟩) := hr (1, none) (by simp); have hk := he.1; clear hr he
        go_simp
      refine V3.VFrom.cons (V3.VStep.val _ rfl _ rfl (dotV dn dd) rfl trivial (fun ev wq hS he hr => ?_)) ?_
      · have r0 : ev (.tmp 29) = .pointer (some ⟨N, 1, none⟩) := hr (29, some 0) (by simp); have hk := he.1; clear hr he
        exact exec_loadD rfl r0 (load_dotI (HB.out.kept hS.out (fun h => h)))
      refine V3.VFrom.cons (V3.VStep.call _ rfl _ rfl (.bool z1) rfl trivial 37 #[dotV dn dd] (fun ev wq hS he hr => ?_) (fun wq hS => ?_)) ?_
      · have r0 : ev (.tmp 30) = dotV dn dd := hr (30, some 1) (by simp); have hk := he.1; have hf := he.2; clear hr he
        go_simp
      · exact (CG.out wq).mono fun e w' ⟨h1, h2⟩ => ⟨h1, hS.out.trans h2 (fun _ _ h => h)⟩
      refine V3.VFrom.cons (V3.VStep.val _ rfl _ rfl (.bool z1) rfl trivial (fun ev wq hS he hr => ?_)) ?_
      · have r0 : ev (.tmp 31) = .bool z1 := hr (31, some 2) (by simp); have hk := he.1; clear hr he
        go_simp
      refine V3.VFrom.cons (V3.VStep.valG _ rfl _ rfl z1 (.pointer (some ⟨N, 3, none⟩)) rfl 3 true rfl (fun h => by subst h; rfl) (fun h => by subst h; exact .inl rfl) (fun hy ev wq hS he hr => ?_)) ?_
      · subst hy; have r0 : ev (.tmp 1) = .pointer (some ⟨N, 0, none⟩) := hr (1, none) (by simp); have hk := he.1; clear hr he
        go_simp
      refine V3.VFrom.cons (V3.VStep.valG _ rfl _ rfl z1 (.slice pp nP dp) rfl 3 true rfl (fun h => by subst h; rfl) (fun h => by subst h; exact .inl rfl) (fun hy ev wq hS he hr => ?_)) ?_
      · subst hy; have r0 : ev (.tmp 33) = .pointer (some ⟨N, 3, none⟩) := hr (33, some 4) (by simp); have hk := he.1; clear hr he
        have c0 := (show World.cell? wq ⟨N, 3, none⟩ = some (.slice pp nP dp) from (HB.out.kept hS.out (fun h => h)).cell 3)
        go_simp
      refine V3.VFrom.cons (V3.VStep.valG _ rfl _ rfl z1 (.int .i64 (nP : Int)) rfl 3 true rfl (fun h => by subst h; rfl) (fun h => by subst h; exact .inl rfl) (fun hy ev wq hS he hr => ?_)) ?_
      · subst hy; have r0 : ev (.tmp 34) = .slice pp nP dp := hr (34, some 5) (by simp); have hk := he.1; clear hr he
        go_simp
      refine V3.VFrom.cons (V3.VStep.valG _ rfl _ rfl z1 (.bool x4) rfl 3 true rfl (fun h => by subst h; rfl) (fun h => by subst h; exact .inl rfl) (fun hy ev wq hS he hr => ?_)) ?_
      · subst hy; have r0 : ev (.tmp 35) = .int .i64 (nP : Int) := hr (35, some 6) (by simp); have hk := he.1; clear hr he
        cases x4 <;> first | (have e1 := H4.out.1 rfl; go_simp; done) | (have e1 := H4.out.2 rfl; go_simp)
      refine V3.VFrom.cons (V3.VStep.val _ rfl _ rfl (.bool z2) rfl trivial (fun ev wq hS he hr => ?_)) ?_
      · have r0 : ev (.tmp 32) = .bool z1 := hr (32, some 3) (by simp); have r1 : ev (.tmp 36) = V3.gV z1 (.bool x4) := hr (36, some 7) (by simp); have hk := he.1; clear hr he
        have e := Z2.out; cases z1 <;> (simp only [Bool.false_and, Bool.true_and] at e; subst e; dsimp only [V3.gV] at r1; go_simp)
      refine V3.VFrom.cons (V3.VStep.val _ rfl _ rfl (.bool z2) rfl trivial (fun ev wq hS he hr => ?_)) ?_
      · have r0 : ev (.tmp 37) = .bool z2 := hr (37, some 8) (by simp); have hk := he.1; clear hr he
        go_simp
      refine V3.VFrom.cons (V3.VStep.valG _ rfl _ rfl z2 (.pointer (some ⟨N, 3, none⟩)) rfl 9 true rfl (fun h => by subst h; rfl) (fun h => by subst h; exact .inl rfl) (fun hy ev wq hS he hr => ?_)) ?_
      · subst hy; have r0 : ev (.tmp 1) = .pointer (some ⟨N, 0, none⟩) := hr (1, none) (by simp); have hk := he.1; clear hr he
        go_simp
      refine V3.VFrom.cons (V3.VStep.valG _ rfl _ rfl z2 (.slice pp nP dp) rfl 9 true rfl (fun h => by subst h; rfl) (fun h => by subst h; exact .inl rfl) (fun hy ev wq hS he hr => ?_)) ?_
      · subst hy; have r0 : ev (.tmp 39) = .pointer (some ⟨N, 3, none⟩) := hr (39, some 10) (by simp); have hk := he.1; clear hr he
        have c0 := (show World.cell? wq ⟨N, 3, none⟩ = some (.slice pp nP dp) from (HB.out.kept hS.out (fun h => h)).cell 3)
        go_simp
      refine V3.VFrom.cons (V3.VStep.callG _ rfl _ rfl z2 (.bool x5) rfl 9 true rfl (fun h => by subst h; rfl) (fun h => by subst h; exact .inl rfl) 38 #[.slice pp nP dp] (fun hy ev wq hS he hr => ?_) (fun hy wq hS => ?_)) ?_
      · subst hy; have r0 : ev (.tmp 40) = .slice pp nP dp := hr (40, some 11) (by simp); have hk := he.1; have hf := he.2; clear hr he
        go_simp
      · subst hy; exact (CR.out _ Z2.out rfl wq hS.out).mono fun e w' ⟨h1, h2⟩ => ⟨h1, hS.out.trans h2 (fun _ _ h => h)⟩
      refine V3.VFrom.cons (V3.VStep.val _ rfl _ rfl (.bool z3) rfl trivial (fun ev wq hS he hr => ?_)) ?_
      · have r0 : ev (.tmp 38) = .bool z2 := hr (38, some 9) (by simp); have r1 : ev (.tmp 41) = V3.gV z2 (.bool x5) := hr (41, some 12) (by simp); have hk := he.1; clear hr he
        have e := Z3.out; cases z2 <;> (simp only [Bool.false_and, Bool.true_and] at e; subst e; dsimp only [V3.gV] at r1; go_simp)
      refine V3.VFrom.cons (V3.VStep.val _ rfl _ rfl (.bool z3) rfl trivial (fun ev wq hS he hr => ?_)) ?_
      · have r0 : ev (.tmp 42) = .bool z3 := hr (42, some 13) (by simp); have hk := he.1; clear hr he
        go_simp
      refine V3.VFrom.cons (V3.VStep.valG _ rfl _ rfl z3 (.pointer (some ⟨N, 3, none⟩)) rfl 14 true rfl (fun h => by subst h; rfl) (fun h => by subst h; exact .inl rfl) (fun hy ev wq hS he hr => ?_)) ?_
      · subst hy; have r0 : ev (.tmp 1) = .pointer (some ⟨N, 0, none⟩) := hr (1, none) (by simp); have hk := he.1; clear hr he
        go_simp
      refine V3.VFrom.cons (V3.VStep.valG _ rfl _ rfl z3 (.slice pp nP dp) rfl 14 true rfl (fun h => by subst h; rfl) (fun h => by subst h; exact .inl rfl) (fun hy ev wq hS he hr => ?_)) ?_
      · subst hy; have r0 : ev (.tmp 44) = .pointer (some ⟨N, 3, none⟩) := hr (44, some 15) (by simp); have hk := he.1; clear hr he
        have c0 := (show World.cell? wq ⟨N, 3, none⟩ = some (.slice pp nP dp) from (HB.out.kept hS.out (fun h => h)).cell 3)
        go_simp
      refine V3.VFrom.cons (V3.VStep.valG _ rfl _ rfl z3 (.pointer (some ⟨N, 1, none⟩)) rfl 14 true rfl (fun h => by subst h; rfl) (fun h => by subst h; exact .inl rfl) (fun hy ev wq hS he hr => ?_)) ?_
      · subst hy; have r0 : ev (.tmp 1) = .pointer (some ⟨N, 0, none⟩) := hr (1, none) (by simp); have hk := he.1; clear hr he
        go_simp
      refine V3.VFrom.cons (V3.VStep.valG _ rfl _ rfl z3 (.pointer (some ⟨N, 1, none⟩)) rfl 14 true rfl (fun h => by subst h; rfl) (fun h => by subst h; exact .inl rfl) (fun hy ev wq hS he hr => ?_)) ?_
      · subst hy; have r0 : ev (.tmp 46) = .pointer (some ⟨N, 1, none⟩) := hr (46, some 17) (by simp); have hk := he.1; clear hr he
        go_simp
      refine V3.VFrom.cons (V3.VStep.valG _ rfl _ rfl z3 (.int .i64 dn) rfl 14 true rfl (fun h => by subst h; rfl) (fun h => by subst h; exact .inl rfl) (fun hy ev wq hS he hr => ?_)) ?_
      · subst hy; have r0 : ev (.tmp 47) = .pointer (some ⟨N, 1, none⟩) := hr (47, some 18) (by simp); have hk := he.1; clear hr he
        have c0 := (show World.cell? wq ⟨N, 1, none⟩ = some (.int .i64 dn) from (HB.out.kept hS.out (fun h => h)).cell 1)
        go_simp
      refine V3.VFrom.cons (V3.VStep.callG _ rfl _ rfl z3 (.int .i64 tp) rfl 14 true rfl (fun h => by subst h; rfl) (fun h => by subst h; exact .inl rfl) 39 #[.slice pp nP dp, .int .i64 dn] (fun hy ev wq hS he hr => ?_) (fun hy wq hS => ?_)) ?_
      · subst hy; have r0 : ev (.tmp 45) = .slice pp nP dp := hr (45, some 16) (by simp); have r1 : ev (.tmp 48) = .int .i64 dn := hr (48, some 19) (by simp); have hk := he.1; have hf := he.2; clear hr he
        go_simp
      · subst hy; exact (CT.out _ Z2.out Z3.out wq hS.out).mono fun e w' ⟨h1, h2⟩ => ⟨h1, hS.out.trans h2 (fun _ _ h => h)⟩
      refine V3.VFrom.cons (V3.VStep.valG _ rfl _ rfl z3 (.pointer (some ⟨N, 1, none⟩)) rfl 14 true rfl (fun h => by subst h; rfl) (fun h => by subst h; exact .inl rfl) (fun hy ev wq hS he hr => ?_)) ?_
      · subst hy; have r0 : ev (.tmp 1) = .pointer (some ⟨N, 0, none⟩) := hr (1, none) (by simp); have hk := he.1; clear hr he
        go_simp
      refine V3.VFrom.cons (V3.VStep.valG _ rfl _ rfl z3 (.pointer (some ⟨N, 2, none⟩)) rfl 14 true rfl (fun h => by subst h; rfl) (fun h => by subst h; exact .inl rfl) (fun hy ev wq hS he hr => ?_)) ?_
      · subst hy; have r0 : ev (.tmp 50) = .pointer (some ⟨N, 1, none⟩) := hr (50, some 21) (by simp); have hk := he.1; clear hr he
        go_simp
      refine V3.VFrom.cons (V3.VStep.valG _ rfl _ rfl z3 (.int .i64 dd) rfl 14 true rfl (fun h => by subst h; rfl) (fun h => by subst h; exact .inl rfl) (fun hy ev wq hS he hr => ?_)) ?_
      · subst hy; have r0 : ev (.tmp 51) = .pointer (some ⟨N, 2, none⟩) := hr (51, some 22) (by simp); have hk := he.1; clear hr he
        have c0 := (show World.cell? wq ⟨N, 2, none⟩ = some (.int .i64 dd) from (HB.out.kept hS.out (fun h => h)).cell 2)
        go_simp
      refine V3.VFrom.cons (V3.VStep.valG _ rfl _ rfl z3 (.bool x6) rfl 14 true rfl (fun h => by subst h; rfl) (fun h => by subst h; exact .inl rfl) (fun hy ev wq hS he hr => ?_)) ?_
      · subst hy; have r0 : ev (.tmp 49) = .int .i64 tp := hr (49, some 20) (by simp); have r1 : ev (.tmp 52) = .int .i64 dd := hr (52, some 23) (by simp); have hk := he.1; clear hr he
        cases x6 <;> first | (have e1 := H6.out.1 rfl; go_simp; done) | (have e1 := H6.out.2 rfl; go_simp)
      refine V3.VFrom.cons (V3.VStep.val _ rfl _ rfl (.bool R) rfl trivial (fun ev wq hS he hr => ?_)) ?_
      · have r0 : ev (.tmp 43) = .bool z3 := hr (43, some 14) (by simp); have r1 : ev (.tmp 53) = V3.gV z3 (.bool x6) := hr (53, some 24) (by simp); have hk := he.1; clear hr he
        have e := ZR.out; cases z3 <;> (simp only [Bool.false_and, Bool.true_and] at e; subst e; dsimp only [V3.gV] at r1; go_simp)
      refine V3.VFrom.cons (V3.VStep.val _ rfl _ rfl (.bool R) rfl trivial (fun ev wq hS he hr => ?_)) ?_
      · have r0 : ev (.tmp 54) = .bool R := hr (54, some 25) (by simp); have hk := he.1; clear hr he
        go_simp
      exact V3.VFrom.nil
    case hS => exact hid ((Kp.refl Nb W).drew)
    case hend =>
      intro w5 h5
      have K5 := hid (K0.out.trans h5.out (fun _ _ h => h))
      clear h5 K0
      simp only [V3.putAll, List.zip_cons_cons, List.zip_nil_right, List.foldl_cons, List.foldl_nil, Act.put, List.setIfInBounds_toArray, List.set_cons_zero, List.set_cons_succ]
      go_wp2
      go_ret
      exact ⟨rfl, K5.out⟩
  | true =>
    have g5 : ¬ ((nV : Int) > 0) := fun h => h4 ⟨rfl, by omega⟩
    go_upto_region 3 with fail
    clear c0 c4 c5
    refine V3.region_vals2 [none, none, some 26, none, none, none, none, none, none, none, none, none, none, none, none, none, none, none, none, none, none, none, none, none, none, none, none, none, none, some 0, some 1, some 2, some 3, some 4, some 5, some 6, some 7, some 8, some 9, some 10, some 11, some 12, some 13, some 14, some 15, some 16, some 17, some 18, some 19, some 20, some 21, some 22, some 23, some 24, some 25] [[(1, none)], [(29, some 0)], [(30, some 1)], [(31, some 2)], [(1, none)], [(33, some 4)], [(34, some 5)], [(35, some 6)], [(32, some 3), (36, some 7)], [(37, some 8)], [(1, none)], [(39, some 10)], [(40, some 11)], [(38, some 9), (41, some 12)], [(42, some 13)], [(1, none)], [(44, some 15)], [(1, none)], [(46, some 17)], [(47, some 18)], [(45, some 16), (48, some 19)], [(1, none)], [(50, some 21)], [(51, some 22)], [(49, some 20), (52, some 23)], [(43, some 14), (53, some 24)], [(54, some 25)]] [some 29, some 30, some 31, some 32, some 33, some 34, some 35, some 36, some 37, some 38, some 39, some 40, some 41, some 42, some 43, some 44, some 45, some 46, some 47, some 48, some 49, some 50, some 51, some 52, some 53, some 54, some 2] [.pointer (some ⟨N, 1, none⟩), dotV dn dd, .bool z1, .bool z1, V3.gV z1 (.pointer (some ⟨N, 3, none⟩)), V3.gV z1 (.slice pp nP dp), V3.gV z1 (.int .i64 (nP : Int)), V3.gV z1 (.bool x4), .bool z2, .bool z2, V3.gV z2 (.pointer (some ⟨N, 3, none⟩)), V3.gV z2 (.slice pp nP dp), V3.gV z2 (.bool x5), .bool z3, .bool z3, V3.gV z3 (.pointer (some ⟨N, 3, none⟩)), V3.gV z3 (.slice pp nP dp), V3.gV z3 (.pointer (some ⟨N, 1, none⟩)), V3.gV z3 (.pointer (some ⟨N, 1, none⟩)), V3.gV z3 (.int .i64 dn), V3.gV z3 (.int .i64 tp), V3.gV z3 (.pointer (some ⟨N, 1, none⟩)), V3.gV z3 (.pointer (some ⟨N, 2, none⟩)), V3.gV z3 (.int .i64 dd), V3.gV z3 (.bool x6), .bool R, .bool R] (fun w' => Hid (Kp Nb W w')) (by kernel_rfl) (by kernel_rfl) (by kernel_rfl) ?hS (V3.VFrom.all (n := 27) (by kernel_rfl) ?hstep) ?hend
    case hstep =>
      refine V3.VFrom.cons (V3.VStep.val _ rfl _ rfl (.pointer (some ⟨N, 1, none⟩)) rfl trivial (fun ev wq hS he hr => ?_)) ?_
      · have r0 : ev (.tmp 1) = .pointer (some ⟨N, 0, none⟩) := hr (1, none) (by simp); have hk := he.1; clear hr he
        go_simp
      refine V3.VFrom.cons (V3.VStep.val _ rfl _ rfl (dotV dn dd) rfl trivial (fun ev wq hS he hr => ?_)) ?_
      · have r0 : ev (.tmp 29) = .pointer (some ⟨N, 1, none⟩) := hr (29, some 0) (by simp); have hk := he.1; clear hr he
        exact exec_loadD rfl r0 (load_dotI (HB.out.kept hS.out (fun h => h)))
      refine V3.VFrom.cons (V3.VStep.call _ rfl _ rfl (.bool z1) rfl trivial 37 #[dotV dn dd] (fun ev wq hS he hr => ?_) (fun wq hS => ?_)) ?_
      · have r0 : ev (.tmp 30) = dotV dn dd := hr (30, some 1) (by simp); have hk := he.1; have hf := he.2; clear hr he
        go_simp
      · exact (CG.out wq).mono fun e w' ⟨h1, h2⟩ => ⟨h1, hS.out.trans h2 (fun _ _ h => h)⟩
      refine V3.VFrom.cons (V3.VStep.val _ rfl _ rfl (.bool z1) rfl trivial (fun ev wq hS he hr => ?_)) ?_
      · have r0 : ev (.tmp 31) = .bool z1 := hr (31, some 2) (by simp); have hk := he.1; clear hr he
        go_simp
      refine V3.VFrom.cons (V3.VStep.valG _ rfl _ rfl z1 (.pointer (some ⟨N, 3, none⟩)) rfl 3 true rfl (fun h => by subst h; rfl) (fun h => by subst h; exact .inl rfl) (fun hy ev wq hS he hr => ?_)) ?_
      · subst hy; have r0 : ev (.tmp 1) = .pointer (some ⟨N, 0, none⟩) := hr (1, none) (by simp); have hk := he.1; clear hr he
        go_simp
      refine V3.VFrom.cons (V3.VStep.valG _ rfl _ rfl z1 (.slice pp nP dp) rfl 3 true rfl (fun h => by subst h; rfl) (fun h => by subst h; exact .inl rfl) (fun hy ev wq hS he hr => ?_)) ?_
      · subst hy; have r0 : ev (.tmp 33) = .pointer (some ⟨N, 3, none⟩) := hr (33, some 4) (by simp); have hk := he.1; clear hr he
        have c0 := (show World.cell? wq ⟨N, 3, none⟩ = some (.slice pp nP dp) from (HB.out.kept hS.out (fun h => h)).cell 3)
        go_simp
      refine V3.VFrom.cons (V3.VStep.valG _ rfl _ rfl z1 (.int .i64 (nP : Int)) rfl 3 true rfl (fun h => by subst h; rfl) (fun h => by subst h; exact .inl rfl) (fun hy ev wq hS he hr => ?_)) ?_
      · subst hy; have r0 : ev (.tmp 34) = .slice pp nP dp := hr (34, some 5) (by simp); have hk := he.1; clear hr he
        go_simp
      refine V3.VFrom.cons (V3.VStep.valG _ rfl _ rfl z1 (.bool x4) rfl 3 true rfl (fun h => by subst h; rfl) (fun h => by subst h; exact .inl rfl) (fun hy ev wq hS he hr => ?_)) ?_
      · subst hy; have r0 : ev (.tmp 35) = .int .i64 (nP : Int) := hr (35, some 6) (by simp); have hk := he.1; clear hr he
        cases x4 <;> first | (have e1 := H4.out.1 rfl; go_simp; done) | (have e1 := H4.out.2 rfl; go_simp)
      refine V3.VFrom.cons (V3.VStep.val _ rfl _ rfl (.bool z2) rfl trivial (fun ev wq hS he hr => ?_)) ?_
      · have r0 : ev (.tmp 32) = .bool z1 := hr (32, some 3) (by simp); have r1 : ev (.tmp 36) = V3.gV z1 (.bool x4) := hr (36, some 7) (by simp); have hk := he.1; clear hr he
        have e := Z2.out; cases z1 <;> (simp only [Bool.false_and, Bool.true_and] at e; subst e; dsimp only [V3.gV] at r1; go_simp)
      refine V3.VFrom.cons (V3.VStep.val _ rfl _ rfl (.bool z2) rfl trivial (fun ev wq hS he hr => ?_)) ?_
      · have r0 : ev (.tmp 37) = .bool z2 := hr (37, some 8) (by simp); have hk := he.1; clear hr he
        go_simp
      refine V3.VFrom.cons (V3.VStep.valG _ rfl _ rfl z2 (.pointer (some ⟨N, 3, none⟩)) rfl 9 true rfl (fun h => by subst h; rfl) (fun h => by subst h; exact .inl rfl) (fun hy ev wq hS he hr => ?_)) ?_
      · subst hy; have r0 : ev (.tmp 1) = .pointer (some ⟨N, 0, none⟩) := hr (1, none) (by simp); have hk := he.1; clear hr he
        go_simp
      refine V3.VFrom.cons (V3.VStep.valG _ rfl _ rfl z2 (.slice pp nP dp) rfl 9 true rfl (fun h => by subst h; rfl) (fun h => by subst h; exact .inl rfl) (fun hy ev wq hS he hr => ?_)) ?_
      · subst hy; have r0 : ev (.tmp 39) = .pointer (some ⟨N, 3, none⟩) := hr (39, some 10) (by simp); have hk := he.1; clear hr he
        have c0 := (show World.cell? wq ⟨N, 3, none⟩ = some (.slice pp nP dp) from (HB.out.kept hS.out (fun h => h)).cell 3)
        go_simp
      refine V3.VFrom.cons (V3.VStep.callG _ rfl _ rfl z2 (.bool x5) rfl 9 true rfl (fun h => by subst h; rfl) (fun h => by subst h; exact .inl rfl) 38 #[.slice pp nP dp] (fun hy ev wq hS he hr => ?_) (fun hy wq hS => ?_)) ?_
      · subst hy; have r0 : ev (.tmp 40) = .slice pp nP dp := hr (40, some 11) (by simp); have hk := he.1; have hf := he.2; clear hr he
        go_simp
      · subst hy; exact (CR.out _ Z2.out rfl wq hS.out).mono fun e w' ⟨h1, h2⟩ => ⟨h1, hS.out.trans h2 (fun _ _ h => h)⟩
      refine V3.VFrom.cons (V3.VStep.val _ rfl _ rfl (.bool z3) rfl trivial (fun ev wq hS he hr => ?_)) ?_
      · have r0 : ev (.tmp 38) = .bool z2 := hr (38, some 9) (by simp); have r1 : ev (.tmp 41) = V3.gV z2 (.bool x5) := hr (41, some 12) (by simp); have hk := he.1; clear hr he
        have e := Z3.out; cases z2 <;> (simp only [Bool.false_and, Bool.true_and] at e; subst e; dsimp only [V3.gV] at r1; go_simp)
      refine V3.VFrom.cons (V3.VStep.val _ rfl _ rfl (.bool z3) rfl trivial (fun ev wq hS he hr => ?_)) ?_
      · have r0 : ev (.tmp 42) = .bool z3 := hr (42, some 13) (by simp); have hk := he.1; clear hr he
        go_simp
      refine V3.VFrom.cons (V3.VStep.valG _ rfl _ rfl z3 (.pointer (some ⟨N, 3, none⟩)) rfl 14 true rfl (fun h => by subst h; rfl) (fun h => by subst h; exact .inl rfl) (fun hy ev wq hS he hr => ?_)) ?_
      · subst hy; have r0 : ev (.tmp 1) = .pointer (some ⟨N, 0, none⟩) := hr (1, none) (by simp); have hk := he.1; clear hr he
        go_simp
      refine V3.VFrom.cons (V3.VStep.valG _ rfl _ rfl z3 (.slice pp nP dp) rfl 14 true rfl (fun h => by subst h; rfl) (fun h => by subst h; exact .inl rfl) (fun hy ev wq hS he hr => ?_)) ?_
      · subst hy; have r0 : ev (.tmp 44) = .pointer (some ⟨N, 3, none⟩) := hr (44, some 15) (by simp); have hk := he.1; clear hr he
        have c0 := (show World.cell? wq ⟨N, 3, none⟩ = some (.slice pp nP dp) from (HB.out.kept hS.out (fun h => h)).cell 3)
        go_simp
      refine V3.VFrom.cons (V3.VStep.valG _ rfl _ rfl z3 (.pointer (some ⟨N, 1, none⟩)) rfl 14 true rfl (fun h => by subst h; rfl) (fun h => by subst h; exact .inl rfl) (fun hy ev wq hS he hr => ?_)) ?_
      · subst hy; have r0 : ev (.tmp 1) = .pointer (some ⟨N, 0, none⟩) := hr (1, none) (by simp); have hk := he.1; clear hr he
        go_simp
      refine V3.VFrom.cons (V3.VStep.valG _ rfl _ rfl z3 (.pointer (some ⟨N, 1, none⟩)) rfl 14 true rfl (fun h => by subst h; rfl) (fun h => by subst h; exact .inl rfl) (fun hy ev wq hS he hr => ?_)) ?_
      · subst hy; have r0 : ev (.tmp 46) = .pointer (some ⟨N, 1, none⟩) := hr (46, some 17) (by simp); have hk := he.1; clear hr he
        go_simp
      refine V3.VFrom.cons (V3.VStep.valG _ rfl _ rfl z3 (.int .i64 dn) rfl 14 true rfl (fun h => by subst h; rfl) (fun h => by subst h; exact .inl rfl) (fun hy ev wq hS he hr => ?_)) ?_
      · subst hy; have r0 : ev (.tmp 47) = .pointer (some ⟨N, 1, none⟩) := hr (47, some 18) (by simp); have hk := he.1; clear hr he
        have c0 := (show World.cell? wq ⟨N, 1, none⟩ = some (.int .i64 dn) from (HB.out.kept hS.out (fun h => h)).cell 1)
        go_simp
      refine V3.VFrom.cons (V3.VStep.callG _ rfl _ rfl z3 (.int .i64 tp) rfl 14 true rfl (fun h => by subst h; rfl) (fun h => by subst h; exact .inl rfl) 39 #[.slice pp nP dp, .int .i64 dn] (fun hy ev wq hS he hr => ?_) (fun hy wq hS => ?_)) ?_
      · subst hy; have r0 : ev (.tmp 45) = .slice pp nP dp := hr (45, some 16) (by simp); have r1 : ev (.tmp 48) = .int .i64 dn := hr (48, some 19) (by simp); have hk := he.1; have hf := he.2; clear hr he
        go_simp
      · subst hy; exact (CT.out _ Z2.out Z3.out wq hS.out).mono fun e w' ⟨h1, h2⟩ => ⟨h1, hS.out.trans h2 (fun _ _ h => h)⟩
      refine V3.VFrom.cons (V3.VStep.valG _ rfl _ rfl z3 (.pointer (some ⟨N, 1, none⟩)) rfl 14 true rfl (fun h => by subst h; rfl) (fun h => by subst h; exact .inl rfl) (fun hy ev wq hS he hr => ?_)) ?_
      · subst hy; have r0 : ev (.tmp 1) = .pointer (some ⟨N, 0, none⟩) := hr (1, none) (by simp); have hk := he.1; clear hr he
        go_simp
      refine V3.VFrom.cons (V3.VStep.valG _ rfl _ rfl z3 (.pointer (some ⟨N, 2, none⟩)) rfl 14 true rfl (fun h => by subst h; rfl) (fun h => by subst h; exact .inl rfl) (fun hy ev wq hS he hr => ?_)) ?_
      · subst hy; have r0 : ev (.tmp 50) = .pointer (some ⟨N, 1, none⟩) := hr (50, some 21) (by simp); have hk := he.1; clear hr he
        go_simp
      refine V3.VFrom.cons (V3.VStep.valG _ rfl _ rfl z3 (.int .i64 dd) rfl 14 true rfl (fun h => by subst h; rfl) (fun h => by subst h; exact .inl rfl) (fun hy ev wq hS he hr => ?_)) ?_
      · subst hy; have r0 : ev (.tmp 51) = .pointer (some ⟨N, 2, none⟩) := hr (51, some 22) (by simp); have hk := he.1; clear hr he
        have c0 := (show World.cell? wq ⟨N, 2, none⟩ = some (.int .i64 dd) from (HB.out.kept hS.out (fun h => h)).cell 2)
        go_simp
      refine V3.VFrom.cons (V3.VStep.valG _ rfl _ rfl z3 (.bool x6) rfl 14 true rfl (fun h => by subst h; rfl) (fun h => by subst h; exact .inl rfl) (fun hy ev wq hS he hr => ?_)) ?_
      · subst hy; have r0 : ev (.tmp 49) = .int .i64 tp := hr (49, some 20) (by simp); have r1 : ev (.tmp 52) = .int .i64 dd := hr (52, some 23) (by simp); have hk := he.1; clear hr he
        cases x6 <;> first | (have e1 := H6.out.1 rfl; go_simp; done) | (have e1 := H6.out.2 rfl; go_simp)
      refine V3.VFrom.cons (V3.VStep.val _ rfl _ rfl (.bool R) rfl trivial (fun ev wq hS he hr => ?_)) ?_
      · have r0 : ev (.tmp 43) = .bool z3 := hr (43, some 14) (by simp); have r1 : ev (.tmp 53) = V3.gV z3 (.bool x6) := hr (53, some 24) (by simp); have hk := he.1; clear hr he
        have e := ZR.out; cases z3 <;> (simp only [Bool.false_and, Bool.true_and] at e; subst e; dsimp only [V3.gV] at r1; go_simp)
      refine V3.VFrom.cons (V3.VStep.val _ rfl _ rfl (.bool R) rfl trivial (fun ev wq hS he hr => ?_)) ?_
      · have r0 : ev (.tmp 54) = .bool R := hr (54, some 25) (by simp); have hk := he.1; clear hr he
        go_simp
      exact V3.VFrom.nil
    case hS => exact hid ((Kp.refl Nb W).drew)
    case hend =>
      intro w5 h5
      have K5 := hid (K0.out.trans h5.out (fun _ _ h => h))
      clear h5 K0
      simp only [V3.putAll, List.zip_cons_cons, List.zip_nil_right, List.foldl_cons, List.foldl_nil, Act.put, List.setIfInBounds_toArray, List.set_cons_zero, List.set_cons_succ]
      go_wp2
      go_ret
      exact ⟨rfl, K5.out⟩
end

end Go.Proofs.YtogoophofgkboaaGreatDoor
