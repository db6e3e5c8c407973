/-
  Layer 22: the statements' own first. Condition: the table of powers of ten lies as the program's text lays it.
-/
import Derived.Test.YtjipcmhknikcgaaDoorLgM
import Derived.Test.YtjipcmhknikcgaaDoorLgL
import Derived.Test.YtjipcmhknikcgaaDoorLgI
namespace Go.Proofs.YtjipcmhknikcgaaDoor
open Go.RowKit

theorem wpList_valG {P : Program} {ops : Array Oper} {rest : List Oper} {o : Oper} {a : Act} {w : World} {Q : Exit → Act → World → Prop} (hw : Region.wanted o (yielded ops a.tmps) = true) (v : Value) (w' : World) (h1 : (execOp a.eval o).run P w = .ok (.value v) w')
    (h : wpList P ops Q rest (a.put o.dst v) w') : wpList P ops Q (o :: rest) a w :=
  wpList_step fun K hK => by
    rw [if_pos hw]
    unfold Oper.wp
    rw [h1]
    exact hK _ _ h
def fR1 : List RwQ := zero14.set 0 (1, 30)
def fR3 : List RwQ := zero14.set 0 (2, 42)
def fR4 : List RwQ := fR3.set 10 (1, 5)
theorem f_1 : setK zero14 1 (sumR (rowOf zero14 1) (1, 30)) = fR1 := by decide
theorem f_2 (r : RwQ) : setK fR1 15 r = fR1 := rfl
theorem f_3 : setK fR1 1 (sumR (rowOf fR1 1) (1, 12)) = fR3 := by decide
theorem f_4 : setK fR3 11 (sumR (rowOf fR3 11) (1, 5)) = fR4 := by decide
theorem f_nz : nzT fR4 14 = [0, 10] := by decide
theorem f_dec (u : Nat) : u < 10 → decB u = ⟨#[UInt8.ofNat (48 + u)]⟩ := fun h => by unfold decB; rw [Lib.decDigits_one h]
theorem f_text : textB fR4 = ⟨#[49, 32, 50, 32, 52, 50, 44, 32, 49, 49, 32, 49, 32, 53]⟩ := by
  have e1 : decB 1 = ⟨#[49]⟩ := f_dec 1 (by decide)
  have e2 : decB 2 = ⟨#[50]⟩ := f_dec 2 (by decide)
  have e5 : decB 5 = ⟨#[53]⟩ := f_dec 5 (by decide)
  have e11 : decB 11 = ⟨#[49, 49]⟩ := by unfold decB; rw [Lib.decDigits_two (by decide) (by decide)]; rfl
  have e42 : decB 42 = ⟨#[52, 50]⟩ := by unfold decB; rw [Lib.decDigits_two (by decide) (by decide)]; rfl
  have r0 : rowAt fR4 0 = (2, 42) := by decide
  have r1 : rowAt fR4 10 = (1, 5) := by decide
  unfold textB
  rw [f_nz, if_neg (by decide)]
  unfold wordsB wordB
  simp only [List.map_cons, List.map_nil, r0, r1, Nat.zero_add, Nat.reduceAdd, show (2 : Int).toNat = 2 from rfl, show (42 : Int).toNat = 42 from rfl, show (1 : Int).toNat = 1 from rfl, show (5 : Int).toNat = 5 from rfl, e1, e2, e5, e11, e42]
  decide
theorem f_eq (a b : Int) (w : World) : Sem.run Tryd.prog (Op.equalIn 10000 29 (.agg #[.int .u64 a, .int .u64 b]) (.agg #[.int .u64 a, .int .u64 b])) w = .ok true w := by
  have h := eq_rows (a, b) (a, b) w
  rw [decide_eq_true rfl] at h
  exact h
set_option maxRecDepth 100000 in
set_option maxHeartbeats 4000000 in
theorem lfirst_any (w : World) (ht : Tb w) : Calls Tryd.prog 6 #[] w fun e w' => e = .returned (.bool true) ∧ Kp Nb w w' := by
  have HT := hid ht
  have q1 := f_eq 2 42
  have q2 := f_eq 3 47
  have q3 := f_eq 1 5
  clear ht
  go_enter Tryd.func6, Tryd.ntmps6
  go_wp2_with fail
  refine (lgnew_any _).mono ?_
  rintro e w1 ⟨B, rfl, h1, hB, k1⟩
  have C1 := sent_any B zero14 1 30 w1 h1 (by decide)
  rw [f_1] at C1
  have C1 := hid C1
  have HB := hid hB
  have K1 := hid k1
  clear h1 hB k1
  go_wp2_with fail
  refine C1.out.mono ?_
  rintro e w2 ⟨rfl, h2, k2⟩
  have C2 := sent_any B fR1 15 1 w2 h2 (by decide)
  rw [f_2] at C2
  have C2 := hid C2
  have K2 : Hid (Kp Nb w w2) := hid (K1.out.trans (S' := Jb B) k2 (fun i hi h => by have : i = B := h; have := HB.out; omega))
  clear h2 k2 K1
  go_wp2_with fail
  refine C2.out.mono ?_
  rintro e w3 ⟨rfl, h3, k3⟩
  have C3 := sent_any B fR1 1 12 w3 h3 (by decide)
  rw [f_3] at C3
  have C3 := hid C3
  have K3 : Hid (Kp Nb w w3) := hid (K2.out.trans (S' := Jb B) k3 (fun i hi h => by have : i = B := h; have := HB.out; omega))
  have KN1 : Hid (knd 1 = true) := hid rfl
  have KN15 : Hid (knd 15 = false) := hid rfl
  rw [KN1.out, KN15.out]
  clear h3 k3 K2
  go_wp2_with fail
  refine C3.out.mono ?_
  rintro e w4 ⟨rfl, h4, k4⟩
  have C4 := sent_any B fR3 11 5 w4 h4 (by decide)
  rw [f_4] at C4
  have C4 := hid C4
  have K4 : Hid (Kp Nb w w4) := hid (K3.out.trans (S' := Jb B) k4 (fun i hi h => by have : i = B := h; have := HB.out; omega))
  clear h4 k4 K3
  go_wp2_with fail
  refine C4.out.mono ?_
  rintro e w5 ⟨rfl, h5, k5⟩
  have K5 : Hid (Kp Nb w w5) := hid (K4.out.trans (S' := Jb B) k5 (fun i hi h => by have : i = B := h; have := HB.out; omega))
  have H5 := hid h5
  clear k5 K4
  have CR := hid (lwrows_any (some B) fR4 9 w5 (.inl ⟨B, rfl, h5⟩))
  clear h5
  go_wp2_with fail
  refine CR.out.mono ?_
  rintro e w6 ⟨v1, v2, xs, rfl, hxs, o1, o2, hb⟩
  rw [f_nz] at hxs
  have hxs : xs = [0, 10] := hxs
  subst hxs
  obtain ⟨p1, c1, rfl⟩ : ∃ a c, v1 = .slice a 2 c := own_shape o1
  have hrow := o2.2
  obtain ⟨g, c2, rfl, hg, hcap⟩ : ∃ g c2, v2 = .slice (some ⟨g, 0, none⟩) 2 c2 ∧ w6.rangeAt g 2 (rL (1, 5)) ∧ 2 ≤ c2 := by
    rcases hrow with ⟨-, h⟩ | ⟨g, cap, cur, e, -, hg, h1, -, h3, h4⟩
    · exact absurd h (by decide)
    · refine ⟨g, cap, e, fun j u hj => ?_, h1⟩
      have h4' : cur.toList.take 4 = [.int .u64 2, .int .u64 42, .int .u64 1, .int .u64 5] := h4
      have hj2 : j < 2 := (List.getElem?_eq_some_iff.1 hj).1
      have e1 : cur.toList[2 + j]? = some u := by
        rw [← List.getElem?_take_of_lt (show 2 + j < 4 by omega), h4']
        rcases j with _ | _ | j
        · exact hj
        · exact hj
        · omega
      unfold World.cell?
      rw [Array.getElem?_toList] at e1
      rw [hg]
      exact e1
  have K6 : Hid (Kp Nb w w6) := hid (K5.out.trans (Kp.of_below (S := Nb) hb) (fun _ _ h => h))
  have H6 := hid (H5.out.kept (Kp.of_below (S := Nb) hb) (fun h => h))
  have HLD : Hid ((Instr.loadAt 29 (.pointer (some ⟨g, 2, none⟩))).run Tryd.prog w6 = .ok (.agg #[.int .u64 1, .int .u64 5]) w6) := hid (rw_load (1, 5) hg)
  have HG := hid hg
  have hcap2 : (2 : Int) ≤ c2 := by omega
  clear hb o1 o2 hrow hg K5 H5
  have CW := hid (row_any B fR4 1 w6 H6.out)
  rw [show rowOf fR4 1 = (2, 42) by decide] at CW
  replace CW : Hid (Calls Tryd.prog 13 #[.pointer (some ⟨B, 0, none⟩), .int .i64 1] w6 fun e w' => e = .returned (.agg #[.int .u64 2, .int .u64 42]) ∧ Kp Nb w6 w') := CW
  go_wp2_with fail
  refine CW.out.mono ?_
  rintro e w7 ⟨rfl, k7⟩
  have K7 := hid k7
  clear k7
  have CT := hid (ltext_any (some B) fR4 w7 (.inl ⟨B, rfl, H6.out.kept K7.out (fun h => h)⟩) (HT.out.kept (K6.out.trans K7.out (fun _ _ h => h)) (fun h => h)))
  rw [f_text] at CT
  go_wp2_with fail
  refine CT.out.mono ?_
  rintro e w8 ⟨rfl, k8⟩
  have K8 : Hid (Kp Nb w6 w8) := hid (K7.out.trans k8 (fun _ _ h => h))
  clear k8 K7
  have CO := hid (total_any (some B) fR4 w8 (.inl ⟨B, rfl, H6.out.kept K8.out (fun h => h)⟩))
  rw [show accR fR4 (nzT fR4 14) = (3, 47) by rw [f_nz]; decide] at CO
  replace CO : Hid (Calls Tryd.prog 15 #[.pointer (some ⟨B, 0, none⟩)] w8 fun e w' => e = .returned (.agg #[.int .u64 3, .int .u64 47]) ∧ Kp Nb w8 w') := CO
  go_wp2_with fail
  refine CO.out.mono ?_
  rintro e w9 ⟨rfl, k9⟩
  have K9 : Hid (Kp Nb w6 w9) := hid (K8.out.trans k9 (fun _ _ h => h))
  clear k9 K8
  have CP := hid (pay_any B fR4 w9 (H6.out.kept K9.out (fun h => h)))
  rw [show plusS (rowAt fR4 9).2 (rowAt fR4 10).2 = 5 by decide] at CP
  go_wp2_with fail
  refine CP.out.mono ?_
  rintro e wA ⟨rfl, kA⟩
  have KA : Hid (Kp Nb w6 wA) := hid (K9.out.trans kA (fun _ _ h => h))
  clear kA K9
  have HLA : Hid ((Instr.loadAt 29 (.pointer (some ⟨g, 2, none⟩))).run Tryd.prog wA = .ok (.agg #[.int .u64 1, .int .u64 5]) wA) := hid (rw_load (1, 5) (fun j u hj => KA.out.cell (HG.out j u hj) (fun h => h)))
  go_wp2_with (first
    | (refine wpList_valG (by rfl) _ _ (exec_loadL (T := 29) (a := ⟨g, 2, none⟩) rfl (by rfl) HLA.out) ?_))
  go_ret
  exact ⟨rfl, K6.out.trans KA.out (fun _ _ h => h)⟩

end Go.Proofs.YtjipcmhknikcgaaDoor
