/-
  Of the texts VeS, VeU what is used. No condition but what each says.
-/
import Derived.Test.YtogoophofgkboaaGreatDoorRq
import Derived.Test.YtogoophofgkboaaGreatDoorRc
import Derived.Test.YtogoophofgkboaaGreatDoorRg
namespace Go.Proofs.YtogoophofgkboaaGreatDoor
section
open Go.RowKit
theorem old_set2V {L : Nat → Bool} {i i2 : Nat} {l l' : List Value} (u u2 : Value) (hL : L i = false) (hL2 : L i2 = false) (h : l' = (l.set i u).set i2 u2) : ∀ j, L j = true → l'.getD j undef = l.getD j undef := by
  intro j hj
  subst h
  have hn : i ≠ j := by rintro rfl; rw [hL] at hj; cases hj
  have hn2 : i2 ≠ j := by rintro rfl; rw [hL2] at hj; cases hj
  rw [List.getD_eq_getElem?_getD, List.getD_eq_getElem?_getD, List.getElem?_set_ne hn2, List.getElem?_set_ne hn]
def byL (z : Int) : List Value := [.int .u8 z]
theorem by_rows {w : World} {v : Value} {zs : List Int} (h : RowsSl byL 0 1 w v zs) (hz : IsBytes zs) : BySl Nb w v zs := by
  refine ⟨hz, ?_⟩
  rcases h with h | ⟨blk, off, cap, rfl, hc, hm, hr⟩
  · exact .inl h
  · refine .inr ⟨blk, off, cap, rfl, hc, hm, fun i hi => ?_, fun _ h => h⟩
    have := hr i hi 0 _ rfl
    rw [Nat.mul_one] at this
    exact this
theorem byte_infoV : (Tryz.prog.info? 5).map (fun i => (i.zero, i.size, i.bytes)) = some (some (.int .u8 0), 1, 1) := by kernel_rfl
theorem exec_appendV {P : Program} {ev : Operand → Value} {o : Oper} {s x : Operand} {t : TypeId} {v xv v' : Value} {w w' : World} (ho : o.op = .call { callee := .builtin .append, args := #[s, x], argTypes := #[t, t] })
    (hs : ev s = v) (hx : ev x = xv) (hr : (Builtin.append_ #[t, t] o.type #[v, xv]).run P w = .ok v' w') : (execOp ev o).run P w = .ok (.value v') w' := by
  simp [execOp, ho, resolve, invoke, builtin, hs, hx, hr, Result.andThen]
theorem exec_indexV {P : Program} {ev : Operand → Value} {o : Oper} {T : TypeId} {x y : Operand} {a b v : Value} {w w' : World} (ho : o.op = .index T x y) (hx : ev x = a) (hy : ev y = b) (hl : (Instr.index T a b).run P w = .ok v w') : (execOp ev o).run P w = .ok (.value v) w' := by
  unfold execOp
  simp only [ho, hx, hy, Sem.run_bind, Sem.run_pure, Result.andThen_ok, hl]
theorem exec_mksliceV {P : Program} {ev : Operand → Value} {o : Oper} {T : TypeId} {x y : Operand} {v v2 r : Value} {w w' : World} (ho : o.op = .makeSlice T x y) (hx : ev x = v) (hy : ev y = v2) (hl : (Instr.makeSlice T v v2).run P w = .ok r w') : (execOp ev o).run P w = .ok (.value r) w' := by
  unfold execOp
  simp only [ho, hx, hy, Sem.run_bind, Sem.run_pure, Result.andThen_ok, hl]
theorem exec_lenV {ev : Operand → Value} {o : Oper} {x : Operand} {y : Option Addr} {n c : Nat} {w : World} (ho : o.op = .call { callee := .builtin .len, args := #[x], argTypes := #[26] }) (hx : ev x = .slice y n c) : (execOp ev o).run Tryz.prog w = .ok (.value (.int .i64 (n : Int))) w := by
  have h := run_len_slice (P := Tryz.prog) (w := w) 26 o.type y n c (by kernel_rfl)
  simp [execOp, ho, resolve, invoke, builtin, hx, h, Result.andThen, goInt]
/-- Bytes appended to a row that the call owns. -/
theorem app_bytes {w : World} {base ty : Nat} {va vb : Value} {xs ys : List Int} (own : w.ownsRow base 5 1 va xs.length (flatR byL xs)) (hx : RowsSl byL 0 1 w vb ys) (hmost : xs.length + ys.length ≤ 1000000) (hb : base ≤ w.heap.size) :
    ∃ v' w', (Builtin.append_ #[26, 26] ty #[va, vb]).run Tryz.prog w = .ok v' w' ∧ w'.ownsRow base 5 1 v' (xs ++ ys).length (flatR byL (xs ++ ys)) ∧ w.grownBy w' va.ownBlock := by
  obtain ⟨i0, hi, h1, h2, h3⟩ := info_parts byte_infoV
  have h := run_append_rows (P := Tryz.prog) (f := byL) (z := 0) (c := 1) base 26 ty 5 i0 (.int .u8 0) 1 Tryz.underlying26 hi h1 h2 h3 rfl (by decide) va xs.length _ own vb ys hx (fun _ _ => rfl) (fun _ _ u hu => by unfold byL at hu; rw [List.mem_singleton.1 hu]; rfl) (by unfold maxLen; omega) (by omega) hb
  rw [List.length_append]
  unfold flatR at h ⊢
  rw [List.flatMap_append]
  exact h
theorem ownsRow_kpV {w w' : World} {base e size n : Nat} {v : Value} {xs : List Value} (h : w.ownsRow base e size v n xs) (k : Kp Nb w w') : w'.ownsRow base e size v n xs :=
  ownsRow_same h (fun g hg => by obtain ⟨-, o, ho, -⟩ := row_cells h hg; exact k.heap (Array.getElem?_eq_some_iff.1 ho).1 (fun h => h))
theorem by_owned {w : World} {base : Nat} {v : Value} {zs : List Int} (h : w.ownsRow base 5 1 v zs.length (flatR byL zs)) (hz : IsBytes zs) : BySl Nb w v zs := by_rows (rows_owned h (fun _ _ => rfl)) hz
theorem make_by2 (w : World) (a b : Int) : (Instr.buildSlice 26 2 #[(0, .int .u8 a), (1, .int .u8 b)]).run Tryz.prog w = .ok (.slice (some ⟨w.heap.size, 0, none⟩) 2 2) (w.alloc (.cells #[.int .u8 a, .int .u8 b] 5)) := by
  kernel_rfl
/-- What stands while bytes are appended: is the slice of new ones made? is it appended? -/
structure AbS (W : World) (base : Nat) (va : Value) (xs ys : List Int) (bs : List Bool) (g : Value × Value) (w : World) : Prop where
  kp : Kp (fun b => va.ownBlock = some b) W w
  lo : base ≤ w.heap.size
  row0 : bs.getD 1 false = false → w.ownsRow base 5 1 va xs.length (flatR byL xs)
  row1 : bs.getD 1 false = true → w.ownsRow base 5 1 g.2 (xs ++ ys).length (flatR byL (xs ++ ys))
  made : bs.getD 0 false = true → bs.getD 1 false = false → RowsSl byL 0 1 w g.1 ys
theorem AbS.start {W : World} {base : Nat} {va : Value} {xs ys : List Int} {g : Value × Value} (h : W.ownsRow base 5 1 va xs.length (flatR byL xs)) (hb : base ≤ W.heap.size) : AbS W base va xs ys [false, false] g W.drew :=
  ⟨(Kp.refl _ W).drew, hb, fun _ => ownsRow_kpV h (Kp.refl Nb W).drew, (fun e => by cases e), (fun e => by cases e)⟩
theorem rows_new2 (w : World) (a b : Int) : RowsSl byL 0 1 (w.alloc (.cells #[.int .u8 a, .int .u8 b] 5)) (.slice (some ⟨w.heap.size, 0, none⟩) 2 2) [a, b] := by
  refine .inr ⟨w.heap.size, 0, 2, rfl, Nat.le_refl _, by unfold maxLen; omega, fun i hi j u hu => ?_⟩
  have hb := Blk.new w 5 [.int .u8 a, .int .u8 b]
  match j with
  | 0 =>
    match i with
    | 0 => injection hu with hu; rw [← hu]; exact hb.cell 0
    | 1 => injection hu with hu; rw [← hu]; exact hb.cell 1
    | i + 2 => simp at hi; omega
  | j + 1 => simp [byL] at hu
theorem AbS.make2 {W w : World} {base : Nat} {va : Value} {xs : List Int} {a b : Int} {b1 : Bool} {g : Value × Value} (h : AbS W base va xs [a, b] [false, b1] g w) : AbS W base va xs [a, b] [true, b1] (.slice (some ⟨w.heap.size, 0, none⟩) 2 2, g.2) (w.alloc (.cells #[.int .u8 a, .int .u8 b] 5)) := by
  have k := (Kp.refl Nb w).alloc (.cells #[.int .u8 a, .int .u8 b] 5)
  exact ⟨h.kp.trans k (fun _ _ h => h.elim), Nat.le_trans h.lo k.size, fun e => ownsRow_kpV (h.row0 e) k, fun e => ownsRow_kpV (h.row1 e) k, fun _ _ => rows_new2 w a b⟩
theorem AbS.app {W w w' : World} {base : Nat} {va v' : Value} {xs ys : List Int} {b0 : Bool} {g : Value × Value} (h : AbS W base va xs ys [b0, false] g w) (ho : w'.ownsRow base 5 1 v' (xs ++ ys).length (flatR byL (xs ++ ys))) (hg : w.grownBy w' va.ownBlock) : AbS W base va xs ys [b0, true] (g.1, v') w' :=
  ⟨h.kp.grown hg (fun b hb _ => hb), Nat.le_trans h.lo hg.size, (fun e => by cases e), fun _ => ho, (fun _ e => by cases e)⟩
theorem and_15 (a : Int) (h : 0 ≤ a ∧ a < 256) : bits .and .u8 a 15 = a % 16 := by
  have hA : (BitVec.ofInt 8 a).toNat = a.toNat := by rw [BitVec.toNat_ofInt]; omega
  have hB : bits .and .u8 a 15 = IntKind.u8.wrap (((BitVec.ofInt 8 a &&& BitVec.ofInt 8 15).toNat : Nat) : Int) := rfl
  have hC : (BitVec.ofInt 8 a &&& BitVec.ofInt 8 15).toNat = a.toNat % 16 := by
    rw [BitVec.toNat_and, hA]
    exact Nat.and_two_pow_sub_one_eq_mod _ 4
  rw [hB, hC, IntKind.wrap_u8]
  omega
def hxI (n : Int) : Int := ((hexd n.toNat).toNat : Int)
theorem hx_idx : ∀ n : Nat, n < 16 → ((#[48, 49, 50, 51, 52, 53, 54, 55, 56, 57, 97, 98, 99, 100, 101, 102] : Array UInt8)[n]?.getD 0) = hexd n := by decide
theorem idx_hex (w : World) (n : Int) (h : 0 ≤ n ∧ n < 16) : (Instr.index 9 (.string ⟨#[48, 49, 50, 51, 52, 53, 54, 55, 56, 57, 97, 98, 99, 100, 101, 102]⟩) (.int .u8 n)).run Tryz.prog w = .ok (.int .u8 (hxI n)) w := by
  obtain ⟨k, rfl⟩ : ∃ k : Nat, n = (k : Int) := ⟨n.toNat, by omega⟩
  have hk : k < 16 := by omega
  rw [run_index_string (P := Tryz.prog) w 9 ⟨#[48, 49, 50, 51, 52, 53, 54, 55, 56, 57, 97, 98, 99, 100, 101, 102]⟩ .u8 k Tryz.underlying9, dif_pos ⟨by omega, by show _ < 16; omega⟩]
  have e := hx_idx k hk
  rw [Array.getElem?_eq_getElem (show k < 16 from hk), Option.getD_some] at e
  unfold hxI
  simp only [Int.toNat_natCast]
  exact congrArg (fun c : UInt8 => Result.ok (Value.int .u8 ((c.toNat : Nat) : Int)) w) e
def hexI (zs : List Int) : List Int := (hexL zs).map fun c => (c.toNat : Int)
theorem hexI_snoc (zs : List Int) (z : Int) : hexI (zs ++ [z]) = hexI zs ++ [hxI (z.toNat / 16 : Nat), hxI (z.toNat % 16 : Nat)] := by
  unfold hexI hexL hxI
  rw [List.flatMap_append, List.map_append]
  rfl
theorem hexL_snoc (zs : List Int) (z : Int) : hexL (zs ++ [z]) = hexL zs ++ [hexd (z.toNat / 16), hexd (z.toNat % 16)] := by
  unfold hexL
  rw [List.flatMap_append]
  rfl
theorem hexI_bytes (zs : List Int) : IsBytes (hexI zs) := fun i => by
  unfold hexI
  rw [List.getElem?_map]
  cases (hexL zs)[i]? with
  | none => simp
  | some c => have := c.toNat_lt; simp only [Option.map_some, Option.getD_some]; omega
theorem hexI_len (zs : List Int) : (hexI zs).length = 2 * zs.length := by unfold hexI; rw [List.length_map, hexL_len]
theorem st_hexI (zs : List Int) : st (hexI zs) = bs (hexL zs) := by
  unfold st hexI
  apply ByteArray.ext
  show (List.map _ (List.map _ _)).toArray = (hexL zs).toArray
  rw [List.map_map]
  congr 1
  rw [show ((fun z : Int => UInt8.ofNat z.toNat) ∘ fun c : UInt8 => (c.toNat : Int)) = id from by funext c; simp, List.map_id]
theorem make_capV (w : World) (n : Nat) (hn : n ≤ 100000) : ∃ w', (Instr.makeSlice 26 (.int .i64 0) (.int .i64 (n : Int))).run Tryz.prog w = .ok (.slice (some ⟨w.heap.size, 0, none⟩) 0 n) w' ∧ w'.ownsRow w.heap.size 5 1 (.slice (some ⟨w.heap.size, 0, none⟩) 0 n) 0 [] ∧ Kp Nb w w' ∧ w.heap.size < w'.heap.size := by
  obtain ⟨i, hi, h1, h2, h3⟩ := info_parts byte_infoV
  have h := run_make (P := Tryz.prog) w _ _ i _ Tryz.underlying26 hi h1 .i64 .i64 0 n (by omega) (by omega) (by rw [h3]; omega) (by omega)
  refine ⟨_, h, ⟨rfl, .inr ⟨w.heap.size, n, _, rfl, Nat.le_refl _, heap_alloc_new w _, Nat.zero_le _, by unfold maxLen; omega, ?_, rfl⟩⟩, (Kp.refl Nb w).alloc _, by rw [World.size_alloc]; omega⟩
  rw [size_madeCells, h2]
  simp
def DgR (W : World) (zs : List Int) (base : Nat) (u i : Value) (wr : World) : Prop := ∃ k : Nat, k ≤ zs.length ∧ i = .int .i64 k ∧ Hid (wr.ownsRow base 5 1 u (hexI (zs.take k)).length (flatR byL (hexI (zs.take k)))) ∧ Hid (Kp Nb W wr ∧ base ≤ wr.heap.size)
theorem take_snocI (zs : List Int) (k : Nat) (h : k < zs.length) : zs.take (k + 1) = zs.take k ++ [zs[k]?.getD 0] := by
  rw [List.take_succ_eq_append_getElem h, List.getElem?_eq_getElem h, Option.getD_some]
set_option maxRecDepth 100000 in
set_option maxHeartbeats 4000000 in
theorem dbytes_any (v : Value) (zs : List Int) (w : World) (hv : BySl Nb w v zs) (hl : zs.length ≤ 10000) : Calls Tryz.prog 56 #[v] w fun e w' => e = .returned (.string (bs (hexW zs))) ∧ Kp Nb w w' := by
  by_cases h0 : zs = []
  · subst h0
    obtain ⟨y, d, rfl⟩ := by_shape hv
    clear hv hl
    go_enter Tryz.func56, Tryz.ntmps56
    go_wp2
    go_ret
    exact ⟨rfl, Kp.refl _ _⟩
  · have hn0 : 0 < zs.length := List.length_pos_iff.2 h0
    have HW : Hid (hexW zs = hexL zs) := hid (by unfold hexW; rw [if_neg (by omega)])
    obtain ⟨hz, ⟨_, e⟩ | ⟨blk, off, cap, rfl, hc, hm, hcell, -⟩⟩ := hv
    · exact absurd e h0
    obtain ⟨base, hbase⟩ : ∃ b, w.heap.size = b := ⟨_, rfl⟩
    obtain ⟨n, hn⟩ : ∃ n, zs.length = n := ⟨_, rfl⟩
    obtain ⟨w1, hrun, how, k1, hs1⟩ := make_capV w (2 * n) (by omega)
    have HZ := hid hz
    have HC := hid hcell
    have HN := hid hn
    have HN1 : Hid (1 ≤ n ∧ n ≤ 10000 ∧ n ≤ cap) := hid (by omega)
    have K1 := hid k1
    rw [hbase] at hrun how hs1
    have HO := hid how
    have HBS : Hid (base ≤ w1.heap.size) := hid (by omega)
    have HBW := hid hbase
    have g0 : ((n : Int) == 0) = false := beq_eq_false_iff_ne.2 (by omega)
    have hw : IntKind.i64.wrap (2 * (n : Int)) = ((2 * n : Nat) : Int) := by rw [IntWalk.i64_in _ (by omega)]; omega
    have HRUN := hid hrun
    rw [hn]
    clear h0 hn0 hz hc hm hcell k1 how hs1 hn hl hrun
    go_enter Tryz.func56, Tryz.ntmps56
    go_wp2_with (refine wpList_val (by rfl) _ _ (exec_mksliceV rfl rfl (by first | rfl | (show Value.int .i64 (IntKind.i64.wrap (2 * (n : Int))) = .int .i64 ((2 * n : Nat) : Int); rw [hw])) HRUN.out) ?_)
    go_loopw [3, 15] (DgR w zs base) (fun _ i _ => n - (intOf i).toNat)
    case atStart => exact ⟨0, Nat.zero_le _, rfl, HO, hid ⟨K1.out, HBS.out⟩⟩
    case round =>
      obtain ⟨k, hk, rfl, HR, HK⟩ := hrel
      rw [HN.out] at hk
      by_cases hlt : k < n
      · obtain ⟨z, hzz⟩ : ∃ z, zs[k]?.getD 0 = z := ⟨_, rfl⟩
        have c0 : wr.cell? ⟨blk, off + k, none⟩ = some (.int .u8 z) := by rw [← hzz]; exact HK.out.1.cell (HC.out k (by rw [HN.out]; exact hlt)) (fun h => h)
        have HZR : Hid (0 ≤ z ∧ z < 256) := hid (by rw [← hzz]; exact HZ.out k)
        have hzr : 0 ≤ z ∧ z < 256 := HZR.out
        obtain ⟨xs, hxs⟩ : ∃ xs, hexI (zs.take k) = xs := ⟨_, rfl⟩
        obtain ⟨a, ha⟩ : ∃ a, hxI (z / 16) = a := ⟨_, rfl⟩
        obtain ⟨b, hb⟩ : ∃ b, hxI (z % 16) = b := ⟨_, rfl⟩
        have HXS : Hid (hexI (zs.take (k + 1)) = xs ++ [a, b]) := hid (by
          rw [take_snocI zs k (by rw [HN.out]; exact hlt), hzz, hexI_snoc, hxs, ← ha, ← hb]
          congr 3
          · congr 1; omega
          · congr 2; omega)
        have HLM : Hid (xs.length + 2 ≤ 30000) := hid (by rw [← hxs, hexI_len, List.length_take]; have := HN1.out; omega)
        rw [hxs] at HR
        obtain ⟨y, c, rfl⟩ := own_shape HR.out
        obtain ⟨m, hm⟩ : ∃ m, xs.length = m := ⟨_, rfl⟩
        have HL2 := hid hm
        have HR9 : Hid (wr.ownsRow base 5 1 (.slice y m c) xs.length (flatR byL xs)) := hid (by rw [← hm]; exact HR.out)
        have HKN := hid hlt
        have HA := hid ha
        have HBB := hid hb
        rw [hm]
        clear hxs ha hb hm hzz
        go_wp2_with fail
        refine region_ghost (g0 := ((undef, undef) : Value × Value)) [none, none, none, some 9, none, none, none, none, none, none, none, none, none, none, none, none, none, none, none, some 0, some 1, some 2, some 3, some 4, some 5, some 6, some 7, some 8, none, none, none] [[(3, none)], [(5, none)], [(20, some 1)], [(21, some 2)], [(5, none)], [(23, some 4)], [(24, some 5)], [(22, some 3), (25, some 6)], [(19, some 0), (26, some 7)], [(27, some 8)]] [some 19, some 20, some 21, some 22, some 23, some 24, some 25, some 26, some 27, some 3] (fun g => [.slice y m c, .int .u8 z, .int .u8 (z / 16), .int .u8 a, .int .u8 z, .int .u8 (z % 16), .int .u8 b, g.1, g.2, g.2]) [7, 8] (fun (bs : List Bool) (g : Value × Value) wq => Hid (AbS wr base (.slice y m c) xs [a, b] bs g wq)) (by kernel_rfl) (by kernel_rfl) (fun g => by kernel_rfl) (by kernel_rfl) ?hS (GFrom.all (n := 10) (by kernel_rfl) ?hstep) ?hend
        case hstep =>
          refine GFrom.cons (GStep.val _ rfl rfl _ rfl (fun g => .slice y m c) (fun _ => rfl) (fun _ => trivial) (fun bs g ev wq hS he hr => ?_)) ?_
          · have r0 : ev (.tmp 3) = .slice y m c := hr (3, none) (by simp); have hk := he.1; clear hr he
            go_simp
          refine GFrom.cons (GStep.val _ rfl rfl _ rfl (fun g => .int .u8 z) (fun _ => rfl) (fun _ => trivial) (fun bs g ev wq hS he hr => ?_)) ?_
          · have r0 : ev (.tmp 5) = .int .u8 z := hr (5, none) (by simp); have hk := he.1; clear hr he
            go_simp
          refine GFrom.cons (GStep.val _ rfl rfl _ rfl (fun g => .int .u8 (z / 16)) (fun _ => rfl) (fun _ => trivial) (fun bs g ev wq hS he hr => ?_)) ?_
          · have r0 : ev (.tmp 20) = .int .u8 z := hr (20, some 1) (by simp); have hk := he.1; clear hr he
            have hzr := HZR.out; go_simp
          refine GFrom.cons (GStep.val _ rfl rfl _ rfl (fun g => .int .u8 a) (fun _ => rfl) (fun _ => trivial) (fun bs g ev wq hS he hr => ?_)) ?_
          · have r0 : ev (.tmp 21) = .int .u8 (z / 16) := hr (21, some 2) (by simp); have hk := he.1; clear hr he
            exact exec_indexV rfl (hk _) r0 (by rw [← HA.out]; exact idx_hex wq _ (by have := HZR.out; omega))
          refine GFrom.cons (GStep.val _ rfl rfl _ rfl (fun g => .int .u8 z) (fun _ => rfl) (fun _ => trivial) (fun bs g ev wq hS he hr => ?_)) ?_
          · have r0 : ev (.tmp 5) = .int .u8 z := hr (5, none) (by simp); have hk := he.1; clear hr he
            go_simp
          refine GFrom.cons (GStep.val _ rfl rfl _ rfl (fun g => .int .u8 (z % 16)) (fun _ => rfl) (fun _ => trivial) (fun bs g ev wq hS he hr => ?_)) ?_
          · have r0 : ev (.tmp 23) = .int .u8 z := hr (23, some 4) (by simp); have hk := he.1; clear hr he
            rw [← and_15 z HZR.out]; go_simp
          refine GFrom.cons (GStep.val _ rfl rfl _ rfl (fun g => .int .u8 b) (fun _ => rfl) (fun _ => trivial) (fun bs g ev wq hS he hr => ?_)) ?_
          · have r0 : ev (.tmp 24) = .int .u8 (z % 16) := hr (24, some 5) (by simp); have hk := he.1; clear hr he
            exact exec_indexV rfl (hk _) r0 (by rw [← HBB.out]; exact idx_hex wq _ (by have := HZR.out; omega))
          refine GFrom.cons (GStep.make _ rfl _ rfl (fun _ => trivial) (fun Lx g ev wq hL hd hcl hS he hr => ?_)) ?_
          · have r0 : ev (.tmp 22) = .int .u8 a := hr (22, some 3) (by simp); have r1 : ev (.tmp 25) = .int .u8 b := hr (25, some 6) (by simp); clear hr he
            have e : bitsAt [7, 8] Lx = [false, Lx 8] := by simp [bitsAt, hL]
            have e2 : bitsAt [7, 8] (upd Lx 7) = [true, Lx 8] := by simp [bitsAt, upd]
            rw [e] at hS
            exact ⟨.slice (some ⟨wq.heap.size, 0, none⟩) 2 2, (.slice (some ⟨wq.heap.size, 0, none⟩) 2 2, g.2), _, exec_buildSliceV (qs := #[(0, .int .u8 a), (1, .int .u8 b)]) rfl (by simp [r0, r1]) (make_by2 wq a b), rfl, old_setV _ hL rfl, by rw [e2]; exact hid hS.out.make2⟩
          refine GFrom.cons (GStep.make _ rfl _ rfl (fun _ => trivial) (fun Lx g ev wq hL hd hcl hS he hr => ?_)) ?_
          · have r0 : ev (.tmp 19) = .slice y m c := hr (19, some 0) (by simp); have r1 : ev (.tmp 26) = g.1 := hr (26, some 7) (by simp); clear hr he
            have l7 : Lx 7 = true := hd 7 (by kernel_rfl)
            have e : bitsAt [7, 8] Lx = [true, false] := by simp [bitsAt, hL, l7]
            have e2 : bitsAt [7, 8] (upd Lx 8) = [true, true] := by simp [bitsAt, upd, l7]
            rw [e] at hS
            obtain ⟨v', w', hrun, ho, hg⟩ := app_bytes (ty := 26) (hS.out.row0 rfl) (hS.out.made rfl rfl) (by have := HLM.out; have := HL2.out; simp only [List.length_cons, List.length_nil]; omega) hS.out.lo
            have l9 : Lx 9 = false := by cases h : Lx 9 with | false => rfl | true => (have := hcl 9 _ rfl h 8 (by kernel_rfl); rw [hL] at this; cases this)
            exact ⟨v', (g.1, v'), w', exec_appendV rfl r0 r1 hrun, rfl, old_set2V v' v' hL l9 rfl, by rw [e2]; exact hid (hS.out.app ho hg)⟩
          refine GFrom.cons (GStep.val _ rfl rfl _ rfl (fun g => g.2) (fun _ => rfl) (fun _ => trivial) (fun bs g ev wq hS he hr => ?_)) ?_
          · have r0 : ev (.tmp 27) = g.2 := hr (27, some 8) (by simp); have hk := he.1; clear hr he
            go_simp
          exact GFrom.nil
        case hS => exact hid (AbS.start HR9.out HK.out.2)
        case hend =>
          intro g w5 h5
          obtain ⟨g1, g2⟩ := g
          have HR5 := hid (h5.out.row1 rfl)
          have HK5 : Hid (Kp Nb w w5 ∧ base ≤ w5.heap.size) := hid ⟨HK.out.1.trans h5.out.kp (fun i hi h => by
            obtain ⟨h1, -⟩ := row_cells HR9.out h
            have := HBW.out; omega), h5.out.lo⟩
          have HREL : Hid (DgR w zs base g2 (.int .i64 ((k : Int) + 1)) w5) := hid ⟨k + 1, by rw [HN.out]; exact HKN.out, rfl, by rw [HXS.out]; exact HR5, HK5⟩
          clear h5 HR5 HK5 HR HR9 HK HA HBB c0
          have hkb : k < 10000 := by have := HKN.out; have := HN1.out; omega
          simp only [putAll, List.zip_cons_cons, List.zip_nil_right, List.foldl_cons, List.foldl_nil, Act.put, List.setIfInBounds_toArray, List.set_cons_zero, List.set_cons_succ]
          go_wp2
          exact ⟨HREL.out, by simp [intOf]; have := HKN.out; omega⟩
      · obtain rfl : k = n := by omega
        have HT : Hid (zs.take k = zs) := hid (by rw [← HN.out]; exact List.take_length)
        rw [HT.out] at HR
        obtain ⟨y, c, rfl⟩ := own_shape HR.out
        have HB := hid (by_owned HR.out (hexI_bytes zs))
        have hcv := conv_any HB.out
        rw [st_hexI, ← HW.out] at hcv
        obtain ⟨r, hr⟩ : ∃ r, bs (hexW zs) = r := ⟨_, rfl⟩
        rw [hr] at hcv
        have HRr := hid hr
        obtain ⟨m, hm⟩ : ∃ m, (hexI zs).length = m := ⟨_, rfl⟩
        rw [hm] at hcv ⊢
        clear hr hm
        go_wp2
        go_ret
        exact ⟨by rw [HRr.out]; rfl, HK.out.1⟩
def RhxI (W : World) (s0 s1 s2 : ByteArray) (u i : Value) (wr : World) : Prop := ((u = .string s0 ∧ i = .int .i64 0) ∨ (u = .string s1 ∧ i = .int .i64 1) ∨ (u = .string s2 ∧ i = .int .i64 2)) ∧ Hid (Kp Nb W wr)
def RhxR (W : World) (zs : List Int) (u i : Value) (wr : World) : Prop := ∃ k : Nat, k ≤ zs.length ∧ i = .int .i64 k ∧ u = .string (bs (hexL (zs.take k))) ∧ Hid (Kp Nb W wr)
theorem hexd_lo (q : Int) (h : 0 ≤ q) (h1 : q < 10) : st [48 + q] = bs [hexd q.toNat] := by
  unfold hexd
  rw [if_pos (by omega)]
  show (⟨#[UInt8.ofNat (48 + q).toNat]⟩ : ByteArray) = ⟨#[UInt8.ofNat (48 + q.toNat)]⟩
  rw [show (48 + q).toNat = 48 + q.toNat by omega]
theorem hexd_hi (q : Int) (h : 10 ≤ q) : st [87 + q] = bs [hexd q.toNat] := by
  unfold hexd
  rw [if_neg (by omega)]
  show (⟨#[UInt8.ofNat (87 + q).toNat]⟩ : ByteArray) = ⟨#[UInt8.ofNat (87 + q.toNat)]⟩
  rw [show (87 + q).toNat = 87 + q.toNat by omega]
set_option maxRecDepth 100000 in
set_option maxHeartbeats 4000000 in
theorem rhex_any (zs : List Int) (w : World) (hz : IsBytes zs) (hl : zs.length ≤ 10000) : Calls Tryz.prog 21 #[.string (st zs)] w fun e w' => e = .returned (.string (bs (hexL zs))) ∧ Kp Nb w w' := by
  have hsz := st_size zs
  have HIX0 := hid (fun (k : Nat) (hk : k < zs.length) (w : World) => idx_any zs w hz k hk)
  have HZB := hid hz
  obtain ⟨s, hs⟩ : ∃ s, st zs = s := ⟨_, rfl⟩
  obtain ⟨n, hn⟩ : ∃ n, zs.length = n := ⟨_, rfl⟩
  have HN := hid hn
  have HLN : Hid (n ≤ 10000) := hid (by omega)
  rw [hs] at hsz HIX0 ⊢
  rw [hn] at hsz
  clear hs hz hl hn
  go_enter Tryz.func21, Tryz.ntmps21
  go_wp2
  go_loopw [3, 4] (RhxR w zs) (fun _ i _ => n - (intOf i).toNat)
  case atStart => exact ⟨0, Nat.zero_le _, rfl, rfl, hid (Kp.refl _ _)⟩
  case round =>
    obtain ⟨k, hk, rfl, rfl, HK⟩ := hrel
    rw [HN.out] at hk
    by_cases hlt : k < n
    · obtain ⟨z, hzz⟩ : ∃ z, zs[k]?.getD 0 = z := ⟨_, rfl⟩
      have HZ : Hid (0 ≤ z ∧ z < 256) := hid (by rw [← hzz]; exact HZB.out k)
      have HKN := hid hlt
      have HIX : Hid (∀ w : World, (Instr.index 9 (.string s) (.int .i64 (k : Int))).run Tryz.prog w = .ok (.int .u8 z) w) := hid (fun w => by rw [← hzz]; exact HIX0.out k (by rw [HN.out]; exact HKN.out) w)
      have HQ : Hid (0 ≤ z / 16 ∧ z / 16 < 16 ∧ 0 ≤ z % 16 ∧ z % 16 < 16) := hid (by have := HZ.out; omega)
      have HXS : Hid (hexL (zs.take (k + 1)) = hexL (zs.take k) ++ [hexd (z / 16).toNat, hexd (z % 16).toNat]) := hid (by
        rw [take_snocI zs k (by rw [HN.out]; exact hlt), hzz, hexL_snoc]
        congr 3
        · congr 1; have := HZ.out; omega
        · congr 2; have := HZ.out; omega)
      have HLL : Hid ((hexL (zs.take k)).length ≤ 20000) := hid (by rw [hexL_len, List.length_take]; have := HLN.out; have := HKN.out; omega)
      obtain ⟨L, hL⟩ : ∃ L, hexL (zs.take k) = L := ⟨_, rfl⟩
      rw [hL] at HXS HLL
      rw [hL]
      obtain ⟨s0, hs0⟩ : ∃ s, bs L = s := ⟨_, rfl⟩
      obtain ⟨s1, hs1⟩ : ∃ s, bs (L ++ [hexd (z / 16).toNat]) = s := ⟨_, rfl⟩
      obtain ⟨s2, hs2⟩ : ∃ s, bs (L ++ [hexd (z / 16).toNat] ++ [hexd (z % 16).toNat]) = s := ⟨_, rfl⟩
      have HS2 : Hid (bs (hexL (zs.take (k + 1))) = s2) := hid (by rw [HXS.out, ← hs2, List.append_assoc]; rfl)
      have A1 : Hid (∀ w : World, (Op.stringOp .add s0 (bs [hexd (z / 16).toNat])).run Tryz.prog w = .ok (.string s1) w) := hid (fun w => by rw [← hs0, ← hs1]; exact add_bs w _ _ (by have := HLL.out; omega) (by show 1 ≤ 8388608; decide))
      have A2 : Hid (∀ w : World, (Op.stringOp .add s1 (bs [hexd (z % 16).toNat])).run Tryz.prog w = .ok (.string s2) w) := hid (fun w => by rw [← hs1, ← hs2]; exact add_bs w _ _ (by rw [List.length_append, List.length_singleton]; have := HLL.out; omega) (by show 1 ≤ 8388608; decide))
      rw [hs0]
      clear hzz hL hs0 hs1 hs2 HXS
      have hzr : 0 ≤ z ∧ z < 256 := HZ.out
      have hkb : k < 10000 := by have := HKN.out; have := HLN.out; omega
      go_wp2_with fail
      refine region_ghost (g0 := (0 : Nat)) [none, none, none, none, none, none, none, none, none, none, none, none, none, some 0, some 1, some 2, some 3, some 4, some 5, some 6, some 7, some 8, some 9, some 10, none, none, none, none, none, none, none, none, none, none, none, none, none, none, none, none, none, none, none] [[(0, none)], [(4, none)], [(13, some 0), (14, some 1)], [(15, some 2)], [(0, none)], [(4, none)], [(17, some 4), (18, some 5)], [(19, some 6)], [(16, some 3), (20, some 7)], [(21, some 8)], []] [some 13, some 14, some 15, some 16, some 17, some 18, some 19, some 20, some 21, some 22, some 23] (fun g => [.string s, .int .i64 (k : Int), .int .u8 z, .int .u8 (z / 16), .string s, .int .i64 (k : Int), .int .u8 z, .int .u8 (z % 16), .slice (some ⟨g, 0, none⟩) 2 2, .int .i64 2, .int .i64 0]) [8] (fun (bs : List Bool) (g : Nat) wq => Hid (Kp Nb wr wq ∧ (bs.getD 0 false = true → Blk wq g 5 [.int .u8 (z / 16), .int .u8 (z % 16)]))) (by kernel_rfl) (by kernel_rfl) (fun g => by kernel_rfl) (by kernel_rfl) ?hS (GFrom.all (n := 11) (by kernel_rfl) ?hstep) ?hend
      case hstep =>
        refine GFrom.cons (GStep.val _ rfl rfl _ rfl (fun g => .string s) (fun _ => rfl) (fun _ => trivial) (fun bs g ev wq hS he hr => ?_)) ?_
        · have r0 : ev (.tmp 0) = .string s := hr (0, none) (by simp); have hk := he.1; clear hr he
          go_simp
        refine GFrom.cons (GStep.val _ rfl rfl _ rfl (fun g => .int .i64 (k : Int)) (fun _ => rfl) (fun _ => trivial) (fun bs g ev wq hS he hr => ?_)) ?_
        · have r0 : ev (.tmp 4) = .int .i64 (k : Int) := hr (4, none) (by simp); have hk := he.1; clear hr he
          go_simp
        refine GFrom.cons (GStep.val _ rfl rfl _ rfl (fun g => .int .u8 z) (fun _ => rfl) (fun _ => trivial) (fun bs g ev wq hS he hr => ?_)) ?_
        · have r0 : ev (.tmp 13) = .string s := hr (13, some 0) (by simp); have r1 : ev (.tmp 14) = .int .i64 (k : Int) := hr (14, some 1) (by simp); have hk := he.1; clear hr he
          exact exec_indexV rfl r0 r1 (HIX.out wq)
        refine GFrom.cons (GStep.val _ rfl rfl _ rfl (fun g => .int .u8 (z / 16)) (fun _ => rfl) (fun _ => trivial) (fun bs g ev wq hS he hr => ?_)) ?_
        · have r0 : ev (.tmp 15) = .int .u8 z := hr (15, some 2) (by simp); have hk := he.1; clear hr he
          have hzr := HZ.out; go_simp; rw [Int.tdiv_eq_ediv_of_nonneg hzr.1, IntKind.wrap_u8]; omega
        refine GFrom.cons (GStep.val _ rfl rfl _ rfl (fun g => .string s) (fun _ => rfl) (fun _ => trivial) (fun bs g ev wq hS he hr => ?_)) ?_
        · have r0 : ev (.tmp 0) = .string s := hr (0, none) (by simp); have hk := he.1; clear hr he
          go_simp
        refine GFrom.cons (GStep.val _ rfl rfl _ rfl (fun g => .int .i64 (k : Int)) (fun _ => rfl) (fun _ => trivial) (fun bs g ev wq hS he hr => ?_)) ?_
        · have r0 : ev (.tmp 4) = .int .i64 (k : Int) := hr (4, none) (by simp); have hk := he.1; clear hr he
          go_simp
        refine GFrom.cons (GStep.val _ rfl rfl _ rfl (fun g => .int .u8 z) (fun _ => rfl) (fun _ => trivial) (fun bs g ev wq hS he hr => ?_)) ?_
        · have r0 : ev (.tmp 17) = .string s := hr (17, some 4) (by simp); have r1 : ev (.tmp 18) = .int .i64 (k : Int) := hr (18, some 5) (by simp); have hk := he.1; clear hr he
          exact exec_indexV rfl r0 r1 (HIX.out wq)
        refine GFrom.cons (GStep.val _ rfl rfl _ rfl (fun g => .int .u8 (z % 16)) (fun _ => rfl) (fun _ => trivial) (fun bs g ev wq hS he hr => ?_)) ?_
        · have r0 : ev (.tmp 19) = .int .u8 z := hr (19, some 6) (by simp); have hk := he.1; clear hr he
          have hzr := HZ.out; go_simp; rw [Int.tmod_eq_emod_of_nonneg hzr.1]
        refine GFrom.cons (GStep.make _ rfl _ rfl (fun _ => trivial) (fun Lx g ev wq hL hd hcl hS he hr => ?_)) ?_
        · have r0 : ev (.tmp 16) = .int .u8 (z / 16) := hr (16, some 3) (by simp); have r1 : ev (.tmp 20) = .int .u8 (z % 16) := hr (20, some 7) (by simp); clear hr he
          have e2 : bitsAt [8] (upd Lx 8) = [true] := by simp [bitsAt, upd]
          exact ⟨.slice (some ⟨wq.heap.size, 0, none⟩) 2 2, wq.heap.size, _, exec_buildSliceV (qs := #[(0, .int .u8 (z / 16)), (1, .int .u8 (z % 16))]) rfl (by simp [r0, r1]) (make_by2 wq (z / 16) (z % 16)), rfl, old_setV _ hL rfl, by rw [e2]; exact hid ⟨hS.out.1.trans ((Kp.refl Nb wq).alloc _) (fun _ _ h => h), fun _ => Blk.new wq _ [.int .u8 (z / 16), .int .u8 (z % 16)]⟩⟩
        refine GFrom.cons (GStep.val _ rfl rfl _ rfl (fun g => .int .i64 2) (fun _ => rfl) (fun _ => trivial) (fun bs g ev wq hS he hr => ?_)) ?_
        · have r0 : ev (.tmp 21) = .slice (some ⟨g, 0, none⟩) 2 2 := hr (21, some 8) (by simp); have hk := he.1; clear hr he
          exact exec_lenV rfl r0
        refine GFrom.cons (GStep.val _ rfl rfl _ rfl (fun g => .int .i64 0) (fun _ => rfl) (fun _ => trivial) (fun bs g ev wq hS he hr => ?_)) ?_
        · have hk := he.1; clear hr he
          go_simp
        exact GFrom.nil
      case hS => exact hid ⟨(Kp.refl Nb wr).drew, (fun e => by cases e)⟩
      case hend =>
        intro B w5 h5
        have HB := hid (h5.out.2 rfl)
        have K5 := hid (HK.out.trans h5.out.1 (fun _ _ h => h))
        clear h5 HK hzr
        simp only [putAll, List.zip_cons_cons, List.zip_nil_right, List.foldl_cons, List.foldl_nil, Act.put, List.setIfInBounds_toArray, List.set_cons_zero, List.set_cons_succ]
        obtain ⟨q, hq⟩ : ∃ q, z / 16 = q := ⟨_, rfl⟩
        obtain ⟨p, hp⟩ : ∃ q, z % 16 = q := ⟨_, rfl⟩
        rw [hq, hp] at HB HQ
        rw [hq] at A1
        rw [hp] at A2
        simp only [hq, hp]
        clear hq hp
        go_wp2
        go_loopw [3, 23] (RhxI w5 s0 s1 s2) (fun _ i _ => 2 - (intOf i).toNat)
        case atStart => exact ⟨.inl ⟨rfl, rfl⟩, hid (Kp.refl _ _)⟩
        case round =>
          obtain ⟨hi, HKr⟩ := hrel
          have c0 : wr.cell? ⟨B, 0, none⟩ = some (.int .u8 q) := HKr.out.cell (HB.out.cell 0) (fun h => h)
          have c1 : wr.cell? ⟨B, 1, none⟩ = some (.int .u8 p) := HKr.out.cell (HB.out.cell 1) (fun h => h)
          rcases hi with ⟨rfl, rfl⟩ | ⟨rfl, rfl⟩ | ⟨rfl, rfl⟩
          · have hqr : 0 ≤ q ∧ q < 16 := ⟨HQ.out.1, HQ.out.2.1⟩
            by_cases h10 : q < 10
            · have hc := conv_one wr (48 + q) (by omega) (by omega)
              rw [hexd_lo q hqr.1 h10] at hc
              have a1 := A1.out
              have HT := hid (show RhxI w5 s0 s1 s2 (.string s1) (.int .i64 1) (wr.alloc (.cells #[.int .u8 (48 + q)] 5)) from ⟨.inr (.inl ⟨rfl, rfl⟩), hid (HKr.out.alloc _)⟩)
              go_wp2
              exact ⟨HT.out, by decide⟩
            · have hc := conv_one wr (87 + q) (by omega) (by omega)
              rw [hexd_hi q (by omega)] at hc
              have a1 := A1.out
              have HT := hid (show RhxI w5 s0 s1 s2 (.string s1) (.int .i64 1) (wr.alloc (.cells #[.int .u8 (87 + q)] 5)) from ⟨.inr (.inl ⟨rfl, rfl⟩), hid (HKr.out.alloc _)⟩)
              go_wp2
              exact ⟨HT.out, by decide⟩
          · have hpr : 0 ≤ p ∧ p < 16 := ⟨HQ.out.2.2.1, HQ.out.2.2.2⟩
            by_cases h10 : p < 10
            · have hc := conv_one wr (48 + p) (by omega) (by omega)
              rw [hexd_lo p hpr.1 h10] at hc
              have a2 := A2.out
              have HT := hid (show RhxI w5 s0 s1 s2 (.string s2) (.int .i64 2) (wr.alloc (.cells #[.int .u8 (48 + p)] 5)) from ⟨.inr (.inr ⟨rfl, rfl⟩), hid (HKr.out.alloc _)⟩)
              go_wp2
              exact ⟨HT.out, by decide⟩
            · have hc := conv_one wr (87 + p) (by omega) (by omega)
              rw [hexd_hi p (by omega)] at hc
              have a2 := A2.out
              have HT := hid (show RhxI w5 s0 s1 s2 (.string s2) (.int .i64 2) (wr.alloc (.cells #[.int .u8 (87 + p)] 5)) from ⟨.inr (.inr ⟨rfl, rfl⟩), hid (HKr.out.alloc _)⟩)
              go_wp2
              exact ⟨HT.out, by decide⟩
          · have HT : Hid (RhxR w zs (.string s2) (.int .i64 ((k : Int) + 1)) wr) := hid ⟨k + 1, by rw [HN.out]; exact HKN.out, rfl, by rw [HS2.out], hid (K5.out.trans HKr.out (fun _ _ h => h))⟩
            have hkb : k < 10000 := by have := HKN.out; have := HLN.out; omega
            go_wp2
            exact ⟨HT.out, by simp [intOf]; have := HKN.out; omega⟩
    · obtain rfl : k = n := by omega
      have HT : Hid (zs.take k = zs) := hid (by rw [← HN.out]; exact List.take_length)
      rw [HT.out]
      go_wp2
      go_ret
      exact ⟨rfl, HK.out⟩
set_option maxRecDepth 100000 in
set_option maxHeartbeats 4000000 in
theorem ihex_any (ms : List Int) (w : World) (hl : ms.length = 16) (hz : IsBytes ms) : Calls Tryz.prog 20 #[.agg (ms.map (Value.int .u8)).toArray] w fun e w' => e = .returned (.string (bs (hexL ms))) ∧ Kp Nb w w' := by
  obtain ⟨N, hN⟩ : ∃ N, w.heap.size = N := ⟨_, rfl⟩
  obtain ⟨W, hW⟩ : ∃ W, W = w.alloc (.cells (ms.map (Value.int .u8)).toArray 30) := ⟨_, rfl⟩
  have hb : Blk W N 30 (ms.map (Value.int .u8)) := by rw [hW, ← hN]; exact Blk.new w _ (ms.map (Value.int .u8))
  have K0 : Hid (Kp Nb w W) := hid (by rw [hW]; exact (Kp.refl Nb w).alloc _)
  have hby : BySl Nb W (.slice (some ⟨N, 0, none⟩) 16 16) ms := ⟨hz, .inr ⟨N, 0, 16, by rw [hl], by omega, by unfold maxLen; omega, fun i hi => by
    rw [hb.cell, Nat.zero_add, List.getElem?_map, List.getElem?_eq_getElem hi]
    rfl, fun _ h => h⟩⟩
  have CD := hid (dbytes_any _ ms W hby (by omega))
  have HX : Hid (hexW ms = hexL ms) := hid (by unfold hexW; rw [if_neg (by omega)])
  rw [HX.out] at CD
  clear hb hby
  go_enter Tryz.func20, Tryz.ntmps20
  go_upto_region 1 with fail
  try rw [hN]
  rw [← hW]
  clear hW hN
  go_wp2_with fail
  refine CD.out.mono ?_
  rintro e w1 ⟨rfl, k1⟩
  have K1 := hid (K0.out.trans k1 (fun _ _ h => h))
  clear k1
  go_wp2
  go_ret
  exact ⟨rfl, K1.out⟩
end
section
open Go.RowKit
theorem unhL_snoc : ∀ (t : List UInt8) (l : List Int) (a b : UInt8), unhL t = some l → unhL (t ++ [a, b]) = (unhd a).bind fun x => (unhd b).map fun y => l ++ [((x * 16 + y : Nat) : Int)]
  | [], l, a, b, h => by
    simp only [unhL, Option.some.injEq] at h
    subst h
    rw [List.nil_append]
    simp only [unhL]
    cases unhd a with
    | none => rfl
    | some x => cases unhd b <;> rfl
  | [_], l, a, b, h => by simp [unhL] at h
  | c :: d :: t, l, a, b, h => by
    simp only [unhL] at h
    cases hc : unhd c with
    | none => rw [hc] at h; cases h
    | some x =>
      cases hd : unhd d with
      | none => rw [hc, hd] at h; cases h
      | some y =>
        cases ht : unhL t with
        | none => rw [hc, hd, ht] at h; cases h
        | some l2 =>
          rw [hc, hd, ht] at h
          simp only [Option.bind_some, Option.map_some, Option.some.injEq] at h
          subst h
          have ih := unhL_snoc t l2 a b ht
          rw [List.cons_append, List.cons_append]
          simp only [unhL, hc, hd, ih, Option.bind_some]
          cases unhd a with
          | none => rfl
          | some x => cases unhd b <;> rfl
theorem unhL_bad : ∀ (t : List UInt8) (l : List Int) (a b : UInt8) (r : List UInt8), unhL t = some l → (unhd a = none ∨ unhd b = none) → unhL (t ++ a :: b :: r) = none
  | [], l, a, b, r, h, hb => by
    rw [List.nil_append]
    simp only [unhL]
    rcases hb with hb | hb
    · rw [hb]; rfl
    · rw [hb]; cases unhd a <;> rfl
  | [_], l, a, b, r, h, hb => by simp [unhL] at h
  | c :: d :: t, l, a, b, r, h, hb => by
    simp only [unhL] at h
    cases hc : unhd c with
    | none => rw [hc] at h; cases h
    | some x =>
      cases hd : unhd d with
      | none => rw [hc, hd] at h; cases h
      | some y =>
        cases ht : unhL t with
        | none => rw [hc, hd, ht] at h; cases h
        | some l2 =>
          have ih := unhL_bad t l2 a b r ht hb
          rw [List.cons_append, List.cons_append]
          simp only [unhL, hc, hd, ih, Option.bind_some]
          rfl
theorem take_two (s : List UInt8) (p : Nat) (h : p + 1 < s.length) : s.take (p + 2) = s.take p ++ [s[p]?.getD 0, s[p + 1]?.getD 0] ∧ s = s.take p ++ (s[p]?.getD 0) :: (s[p + 1]?.getD 0) :: s.drop (p + 2) := by
  have e0 : s[p]?.getD 0 = s[p] := by rw [List.getElem?_eq_getElem (by omega), Option.getD_some]
  have e1 : s[p + 1]?.getD 0 = s[p + 1] := by rw [List.getElem?_eq_getElem h, Option.getD_some]
  have e : s.take (p + 2) = s.take p ++ [s[p]?.getD 0, s[p + 1]?.getD 0] := by
    rw [e0, e1, List.take_succ_eq_append_getElem (i := p + 1) h, List.take_succ_eq_append_getElem (i := p) (by omega), List.append_assoc]
    rfl
  refine ⟨e, ?_⟩
  conv => lhs; rw [← List.take_append_drop (p + 2) s, e]
  simp
theorem unhd_lt {c : UInt8} {x : Nat} (h : unhd c = some x) : x < 16 := (hexd_unhd h).1
theorem or_16 (x y : Int) (hx : 0 ≤ x ∧ x < 16) (hy : 0 ≤ y ∧ y < 16) : bits .or .u8 (x * 16) y = x * 16 + y := by
  have hA : (BitVec.ofInt 8 (x * 16)).toNat = x.toNat * 16 := by rw [BitVec.toNat_ofInt]; omega
  have hB : (BitVec.ofInt 8 y).toNat = y.toNat := by rw [BitVec.toNat_ofInt]; omega
  have h1 : bits .or .u8 (x * 16) y = IntKind.u8.wrap (((BitVec.ofInt 8 (x * 16) ||| BitVec.ofInt 8 y).toNat : Nat) : Int) := rfl
  have h2 : (BitVec.ofInt 8 (x * 16) ||| BitVec.ofInt 8 y).toNat = x.toNat * 16 + y.toNat := by
    rw [BitVec.toNat_or, hA, hB]
    have := Nat.shiftLeft_add_eq_or_of_lt (i := 4) (b := y.toNat) (by omega) x.toNat
    rw [Nat.shiftLeft_eq] at this
    exact this.symm
  rw [h1, h2, IntKind.wrap_u8]
  omega
set_option maxHeartbeats 1000000 in
theorem value_any (c : UInt8) (w : World) : Calls Tryz.prog 111 #[.int .u8 (c.toNat : Int)] w fun e w' => e = .returned (.tuple #[.int .u8 (((unhd c).getD 0 : Nat) : Int), .bool (unhd c).isSome]) ∧ Kp Nb w w' := by
  have HU : Hid (unhd c = if 48 ≤ c.toNat ∧ c.toNat ≤ 57 then some (c.toNat - 48) else if 97 ≤ c.toNat ∧ c.toNat ≤ 102 then some (c.toNat - 87) else none) := hid rfl
  obtain ⟨u, hu⟩ : ∃ u, unhd c = u := ⟨_, rfl⟩
  rw [hu] at HU ⊢
  obtain ⟨n, hn⟩ : ∃ n, c.toNat = n := ⟨_, rfl⟩
  have hlt : n < 256 := by rw [← hn]; exact c.toNat_lt
  rw [hn] at HU ⊢
  clear hu hn
  obtain ⟨z, hz⟩ : ∃ z : Int, (n : Int) = z := ⟨_, rfl⟩
  have HZ := hid hz
  have hz0 : 0 ≤ z ∧ z < 256 := by omega
  rw [hz]
  by_cases h1 : 48 ≤ z
  · by_cases h2 : z ≤ 57
    · have HR : Hid (u = some (n - 48)) := hid (by rw [HU.out, if_pos (by omega)])
      have HV : Hid (z - 48 = ((n - 48 : Nat) : Int)) := hid (by omega)
      clear hz hlt HU
      go_enter Tryz.func111, Tryz.ntmps111
      go_wp2
      go_ret2
      exact ⟨by rw [HR.out]; show Ending.returned (.tuple #[.int .u8 _, .bool true]) = .returned (.tuple #[.int .u8 ((n - 48 : Nat) : Int), .bool true]); rw [← HV.out], Kp.refl _ _⟩
    · by_cases h3 : 97 ≤ z
      · by_cases h4 : z ≤ 102
        · have HR : Hid (u = some (n - 87)) := hid (by rw [HU.out, if_neg (by omega), if_pos (by omega)])
          have HV : Hid (z - 97 + 10 = ((n - 87 : Nat) : Int)) := hid (by omega)
          clear hz hlt HU
          go_enter Tryz.func111, Tryz.ntmps111
          go_wp2
          go_ret2
          exact ⟨by rw [HR.out]; show Ending.returned (.tuple #[.int .u8 _, .bool true]) = .returned (.tuple #[.int .u8 ((n - 87 : Nat) : Int), .bool true]); rw [← HV.out], Kp.refl _ _⟩
        · have HR : Hid (u = none) := hid (by rw [HU.out, if_neg (by omega), if_neg (by omega)])
          clear hz hlt HU
          go_enter Tryz.func111, Tryz.ntmps111
          go_wp2
          go_ret2
          exact ⟨by rw [HR.out]; rfl, Kp.refl _ _⟩
      · have HR : Hid (u = none) := hid (by rw [HU.out, if_neg (by omega), if_neg (by omega)])
        clear hz hlt HU
        go_enter Tryz.func111, Tryz.ntmps111
        go_wp2
        go_ret2
        exact ⟨by rw [HR.out]; rfl, Kp.refl _ _⟩
  · have h3 : ¬ 97 ≤ z := by omega
    have HR : Hid (u = none) := hid (by rw [HU.out, if_neg (by omega), if_neg (by omega)])
    clear hz hlt HU
    go_enter Tryz.func111, Tryz.ntmps111
    go_wp2
    go_ret2
    exact ⟨by rw [HR.out]; rfl, Kp.refl _ _⟩
/-- What a word is as bytes, at most so many. -/
def readB (s : List UInt8) (most : Nat) : Option (List Int) := if s = [46] then some [] else if s.length = 0 ∨ s.length % 2 ≠ 0 ∨ most < s.length / 2 then none else unhL s
theorem rows_new1 (w : World) (a : Int) : RowsSl byL 0 1 (w.alloc (.cells #[.int .u8 a] 5)) (.slice (some ⟨w.heap.size, 0, none⟩) 1 1) [a] := by
  refine .inr ⟨w.heap.size, 0, 1, rfl, Nat.le_refl _, by unfold maxLen; omega, fun i hi j u hu => ?_⟩
  have hb := Blk.new w 5 [.int .u8 a]
  match j with
  | 0 =>
    match i with
    | 0 => injection hu with hu; rw [← hu]; exact hb.cell 0
    | i + 1 => simp at hi
  | j + 1 => simp [byL] at hu
def RbR (W : World) (s : List UInt8) (base : Nat) (i u : Value) (wr : World) : Prop := ∃ (p : Nat) (l : List Int), p ≤ s.length ∧ p % 2 = 0 ∧ i = .int .i64 p ∧ Hid (unhL (s.take p) = some l) ∧ Hid (l.length ≤ p) ∧ Hid (wr.ownsRow base 5 1 u l.length (flatR byL l)) ∧ Hid (Kp Nb W wr)
theorem own_nilV (w : World) (base : Nat) : w.ownsRow base 5 1 (.slice none 0 0) 0 [] := ⟨rfl, .inl ⟨rfl, rfl⟩⟩
set_option maxRecDepth 100000 in
set_option maxHeartbeats 8000000 in
theorem rbytes4_any (s : List UInt8) (most : Nat) (w : World) (hl : s.length ≤ 1000) (hm : most ≤ 1000) : Calls Tryz.prog 98 #[.string (bs s), .int .i64 (most : Int)] w fun e w' => ∃ v, e = .returned (.tuple #[v, .bool (readB s most).isSome]) ∧ BySl Nb w' v ((readB s most).getD []) ∧ OwnV w v w' ∧ Kp Nb w w' := by
  have HRB : Hid (readB s most = if s = [46] then some [] else if s.length = 0 ∨ s.length % 2 ≠ 0 ∨ most < s.length / 2 then none else unhL s) := hid rfl
  have none_ok : ∀ w', BySl Nb w' (.slice none 0 0) [] := fun w' => ⟨isb_nil, .inl ⟨⟨_, _, rfl⟩, rfl⟩⟩
  have HNO := hid none_ok
  clear none_ok
  have own0 : ∀ w', OwnV w (.slice none 0 0) w' := fun w' g hg => by simp [Value.ownBlock] at hg
  have HOW := hid own0
  clear own0
  have HE : Hid (((bs s).toList == [46]) = decide (s = [46])) := hid (by
    have e : (bs s).toList = s := ByteArray.toList_mk _
    rw [e, Bool.eq_iff_iff, beq_iff_eq, decide_eq_true_eq])
  obtain ⟨RB, hRB⟩ : ∃ r, readB s most = r := ⟨_, rfl⟩
  rw [hRB] at HRB ⊢
  clear hRB
  have HIX0 := hid (fun (i : Nat) (hi : i < s.length) (w : World) => idx_bs s w i hi)
  have hsz : (bs s).size = s.length := by show s.toArray.size = _; rw [List.size_toArray]
  obtain ⟨ss, hss⟩ : ∃ t, bs s = t := ⟨_, rfl⟩
  obtain ⟨L, hL⟩ : ∃ n, s.length = n := ⟨_, rfl⟩
  have HL := hid hL
  rw [hss] at HE HIX0 hsz ⊢
  rw [hL] at hsz hl HRB
  have HLM : Hid (L ≤ 1000 ∧ most ≤ 1000) := hid ⟨hl, hm⟩
  have HSZ := hid hsz
  clear hss
  by_cases h46 : s = [46]
  · have he : (ss.toList == [46]) = true := HE.out.trans (decide_eq_true h46)
    have HR : Hid (RB = some []) := hid (by rw [HRB.out, if_pos h46])
    clear h46 HE HRB hL hm hl
    go_enter Tryz.func98, Tryz.ntmps98
    go_wp2
    go_ret2
    rw [HR.out]
    exact ⟨_, rfl, HNO.out _, HOW.out _, Kp.refl _ _⟩
  · have he : (ss.toList == [46]) = false := HE.out.trans (decide_eq_false h46)
    have HRB2 : Hid (RB = if L = 0 ∨ L % 2 ≠ 0 ∨ most < L / 2 then none else unhL s) := hid (by rw [HRB.out, if_neg h46])
    clear HE HRB hL
    by_cases h0 : L = 0
    · have g0 : ((L : Int) == 0) = true := by rw [h0]; rfl
      have HR : Hid (RB = none) := hid (by rw [HRB2.out, if_pos (.inl h0)])
      clear h46 h0 HRB2 hm hl
      go_enter Tryz.func98, Tryz.ntmps98
      go_wp2
      go_ret2
      rw [HR.out]
      exact ⟨_, rfl, HNO.out _, HOW.out _, Kp.refl _ _⟩
    · have g0 : ((L : Int) == 0) = false := beq_eq_false_iff_ne.2 (by omega)
      by_cases h2 : L % 2 = 0
      · have g2 : ((L : Int) % 2 != 0) = false := by rw [bne_eq_false_iff_eq]; omega
        by_cases h3 : most < L / 2
        · have g3 : (L : Int) / 2 > (most : Int) := by omega
          have HR : Hid (RB = none) := hid (by rw [HRB2.out, if_pos (.inr (.inr h3))])
          clear h46 h0 h2 h3 HRB2 hm
          go_enter Tryz.func98, Tryz.ntmps98
          go_wp2
          go_ret2
          rw [HR.out]
          exact ⟨_, rfl, HNO.out _, HOW.out _, Kp.refl _ _⟩
        · have g3 : ¬ (L : Int) / 2 > (most : Int) := by omega
          have HR : Hid (RB = unhL s) := hid (by rw [HRB2.out, if_neg (by rintro (h | h | h) <;> omega)])
          have HEV := hid h2
          clear h46 h0 h2 h3 HRB2 hm
          obtain ⟨base, hbase⟩ : ∃ b, w.heap.size = b := ⟨_, rfl⟩
          have HBW := hid hbase
          have HO := hid (own_nilV w base)
          clear hbase
          go_enter Tryz.func98, Tryz.ntmps98
          go_wp2
          clear g0 g2 g3
          go_loopw [7, 6] (RbR w s base) (fun i _ _ => L - (intOf i).toNat)
          case atStart => exact ⟨0, [], Nat.zero_le _, rfl, rfl, hid rfl, hid (Nat.le_refl _), HO, hid (Kp.refl _ _)⟩
          case round =>
            obtain ⟨p, l, hp, hp2, rfl, HT, HLL, HR0, HK⟩ := hrel
            rw [HL.out] at hp
            by_cases hlt : p < L
            · have hp1 : p + 1 < L := by have := HEV.out; omega
              obtain ⟨a, ha⟩ : ∃ a, s[p]?.getD 0 = a := ⟨_, rfl⟩
              obtain ⟨b, hb⟩ : ∃ b, s[p + 1]?.getD 0 = b := ⟨_, rfl⟩
              have TT := take_two s p (by rw [HL.out]; exact hp1)
              rw [ha, hb] at TT
              have HTT := hid TT
              have hia : ∀ w : World, (Instr.index 9 (.string ss) (.int .i64 (p : Int))).run Tryz.prog w = .ok (.int .u8 (a.toNat : Int)) w := fun w => by rw [← ha]; exact HIX0.out p (by rw [HL.out]; exact hlt) w
              have hib : ∀ w : World, (Instr.index 9 (.string ss) (.int .i64 ((p : Int) + 1))).run Tryz.prog w = .ok (.int .u8 (b.toNat : Int)) w := fun w => by rw [← hb]; exact HIX0.out (p + 1) (by rw [HL.out]; exact hp1) w
              have HPB : Hid (p + 1 < L ∧ p % 2 = 0) := hid ⟨hp1, hp2⟩
              have hpb : p < 1000 := by omega
              have CVA := hid (value_any a)
              have CVB := hid (value_any b)
              have HSN := hid (unhL_snoc (s.take p) l a b HT.out)
              have HBD := hid (unhL_bad (s.take p) l a b (s.drop (p + 2)) HT.out)
              have hua := fun x (h : unhd a = some x) => unhd_lt h
              have hub := fun x (h : unhd b = some x) => unhd_lt h
              have HUA := hid hua
              have HUB := hid hub
              obtain ⟨za, hza⟩ : ∃ z : Int, (a.toNat : Int) = z := ⟨_, rfl⟩
              obtain ⟨zb, hzb⟩ : ∃ z : Int, (b.toNat : Int) = z := ⟨_, rfl⟩
              rw [hza] at hia CVA
              rw [hzb] at hib CVB
              clear ha hb TT hua hub hza hzb hp1 hp2
              obtain ⟨ua, hua⟩ : ∃ u, unhd a = u := ⟨_, rfl⟩
              obtain ⟨ub, hub⟩ : ∃ u, unhd b = u := ⟨_, rfl⟩
              rw [hua] at CVA HSN HBD HUA
              rw [hub] at CVB HSN HBD HUB
              clear hua hub
              go_wp2_with fail
              refine (CVA.out _).mono ?_
              rintro e w1 ⟨rfl, k1⟩
              have K1 := hid k1
              clear k1
              go_wp2_with fail
              refine (CVB.out _).mono ?_
              rintro e w2 ⟨rfl, k2⟩
              have K2 := hid (K1.out.trans k2 (fun _ _ h => h))
              clear k2 CVA CVB hia hib
              cases ua with
              | none =>
                have HRN : Hid (RB = none) := hid (by rw [HR.out, HTT.out.2]; exact HBD.out (.inl rfl))
                go_wp2
                go_ret2
                rw [HRN.out]
                exact ⟨_, rfl, HNO.out _, HOW.out _, HK.out.trans K2.out (fun _ _ h => h)⟩
              | some x =>
                cases ub with
                | none =>
                  have HRN : Hid (RB = none) := hid (by rw [HR.out, HTT.out.2]; exact HBD.out (.inr rfl))
                  go_wp2
                  go_ret2
                  rw [HRN.out]
                  exact ⟨_, rfl, HNO.out _, HOW.out _, HK.out.trans K2.out (fun _ _ h => h)⟩
                | some y =>
                  have hx := HUA.out x rfl
                  have hy := HUB.out y rfl
                  obtain ⟨X, hX⟩ : ∃ z : Int, (x : Int) = z := ⟨_, rfl⟩
                  obtain ⟨Y, hY⟩ : ∃ z : Int, (y : Int) = z := ⟨_, rfl⟩
                  obtain ⟨V, hV⟩ : ∃ z : Int, X * 16 + Y = z := ⟨_, rfl⟩
                  have hw : IntKind.u8.wrap (X * 16) = X * 16 := by rw [IntKind.wrap_u8]; omega
                  have ho : bits .or .u8 (X * 16) Y = V := by rw [or_16 X Y (by omega) (by omega), hV]
                  have HSN2 : Hid (unhL (s.take (p + 2)) = some (l ++ [V])) := hid (by
                    rw [HTT.out.1, HSN.out]
                    show some (l ++ [((x * 16 + y : Nat) : Int)]) = _
                    rw [← hV, ← hX, ← hY]
                    rfl)
                  obtain ⟨yy, cc, rfl⟩ := own_shape HR0.out
                  obtain ⟨m, hm⟩ : ∃ m, l.length = m := ⟨_, rfl⟩
                  have HR9 : Hid (w2.ownsRow base 5 1 (.slice yy m cc) l.length (flatR byL l)) := hid (by rw [← hm]; exact ownsRow_kpV HR0.out K2.out)
                  have HLP : Hid (l.length ≤ 1000) := hid (by have := HLL.out; omega)
                  have KW2 := hid (HK.out.trans K2.out (fun _ _ h => h))
                  simp only [Option.getD_some, hX, hY, hm, Option.isSome_some]
                  clear hX hY hV hm hx hy HSN HBD HUA HUB HR0 HK K1 K2
                  have k3 : Kp Nb w2 (w2.alloc (.cells #[.int .u8 V] 5)) := (Kp.refl Nb w2).alloc _
                  have HR3 := hid (ownsRow_kpV HR9.out k3)
                  have HN1 := hid (rows_new1 w2 V)
                  have K3 := hid (KW2.out.trans k3 (fun _ _ h => h))
                  have HB3 : Hid (base ≤ (w2.alloc (.cells #[.int .u8 V] 5)).heap.size) := hid (by have := K3.out.size; have := HBW.out; omega)
                  obtain ⟨i0, hi0, hz0, hz1, hz2⟩ := info_parts byte_infoV
                  have HMX : Hid (l.length + [V].length ≤ maxLen ∧ (l.length + [V].length) * 1 ≤ 140737488355328) := hid (by unfold maxLen; have := HLP.out; simp only [List.length_singleton]; omega)
                  clear k3 HR9 KW2
                  go_wp2_with (at_builtin; refine wpList_append_rows (f := byL) (z := 0) (c := 1) rfl _ _ 26 rfl base 5 i0 (.int .u8 0) 1 Tryz.underlying26 hi0 hz0 hz1 hz2 rfl (by decide) _ l.length (flatR byL l) rfl HR3.out _ [V] rfl HN1.out (fun _ _ => rfl) (fun _ _ u hu => by unfold byL at hu; rw [List.mem_singleton.1 hu]; rfl) HMX.out.1 HMX.out.2 HB3.out ?_)
                  intro v4 w4 ho4 hg4
                  have HO4 : Hid (w4.ownsRow base 5 1 v4 (l ++ [V]).length (flatR byL (l ++ [V]))) := hid (by
                    rw [List.length_append]
                    unfold flatR at ho4 ⊢
                    rw [List.flatMap_append]
                    exact ho4)
                  have K4 : Hid (Kp Nb w w4) := hid (K3.out.grown hg4 (fun b hb hlt => by
                    have := (row_cells HR3.out hb).1; have := HBW.out; omega))
                  have HREL : Hid (RbR w s base (.int .i64 ((p : Int) + 2)) v4 w4) := hid ⟨p + 2, l ++ [V], by rw [HL.out]; have := HPB.out; omega, by have := HPB.out; omega, rfl, HSN2, hid (by rw [List.length_append, List.length_singleton]; have := HLL.out; omega), HO4, K4⟩
                  clear ho4 hg4 HO4 K4 HR3 HN1 K3 HB3
                  go_wp2
                  exact ⟨HREL.out, by simp [intOf]; have := HPB.out; omega⟩
            · obtain rfl : p = L := by omega
              have HRS : Hid (RB = some l) := hid (by
                rw [HR.out, ← HT.out, ← HL.out, List.take_length])
              have HBY := hid (by_owned HR0.out (hex_unh _ _ HT.out).1)
              have h9 := HR0.out
              rw [← HBW.out] at h9
              have HOV := hid (own_of h9)
              clear h9
              go_wp2
              go_ret2
              rw [HRS.out]
              exact ⟨_, rfl, HBY.out, HOV.out, HK.out⟩
      · have g2 : ((L : Int) % 2 != 0) = true := by rw [bne_iff_ne]; omega
        have HR : Hid (RB = none) := hid (by rw [HRB2.out, if_pos (.inr (.inl h2))])
        clear h46 h0 h2 HRB2 hm
        go_enter Tryz.func98, Tryz.ntmps98
        go_wp2
        go_ret2
        rw [HR.out]
        exact ⟨_, rfl, HNO.out _, HOW.out _, Kp.refl _ _⟩
end

end Go.Proofs.YtogoophofgkboaaGreatDoor
