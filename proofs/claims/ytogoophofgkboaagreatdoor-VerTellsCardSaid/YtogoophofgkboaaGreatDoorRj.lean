/-
  Of the texts OpenVe, OpenVm, DtAq, DtAt what is used. No condition but what each says.
-/
import Derived.Test.YtogoophofgkboaaGreatDoorRg
import Derived.Test.YtogoophofgkboaaGreatDoorRi
import Derived.Test.YtogoophofgkboaaGreatDoorRh
import Derived.Test.YtogoophofgkboaaGreatDoorRe
namespace Go.Proofs.YtogoophofgkboaaGreatDoor
section
open Go.ChangeShapes Go.WideShapes Go.ChangeAt Go.RowKit
theorem cells_item : Tryz.prog.cellsOf 28 = 6 := by kernel_rfl
theorem cells_bool4 : Tryz.prog.cellsOf 4 = 1 := by kernel_rfl
theorem cells_str4 : Tryz.prog.cellsOf 9 = 1 := by kernel_rfl
theorem cells_bys4 : Tryz.prog.cellsOf 26 = 1 := by kernel_rfl
theorem six_at {cs : List Value} {a b c d e f : Value} (hl : cs.length = 6) (h0 : cs[0]? = some a) (h1 : cs[1]? = some b) (h2 : cs[2]? = some c) (h3 : cs[3]? = some d) (h4 : cs[4]? = some e) (h5 : cs[5]? = some f) : cs = [a, b, c, d, e, f] := by
  match cs, hl with
  | [v, x, y, z, u, t], _ =>
    have ea : v = a := by simpa using h0
    have eb : x = b := by simpa using h1
    have ec : y = c := by simpa using h2
    have ed : z = d := by simpa using h3
    have ee : u = e := by simpa using h4
    have ef : t = f := by simpa using h5
    rw [ea, eb, ec, ed, ee, ef]
theorem st_back (s : ByteArray) : ∃ zs : List Int, IsBytes zs ∧ st zs = s := by
  refine ⟨s.data.toList.map fun b => (b.toNat : Int), fun i => ?_, ?_⟩
  · rw [List.getElem?_map]
    cases s.data.toList[i]? with
    | none => simp
    | some c => have := c.toNat_lt; simp only [Option.map_some, Option.getD_some]; omega
  · unfold st
    apply ByteArray.ext
    show (List.map _ (List.map _ _)).toArray = s.data
    rw [List.map_map, show ((fun z : Int => UInt8.ofNat z.toNat) ∘ fun c : UInt8 => (c.toNat : Int)) = id from by funext c; simp, List.map_id, Array.toArray_toList]
section
variable {H : Type} {enc : TypeId × Value → H} {W : World}
theorem open_bytecs {fuel : Nat} {c : Value} {r : DataW H × List MemPlace} (hf : DataW.trod enc Tryz.prog W 0 (fun _ => true) true fuel 26 [c] = some r) : ∃ zs, BySl Nb W c zs := by
  rcases open_ints Tryz.underlying26 Tryz.underlying5 cells_byte hf with ⟨hcs, _⟩ | ⟨y, l, cc, zs, hcs, _, hl, hm, hz, _, hcell, hwz⟩
  · simp only [List.cons.injEq, and_true] at hcs
    subst hcs
    exact ⟨[], fun i => by simp, .inl ⟨⟨_, _, rfl⟩, rfl⟩⟩
  · simp only [List.cons.injEq, and_true] at hcs
    subst hcs
    have hz' : zs.length = cc := by simpa using hz
    by_cases hn : l = 0
    · subst hn
      exact ⟨[], fun i => by simp, .inl ⟨⟨_, _, rfl⟩, rfl⟩⟩
    · obtain ⟨blk, off, spot⟩ := y
      have hspot : spot = none := by
        have := World.cell?_spot (hcell 0 (by omega))
        simpa [Addr.add] using this
      subst hspot
      have elen : (zs.take l).length = l := by simp; omega
      refine ⟨zs.take l, fun i => ?_, .inr ⟨blk, off, cc, by rw [elen], by omega, hm, fun i hi => ?_, fun _ h => h⟩⟩
      · have hr := range_u8 (zs := zs.take l) (fun n hn => hwz n (List.mem_of_mem_take hn)) i
        omega
      · rw [elen] at hi
        have := hcell i (by omega)
        rw [add_none] at this
        rw [List.getElem?_take_of_lt hi]
        simpa [List.getD] using this
set_option maxRecDepth 100000 in
theorem open_itemv {base : Nat} {v : Value} {d : DataW H} {p : List MemPlace} (hv : Value.okWide Tryz.prog W .any base 28 v)
    (h : DataW.Trod enc Tryz.prog W 0 (fun _ => true) true 28 v d p) : ∃ (x : ItQ) (vp vv : Value), v = itVq x vp vv ∧ ItOk W x vp vv ∧ ∀ g, vp.ownBlock = some g → g < W.heap.size := by
  have hv0 := hv
  obtain ⟨cs, rfl, hsz⟩ := okWide_struct Tryz.underlying28 hv
  obtain ⟨fuel, hf⟩ := h
  obtain ⟨xs, k, _, _, hl, hxl, hfs⟩ := DataW.trod_struct Tryz.underlying28 hf
  simp only [Value.cells] at hl hfs
  rw [cells_item] at hl
  match xs, hxl with
  | [y0, y1, y2, y3, y4], _ =>
    have g0 : DataW.trod enc Tryz.prog W 0 (fun _ => true) true k 9 ((cs.toList.drop 0).take (Tryz.prog.cellsOf 9)) = some y0 := hfs 0 _ rfl
    have g1 : DataW.trod enc Tryz.prog W 0 (fun _ => true) true k 23 ((cs.toList.drop 1).take (Tryz.prog.cellsOf 23)) = some y1 := hfs 1 _ rfl
    have g2 : DataW.trod enc Tryz.prog W 0 (fun _ => true) true k 25 ((cs.toList.drop 3).take (Tryz.prog.cellsOf 25)) = some y2 := hfs 2 _ rfl
    have g3 : DataW.trod enc Tryz.prog W 0 (fun _ => true) true k 4 ((cs.toList.drop 4).take (Tryz.prog.cellsOf 4)) = some y3 := hfs 3 _ rfl
    have g4 : DataW.trod enc Tryz.prog W 0 (fun _ => true) true k 26 ((cs.toList.drop 5).take (Tryz.prog.cellsOf 26)) = some y4 := hfs 4 _ rfl
    rw [cells_str4] at g0
    rw [cells_dot] at g1
    rw [cells_clock] at g2
    rw [cells_bool4] at g3
    rw [cells_bys4] at g4
    obtain ⟨c0, h0, e0⟩ := one_at 0 hl (by omega)
    obtain ⟨c3, h3, e3⟩ := one_at 3 hl (by omega)
    obtain ⟨c4, h4, e4⟩ := one_at 4 hl (by omega)
    obtain ⟨c5, h5, e5⟩ := one_at 5 hl (by omega)
    rw [e0] at g0
    rw [e3] at g2
    rw [e4] at g3
    rw [e5] at g4
    obtain ⟨s, hs, _⟩ := DataW.trod_string Tryz.underlying9 g0
    obtain ⟨b, hb, _⟩ := DataW.trod_bool Tryz.underlying4 g3
    simp only [List.cons.injEq, and_true] at hs hb
    subst hs hb
    obtain ⟨a, ao, aS⟩ := open_rows runL (0, 0, 0) RunOk 3 cells_run (by decide) (fun _ _ _ h => open_runcs h) Tryz.underlying25 g2
    obtain ⟨zs, hz⟩ := open_bytecs g4
    obtain ⟨q, hq, eq⟩ := open_dotcs' g1
    have h1 : cs.toList[1]? = some (.int .i64 q.1) := by
      have := congrArg (fun l => l[0]?) eq
      simpa [dotL, List.getElem?_take, List.getElem?_drop] using this
    have h2 : cs.toList[2]? = some (.int .i64 q.2) := by
      have := congrArg (fun l => l[1]?) eq
      simpa [dotL, List.getElem?_take, List.getElem?_drop] using this
    obtain ⟨ks, hk, rfl⟩ := st_back s
    have e : cs = #[.string (st ks), .int .i64 q.1, .int .i64 q.2, c3, .bool b, c5] := Array.toList_inj.1 (six_at hl h0 h1 h2 h3 h4 h5)
    subst e
    have hcl := cl_rows ao aS
    refine ⟨⟨ks, q.1, q.2, a, b, zs⟩, c3, c5, rfl, ⟨hk, hq.1, hq.2, hcl, hz⟩, ?_⟩
    obtain ⟨y, dd, rfl⟩ := hcl.shape
    exact agg_in Tryz.underlying28 hv0 (i := 3) rfl
end
end
section
open Go.ChangeShapes Go.WideShapes Go.ChangeAt Go.RowKit
theorem cells_marks : Tryz.prog.cellsOf 30 = 16 := by kernel_rfl
set_option maxRecDepth 10000 in
theorem open_mark4 {H : Type} {enc : TypeId × Value → H} {W : World} {base : Nat} {v : Value} {d : DataW H} {p : List MemPlace} (hv : Value.okWide Tryz.prog W .any base 30 v)
    (h : DataW.Trod enc Tryz.prog W 0 (fun _ => true) true 30 v d p) : ∃ ms : List Int, IsBytes ms ∧ ms.length = 16 ∧ v = .agg (ms.map (Value.int .u8)).toArray := by
  simp only [Value.okWide, under_mark] at hv
  obtain ⟨cs, rfl, _, _⟩ := hv
  obtain ⟨fuel, hf⟩ := h
  obtain ⟨zs, hz, hl, hw⟩ := open_array under_mark under_u8 cells_byte cells_marks hf
  obtain ⟨lc⟩ := cs
  simp only [Value.cells] at hz
  refine ⟨zs, fun i => ?_, hl, ?_⟩
  · have hr := range_u8 hw i
    omega
  · have hz' : lc = zs.map (Value.int .u8) := hz
    rw [hz']
end
section
open Go.RowKit
theorem hasC_no {c : List RunQ} {n d : Int} (h : ∀ r ∈ c, inR r (n, d, d) = false) : hasC c n d = false := by
  unfold hasC withinB
  rw [Bool.and_eq_false_iff]
  refine .inr (Bool.eq_false_iff.2 fun h2 => ?_)
  obtain ⟨r, hr, h3⟩ := List.any_eq_true.1 h2
  rw [h r hr] at h3
  cases h3
theorem hasC_yes {c : List RunQ} {n d : Int} {r : RunQ} (hr : r ∈ c) (h : inR r (n, d, d) = true) : hasC c n d = (rightC c && goodB n d) := by
  unfold hasC withinB
  rw [List.any_eq_true.2 ⟨r, hr, h⟩, Bool.and_true]
def RhR (w : World) (N : Nat) (c : List RunQ) (n d : Int) (i : Value) (wr : World) : Prop := ∃ k : Nat, k ≤ c.length ∧ i = .int .i64 k ∧ Hid (∀ r ∈ c.take k, inR r (n, d, d) = false) ∧ Hid (Blk wr N 23 [.int .i64 n, .int .i64 d]) ∧ Hid (Kp Nb w wr)
set_option maxRecDepth 100000 in
set_option maxHeartbeats 4000000 in
theorem rhas_any (v : Value) (c : List RunQ) (n d : Int) (w : World) (hs : ClSl w v c) (hl : c.length ≤ 1000) :
    Calls Tryz.prog 48 #[v, dotV n d] w fun e w' => e = .returned (.bool (hasC c n d)) ∧ Kp Nb w w' := by
  obtain ⟨pv, dv, rfl⟩ := hs.shape
  obtain ⟨L, hL⟩ : ∃ L, c.length = L := ⟨_, rfl⟩
  obtain ⟨N, hN⟩ : ∃ N, w.heap.size = N := ⟨_, rfl⟩
  obtain ⟨W, hW⟩ : ∃ W, W = w.alloc (.cells #[.int .i64 n, .int .i64 d] 23) := ⟨_, rfl⟩
  have HB0 : Hid (Blk W N 23 [.int .i64 n, .int .i64 d]) := hid (by rw [hW, ← hN]; exact Blk.new w _ _)
  have K0 : Hid (Kp Nb w W) := hid (by rw [hW]; exact (Kp.refl Nb w).alloc _)
  have HLE := hid hL
  rw [hL] at hs hl ⊢
  have HS := hid hs
  have hLb := hl
  obtain ⟨R, hR⟩ : ∃ b, rightC c = b := ⟨_, rfl⟩
  obtain ⟨gb, hgb⟩ : ∃ b, goodB n d = b := ⟨_, rfl⟩
  obtain ⟨Z, hZ⟩ : ∃ b, hasC c n d = b := ⟨_, rfl⟩
  have HNO : Hid ((∀ r ∈ c, inR r (n, d, d) = false) → Z = false) := hid (fun h => by rw [← hZ]; exact hasC_no h)
  have HYE : Hid (∀ r ∈ c, inR r (n, d, d) = true → Z = (R && gb)) := hid (fun r hr h => by rw [← hZ, hasC_yes hr h, hR, hgb])
  rw [hZ]
  have CR : Hid (∀ wx, Kp Nb w wx → Calls Tryz.prog 38 #[.slice pv L dv] wx fun e w' => e = .returned (.bool R) ∧ Kp Nb wx w') := hid (fun wx k => by rw [← hR]; exact rright_any _ c wx (hs.kept k) (by omega))
  have CG : Hid (∀ wx, Calls Tryz.prog 37 #[.agg #[.int .i64 n, .int .i64 d]] wx fun e w' => e = .returned (.bool gb) ∧ Kp Nb wx w') := hid (fun wx => by rw [← hgb]; exact rgood_any n d wx)
  clear hs hL hl hR hgb hZ
  go_enter Tryz.func48, Tryz.ntmps48
  go_upto_region 1 with fail
  rw [← hW]
  try simp only [hN]
  clear hW hN
  go_wp2_with fail
  go_loopw [9] (RhR w N c n d) (fun i _ => L - (intOf i).toNat)
  case atStart => exact ⟨0, Nat.zero_le _, rfl, hid (by simp), HB0, K0⟩
  case round =>
    obtain ⟨k, hk, rfl, HJ, HB, HK⟩ := hrel
    rw [HLE.out] at hk
    by_cases hlt : k < L
    · obtain ⟨blk, off, cap, e1, hc, hm, hcell⟩ := cl_shape (HS.out.kept HK.out) (by intro h; have := HLE.out; rw [h, List.length_nil] at this; omega)
      rw [HLE.out] at e1 hc hcell
      injection e1 with e1 _ e2
      subst e1 e2
      have HR := hid (hcell k hlt)
      obtain ⟨⟨qn, qf, qt⟩, hq⟩ : ∃ q, runAt c k = q := ⟨_, rfl⟩
      have HOK := HS.out.1 k
      rw [hq] at HR HOK
      have HQ := hid hq
      obtain ⟨M, hM⟩ : ∃ M, wr.heap.size = M := ⟨_, rfl⟩
      obtain ⟨W2, hW2⟩ : ∃ W, W = (wr.alloc (.cells (runL (0, 0, 0)).toArray 38)).setCells M 0 (runL (qn, qf, qt)) := ⟨_, rfl⟩
      have hz := Blk.new wr 38 (runL (0, 0, 0))
      rw [hM] at hz
      have KW : Hid (Kp Nb wr W2) := hid (by rw [hW2]; exact Kp.setCells (fun h => absurd h (by omega)) _ 0 _ ((Kp.refl Nb wr).alloc _))
      have HMW : Hid (wr.heap.size = M) := hid hM
      have TH := hid (run_there (q := (qn, qf, qt)) hz)
      have HZ : Hid (Blk W2 M 38 (runL (qn, qf, qt))) := hid (by rw [hW2]; exact row_set hz rfl)
      have HK2 := hid (HK.out.trans KW.out (fun _ _ h => h))
      unfold maxLen at hm
      obtain ⟨fs, hfs⟩ := under_run
      clear hz hcell hq
      go_upto_region 4 with (first
        | (refine wpList_load_mid (by rfl) 38 (.tmp 11) (by rfl) blk (off + k * 3) (by rfl) (runL (qn, qf, qt)) _ HR.out hfs rfl (run_infoL (qn, qf, qt)) ?_)
        | (refine wpList_store_mid (by rfl) 38 (.tmp 6) (.tmp 12) (by rfl) M 0 (runL (qn, qf, qt)).toArray (by rfl) (by rfl) TH.out (run_infoA (qn, qf, qt)) (run_one (qn, qf, qt)) ?_))
      rw [show (wr.alloc (.cells #[.int .i64 0, .int .i64 0, .int .i64 0] 38)).setCells M 0 (runL (qn, qf, qt)) = W2 from hW2.symm]
      clear hW2 TH hM
      have c0 : W2.cell? ⟨M, 0, none⟩ = some (.int .i64 qn) := HZ.out.cell 0
      have c1 : W2.cell? ⟨M, 1, none⟩ = some (.int .i64 qf) := HZ.out.cell 1
      have c2 : W2.cell? ⟨M, 2, none⟩ = some (.int .i64 qt) := HZ.out.cell 2
      have HC : Hid (k < c.length) := hid (by rw [HLE.out]; exact hlt)
      have HB2 := hid (HB.out.kept KW.out (fun h => h))
      have HIN : Hid (inR (qn, qf, qt) (n, d, d) = true → Z = (R && gb)) := hid (fun h => HYE.out _ (runAt_mem HC.out) (by rw [HQ.out]; exact h))
      have HNX : Hid (inR (qn, qf, qt) (n, d, d) = false → ∀ r ∈ c.take (k + 1), inR r (n, d, d) = false) := hid (fun h r hr => by
        rw [take_snocR c k HC.out, HQ.out] at hr
        rcases List.mem_append.1 hr with hr | hr
        · exact HJ.out r hr
        · rw [List.mem_singleton.1 hr]; exact h)
      have e0 : W2.cell? ⟨N, 0, none⟩ = some (.int .i64 n) := HB2.out.cell 0
      have e1 : W2.cell? ⟨N, 1, none⟩ = some (.int .i64 d) := HB2.out.cell 1
      clear HK HR KW HMW HB HJ
      by_cases h1 : qn = n
      · subst h1
        by_cases h2 : qf ≤ d
        · by_cases h3 : d ≤ qt
          · have hZ := HIN.out (by unfold inR; simp [h2, h3])
            have HZV := hid hZ
            clear hZ
            go_wp2_with fail
            refine (CR.out W2 HK2.out).mono ?_
            rintro r w3 ⟨rfl, k3⟩
            have HB3 := hid (HB2.out.kept k3 (fun h => h))
            have HK3 := hid (HK2.out.trans k3 (fun _ _ h => h))
            clear k3 c0 c1 c2 e0 e1
            have e0 : w3.cell? ⟨N, 0, none⟩ = some (.int .i64 qn) := HB3.out.cell 0
            have e1 : w3.cell? ⟨N, 1, none⟩ = some (.int .i64 d) := HB3.out.cell 1
            cases R with
            | true =>
              have hZ : Z = gb := HZV.out
              subst hZ
              go_wp2_with fail
              refine (CG.out w3).mono ?_
              rintro r w4 ⟨rfl, k4⟩
              have HK4 := hid (HK3.out.trans k4 (fun _ _ h => h))
              clear k4 e0 e1
              go_wp2
              go_ret
              exact ⟨rfl, HK4.out⟩
            | false =>
              have hZ : Z = false := HZV.out
              subst hZ
              go_wp2
              go_ret
              exact ⟨rfl, HK3.out⟩
          · have HX := hid (HNX.out (by unfold inR; simp [h3]))
            go_wp2
            go_roundw
            case rel => exact ⟨k + 1, by rw [HLE.out]; omega, by go_num, HX, HB2, HK2⟩
            case measure => simp [intOf]; omega
        · have HX := hid (HNX.out (by unfold inR; simp [h2]))
          go_wp2
          go_roundw
          case rel => exact ⟨k + 1, by rw [HLE.out]; omega, by go_num, HX, HB2, HK2⟩
          case measure => simp [intOf]; omega
      · have HX := hid (HNX.out (by unfold inR; simp [h1]))
        go_wp2
        go_roundw
        case rel => exact ⟨k + 1, by rw [HLE.out]; omega, by go_num, HX, HB2, HK2⟩
        case measure => simp [intOf]; omega
    · obtain rfl : k = L := by omega
      have hZ : Z = false := HNO.out (by have h := HJ.out; rwa [← HLE.out, List.take_length] at h)
      subst hZ
      go_wp2
      go_ret
      exact ⟨rfl, HK.out⟩
end
section
open Go.RowKit
theorem exec_neqRun {ev : Operand → Value} {o : Oper} {x y : Operand} {t' : TypeId} {p q : RunQ} {bb : Bool} {w : World} (ho : o.op = .binOp .neq 38 x y t') (hx : ev x = runV p) (hy : ev y = runV q) (hb : decide (p = q) = bb) : (execOp ev o).run Tryz.prog w = .ok (.value (.bool (!bb))) w := by
  obtain ⟨xs, hxs⟩ : ∃ xs : Array Value, (runL p).toArray = xs := ⟨_, rfl⟩
  obtain ⟨ys, hys⟩ : ∃ ys : Array Value, (runL q).toArray = ys := ⟨_, rfl⟩
  have h : Sem.run Tryz.prog (Op.equal 38 (.agg xs) (.agg ys)) w = .ok (decide (p = q)) w := by rw [← hxs, ← hys]; exact eq_run p q w
  rw [hb] at h
  rw [show runV p = .agg xs from congrArg Value.agg hxs] at hx
  rw [show runV q = .agg ys from congrArg Value.agg hys] at hy
  have h1 : Sem.run Tryz.prog (eqGuard .neq 38 x y (.agg xs) (.agg ys)) w = .ok () w := by go_simp
  have h2 : Sem.run Tryz.prog (binOp .neq 38 (.agg xs) (.agg ys)) w = .ok (.bool (!bb)) w := by
    show Sem.run Tryz.prog (do pure (Value.bool (!(← Op.equal 38 (.agg xs) (.agg ys))))) w = _
    simp only [Sem.run_bind, Sem.run_pure, Result.andThen_ok, h]
  unfold execOp
  simp only [ho, hx, hy, Sem.run_bind, Sem.run_pure, Result.andThen_ok, h1, h2]
def RsR (w : World) (a b : List RunQ) (i : Value) (wr : World) : Prop := ∃ k : Nat, k ≤ a.length ∧ i = .int .i64 k ∧ Hid (∀ j, j < k → runAt a j = runAt b j) ∧ Hid (Kp Nb w wr)
set_option maxRecDepth 100000 in
set_option maxHeartbeats 8000000 in
theorem rsame_any (va vb : Value) (a b : List RunQ) (w : World) (ha : ClSl w va a) (hb : ClSl w vb b) (la : a.length ≤ 1000) :
    Calls Tryz.prog 49 #[va, vb] w fun e w' => e = .returned (.bool (decide (a = b))) ∧ Kp Nb w w' := by
  obtain ⟨pa, da, rfl⟩ := ha.shape
  obtain ⟨pb, db, rfl⟩ := hb.shape
  obtain ⟨nA, hnA⟩ : ∃ n, a.length = n := ⟨_, rfl⟩
  obtain ⟨nB, hnB⟩ : ∃ n, b.length = n := ⟨_, rfl⟩
  have HNA := hid hnA
  have HNB := hid hnB
  rw [hnA] at ha la
  rw [hnB] at hb
  rw [hnA, hnB]
  have HA := hid ha
  have HB := hid hb
  have hLa := la
  obtain ⟨Z, hZ⟩ : ∃ z, decide (a = b) = z := ⟨_, rfl⟩
  have HZ := hid hZ
  rw [hZ]
  clear ha hb la hnA hnB hZ
  go_enter Tryz.func49, Tryz.ntmps49
  by_cases hl : nA = nB
  · subst hl
    go_wp2_with fail
    go_loopw [13] (RsR w a b) (fun i _ => nA - (intOf i).toNat)
    case atStart => exact ⟨0, Nat.zero_le _, rfl, hid (fun j hj => by omega), hid (Kp.refl _ _)⟩
    case round =>
      obtain ⟨k, hk, rfl, HJ, HK⟩ := hrel
      rw [HNA.out] at hk
      by_cases hlt : k < nA
      · obtain ⟨g1, o1, d1, e1, hc1, -, hcell1⟩ := cl_shape (HA.out.kept HK.out) (by intro h; have := HNA.out; rw [h, List.length_nil] at this; omega)
        rw [HNA.out] at e1 hc1 hcell1
        injection e1 with e1 _ e2
        subst e1 e2
        obtain ⟨g2, o2, d2, e1, hc2, -, hcell2⟩ := cl_shape (HB.out.kept HK.out) (by intro h; have := HNB.out; rw [h, List.length_nil] at this; omega)
        rw [HNB.out] at e1 hc2 hcell2
        injection e1 with e1 _ e2
        subst e1 e2
        obtain ⟨x, hx⟩ : ∃ q, runAt a k = q := ⟨_, rfl⟩
        obtain ⟨y, hy⟩ : ∃ q, runAt b k = q := ⟨_, rfl⟩
        have h1 := hcell1 k hlt
        have h2 := hcell2 k hlt
        rw [hx] at h1
        rw [hy] at h2
        have HX := hid h1
        have HY := hid h2
        have HXE := hid hx
        have HYE := hid hy
        have HBD : Hid ((k : Int) < (nA : Int) ∧ 0 ≤ (k : Int)) := hid (by omega)
        clear h1 h2 hx hy hcell1 hcell2
        by_cases hxy : x = y
        · have HDE : Hid (decide (x = y) = true) := hid (decide_eq_true hxy)
          have HJ2 : Hid (∀ j, j < k + 1 → runAt a j = runAt b j) := hid (fun j hj => by
            rcases Nat.lt_or_ge j k with h | h
            · exact HJ.out j h
            · obtain rfl : j = k := by omega
              rw [HXE.out, HYE.out, hxy])
          clear hxy
          go_wp2_with fail
          refine region_vals2 [none, none, none, none, none, none, none, none, none, none, none, none, none, none, none, none, some 0, some 1, some 2, some 3, some 4, some 5, some 6, some 7, some 8, none] [[(0, none)], [(5, none)], [(16, some 0), (17, some 1)], [(18, some 2)], [(1, none)], [(5, none)], [(20, some 4), (21, some 5)], [(22, some 6)], [(19, some 3), (23, some 7)]] [some 16, some 17, some 18, some 19, some 20, some 21, some 22, some 23, some 24] [.slice (some ⟨g1, o1, none⟩) nA da, .int .i64 (k : Int), .pointer (some ⟨g1, o1 + k * 3, none⟩), runV x, .slice (some ⟨g2, o2, none⟩) nA db, .int .i64 (k : Int), .pointer (some ⟨g2, o2 + k * 3, none⟩), runV y, .bool false] (fun w' => Hid (Kp Nb wr w')) (by kernel_rfl) (by kernel_rfl) (by kernel_rfl) ?hS (VFrom.all (n := 9) (by kernel_rfl) ?hstep) ?hend
          case hstep =>
            refine VFrom.cons (VStep.val _ rfl _ rfl (.slice (some ⟨g1, o1, none⟩) nA da) rfl trivial (fun ev wq hS he hr => ?_)) ?_
            · have r0 : ev (.tmp 0) = .slice (some ⟨g1, o1, none⟩) nA da := hr (0, none) (by simp); have hk := he.1; clear hr he
              go_simp
            refine VFrom.cons (VStep.val _ rfl _ rfl (.int .i64 (k : Int)) rfl trivial (fun ev wq hS he hr => ?_)) ?_
            · have r0 : ev (.tmp 5) = .int .i64 (k : Int) := hr (5, none) (by simp); have hk := he.1; clear hr he
              go_simp
            refine VFrom.cons (VStep.val _ rfl _ rfl (.pointer (some ⟨g1, o1 + k * 3, none⟩)) rfl trivial (fun ev wq hS he hr => ?_)) ?_
            · have r0 : ev (.tmp 16) = .slice (some ⟨g1, o1, none⟩) nA da := hr (16, some 0) (by simp); have r1 : ev (.tmp 17) = .int .i64 (k : Int) := hr (17, some 1) (by simp); have hk := he.1; clear hr he
              have e1 := HBD.out
              go_simp
            refine VFrom.cons (VStep.val _ rfl _ rfl (runV x) rfl trivial (fun ev wq hS he hr => ?_)) ?_
            · have r0 : ev (.tmp 18) = .pointer (some ⟨g1, o1 + k * 3, none⟩) := hr (18, some 2) (by simp); have hk := he.1; clear hr he
              exact exec_load rfl r0 (load_run (range_keptR HX.out hS.out (fun h => h)))
            refine VFrom.cons (VStep.val _ rfl _ rfl (.slice (some ⟨g2, o2, none⟩) nA db) rfl trivial (fun ev wq hS he hr => ?_)) ?_
            · have r0 : ev (.tmp 1) = .slice (some ⟨g2, o2, none⟩) nA db := hr (1, none) (by simp); have hk := he.1; clear hr he
              go_simp
            refine VFrom.cons (VStep.val _ rfl _ rfl (.int .i64 (k : Int)) rfl trivial (fun ev wq hS he hr => ?_)) ?_
            · have r0 : ev (.tmp 5) = .int .i64 (k : Int) := hr (5, none) (by simp); have hk := he.1; clear hr he
              go_simp
            refine VFrom.cons (VStep.val _ rfl _ rfl (.pointer (some ⟨g2, o2 + k * 3, none⟩)) rfl trivial (fun ev wq hS he hr => ?_)) ?_
            · have r0 : ev (.tmp 20) = .slice (some ⟨g2, o2, none⟩) nA db := hr (20, some 4) (by simp); have r1 : ev (.tmp 21) = .int .i64 (k : Int) := hr (21, some 5) (by simp); have hk := he.1; clear hr he
              have e1 := HBD.out
              go_simp
            refine VFrom.cons (VStep.val _ rfl _ rfl (runV y) rfl trivial (fun ev wq hS he hr => ?_)) ?_
            · have r0 : ev (.tmp 22) = .pointer (some ⟨g2, o2 + k * 3, none⟩) := hr (22, some 6) (by simp); have hk := he.1; clear hr he
              exact exec_load rfl r0 (load_run (range_keptR HY.out hS.out (fun h => h)))
            refine VFrom.cons (VStep.val _ rfl _ rfl (.bool false) rfl trivial (fun ev wq hS he hr => ?_)) ?_
            · have r0 : ev (.tmp 19) = runV x := hr (19, some 3) (by simp); have r1 : ev (.tmp 23) = runV y := hr (23, some 7) (by simp); have hk := he.1; clear hr he
              exact exec_neqRun rfl r0 r1 HDE.out
            exact VFrom.nil
          case hS => exact hid (Kp.refl Nb wr).drew
          case hend =>
            intro wz hyy
            have KY := hid (HK.out.trans hyy.out (fun _ _ h => h))
            clear hyy
            simp only [putAll, List.zip_cons_cons, List.zip_nil_right, List.foldl_cons, List.foldl_nil, Act.put, List.setIfInBounds_toArray, List.set_cons_zero, List.set_cons_succ]
            go_wp2
            go_roundw
            case rel => exact ⟨k + 1, by rw [HNA.out]; omega, by go_num, HJ2, KY⟩
            case measure => simp [intOf]; omega
        · have HDE : Hid (decide (x = y) = false) := hid (decide_eq_false hxy)
          have hZ : Z = false := by
            rw [← HZ.out]
            exact decide_eq_false (fun h => hxy (by rw [← HXE.out, ← HYE.out, h]))
          subst hZ
          clear hxy
          go_wp2_with fail
          refine region_vals2 [none, none, none, none, none, none, none, none, none, none, none, none, none, none, none, none, some 0, some 1, some 2, some 3, some 4, some 5, some 6, some 7, some 8, none] [[(0, none)], [(5, none)], [(16, some 0), (17, some 1)], [(18, some 2)], [(1, none)], [(5, none)], [(20, some 4), (21, some 5)], [(22, some 6)], [(19, some 3), (23, some 7)]] [some 16, some 17, some 18, some 19, some 20, some 21, some 22, some 23, some 24] [.slice (some ⟨g1, o1, none⟩) nA da, .int .i64 (k : Int), .pointer (some ⟨g1, o1 + k * 3, none⟩), runV x, .slice (some ⟨g2, o2, none⟩) nA db, .int .i64 (k : Int), .pointer (some ⟨g2, o2 + k * 3, none⟩), runV y, .bool true] (fun w' => Hid (Kp Nb wr w')) (by kernel_rfl) (by kernel_rfl) (by kernel_rfl) ?hS (VFrom.all (n := 9) (by kernel_rfl) ?hstep) ?hend
          case hstep =>
            refine VFrom.cons (VStep.val _ rfl _ rfl (.slice (some ⟨g1, o1, none⟩) nA da) rfl trivial (fun ev wq hS he hr => ?_)) ?_
            · have r0 : ev (.tmp 0) = .slice (some ⟨g1, o1, none⟩) nA da := hr (0, none) (by simp); have hk := he.1; clear hr he
              go_simp
            refine VFrom.cons (VStep.val _ rfl _ rfl (.int .i64 (k : Int)) rfl trivial (fun ev wq hS he hr => ?_)) ?_
            · have r0 : ev (.tmp 5) = .int .i64 (k : Int) := hr (5, none) (by simp); have hk := he.1; clear hr he
              go_simp
            refine VFrom.cons (VStep.val _ rfl _ rfl (.pointer (some ⟨g1, o1 + k * 3, none⟩)) rfl trivial (fun ev wq hS he hr => ?_)) ?_
            · have r0 : ev (.tmp 16) = .slice (some ⟨g1, o1, none⟩) nA da := hr (16, some 0) (by simp); have r1 : ev (.tmp 17) = .int .i64 (k : Int) := hr (17, some 1) (by simp); have hk := he.1; clear hr he
              have e1 := HBD.out
              go_simp
            refine VFrom.cons (VStep.val _ rfl _ rfl (runV x) rfl trivial (fun ev wq hS he hr => ?_)) ?_
            · have r0 : ev (.tmp 18) = .pointer (some ⟨g1, o1 + k * 3, none⟩) := hr (18, some 2) (by simp); have hk := he.1; clear hr he
              exact exec_load rfl r0 (load_run (range_keptR HX.out hS.out (fun h => h)))
            refine VFrom.cons (VStep.val _ rfl _ rfl (.slice (some ⟨g2, o2, none⟩) nA db) rfl trivial (fun ev wq hS he hr => ?_)) ?_
            · have r0 : ev (.tmp 1) = .slice (some ⟨g2, o2, none⟩) nA db := hr (1, none) (by simp); have hk := he.1; clear hr he
              go_simp
            refine VFrom.cons (VStep.val _ rfl _ rfl (.int .i64 (k : Int)) rfl trivial (fun ev wq hS he hr => ?_)) ?_
            · have r0 : ev (.tmp 5) = .int .i64 (k : Int) := hr (5, none) (by simp); have hk := he.1; clear hr he
              go_simp
            refine VFrom.cons (VStep.val _ rfl _ rfl (.pointer (some ⟨g2, o2 + k * 3, none⟩)) rfl trivial (fun ev wq hS he hr => ?_)) ?_
            · have r0 : ev (.tmp 20) = .slice (some ⟨g2, o2, none⟩) nA db := hr (20, some 4) (by simp); have r1 : ev (.tmp 21) = .int .i64 (k : Int) := hr (21, some 5) (by simp); have hk := he.1; clear hr he
              have e1 := HBD.out
              go_simp
            refine VFrom.cons (VStep.val _ rfl _ rfl (runV y) rfl trivial (fun ev wq hS he hr => ?_)) ?_
            · have r0 : ev (.tmp 22) = .pointer (some ⟨g2, o2 + k * 3, none⟩) := hr (22, some 6) (by simp); have hk := he.1; clear hr he
              exact exec_load rfl r0 (load_run (range_keptR HY.out hS.out (fun h => h)))
            refine VFrom.cons (VStep.val _ rfl _ rfl (.bool true) rfl trivial (fun ev wq hS he hr => ?_)) ?_
            · have r0 : ev (.tmp 19) = runV x := hr (19, some 3) (by simp); have r1 : ev (.tmp 23) = runV y := hr (23, some 7) (by simp); have hk := he.1; clear hr he
              exact exec_neqRun rfl r0 r1 HDE.out
            exact VFrom.nil
          case hS => exact hid (Kp.refl Nb wr).drew
          case hend =>
            intro wz hyy
            have KY := hid (HK.out.trans hyy.out (fun _ _ h => h))
            clear hyy
            simp only [putAll, List.zip_cons_cons, List.zip_nil_right, List.foldl_cons, List.foldl_nil, Act.put, List.setIfInBounds_toArray, List.set_cons_zero, List.set_cons_succ]
            go_wp2
            go_ret
            exact ⟨rfl, KY.out⟩
      · obtain rfl : k = nA := by omega
        have hZ : Z = true := by
          rw [← HZ.out]
          refine decide_eq_true (List.ext_getElem? fun j => ?_)
          rcases Nat.lt_or_ge j k with h | h
          · have h2 := HJ.out j h
            unfold runAt at h2
            rw [List.getElem?_eq_getElem (by rw [HNA.out]; exact h), List.getElem?_eq_getElem (by rw [HNB.out]; exact h)] at h2 ⊢
            exact congrArg some h2
          · rw [List.getElem?_eq_none (by rw [HNA.out]; exact h), List.getElem?_eq_none (by rw [HNB.out]; exact h)]
        subst hZ
        go_wp2
        go_ret
        exact ⟨rfl, HK.out⟩
  · have hZ : Z = false := by
      rw [← HZ.out]
      exact decide_eq_false (fun h => hl (by rw [← HNA.out, ← HNB.out, h]))
    subst hZ
    have hl2 : ((nA : Int) == (nB : Int)) = false := beq_eq_false_iff_ne.2 (by omega)
    go_wp2
    go_ret
    exact ⟨rfl, Kp.refl _ _⟩
end

end Go.Proofs.YtogoophofgkboaaGreatDoor
