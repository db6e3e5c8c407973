/-
  Of the texts OpenVe, VeB, VeC what is used. No condition but what each says.
-/
import Derived.Test.YtogoophofgkboaaGreatDoorQi
import Derived.Test.YtogoophofgkboaaGreatDoorQk
import Derived.Test.YtogoophofgkboaaGreatDoorQd
import Derived.Test.YtogoophofgkboaaGreatDoorQf
namespace Go.Proofs.YtogoophofgkboaaGreatDoor
section
open Go.ChangeShapes Go.WideShapes Go.ChangeAt Go.RowKit
theorem cells_item : Tryz.prog.cellsOf 28 = 6 := by kernel_rfl
theorem cells_bool4 : Tryz.prog.cellsOf 4 = 1 := by kernel_rfl
theorem cells_str4 : Tryz.prog.cellsOf 9 = 1 := by kernel_rfl
theorem cells_bys4 : Tryz.prog.cellsOf 26 = 1 := by kernel_rfl
theorem six_at {cs : List Value} {a b c d e f : Value} (hl : cs.length = 6) (h0 : cs[0]? = some a) (h1 : cs[1]? = some b) (h2 : cs[2]? = some c) (h3 : cs[3]? = some d) (h4 : cs[4]? = some e) (h5 : cs[5]? = some f) : cs = [a, b, c, d, e, f] := by
  match cs, hl with
  | [v, x, y, z, u, t], _ =>
    have ea : v = a := by simpa using h0
    have eb : x = b := by simpa using h1
    have ec : y = c := by simpa using h2
    have ed : z = d := by simpa using h3
    have ee : u = e := by simpa using h4
    have ef : t = f := by simpa using h5
    rw [ea, eb, ec, ed, ee, ef]
theorem st_back (s : ByteArray) : ∃ zs : List Int, IsBytes zs ∧ st zs = s := by
  refine ⟨s.data.toList.map fun b => (b.toNat : Int), fun i => ?_, ?_⟩
  · rw [List.getElem?_map]
    cases s.data.toList[i]? with
    | none => simp
    | some c => have := c.toNat_lt; simp only [Option.map_some, Option.getD_some]; omega
  · unfold st
    apply ByteArray.ext
    show (List.map _ (List.map _ _)).toArray = s.data
    rw [List.map_map, show ((fun z : Int => UInt8.ofNat z.toNat) ∘ fun c : UInt8 => (c.toNat : Int)) = id from by funext c; simp, List.map_id, Array.toArray_toList]
section
variable {H : Type} {enc : TypeId × Value → H} {W : World}
theorem open_bytecs {fuel : Nat} {c : Value} {r : DataW H × List MemPlace} (hf : DataW.trod enc Tryz.prog W 0 (fun _ => true) true fuel 26 [c] = some r) : ∃ zs, BySl Nb W c zs := by
  rcases open_ints Tryz.underlying26 Tryz.underlying5 cells_byte hf with ⟨hcs, _⟩ | ⟨y, l, cc, zs, hcs, _, hl, hm, hz, _, hcell, hwz⟩
  · simp only [List.cons.injEq, and_true] at hcs
    subst hcs
    exact ⟨[], fun i => by simp, .inl ⟨⟨_, _, rfl⟩, rfl⟩⟩
  · simp only [List.cons.injEq, and_true] at hcs
    subst hcs
    have hz' : zs.length = cc := by simpa using hz
    by_cases hn : l = 0
    · subst hn
      exact ⟨[], fun i => by simp, .inl ⟨⟨_, _, rfl⟩, rfl⟩⟩
    · obtain ⟨blk, off, spot⟩ := y
      have hspot : spot = none := by
        have := World.cell?_spot (hcell 0 (by omega))
        simpa [Addr.add] using this
      subst hspot
      have elen : (zs.take l).length = l := by simp; omega
      refine ⟨zs.take l, fun i => ?_, .inr ⟨blk, off, cc, by rw [elen], by omega, hm, fun i hi => ?_, fun _ h => h⟩⟩
      · have hr := range_u8 (zs := zs.take l) (fun n hn => hwz n (List.mem_of_mem_take hn)) i
        omega
      · rw [elen] at hi
        have := hcell i (by omega)
        rw [add_none] at this
        rw [List.getElem?_take_of_lt hi]
        simpa [List.getD] using this
set_option maxRecDepth 100000 in
theorem open_itemv {base : Nat} {v : Value} {d : DataW H} {p : List MemPlace} (hv : Value.okWide Tryz.prog W .any base 28 v)
    (h : DataW.Trod enc Tryz.prog W 0 (fun _ => true) true 28 v d p) : ∃ (x : ItQ) (vp vv : Value), v = itVq x vp vv ∧ ItOk W x vp vv ∧ ∀ g, vp.ownBlock = some g → g < W.heap.size := by
  have hv0 := hv
  obtain ⟨cs, rfl, hsz⟩ := okWide_struct Tryz.underlying28 hv
  obtain ⟨fuel, hf⟩ := h
  obtain ⟨xs, k, _, _, hl, hxl, hfs⟩ := DataW.trod_struct Tryz.underlying28 hf
  simp only [Value.cells] at hl hfs
  rw [cells_item] at hl
  match xs, hxl with
  | [y0, y1, y2, y3, y4], _ =>
    have g0 : DataW.trod enc Tryz.prog W 0 (fun _ => true) true k 9 ((cs.toList.drop 0).take (Tryz.prog.cellsOf 9)) = some y0 := hfs 0 _ rfl
    have g1 : DataW.trod enc Tryz.prog W 0 (fun _ => true) true k 23 ((cs.toList.drop 1).take (Tryz.prog.cellsOf 23)) = some y1 := hfs 1 _ rfl
    have g2 : DataW.trod enc Tryz.prog W 0 (fun _ => true) true k 25 ((cs.toList.drop 3).take (Tryz.prog.cellsOf 25)) = some y2 := hfs 2 _ rfl
    have g3 : DataW.trod enc Tryz.prog W 0 (fun _ => true) true k 4 ((cs.toList.drop 4).take (Tryz.prog.cellsOf 4)) = some y3 := hfs 3 _ rfl
    have g4 : DataW.trod enc Tryz.prog W 0 (fun _ => true) true k 26 ((cs.toList.drop 5).take (Tryz.prog.cellsOf 26)) = some y4 := hfs 4 _ rfl
    rw [cells_str4] at g0
    rw [cells_dot] at g1
    rw [cells_clock] at g2
    rw [cells_bool4] at g3
    rw [cells_bys4] at g4
    obtain ⟨c0, h0, e0⟩ := one_at 0 hl (by omega)
    obtain ⟨c3, h3, e3⟩ := one_at 3 hl (by omega)
    obtain ⟨c4, h4, e4⟩ := one_at 4 hl (by omega)
    obtain ⟨c5, h5, e5⟩ := one_at 5 hl (by omega)
    rw [e0] at g0
    rw [e3] at g2
    rw [e4] at g3
    rw [e5] at g4
    obtain ⟨s, hs, _⟩ := DataW.trod_string Tryz.underlying9 g0
    obtain ⟨b, hb, _⟩ := DataW.trod_bool Tryz.underlying4 g3
    simp only [List.cons.injEq, and_true] at hs hb
    subst hs hb
    obtain ⟨a, ao, aS⟩ := open_rows runL (0, 0, 0) RunOk 3 cells_run (by decide) (fun _ _ _ h => open_runcs h) Tryz.underlying25 g2
    obtain ⟨zs, hz⟩ := open_bytecs g4
    obtain ⟨q, hq, eq⟩ := open_dotcs' g1
    have h1 : cs.toList[1]? = some (.int .i64 q.1) := by
      have := congrArg (fun l => l[0]?) eq
      simpa [dotL, List.getElem?_take, List.getElem?_drop] using this
    have h2 : cs.toList[2]? = some (.int .i64 q.2) := by
      have := congrArg (fun l => l[1]?) eq
      simpa [dotL, List.getElem?_take, List.getElem?_drop] using this
    obtain ⟨ks, hk, rfl⟩ := st_back s
    have e : cs = #[.string (st ks), .int .i64 q.1, .int .i64 q.2, c3, .bool b, c5] := Array.toList_inj.1 (six_at hl h0 h1 h2 h3 h4 h5)
    subst e
    have hcl := cl_rows ao aS
    refine ⟨⟨ks, q.1, q.2, a, b, zs⟩, c3, c5, rfl, ⟨hk, hq.1, hq.2, hcl, hz⟩, ?_⟩
    obtain ⟨y, dd, rfl⟩ := hcl.shape
    exact agg_in Tryz.underlying28 hv0 (i := 3) rfl
end
end
section
open Go.RowKit
theorem eq_dotsI (x y : (Int × Int)) (w : World) : Sem.run Tryz.prog (Op.equalIn 10000 23 (dotV x.1 x.2) (dotV y.1 y.2)) w = .ok (decide (x = y)) w := by
  obtain ⟨x1, x2⟩ := x
  obtain ⟨y1, y2⟩ := y
  have hd : decide (((x1, x2) : (Int × Int)) = (y1, y2)) = (decide (x1 = y1) && decide (x2 = y2)) := by simp only [Prod.mk.injEq, Bool.decide_and]
  rw [hd]
  clear hd
  dsimp only [dotV]
  by_cases h1 : x1 = y1
  · subst h1
    by_cases h2 : x2 = y2
    · subst h2; go_simp
    · have g : (x2 == y2) = false := beq_eq_false_iff_ne.2 h2
      rw [decide_eq_false h2]
      clear h2
      go_simp
  · have g : (x1 == y1) = false := beq_eq_false_iff_ne.2 h1
    rw [decide_eq_false h1]
    clear h1
    go_simp
theorem exec_eqDotI {ev : Operand → Value} {o : Oper} {x y : Operand} {t' : TypeId} {p q : (Int × Int)} {bb : Bool} {w : World} (ho : o.op = .binOp .eql 23 x y t') (hx : ev x = dotV p.1 p.2) (hy : ev y = dotV q.1 q.2) (hb : decide (p = q) = bb) : (execOp ev o).run Tryz.prog w = .ok (.value (.bool bb)) w := by
  obtain ⟨xs, hxs⟩ : ∃ xs : Array Value, #[Value.int .i64 p.1, .int .i64 p.2] = xs := ⟨_, rfl⟩
  obtain ⟨ys, hys⟩ : ∃ ys : Array Value, #[Value.int .i64 q.1, .int .i64 q.2] = ys := ⟨_, rfl⟩
  have h : Sem.run Tryz.prog (Op.equal 23 (.agg xs) (.agg ys)) w = .ok (decide (p = q)) w := by rw [← hxs, ← hys]; exact eq_dotsI p q w
  rw [hb] at h
  rw [show dotV p.1 p.2 = .agg xs from congrArg Value.agg hxs] at hx
  rw [show dotV q.1 q.2 = .agg ys from congrArg Value.agg hys] at hy
  have h1 : Sem.run Tryz.prog (eqGuard .eql 23 x y (.agg xs) (.agg ys)) w = .ok () w := by go_simp
  have h2 : Sem.run Tryz.prog (binOp .eql 23 (.agg xs) (.agg ys)) w = .ok (.bool bb) w := by
    show Sem.run Tryz.prog (do pure (Value.bool (← Op.equal 23 (.agg xs) (.agg ys)))) w = _
    simp only [Sem.run_bind, Sem.run_pure, Result.andThen_ok, h]
  unfold execOp
  simp only [ho, hx, hy, Sem.run_bind, Sem.run_pure, Result.andThen_ok, h1, h2]
set_option maxHeartbeats 400000 in
theorem bequal_any {S1 S2 : Nat → Prop} (u v : Value) (xs ys : List Int) (w : World) (hu : BySl S1 w u xs) (hv : BySl S2 w v ys) :
    Calls Tryz.prog 43 #[u, v] w fun e w' => e = .returned (.bool (decide (xs = ys))) ∧ w = w' := by
  have e1 := conv_any hu
  have e2 := conv_any hv
  have hb := st_beq xs ys hu.1 hv.1
  obtain ⟨d, hd⟩ : ∃ d, decide (xs = ys) = d := ⟨_, rfl⟩
  rw [hd] at hb ⊢
  obtain ⟨sx, hsx⟩ : ∃ s, st xs = s := ⟨_, rfl⟩
  obtain ⟨sy, hsy⟩ : ∃ s, st ys = s := ⟨_, rfl⟩
  rw [hsx, hsy] at hb
  rw [hsx] at e1
  rw [hsy] at e2
  clear hu hv hd hsx hsy
  go_enter Tryz.func43, Tryz.ntmps43
  go_wp2
  go_ret
  exact ⟨rfl, rfl⟩
theorem under_item : ∃ fs, Tryz.prog.underlying 28 = some (.struct fs) := ⟨_, Tryz.underlying28⟩
theorem item_info : (Tryz.prog.info? 28).map (·.size) = some 6 := by kernel_rfl
theorem load_item {w : World} {N : Nat} {t : TypeId} {ks : ByteArray} {dn dd : Int} {vp vv : Value} {g : Bool} (h : Blk w N t (itL ks dn dd vp g vv)) : (Instr.loadAt 28 (.pointer (some ⟨N, 0, none⟩))).run Tryz.prog w = .ok (itV ks dn dd vp g vv) w := by
  obtain ⟨fs, hu⟩ := under_item
  exact run_loadAt_mid w N 0 28 (itL ks dn dd vp g vv) _ (range_ofR h) hu rfl item_info
def sameI (x y : ItQ) : Bool := decide (x.key = y.key) && decide ((x.dn, x.dd) = (y.dn, y.dd)) && decide (x.past = y.past) && (x.gone == y.gone) && decide (x.val = y.val)
def aboveI (x y : ItQ) : Bool := decide (x.key = y.key) && rightI x && rightI y && hasC x.past y.dn y.dd
set_option maxRecDepth 100000 in
set_option maxHeartbeats 8000000 in
theorem isame_any (x y : ItQ) (vp vv up uv : Value) (w : World) (hx : ItOk w x vp vv) (hy : ItOk w y up uv) (lx : x.past.length ≤ 1000) (ly : y.past.length ≤ 1000) :
    Calls Tryz.prog 12 #[itVq x vp vv, itVq y up uv] w fun e w' => e = .returned (.bool (sameI x y)) ∧ Kp Nb w w' := by
  obtain ⟨pp, dp, rfl⟩ := hx.past.shape
  obtain ⟨pv, dv, rfl⟩ := by_shape hx.val
  obtain ⟨qp, dq, rfl⟩ := hy.past.shape
  obtain ⟨qv, du, rfl⟩ := by_shape hy.val
  obtain ⟨R, hR⟩ : ∃ b, sameI x y = b := ⟨_, rfl⟩
  have HR0 : sameI x y = R := hR
  rw [hR]
  obtain ⟨N, hN⟩ : ∃ N, w.heap.size = N := ⟨_, rfl⟩
  obtain ⟨W, hW⟩ : ∃ W, W = (w.alloc (.cells #[.string (st x.key), .int .i64 x.dn, .int .i64 x.dd, .slice pp x.past.length dp, .bool x.gone, .slice pv x.val.length dv] 28)).alloc (.cells #[.string (st y.key), .int .i64 y.dn, .int .i64 y.dd, .slice qp y.past.length dq, .bool y.gone, .slice qv y.val.length du] 28) := ⟨_, rfl⟩
  have HB1 : Hid (Blk W N 28 (itL (st x.key) x.dn x.dd (.slice pp x.past.length dp) x.gone (.slice pv x.val.length dv))) := hid (by rw [hW, ← hN]; exact (Blk.new w _ (itL (st x.key) x.dn x.dd (.slice pp x.past.length dp) x.gone (.slice pv x.val.length dv))).alloc _)
  have HB2 : Hid (Blk W (N + 1) 28 (itL (st y.key) y.dn y.dd (.slice qp y.past.length dq) y.gone (.slice qv y.val.length du))) := hid (by
    have h := Blk.new (w.alloc (.cells #[.string (st x.key), .int .i64 x.dn, .int .i64 x.dd, .slice pp x.past.length dp, .bool x.gone, .slice pv x.val.length dv] 28)) 28 (itL (st y.key) y.dn y.dd (.slice qp y.past.length dq) y.gone (.slice qv y.val.length du))
    simp only [World.size_alloc] at h
    rw [hW, ← hN]
    exact h)
  have K0 : Hid (Kp Nb w W) := hid (by rw [hW]; exact ((Kp.refl Nb w).alloc _).alloc _)
  have HX := hid (hx.kept K0.out)
  have HY := hid (hy.kept K0.out)
  have HRR := hid HR0
  clear hx hy hR HR0
  have hkb := st_beq x.key y.key HX.out.key HY.out.key
  obtain ⟨e1, he1⟩ : ∃ b, decide (x.key = y.key) = b := ⟨_, rfl⟩
  obtain ⟨e2, he2⟩ : ∃ b, decide ((x.dn, x.dd) = (y.dn, y.dd)) = b := ⟨_, rfl⟩
  obtain ⟨e3, he3⟩ : ∃ b, decide (x.past = y.past) = b := ⟨_, rfl⟩
  obtain ⟨e4, he4⟩ : ∃ b, (x.gone == y.gone) = b := ⟨_, rfl⟩
  obtain ⟨e5, he5⟩ : ∃ b, decide (x.val = y.val) = b := ⟨_, rfl⟩
  have E1 : Hid (((st x.key).toList == (st y.key).toList) = e1) := hid (hkb.trans he1)
  have E2 := hid he2
  have E4 := hid he4
  obtain ⟨y2, hy2⟩ : ∃ b, (e1 && e2) = b := ⟨_, rfl⟩
  obtain ⟨y3, hy3⟩ : ∃ b, (y2 && e3) = b := ⟨_, rfl⟩
  obtain ⟨y4, hy4⟩ : ∃ b, (y3 && e4) = b := ⟨_, rfl⟩
  have Y2 := hid hy2
  have Y3 := hid hy3
  have Y4 := hid hy4
  have YR : Hid ((y4 && e5) = R) := hid (by rw [← HRR.out, ← hy4, ← hy3, ← hy2, ← he1, ← he2, ← he3, ← he4, ← he5]; rfl)
  have CS : Hid (∀ wx, Kp Nb W wx → Calls Tryz.prog 42 #[.slice pp x.past.length dp, .slice qp y.past.length dq] wx fun e w' => e = .returned (.bool e3) ∧ Kp Nb wx w') := hid (fun wx k => by rw [← he3]; exact same_any _ _ _ _ wx (HX.out.past.kept k) (HY.out.past.kept k) (by omega) (by omega))
  have CE : Hid (∀ wx, Kp Nb W wx → Calls Tryz.prog 43 #[.slice pv x.val.length dv, .slice qv y.val.length du] wx fun e w' => e = .returned (.bool e5) ∧ Kp Nb wx w') := hid (fun wx k => by
    rw [← he5]
    refine (bequal_any _ _ _ _ wx (HX.out.val.kept k (fun _ h => h)) (HY.out.val.kept k (fun _ h => h))).mono ?_
    rintro e w' ⟨rfl, rfl⟩
    exact ⟨rfl, Kp.refl _ _⟩)
  clear HRR he1 he2 he3 he4 he5 hy2 hy3 hy4
  clear ly
  clear HX HY lx hkb
  obtain ⟨key, xn, xd, past, gx, val⟩ := x
  obtain ⟨key', yn, yd, past', gy, val'⟩ := y
  unfold itVq itV
  dsimp only at *
  obtain ⟨nP, hnP⟩ : ∃ n, past.length = n := ⟨_, rfl⟩
  obtain ⟨nV, hnV⟩ : ∃ n, val.length = n := ⟨_, rfl⟩
  obtain ⟨nQ, hnQ⟩ : ∃ n, past'.length = n := ⟨_, rfl⟩
  obtain ⟨nU, hnU⟩ : ∃ n, val'.length = n := ⟨_, rfl⟩
  obtain ⟨sk, hsk⟩ : ∃ s, st key = s := ⟨_, rfl⟩
  obtain ⟨sl, hsl⟩ : ∃ s, st key' = s := ⟨_, rfl⟩
  simp only [hnP, hnV, hnQ, hnU, hsk, hsl] at hW HB1 HB2 E1 CS CE ⊢
  clear hsk hsl hnP hnV hnQ hnU
  go_enter Tryz.func12, Tryz.ntmps12
  go_upto_region 1 with fail
  rw [← hW]
  clear hW hN
  refine V3.region_valsF [none, none, none, none, some 33, some 0, some 1, some 2, some 3, some 4, some 5, some 6, some 7, some 8, some 9, some 10, some 11, some 12, some 13, some 14, some 15, some 16, some 17, some 18, some 19, some 20, some 21, some 22, some 23, some 24, some 25, some 26, some 27, some 28, some 29, some 30, some 31, some 32] [[(2, none)], [(5, some 0)], [(3, none)], [(7, some 2)], [(6, some 1), (8, some 3)], [(9, some 4)], [(2, none)], [(11, some 6)], [(3, none)], [(13, some 8)], [(12, some 7), (14, some 9)], [(10, some 5), (15, some 10)], [(16, some 11)], [(2, none)], [(18, some 13)], [(3, none)], [(20, some 15)], [(19, some 14), (21, some 16)], [(17, some 12), (22, some 17)], [(23, some 18)], [(2, none)], [(25, some 20)], [(3, none)], [(27, some 22)], [(26, some 21), (28, some 23)], [(24, some 19), (29, some 24)], [(30, some 25)], [(2, none)], [(32, some 27)], [(3, none)], [(34, some 29)], [(33, some 28), (35, some 30)], [(31, some 26), (36, some 31)], [(37, some 32)]] [some 5, some 6, some 7, some 8, some 9, some 10, some 11, some 12, some 13, some 14, some 15, some 16, some 17, some 18, some 19, some 20, some 21, some 22, some 23, some 24, some 25, some 26, some 27, some 28, some 29, some 30, some 31, some 32, some 33, some 34, some 35, some 36, some 37, some 4] [.pointer (some ⟨N, 0, none⟩), .string sk, .pointer (some ⟨N + 1, 0, none⟩), .string sl, .bool e1, .bool e1, V3.gV e1 (.pointer (some ⟨N, 1, none⟩)), V3.gV e1 (dotV xn xd), V3.gV e1 (.pointer (some ⟨N + 1, 1, none⟩)), V3.gV e1 (dotV yn yd), V3.gV e1 (.bool e2), .bool y2, .bool y2, V3.gV y2 (.pointer (some ⟨N, 3, none⟩)), V3.gV y2 (.slice pp nP dp), V3.gV y2 (.pointer (some ⟨N + 1, 3, none⟩)), V3.gV y2 (.slice qp nQ dq), V3.gV y2 (.bool e3), .bool y3, .bool y3, V3.gV y3 (.pointer (some ⟨N, 4, none⟩)), V3.gV y3 (.bool gx), V3.gV y3 (.pointer (some ⟨N + 1, 4, none⟩)), V3.gV y3 (.bool gy), V3.gV y3 (.bool e4), .bool y4, .bool y4, V3.gV y4 (.pointer (some ⟨N, 5, none⟩)), V3.gV y4 (.slice pv nV dv), V3.gV y4 (.pointer (some ⟨N + 1, 5, none⟩)), V3.gV y4 (.slice qv nU du), V3.gV y4 (.bool e5), .bool R, .bool R] (fun w' => Hid (Kp Nb W w')) (by kernel_rfl) (by kernel_rfl) ?hS (V3.VFrom.all (n := 34) (by kernel_rfl) ?hstep) ?hend
  case hstep =>
    refine V3.VFrom.cons (V3.VStep.val _ rfl _ rfl (.pointer (some ⟨N, 0, none⟩)) rfl trivial (fun ev wq hS he hr => ?_)) ?_
    · have r0 : ev (.tmp 2) = .pointer (some ⟨N, 0, none⟩) := hr (2, none) (by simp); have hk := he.1; clear hr he
      go_simp
    refine V3.VFrom.cons (V3.VStep.val _ rfl _ rfl (.string sk) rfl trivial (fun ev wq hS he hr => ?_)) ?_
    · have r0 : ev (.tmp 5) = .pointer (some ⟨N, 0, none⟩) := hr (5, some 0) (by simp); have hk := he.1; clear hr he
      have c0 := (show World.cell? wq ⟨N, 0, none⟩ = some (.string sk) from (HB1.out.kept hS.out (fun h => h)).cell 0)
      go_simp
    refine V3.VFrom.cons (V3.VStep.val _ rfl _ rfl (.pointer (some ⟨N + 1, 0, none⟩)) rfl trivial (fun ev wq hS he hr => ?_)) ?_
    · have r0 : ev (.tmp 3) = .pointer (some ⟨N + 1, 0, none⟩) := hr (3, none) (by simp); have hk := he.1; clear hr he
      go_simp
    refine V3.VFrom.cons (V3.VStep.val _ rfl _ rfl (.string sl) rfl trivial (fun ev wq hS he hr => ?_)) ?_
    · have r0 : ev (.tmp 7) = .pointer (some ⟨N + 1, 0, none⟩) := hr (7, some 2) (by simp); have hk := he.1; clear hr he
      have c0 := (show World.cell? wq ⟨(N + 1), 0, none⟩ = some (.string sl) from (HB2.out.kept hS.out (fun h => h)).cell 0)
      go_simp
    refine V3.VFrom.cons (V3.VStep.val _ rfl _ rfl (.bool e1) rfl trivial (fun ev wq hS he hr => ?_)) ?_
    · have r0 : ev (.tmp 6) = .string sk := hr (6, some 1) (by simp); have r1 : ev (.tmp 8) = .string sl := hr (8, some 3) (by simp); have hk := he.1; clear hr he
      have e1 := E1.out
      go_simp
    refine V3.VFrom.cons (V3.VStep.val _ rfl _ rfl (.bool e1) rfl trivial (fun ev wq hS he hr => ?_)) ?_
    · have r0 : ev (.tmp 9) = .bool e1 := hr (9, some 4) (by simp); have hk := he.1; clear hr he
      go_simp
    refine V3.VFrom.cons (V3.VStep.valG _ rfl _ rfl e1 (.pointer (some ⟨N, 1, none⟩)) rfl 5 true rfl (fun h => by subst h; rfl) (fun h => by subst h; exact .inl rfl) (fun hy ev wq hS he hr => ?_)) ?_
    · subst hy; have r0 : ev (.tmp 2) = .pointer (some ⟨N, 0, none⟩) := hr (2, none) (by simp); have hk := he.1; clear hr he
      go_simp
    refine V3.VFrom.cons (V3.VStep.valG _ rfl _ rfl e1 (dotV xn xd) rfl 5 true rfl (fun h => by subst h; rfl) (fun h => by subst h; exact .inl rfl) (fun hy ev wq hS he hr => ?_)) ?_
    · subst hy; have r0 : ev (.tmp 11) = .pointer (some ⟨N, 1, none⟩) := hr (11, some 6) (by simp); have hk := he.1; clear hr he
      exact exec_loadD rfl r0 (load_dotI (HB1.out.kept hS.out (fun h => h)))
    refine V3.VFrom.cons (V3.VStep.valG _ rfl _ rfl e1 (.pointer (some ⟨N + 1, 1, none⟩)) rfl 5 true rfl (fun h => by subst h; rfl) (fun h => by subst h; exact .inl rfl) (fun hy ev wq hS he hr => ?_)) ?_
    · subst hy; have r0 : ev (.tmp 3) = .pointer (some ⟨N + 1, 0, none⟩) := hr (3, none) (by simp); have hk := he.1; clear hr he
      go_simp
    refine V3.VFrom.cons (V3.VStep.valG _ rfl _ rfl e1 (dotV yn yd) rfl 5 true rfl (fun h => by subst h; rfl) (fun h => by subst h; exact .inl rfl) (fun hy ev wq hS he hr => ?_)) ?_
    · subst hy; have r0 : ev (.tmp 13) = .pointer (some ⟨N + 1, 1, none⟩) := hr (13, some 8) (by simp); have hk := he.1; clear hr he
      exact exec_loadD rfl r0 (load_dotI (HB2.out.kept hS.out (fun h => h)))
    refine V3.VFrom.cons (V3.VStep.valG _ rfl _ rfl e1 (.bool e2) rfl 5 true rfl (fun h => by subst h; rfl) (fun h => by subst h; exact .inl rfl) (fun hy ev wq hS he hr => ?_)) ?_
    · subst hy; have r0 : ev (.tmp 12) = dotV xn xd := hr (12, some 7) (by simp); have r1 : ev (.tmp 14) = dotV yn yd := hr (14, some 9) (by simp); have hk := he.1; clear hr he
      exact exec_eqDotI (p := (xn, xd)) (q := (yn, yd)) rfl r0 r1 E2.out
    refine V3.VFrom.cons (V3.VStep.val _ rfl _ rfl (.bool y2) rfl trivial (fun ev wq hS he hr => ?_)) ?_
    · have r0 : ev (.tmp 10) = .bool e1 := hr (10, some 5) (by simp); have r1 : ev (.tmp 15) = V3.gV e1 (.bool e2) := hr (15, some 10) (by simp); have hk := he.1; clear hr he
      have e := Y2.out; cases e1 <;> (simp only [Bool.false_and, Bool.true_and] at e; subst e; dsimp only [V3.gV] at r1; go_simp)
    refine V3.VFrom.cons (V3.VStep.val _ rfl _ rfl (.bool y2) rfl trivial (fun ev wq hS he hr => ?_)) ?_
    · have r0 : ev (.tmp 16) = .bool y2 := hr (16, some 11) (by simp); have hk := he.1; clear hr he
      go_simp
    refine V3.VFrom.cons (V3.VStep.valG _ rfl _ rfl y2 (.pointer (some ⟨N, 3, none⟩)) rfl 12 true rfl (fun h => by subst h; rfl) (fun h => by subst h; exact .inl rfl) (fun hy ev wq hS he hr => ?_)) ?_
    · subst hy; have r0 : ev (.tmp 2) = .pointer (some ⟨N, 0, none⟩) := hr (2, none) (by simp); have hk := he.1; clear hr he
      go_simp
    refine V3.VFrom.cons (V3.VStep.valG _ rfl _ rfl y2 (.slice pp nP dp) rfl 12 true rfl (fun h => by subst h; rfl) (fun h => by subst h; exact .inl rfl) (fun hy ev wq hS he hr => ?_)) ?_
    · subst hy; have r0 : ev (.tmp 18) = .pointer (some ⟨N, 3, none⟩) := hr (18, some 13) (by simp); have hk := he.1; clear hr he
      have c0 := (show World.cell? wq ⟨N, 3, none⟩ = some (.slice pp nP dp) from (HB1.out.kept hS.out (fun h => h)).cell 3)
      go_simp
    refine V3.VFrom.cons (V3.VStep.valG _ rfl _ rfl y2 (.pointer (some ⟨N + 1, 3, none⟩)) rfl 12 true rfl (fun h => by subst h; rfl) (fun h => by subst h; exact .inl rfl) (fun hy ev wq hS he hr => ?_)) ?_
    · subst hy; have r0 : ev (.tmp 3) = .pointer (some ⟨N + 1, 0, none⟩) := hr (3, none) (by simp); have hk := he.1; clear hr he
      go_simp
    refine V3.VFrom.cons (V3.VStep.valG _ rfl _ rfl y2 (.slice qp nQ dq) rfl 12 true rfl (fun h => by subst h; rfl) (fun h => by subst h; exact .inl rfl) (fun hy ev wq hS he hr => ?_)) ?_
    · subst hy; have r0 : ev (.tmp 20) = .pointer (some ⟨N + 1, 3, none⟩) := hr (20, some 15) (by simp); have hk := he.1; clear hr he
      have c0 := (show World.cell? wq ⟨(N + 1), 3, none⟩ = some (.slice qp nQ dq) from (HB2.out.kept hS.out (fun h => h)).cell 3)
      go_simp
    refine V3.VFrom.cons (V3.VStep.callG _ rfl _ rfl y2 (.bool e3) rfl 12 true rfl (fun h => by subst h; rfl) (fun h => by subst h; exact .inl rfl) 42 #[.slice pp nP dp, .slice qp nQ dq] (fun hy ev wq hS he hr => ?_) (fun hy wq hS => ?_)) ?_
    · subst hy; have r0 : ev (.tmp 19) = .slice pp nP dp := hr (19, some 14) (by simp); have r1 : ev (.tmp 21) = .slice qp nQ dq := hr (21, some 16) (by simp); have hk := he.1; have hf := he.2; clear hr he
      go_simp
    · subst hy; exact (CS.out wq hS.out).mono fun e w' ⟨h1, h2⟩ => ⟨h1, hS.out.trans h2 (fun _ _ h => h)⟩
    refine V3.VFrom.cons (V3.VStep.val _ rfl _ rfl (.bool y3) rfl trivial (fun ev wq hS he hr => ?_)) ?_
    · have r0 : ev (.tmp 17) = .bool y2 := hr (17, some 12) (by simp); have r1 : ev (.tmp 22) = V3.gV y2 (.bool e3) := hr (22, some 17) (by simp); have hk := he.1; clear hr he
      have e := Y3.out; cases y2 <;> (simp only [Bool.false_and, Bool.true_and] at e; subst e; dsimp only [V3.gV] at r1; go_simp)
    refine V3.VFrom.cons (V3.VStep.val _ rfl _ rfl (.bool y3) rfl trivial (fun ev wq hS he hr => ?_)) ?_
    · have r0 : ev (.tmp 23) = .bool y3 := hr (23, some 18) (by simp); have hk := he.1; clear hr he
      go_simp
    refine V3.VFrom.cons (V3.VStep.valG _ rfl _ rfl y3 (.pointer (some ⟨N, 4, none⟩)) rfl 19 true rfl (fun h => by subst h; rfl) (fun h => by subst h; exact .inl rfl) (fun hy ev wq hS he hr => ?_)) ?_
    · subst hy; have r0 : ev (.tmp 2) = .pointer (some ⟨N, 0, none⟩) := hr (2, none) (by simp); have hk := he.1; clear hr he
      go_simp
    refine V3.VFrom.cons (V3.VStep.valG _ rfl _ rfl y3 (.bool gx) rfl 19 true rfl (fun h => by subst h; rfl) (fun h => by subst h; exact .inl rfl) (fun hy ev wq hS he hr => ?_)) ?_
    · subst hy; have r0 : ev (.tmp 25) = .pointer (some ⟨N, 4, none⟩) := hr (25, some 20) (by simp); have hk := he.1; clear hr he
      have c0 := (show World.cell? wq ⟨N, 4, none⟩ = some (.bool gx) from (HB1.out.kept hS.out (fun h => h)).cell 4)
      go_simp
    refine V3.VFrom.cons (V3.VStep.valG _ rfl _ rfl y3 (.pointer (some ⟨N + 1, 4, none⟩)) rfl 19 true rfl (fun h => by subst h; rfl) (fun h => by subst h; exact .inl rfl) (fun hy ev wq hS he hr => ?_)) ?_
    · subst hy; have r0 : ev (.tmp 3) = .pointer (some ⟨N + 1, 0, none⟩) := hr (3, none) (by simp); have hk := he.1; clear hr he
      go_simp
    refine V3.VFrom.cons (V3.VStep.valG _ rfl _ rfl y3 (.bool gy) rfl 19 true rfl (fun h => by subst h; rfl) (fun h => by subst h; exact .inl rfl) (fun hy ev wq hS he hr => ?_)) ?_
    · subst hy; have r0 : ev (.tmp 27) = .pointer (some ⟨N + 1, 4, none⟩) := hr (27, some 22) (by simp); have hk := he.1; clear hr he
      have c0 := (show World.cell? wq ⟨(N + 1), 4, none⟩ = some (.bool gy) from (HB2.out.kept hS.out (fun h => h)).cell 4)
      go_simp
    refine V3.VFrom.cons (V3.VStep.valG _ rfl _ rfl y3 (.bool e4) rfl 19 true rfl (fun h => by subst h; rfl) (fun h => by subst h; exact .inl rfl) (fun hy ev wq hS he hr => ?_)) ?_
    · subst hy; have r0 : ev (.tmp 26) = .bool gx := hr (26, some 21) (by simp); have r1 : ev (.tmp 28) = .bool gy := hr (28, some 23) (by simp); have hk := he.1; clear hr he
      have e1 := E4.out
      go_simp
    refine V3.VFrom.cons (V3.VStep.val _ rfl _ rfl (.bool y4) rfl trivial (fun ev wq hS he hr => ?_)) ?_
    · have r0 : ev (.tmp 24) = .bool y3 := hr (24, some 19) (by simp); have r1 : ev (.tmp 29) = V3.gV y3 (.bool e4) := hr (29, some 24) (by simp); have hk := he.1; clear hr he
      have e := Y4.out; cases y3 <;> (simp only [Bool.false_and, Bool.true_and] at e; subst e; dsimp only [V3.gV] at r1; go_simp)
    refine V3.VFrom.cons (V3.VStep.val _ rfl _ rfl (.bool y4) rfl trivial (fun ev wq hS he hr => ?_)) ?_
    · have r0 : ev (.tmp 30) = .bool y4 := hr (30, some 25) (by simp); have hk := he.1; clear hr he
      go_simp
    refine V3.VFrom.cons (V3.VStep.valG _ rfl _ rfl y4 (.pointer (some ⟨N, 5, none⟩)) rfl 26 true rfl (fun h => by subst h; rfl) (fun h => by subst h; exact .inl rfl) (fun hy ev wq hS he hr => ?_)) ?_
    · subst hy; have r0 : ev (.tmp 2) = .pointer (some ⟨N, 0, none⟩) := hr (2, none) (by simp); have hk := he.1; clear hr he
      go_simp
    refine V3.VFrom.cons (V3.VStep.valG _ rfl _ rfl y4 (.slice pv nV dv) rfl 26 true rfl (fun h => by subst h; rfl) (fun h => by subst h; exact .inl rfl) (fun hy ev wq hS he hr => ?_)) ?_
    · subst hy; have r0 : ev (.tmp 32) = .pointer (some ⟨N, 5, none⟩) := hr (32, some 27) (by simp); have hk := he.1; clear hr he
      have c0 := (show World.cell? wq ⟨N, 5, none⟩ = some (.slice pv nV dv) from (HB1.out.kept hS.out (fun h => h)).cell 5)
      go_simp
    refine V3.VFrom.cons (V3.VStep.valG _ rfl _ rfl y4 (.pointer (some ⟨N + 1, 5, none⟩)) rfl 26 true rfl (fun h => by subst h; rfl) (fun h => by subst h; exact .inl rfl) (fun hy ev wq hS he hr => ?_)) ?_
    · subst hy; have r0 : ev (.tmp 3) = .pointer (some ⟨N + 1, 0, none⟩) := hr (3, none) (by simp); have hk := he.1; clear hr he
      go_simp
    refine V3.VFrom.cons (V3.VStep.valG _ rfl _ rfl y4 (.slice qv nU du) rfl 26 true rfl (fun h => by subst h; rfl) (fun h => by subst h; exact .inl rfl) (fun hy ev wq hS he hr => ?_)) ?_
    · subst hy; have r0 : ev (.tmp 34) = .pointer (some ⟨N + 1, 5, none⟩) := hr (34, some 29) (by simp); have hk := he.1; clear hr he
      have c0 := (show World.cell? wq ⟨(N + 1), 5, none⟩ = some (.slice qv nU du) from (HB2.out.kept hS.out (fun h => h)).cell 5)
      go_simp
    refine V3.VFrom.cons (V3.VStep.callG _ rfl _ rfl y4 (.bool e5) rfl 26 true rfl (fun h => by subst h; rfl) (fun h => by subst h; exact .inl rfl) 43 #[.slice pv nV dv, .slice qv nU du] (fun hy ev wq hS he hr => ?_) (fun hy wq hS => ?_)) ?_
    · subst hy; have r0 : ev (.tmp 33) = .slice pv nV dv := hr (33, some 28) (by simp); have r1 : ev (.tmp 35) = .slice qv nU du := hr (35, some 30) (by simp); have hk := he.1; have hf := he.2; clear hr he
      go_simp
    · subst hy; exact (CE.out wq hS.out).mono fun e w' ⟨h1, h2⟩ => ⟨h1, hS.out.trans h2 (fun _ _ h => h)⟩
    refine V3.VFrom.cons (V3.VStep.val _ rfl _ rfl (.bool R) rfl trivial (fun ev wq hS he hr => ?_)) ?_
    · have r0 : ev (.tmp 31) = .bool y4 := hr (31, some 26) (by simp); have r1 : ev (.tmp 36) = V3.gV y4 (.bool e5) := hr (36, some 31) (by simp); have hk := he.1; clear hr he
      have e := YR.out; cases y4 <;> (simp only [Bool.false_and, Bool.true_and] at e; subst e; dsimp only [V3.gV] at r1; go_simp)
    refine V3.VFrom.cons (V3.VStep.val _ rfl _ rfl (.bool R) rfl trivial (fun ev wq hS he hr => ?_)) ?_
    · have r0 : ev (.tmp 37) = .bool R := hr (37, some 32) (by simp); have hk := he.1; clear hr he
      go_simp
    exact V3.VFrom.nil
  case hS => exact hid (Kp.refl Nb W)
  case hend =>
    intro w5 h5
    have K5 := hid (K0.out.trans h5.out (fun _ _ h => h))
    clear h5 K0
    simp only [V3.putAll, List.zip_cons_cons, List.zip_nil_right, List.foldl_cons, List.foldl_nil, Act.put, List.setIfInBounds_toArray, List.set_cons_zero, List.set_cons_succ]
    go_wp2
    go_ret
    exact ⟨rfl, K5.out⟩
set_option maxRecDepth 100000 in
set_option maxHeartbeats 8000000 in
theorem iabove_any (x y : ItQ) (vp vv up uv : Value) (w : World) (hx : ItOk w x vp vv) (hy : ItOk w y up uv) (lx : x.past.length ≤ 1000) :
    Calls Tryz.prog 14 #[itVq x vp vv, itVq y up uv] w fun e w' => e = .returned (.bool (aboveI x y)) ∧ Kp Nb w w' := by
  obtain ⟨pp, dp, rfl⟩ := hx.past.shape
  obtain ⟨pv, dv, rfl⟩ := by_shape hx.val
  obtain ⟨qp, dq, rfl⟩ := hy.past.shape
  obtain ⟨qv, du, rfl⟩ := by_shape hy.val
  obtain ⟨R, hR⟩ : ∃ b, aboveI x y = b := ⟨_, rfl⟩
  have HR0 : aboveI x y = R := hR
  rw [hR]
  obtain ⟨N, hN⟩ : ∃ N, w.heap.size = N := ⟨_, rfl⟩
  obtain ⟨W, hW⟩ : ∃ W, W = (w.alloc (.cells #[.string (st x.key), .int .i64 x.dn, .int .i64 x.dd, .slice pp x.past.length dp, .bool x.gone, .slice pv x.val.length dv] 28)).alloc (.cells #[.string (st y.key), .int .i64 y.dn, .int .i64 y.dd, .slice qp y.past.length dq, .bool y.gone, .slice qv y.val.length du] 28) := ⟨_, rfl⟩
  have HB1 : Hid (Blk W N 28 (itL (st x.key) x.dn x.dd (.slice pp x.past.length dp) x.gone (.slice pv x.val.length dv))) := hid (by rw [hW, ← hN]; exact (Blk.new w _ (itL (st x.key) x.dn x.dd (.slice pp x.past.length dp) x.gone (.slice pv x.val.length dv))).alloc _)
  have HB2 : Hid (Blk W (N + 1) 28 (itL (st y.key) y.dn y.dd (.slice qp y.past.length dq) y.gone (.slice qv y.val.length du))) := hid (by
    have h := Blk.new (w.alloc (.cells #[.string (st x.key), .int .i64 x.dn, .int .i64 x.dd, .slice pp x.past.length dp, .bool x.gone, .slice pv x.val.length dv] 28)) 28 (itL (st y.key) y.dn y.dd (.slice qp y.past.length dq) y.gone (.slice qv y.val.length du))
    simp only [World.size_alloc] at h
    rw [hW, ← hN]
    exact h)
  have K0 : Hid (Kp Nb w W) := hid (by rw [hW]; exact ((Kp.refl Nb w).alloc _).alloc _)
  have HX := hid (hx.kept K0.out)
  have HY := hid (hy.kept K0.out)
  have HRR := hid HR0
  clear hx hy hR HR0
  have hkb := st_beq x.key y.key HX.out.key HY.out.key
  obtain ⟨e1, he1⟩ : ∃ b, decide (x.key = y.key) = b := ⟨_, rfl⟩
  obtain ⟨rx, hrx⟩ : ∃ b, rightI x = b := ⟨_, rfl⟩
  obtain ⟨ry, hry⟩ : ∃ b, rightI y = b := ⟨_, rfl⟩
  obtain ⟨hb, hhb⟩ : ∃ b, hasC x.past y.dn y.dd = b := ⟨_, rfl⟩
  have E1 : Hid (((st x.key).toList == (st y.key).toList) = e1) := hid (hkb.trans he1)
  obtain ⟨y2, hy2⟩ : ∃ b, (e1 && rx) = b := ⟨_, rfl⟩
  obtain ⟨y3, hy3⟩ : ∃ b, (y2 && ry) = b := ⟨_, rfl⟩
  have Y2 := hid hy2
  have Y3 := hid hy3
  have YR : Hid ((y3 && hb) = R) := hid (by rw [← HRR.out, ← hy3, ← hy2]; unfold aboveI; rw [he1, hrx, hry, hhb])
  have C1 : Hid (∀ wx, Kp Nb W wx → Calls Tryz.prog 13 #[itV (st x.key) x.dn x.dd (.slice pp x.past.length dp) x.gone (.slice pv x.val.length dv)] wx fun e w' => e = .returned (.bool rx) ∧ Kp Nb wx w') := hid (fun wx k => by rw [← hrx]; exact iright_any x _ _ wx (HX.out.kept k))
  have C2 : Hid (∀ wx, Kp Nb W wx → Calls Tryz.prog 13 #[itV (st y.key) y.dn y.dd (.slice qp y.past.length dq) y.gone (.slice qv y.val.length du)] wx fun e w' => e = .returned (.bool ry) ∧ Kp Nb wx w') := hid (fun wx k => by rw [← hry]; exact iright_any y _ _ wx (HY.out.kept k))
  have CH : Hid (∀ wx, Kp Nb W wx → Calls Tryz.prog 47 #[.slice pp x.past.length dp, dotV y.dn y.dd] wx fun e w' => e = .returned (.bool hb) ∧ Kp Nb wx w') := hid (fun wx k => by rw [← hhb]; exact has_any _ _ y.dn y.dd wx (HX.out.past.kept k) (by omega))
  clear HRR he1 hrx hry hhb hy2 hy3
  clear HX HY lx hkb
  obtain ⟨key, xn, xd, past, gx, val⟩ := x
  obtain ⟨key', yn, yd, past', gy, val'⟩ := y
  unfold itVq itV
  dsimp only at *
  obtain ⟨nP, hnP⟩ : ∃ n, past.length = n := ⟨_, rfl⟩
  obtain ⟨nV, hnV⟩ : ∃ n, val.length = n := ⟨_, rfl⟩
  obtain ⟨nQ, hnQ⟩ : ∃ n, past'.length = n := ⟨_, rfl⟩
  obtain ⟨nU, hnU⟩ : ∃ n, val'.length = n := ⟨_, rfl⟩
  obtain ⟨sk, hsk⟩ : ∃ s, st key = s := ⟨_, rfl⟩
  obtain ⟨sl, hsl⟩ : ∃ s, st key' = s := ⟨_, rfl⟩
  simp only [hnP, hnV, hnQ, hnU, hsk, hsl] at hW HB1 HB2 E1 C1 C2 CH ⊢
  clear hsk hsl hnP hnV hnQ hnU
  go_enter Tryz.func14, Tryz.ntmps14
  go_upto_region 1 with fail
  rw [← hW]
  clear hW hN
  refine V3.region_valsF [none, none, none, none, some 20, some 0, some 1, some 2, some 3, some 4, some 5, some 6, some 7, some 8, some 9, some 10, some 11, some 12, some 13, some 14, some 15, some 16, some 17, some 18, some 19] [[(2, none)], [(5, some 0)], [(3, none)], [(7, some 2)], [(6, some 1), (8, some 3)], [(9, some 4)], [(2, none)], [(11, some 6)], [(10, some 5), (12, some 7)], [(13, some 8)], [(3, none)], [(15, some 10)], [(14, some 9), (16, some 11)], [(17, some 12)], [(2, none)], [(19, some 14)], [(3, none)], [(21, some 16)], [(20, some 15), (22, some 17)], [(18, some 13), (23, some 18)], [(24, some 19)]] [some 5, some 6, some 7, some 8, some 9, some 10, some 11, some 12, some 13, some 14, some 15, some 16, some 17, some 18, some 19, some 20, some 21, some 22, some 23, some 24, some 4] [.pointer (some ⟨N, 0, none⟩), .string sk, .pointer (some ⟨N + 1, 0, none⟩), .string sl, .bool e1, .bool e1, V3.gV e1 (itV sk xn xd (.slice pp nP dp) gx (.slice pv nV dv)), V3.gV e1 (.bool rx), .bool y2, .bool y2, V3.gV y2 (itV sl yn yd (.slice qp nQ dq) gy (.slice qv nU du)), V3.gV y2 (.bool ry), .bool y3, .bool y3, V3.gV y3 (.pointer (some ⟨N, 3, none⟩)), V3.gV y3 (.slice pp nP dp), V3.gV y3 (.pointer (some ⟨N + 1, 1, none⟩)), V3.gV y3 (dotV yn yd), V3.gV y3 (.bool hb), .bool R, .bool R] (fun w' => Hid (Kp Nb W w')) (by kernel_rfl) (by kernel_rfl) ?hS (V3.VFrom.all (n := 21) (by kernel_rfl) ?hstep) ?hend
  case hstep =>
    refine V3.VFrom.cons (V3.VStep.val _ rfl _ rfl (.pointer (some ⟨N, 0, none⟩)) rfl trivial (fun ev wq hS he hr => ?_)) ?_
    · have r0 : ev (.tmp 2) = .pointer (some ⟨N, 0, none⟩) := hr (2, none) (by simp); have hk := he.1; clear hr he
      go_simp
    refine V3.VFrom.cons (V3.VStep.val _ rfl _ rfl (.string sk) rfl trivial (fun ev wq hS he hr => ?_)) ?_
    · have r0 : ev (.tmp 5) = .pointer (some ⟨N, 0, none⟩) := hr (5, some 0) (by simp); have hk := he.1; clear hr he
      have c0 := (show World.cell? wq ⟨N, 0, none⟩ = some (.string sk) from (HB1.out.kept hS.out (fun h => h)).cell 0)
      go_simp
    refine V3.VFrom.cons (V3.VStep.val _ rfl _ rfl (.pointer (some ⟨N + 1, 0, none⟩)) rfl trivial (fun ev wq hS he hr => ?_)) ?_
    · have r0 : ev (.tmp 3) = .pointer (some ⟨N + 1, 0, none⟩) := hr (3, none) (by simp); have hk := he.1; clear hr he
      go_simp
    refine V3.VFrom.cons (V3.VStep.val _ rfl _ rfl (.string sl) rfl trivial (fun ev wq hS he hr => ?_)) ?_
    · have r0 : ev (.tmp 7) = .pointer (some ⟨N + 1, 0, none⟩) := hr (7, some 2) (by simp); have hk := he.1; clear hr he
      have c0 := (show World.cell? wq ⟨(N + 1), 0, none⟩ = some (.string sl) from (HB2.out.kept hS.out (fun h => h)).cell 0)
      go_simp
    refine V3.VFrom.cons (V3.VStep.val _ rfl _ rfl (.bool e1) rfl trivial (fun ev wq hS he hr => ?_)) ?_
    · have r0 : ev (.tmp 6) = .string sk := hr (6, some 1) (by simp); have r1 : ev (.tmp 8) = .string sl := hr (8, some 3) (by simp); have hk := he.1; clear hr he
      have e1 := E1.out
      go_simp
    refine V3.VFrom.cons (V3.VStep.val _ rfl _ rfl (.bool e1) rfl trivial (fun ev wq hS he hr => ?_)) ?_
    · have r0 : ev (.tmp 9) = .bool e1 := hr (9, some 4) (by simp); have hk := he.1; clear hr he
      go_simp
    refine V3.VFrom.cons (V3.VStep.valG _ rfl _ rfl e1 (itV sk xn xd (.slice pp nP dp) gx (.slice pv nV dv)) rfl 5 true rfl (fun h => by subst h; rfl) (fun h => by subst h; exact .inl rfl) (fun hy ev wq hS he hr => ?_)) ?_
    · subst hy; have r0 : ev (.tmp 2) = .pointer (some ⟨N, 0, none⟩) := hr (2, none) (by simp); have hk := he.1; clear hr he
      exact exec_loadD rfl r0 (load_item (HB1.out.kept hS.out (fun h => h)))
    refine V3.VFrom.cons (V3.VStep.callG _ rfl _ rfl e1 (.bool rx) rfl 5 true rfl (fun h => by subst h; rfl) (fun h => by subst h; exact .inl rfl) 13 #[itV sk xn xd (.slice pp nP dp) gx (.slice pv nV dv)] (fun hy ev wq hS he hr => ?_) (fun hy wq hS => ?_)) ?_
    · subst hy; have r0 : ev (.tmp 11) = itV sk xn xd (.slice pp nP dp) gx (.slice pv nV dv) := hr (11, some 6) (by simp); have hk := he.1; have hf := he.2; clear hr he
      go_simp
    · subst hy; exact (C1.out wq hS.out).mono fun e w' ⟨h1, h2⟩ => ⟨h1, hS.out.trans h2 (fun _ _ h => h)⟩
    refine V3.VFrom.cons (V3.VStep.val _ rfl _ rfl (.bool y2) rfl trivial (fun ev wq hS he hr => ?_)) ?_
    · have r0 : ev (.tmp 10) = .bool e1 := hr (10, some 5) (by simp); have r1 : ev (.tmp 12) = V3.gV e1 (.bool rx) := hr (12, some 7) (by simp); have hk := he.1; clear hr he
      have e := Y2.out; cases e1 <;> (simp only [Bool.false_and, Bool.true_and] at e; subst e; dsimp only [V3.gV] at r1; go_simp)
    refine V3.VFrom.cons (V3.VStep.val _ rfl _ rfl (.bool y2) rfl trivial (fun ev wq hS he hr => ?_)) ?_
    · have r0 : ev (.tmp 13) = .bool y2 := hr (13, some 8) (by simp); have hk := he.1; clear hr he
      go_simp
    refine V3.VFrom.cons (V3.VStep.valG _ rfl _ rfl y2 (itV sl yn yd (.slice qp nQ dq) gy (.slice qv nU du)) rfl 9 true rfl (fun h => by subst h; rfl) (fun h => by subst h; exact .inl rfl) (fun hy ev wq hS he hr => ?_)) ?_
    · subst hy; have r0 : ev (.tmp 3) = .pointer (some ⟨N + 1, 0, none⟩) := hr (3, none) (by simp); have hk := he.1; clear hr he
      exact exec_loadD rfl r0 (load_item (HB2.out.kept hS.out (fun h => h)))
    refine V3.VFrom.cons (V3.VStep.callG _ rfl _ rfl y2 (.bool ry) rfl 9 true rfl (fun h => by subst h; rfl) (fun h => by subst h; exact .inl rfl) 13 #[itV sl yn yd (.slice qp nQ dq) gy (.slice qv nU du)] (fun hy ev wq hS he hr => ?_) (fun hy wq hS => ?_)) ?_
    · subst hy; have r0 : ev (.tmp 15) = itV sl yn yd (.slice qp nQ dq) gy (.slice qv nU du) := hr (15, some 10) (by simp); have hk := he.1; have hf := he.2; clear hr he
      go_simp
    · subst hy; exact (C2.out wq hS.out).mono fun e w' ⟨h1, h2⟩ => ⟨h1, hS.out.trans h2 (fun _ _ h => h)⟩
    refine V3.VFrom.cons (V3.VStep.val _ rfl _ rfl (.bool y3) rfl trivial (fun ev wq hS he hr => ?_)) ?_
    · have r0 : ev (.tmp 14) = .bool y2 := hr (14, some 9) (by simp); have r1 : ev (.tmp 16) = V3.gV y2 (.bool ry) := hr (16, some 11) (by simp); have hk := he.1; clear hr he
      have e := Y3.out; cases y2 <;> (simp only [Bool.false_and, Bool.true_and] at e; subst e; dsimp only [V3.gV] at r1; go_simp)
    refine V3.VFrom.cons (V3.VStep.val _ rfl _ rfl (.bool y3) rfl trivial (fun ev wq hS he hr => ?_)) ?_
    · have r0 : ev (.tmp 17) = .bool y3 := hr (17, some 12) (by simp); have hk := he.1; clear hr he
      go_simp
    refine V3.VFrom.cons (V3.VStep.valG _ rfl _ rfl y3 (.pointer (some ⟨N, 3, none⟩)) rfl 13 true rfl (fun h => by subst h; rfl) (fun h => by subst h; exact .inl rfl) (fun hy ev wq hS he hr => ?_)) ?_
    · subst hy; have r0 : ev (.tmp 2) = .pointer (some ⟨N, 0, none⟩) := hr (2, none) (by simp); have hk := he.1; clear hr he
      go_simp
    refine V3.VFrom.cons (V3.VStep.valG _ rfl _ rfl y3 (.slice pp nP dp) rfl 13 true rfl (fun h => by subst h; rfl) (fun h => by subst h; exact .inl rfl) (fun hy ev wq hS he hr => ?_)) ?_
    · subst hy; have r0 : ev (.tmp 19) = .pointer (some ⟨N, 3, none⟩) := hr (19, some 14) (by simp); have hk := he.1; clear hr he
      have c0 := (show World.cell? wq ⟨N, 3, none⟩ = some (.slice pp nP dp) from (HB1.out.kept hS.out (fun h => h)).cell 3)
      go_simp
    refine V3.VFrom.cons (V3.VStep.valG _ rfl _ rfl y3 (.pointer (some ⟨N + 1, 1, none⟩)) rfl 13 true rfl (fun h => by subst h; rfl) (fun h => by subst h; exact .inl rfl) (fun hy ev wq hS he hr => ?_)) ?_
    · subst hy; have r0 : ev (.tmp 3) = .pointer (some ⟨N + 1, 0, none⟩) := hr (3, none) (by simp); have hk := he.1; clear hr he
      go_simp
    refine V3.VFrom.cons (V3.VStep.valG _ rfl _ rfl y3 (dotV yn yd) rfl 13 true rfl (fun h => by subst h; rfl) (fun h => by subst h; exact .inl rfl) (fun hy ev wq hS he hr => ?_)) ?_
    · subst hy; have r0 : ev (.tmp 21) = .pointer (some ⟨N + 1, 1, none⟩) := hr (21, some 16) (by simp); have hk := he.1; clear hr he
      exact exec_loadD rfl r0 (load_dotI (HB2.out.kept hS.out (fun h => h)))
    refine V3.VFrom.cons (V3.VStep.callG _ rfl _ rfl y3 (.bool hb) rfl 13 true rfl (fun h => by subst h; rfl) (fun h => by subst h; exact .inl rfl) 47 #[.slice pp nP dp, dotV yn yd] (fun hy ev wq hS he hr => ?_) (fun hy wq hS => ?_)) ?_
    · subst hy; have r0 : ev (.tmp 20) = .slice pp nP dp := hr (20, some 15) (by simp); have r1 : ev (.tmp 22) = dotV yn yd := hr (22, some 17) (by simp); have hk := he.1; have hf := he.2; clear hr he
      go_simp
    · subst hy; exact (CH.out wq hS.out).mono fun e w' ⟨h1, h2⟩ => ⟨h1, hS.out.trans h2 (fun _ _ h => h)⟩
    refine V3.VFrom.cons (V3.VStep.val _ rfl _ rfl (.bool R) rfl trivial (fun ev wq hS he hr => ?_)) ?_
    · have r0 : ev (.tmp 18) = .bool y3 := hr (18, some 13) (by simp); have r1 : ev (.tmp 23) = V3.gV y3 (.bool hb) := hr (23, some 18) (by simp); have hk := he.1; clear hr he
      have e := YR.out; cases y3 <;> (simp only [Bool.false_and, Bool.true_and] at e; subst e; dsimp only [V3.gV] at r1; go_simp)
    refine V3.VFrom.cons (V3.VStep.val _ rfl _ rfl (.bool R) rfl trivial (fun ev wq hS he hr => ?_)) ?_
    · have r0 : ev (.tmp 24) = .bool R := hr (24, some 19) (by simp); have hk := he.1; clear hr he
      go_simp
    exact V3.VFrom.nil
  case hS => exact hid (Kp.refl Nb W)
  case hend =>
    intro w5 h5
    have K5 := hid (K0.out.trans h5.out (fun _ _ h => h))
    clear h5 K0
    simp only [V3.putAll, List.zip_cons_cons, List.zip_nil_right, List.foldl_cons, List.foldl_nil, Act.put, List.setIfInBounds_toArray, List.set_cons_zero, List.set_cons_succ]
    go_wp2
    go_ret
    exact ⟨rfl, K5.out⟩
end
section
open Go.RowKit
theorem pen_sepV {a b : World} {P : Nat} {v0 v' vl : Value} {c : List RunQ} (h : PenTo a b P v0 v') (hm : ClSl a vl c) (hne : ∀ g, vl.ownBlock = some g → g ≠ P ∧ v0.ownBlock ≠ some g) : ClSl b vl c :=
  hm.keptV h.kp (fun g hg hS => by
    rcases hS with h1 | h1
    · exact (hne g hg).1 h1
    · exact (hne g hg).2 h1)
def PutRv (w : World) (P : Nat) (v0 : Value) (zs0 : List Int) (c : List RunQ) (N : Nat) (i : Value) (wr : World) : Prop := ∃ k : Nat, k ≤ N ∧ i = .int .i64 k ∧ Hid (∃ v', PenAt wr P v' (zs0 ++ numBytes (N : Int) ++ runsB (c.take k)) ∧ PenTo w wr P v0 v')
set_option maxRecDepth 100000 in
set_option maxHeartbeats 4000000 in
theorem dput_at (P : Nat) (v0 : Value) (zs0 : List Int) (v : Value) (c : List RunQ) (w : World) (h : ClSl w v c) (hp : PenAt w P v0 zs0) (hl0 : zs0.length ≤ 1048576) (hne : ∀ g, v.ownBlock = some g → g ≠ P ∧ v0.ownBlock ≠ some g) (hl : c.length ≤ 1048576) :
    Calls Tryz.prog 59 #[.pointer (some ⟨P, 0, none⟩), v] w fun e w' => e = .returned (.bool (putB c)) ∧ ∃ v', PenAt w' P v' (zs0 ++ (if putB c then bytesC c else [])) ∧ PenTo w w' P v0 v' := by
  have CR := hid (dright_any v c w h (by omega))
  have HM := hid h
  have HP := hid hp
  have HNE := hid hne
  have HL0 := hid hl0
  obtain ⟨N, hN⟩ : ∃ N, c.length = N := ⟨_, rfl⟩
  have HLE := hid hN
  obtain ⟨y, d, rfl⟩ := h.shape
  have hpb : putB c = (rightC c && decide (N ≤ 1024)) := by unfold putB; rw [hN]
  rw [hpb]
  rw [hN] at CR HM HNE hl ⊢
  obtain ⟨b, hb⟩ : ∃ b, rightC c = b := ⟨_, rfl⟩
  have HRC := hid hb
  rw [hb] at CR ⊢
  clear h hp hne hN hb hpb hl0
  cases b with
  | false =>
    go_enter Tryz.func59, Tryz.ntmps59
    go_wp2_with (go_at_call 45; refine CR.out.mono ?_; rintro r w1 ⟨rfl, k1⟩; have K1 := hid k1; clear k1)
    go_ret
    exact ⟨rfl, _, HP.out.kept K1.out (fun h => h) (fun _ _ h => h), ⟨⟨K1.out.os, K1.out.tape, K1.out.output, K1.out.size, fun i hi _ => K1.out.block i hi (fun h => h)⟩, .inl rfl⟩⟩
  | true =>
    by_cases hbg : N ≤ 1024
    · have hdb : (true && decide (N ≤ 1024)) = true := by simpa using hbg
      rw [hdb]
      have hq : ¬ (N : Int) > 1024 := by omega
      have HN1 := hid hbg
      have HG : Hid (∀ q ∈ c, goodR q = true) := hid (right_good HRC.out)
      have hw : IntKind.u64.wrap (N : Int) = (N : Int) := IntWalk.u64_in _ ⟨Int.natCast_nonneg N, by omega⟩
      clear hdb
      go_enter Tryz.func59, Tryz.ntmps59
      go_wp2_with (go_at_call 45; refine CR.out.mono ?_; rintro r w1 ⟨rfl, k1⟩; have K1 := hid k1; clear k1)
      have P1 : Hid (PenAt w1 P v0 zs0) := hid (HP.out.kept K1.out (fun h => h) (fun _ _ h => h))
      have T1 : Hid (PenTo w w1 P v0 v0) := hid ((PenTo.refl w P _).kpNb K1.out)
      refine (pen_number P _ _ (N : Int) w1 P1.out (Int.natCast_nonneg N) (by omega) (by have := HL0.out; omega)).mono ?_
      rintro e w2 ⟨rfl, v2, p2, t2⟩
      have HI0 : Hid (∃ v', PenAt w2 P v' (zs0 ++ numBytes (N : Int) ++ runsB (c.take 0)) ∧ PenTo w w2 P v0 v') := hid ⟨v2, by simpa [runsB] using p2, T1.out.trans t2⟩
      clear p2 t2 hw hq hbg
      go_wp2
      go_loopw [22] (PutRv w P v0 zs0 c N) (fun i _ => N - (intOf i).toNat)
      case atStart => exact ⟨0, Nat.zero_le _, rfl, HI0⟩
      case round =>
        clear HI0
        obtain ⟨k, hk, rfl, HPK⟩ := hrel
        by_cases hlt : k < N
        · have HLT := hid hlt
          obtain ⟨v', pk, tk⟩ := HPK.out
          have HSW := hid (pen_sepV tk HM.out HNE.out)
          have HKW := hid (Kp.refl Nb wr)
          have HPL := hid pk.lt
          have HVL : Hid (∀ g, v'.ownBlock = some g → g < wr.heap.size) := hid (fun g hg => pk.own_lt hg)
          have HZS : Hid ((zs0 ++ numBytes (N : Int) ++ runsB (c.take k)).length ≤ 1148576) := hid (by
            have h1 := numBytes_length (N : Int) (by omega)
            have h2 := runsB_len (c.take k) (fun q hq => HG.out q (List.mem_of_mem_take hq))
            have h3 : (c.take k).length ≤ 1024 := by rw [List.length_take]; have := HN1.out; omega
            have h4 := HL0.out
            rw [List.length_append, List.length_append]
            omega)
          obtain ⟨blk, off, cap, e1, hc, hm, hcell⟩ := cl_shape (HSW.out.kept HKW.out) (by intro h; have := HLE.out; rw [h, List.length_nil] at this; omega)
          rw [HLE.out] at e1 hc hcell
          injection e1 with e1 _ e2
          subst e1 e2
          have HR := hid (hcell k hlt)
          obtain ⟨⟨qn, qf, qt⟩, hq⟩ : ∃ q, runAt c k = q := ⟨_, rfl⟩
          have HOK := HSW.out.1 k
          rw [hq] at HR HOK
          have HQ := hid hq
          obtain ⟨M, hM⟩ : ∃ M, wr.heap.size = M := ⟨_, rfl⟩
          obtain ⟨W2, hW2⟩ : ∃ W, W = (wr.alloc (.cells (runL (0, 0, 0)).toArray 38)).setCells M 0 (runL (qn, qf, qt)) := ⟨_, rfl⟩
          have hz := Blk.new wr 38 (runL (0, 0, 0))
          rw [hM] at hz
          have KW : Hid (Kp Nb wr W2) := hid (by rw [hW2]; exact Kp.setCells (fun h => absurd h (by omega)) _ 0 _ ((Kp.refl Nb wr).alloc _))
          have HMW : Hid (wr.heap.size = M) := hid hM
          have TH := hid (run_there (q := (qn, qf, qt)) hz)
          have HZ : Hid (Blk W2 M 38 (runL (qn, qf, qt))) := hid (by rw [hW2]; exact row_set hz rfl)
          have HK2 := hid (HKW.out.trans KW.out (fun _ _ h => h))
          unfold maxLen at hm
          obtain ⟨fs, hfs⟩ := under_run
          clear hz hcell hq
          go_upto_region 7 with (first
            | (refine wpList_load_mid (by rfl) 38 (.tmp 24) (by rfl) blk (off + k * 3) (by rfl) (runL (qn, qf, qt)) _ HR.out hfs rfl (run_infoL (qn, qf, qt)) ?_)
            | (refine wpList_store_mid (by rfl) 38 (.tmp 6) (.tmp 25) (by rfl) M 0 (runL (qn, qf, qt)).toArray (by rfl) (by rfl) TH.out (run_infoA (qn, qf, qt)) (run_one (qn, qf, qt)) ?_))
          rw [show (wr.alloc (.cells #[.int .i64 0, .int .i64 0, .int .i64 0] 38)).setCells M 0 (runL (qn, qf, qt)) = W2 from hW2.symm]
          clear hW2 TH hM
          have c0 : W2.cell? ⟨M, 0, none⟩ = some (.int .i64 qn) := HZ.out.cell 0
          have c1 : W2.cell? ⟨M, 1, none⟩ = some (.int .i64 qf) := HZ.out.cell 1
          have c2 : W2.cell? ⟨M, 2, none⟩ = some (.int .i64 qt) := HZ.out.cell 2
          have HGQ : Hid (0 ≤ qn ∧ qn ≤ 7 ∧ 1 ≤ qf ∧ qf ≤ qt ∧ qt ≤ 1099511627776) := hid (by
            have := goodR_of.1 (HG.out (runAt c k) (runAt_mem (by rw [HLE.out]; exact hlt)))
            rwa [HQ.out] at this)
          have PK2 : Hid (PenAt W2 P v' (zs0 ++ numBytes (N : Int) ++ runsB (c.take k))) := hid (pk.kept KW.out (fun h => h) (fun _ _ h => h))
          have TK2 : Hid (PenTo w W2 P v0 v') := hid (tk.kpNb KW.out)
          have HMP : Hid (M ≠ P) := hid (by have := HMW.out; have := HPL.out; omega)
          have HVM : Hid (v'.ownBlock ≠ some M) := hid (fun hg => by have := HVL.out M hg; have := HMW.out; omega)
          have HSN : Hid (zs0 ++ numBytes (N : Int) ++ runsB (c.take k) ++ numBytes qn ++ numBytes qf ++ numBytes (qt - qf) = zs0 ++ numBytes (N : Int) ++ runsB (c.take (k + 1))) := hid (by
            rw [runsB_snoc c k (by rw [HLE.out]; exact hlt), HQ.out]; unfold bytesR; simp only [List.append_assoc])
          have hb1 : (numBytes qn).length ≤ 9 := numBytes_length qn (by have := HGQ.out; omega)
          have hb2 : (numBytes qf).length ≤ 9 := numBytes_length qf (by have := HGQ.out; omega)
          have HB12 := hid (And.intro hb1 hb2)
          clear pk tk HPK hb1 hb2
          obtain ⟨zs, hzs⟩ : ∃ zs, zs0 ++ numBytes (N : Int) ++ runsB (c.take k) = zs := ⟨_, rfl⟩
          rw [hzs] at PK2 HZS HSN
          clear hzs
          have hw1 : IntKind.u64.wrap qn = qn := IntWalk.u64_in _ (by have := HGQ.out; omega)
          have hw2 : IntKind.u64.wrap qf = qf := IntWalk.u64_in _ (by have := HGQ.out; omega)
          have hw3 : IntKind.u64.wrap (qt - qf) = qt - qf := IntWalk.u64_in _ (by have := HGQ.out; omega)
          have hw4 : IntKind.i64.wrap (qt - qf) = qt - qf := IntWalk.i64_in _ (by have := HGQ.out; omega)
          go_wp2_with fail
          refine (pen_number P v' zs qn W2 PK2.out HGQ.out.1 (by have := HGQ.out; omega) (by have := HZS.out; omega)).mono ?_
          rintro e w3 ⟨rfl, v3, p3, t3⟩
          obtain ⟨b3, s3⟩ := t3.box HZ.out HMP.out HVM.out
          have HB3 := hid b3
          have HS3 := hid s3
          have PK3 := hid p3
          have TK3 := hid (TK2.out.trans t3)
          clear p3 t3 b3 s3 c0 c1 c2
          have c0 : w3.cell? ⟨M, 0, none⟩ = some (.int .i64 qn) := HB3.out.cell 0
          have c1 : w3.cell? ⟨M, 1, none⟩ = some (.int .i64 qf) := HB3.out.cell 1
          have c2 : w3.cell? ⟨M, 2, none⟩ = some (.int .i64 qt) := HB3.out.cell 2
          go_wp2_with fail
          refine (pen_number P v3 (zs ++ numBytes qn) qf w3 PK3.out (by have := HGQ.out; omega) (by have := HGQ.out; omega) (by have := HZS.out; have := HB12.out; rw [List.length_append]; omega)).mono ?_
          rintro e w4 ⟨rfl, v4, p4, t4⟩
          obtain ⟨b4, s4⟩ := t4.box HB3.out HMP.out HS3.out
          have HB4 := hid b4
          have PK4 := hid p4
          have TK4 := hid (TK3.out.trans t4)
          clear p4 t4 b4 s4 c0 c1 c2
          have c0 : w4.cell? ⟨M, 0, none⟩ = some (.int .i64 qn) := HB4.out.cell 0
          have c1 : w4.cell? ⟨M, 1, none⟩ = some (.int .i64 qf) := HB4.out.cell 1
          have c2 : w4.cell? ⟨M, 2, none⟩ = some (.int .i64 qt) := HB4.out.cell 2
          go_wp2_with fail
          refine (pen_number P v4 (zs ++ numBytes qn ++ numBytes qf) (qt - qf) w4 PK4.out (by have := HGQ.out; omega) (by have := HGQ.out; omega) (by have := HZS.out; have := HB12.out; rw [List.length_append, List.length_append]; omega)).mono ?_
          rintro e w5 ⟨rfl, v5, p5, t5⟩
          have HPN : Hid (∃ v', PenAt w5 P v' (zs0 ++ numBytes (N : Int) ++ runsB (c.take (k + 1))) ∧ PenTo w w5 P v0 v') := hid ⟨v5, by rw [← HSN.out]; exact p5, TK4.out.trans t5⟩
          clear p5 t5 c0 c1 c2 hw1 hw2 hw3 hw4
          go_wp2
          go_roundw
          case rel => exact ⟨k + 1, HLT.out, by go_num, HPN⟩
          case measure => have := HLT.out; simp [intOf]; omega
        · obtain rfl : k = N := by omega
          go_wp2
          go_ret
          obtain ⟨v', pk, tk⟩ := HPK.out
          rw [← HLE.out, List.take_length] at pk
          exact ⟨rfl, v', by simpa [bytesC, List.append_assoc] using pk, tk⟩
    · have hdb : (true && decide (N ≤ 1024)) = false := by simpa using hbg
      rw [hdb]
      have hq : (N : Int) > 1024 := by omega
      clear hdb hbg
      go_enter Tryz.func59, Tryz.ntmps59
      go_wp2_with (go_at_call 45; refine CR.out.mono ?_; rintro r w1 ⟨rfl, k1⟩; have K1 := hid k1; clear k1)
      go_ret
      exact ⟨rfl, _, HP.out.kept K1.out (fun h => h) (fun _ _ h => h), ⟨⟨K1.out.os, K1.out.tape, K1.out.output, K1.out.size, fun i hi _ => K1.out.block i hi (fun h => h)⟩, .inl rfl⟩⟩
end

end Go.Proofs.YtogoophofgkboaaGreatDoor
