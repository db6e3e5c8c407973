/-
  Of the texts VeB what is used. No condition but what each says.
-/
import Derived.Test.YtogoophofgkboaaGreatDoorRi
import Derived.Test.YtogoophofgkboaaGreatDoorRj
namespace Go.Proofs.YtogoophofgkboaaGreatDoor
section
open Go.RowKit
theorem eq_dotsI (x y : (Int × Int)) (w : World) : Sem.run Tryz.prog (Op.equalIn 10000 23 (dotV x.1 x.2) (dotV y.1 y.2)) w = .ok (decide (x = y)) w := by
  obtain ⟨x1, x2⟩ := x
  obtain ⟨y1, y2⟩ := y
  have hd : decide (((x1, x2) : (Int × Int)) = (y1, y2)) = (decide (x1 = y1) && decide (x2 = y2)) := by simp only [Prod.mk.injEq, Bool.decide_and]
  rw [hd]
  clear hd
  dsimp only [dotV]
  by_cases h1 : x1 = y1
  · subst h1
    by_cases h2 : x2 = y2
    · subst h2; go_simp
    · have g : (x2 == y2) = false := beq_eq_false_iff_ne.2 h2
      rw [decide_eq_false h2]
      clear h2
      go_simp
  · have g : (x1 == y1) = false := beq_eq_false_iff_ne.2 h1
    rw [decide_eq_false h1]
    clear h1
    go_simp
theorem exec_eqDotI {ev : Operand → Value} {o : Oper} {x y : Operand} {t' : TypeId} {p q : (Int × Int)} {bb : Bool} {w : World} (ho : o.op = .binOp .eql 23 x y t') (hx : ev x = dotV p.1 p.2) (hy : ev y = dotV q.1 q.2) (hb : decide (p = q) = bb) : (execOp ev o).run Tryz.prog w = .ok (.value (.bool bb)) w := by
  obtain ⟨xs, hxs⟩ : ∃ xs : Array Value, #[Value.int .i64 p.1, .int .i64 p.2] = xs := ⟨_, rfl⟩
  obtain ⟨ys, hys⟩ : ∃ ys : Array Value, #[Value.int .i64 q.1, .int .i64 q.2] = ys := ⟨_, rfl⟩
  have h : Sem.run Tryz.prog (Op.equal 23 (.agg xs) (.agg ys)) w = .ok (decide (p = q)) w := by rw [← hxs, ← hys]; exact eq_dotsI p q w
  rw [hb] at h
  rw [show dotV p.1 p.2 = .agg xs from congrArg Value.agg hxs] at hx
  rw [show dotV q.1 q.2 = .agg ys from congrArg Value.agg hys] at hy
  have h1 : Sem.run Tryz.prog (eqGuard .eql 23 x y (.agg xs) (.agg ys)) w = .ok () w := by go_simp
  have h2 : Sem.run Tryz.prog (binOp .eql 23 (.agg xs) (.agg ys)) w = .ok (.bool bb) w := by
    show Sem.run Tryz.prog (do pure (Value.bool (← Op.equal 23 (.agg xs) (.agg ys)))) w = _
    simp only [Sem.run_bind, Sem.run_pure, Result.andThen_ok, h]
  unfold execOp
  simp only [ho, hx, hy, Sem.run_bind, Sem.run_pure, Result.andThen_ok, h1, h2]
set_option maxHeartbeats 400000 in
theorem bequal_any {S1 S2 : Nat → Prop} (u v : Value) (xs ys : List Int) (w : World) (hu : BySl S1 w u xs) (hv : BySl S2 w v ys) :
    Calls Tryz.prog 43 #[u, v] w fun e w' => e = .returned (.bool (decide (xs = ys))) ∧ w = w' := by
  have e1 := conv_any hu
  have e2 := conv_any hv
  have hb := st_beq xs ys hu.1 hv.1
  obtain ⟨d, hd⟩ : ∃ d, decide (xs = ys) = d := ⟨_, rfl⟩
  rw [hd] at hb ⊢
  obtain ⟨sx, hsx⟩ : ∃ s, st xs = s := ⟨_, rfl⟩
  obtain ⟨sy, hsy⟩ : ∃ s, st ys = s := ⟨_, rfl⟩
  rw [hsx, hsy] at hb
  rw [hsx] at e1
  rw [hsy] at e2
  clear hu hv hd hsx hsy
  go_enter Tryz.func43, Tryz.ntmps43
  go_wp2
  go_ret
  exact ⟨rfl, rfl⟩
theorem under_item : ∃ fs, Tryz.prog.underlying 28 = some (.struct fs) := ⟨_, Tryz.underlying28⟩
theorem item_info : (Tryz.prog.info? 28).map (·.size) = some 6 := by kernel_rfl
theorem load_item {w : World} {N : Nat} {t : TypeId} {ks : ByteArray} {dn dd : Int} {vp vv : Value} {g : Bool} (h : Blk w N t (itL ks dn dd vp g vv)) : (Instr.loadAt 28 (.pointer (some ⟨N, 0, none⟩))).run Tryz.prog w = .ok (itV ks dn dd vp g vv) w := by
  obtain ⟨fs, hu⟩ := under_item
  exact run_loadAt_mid w N 0 28 (itL ks dn dd vp g vv) _ (range_ofR h) hu rfl item_info
def sameI (x y : ItQ) : Bool := decide (x.key = y.key) && decide ((x.dn, x.dd) = (y.dn, y.dd)) && decide (x.past = y.past) && (x.gone == y.gone) && decide (x.val = y.val)
def aboveI (x y : ItQ) : Bool := decide (x.key = y.key) && rightI x && rightI y && hasC x.past y.dn y.dd
set_option maxRecDepth 100000 in
set_option maxHeartbeats 8000000 in
theorem isame_any (x y : ItQ) (vp vv up uv : Value) (w : World) (hx : ItOk w x vp vv) (hy : ItOk w y up uv) (lx : x.past.length ≤ 1000) (ly : y.past.length ≤ 1000) :
    Calls Tryz.prog 12 #[itVq x vp vv, itVq y up uv] w fun e w' => e = .returned (.bool (sameI x y)) ∧ Kp Nb w w' := by
  obtain ⟨pp, dp, rfl⟩ := hx.past.shape
  obtain ⟨pv, dv, rfl⟩ := by_shape hx.val
  obtain ⟨qp, dq, rfl⟩ := hy.past.shape
  obtain ⟨qv, du, rfl⟩ := by_shape hy.val
  obtain ⟨R, hR⟩ : ∃ b, sameI x y = b := ⟨_, rfl⟩
  have HR0 : sameI x y = R := hR
  rw [hR]
  obtain ⟨N, hN⟩ : ∃ N, w.heap.size = N := ⟨_, rfl⟩
  obtain ⟨W, hW⟩ : ∃ W, W = (w.alloc (.cells #[.string (st x.key), .int .i64 x.dn, .int .i64 x.dd, .slice pp x.past.length dp, .bool x.gone, .slice pv x.val.length dv] 28)).alloc (.cells #[.string (st y.key), .int .i64 y.dn, .int .i64 y.dd, .slice qp y.past.length dq, .bool y.gone, .slice qv y.val.length du] 28) := ⟨_, rfl⟩
  have HB1 : Hid (Blk W N 28 (itL (st x.key) x.dn x.dd (.slice pp x.past.length dp) x.gone (.slice pv x.val.length dv))) := hid (by rw [hW, ← hN]; exact (Blk.new w _ (itL (st x.key) x.dn x.dd (.slice pp x.past.length dp) x.gone (.slice pv x.val.length dv))).alloc _)
  have HB2 : Hid (Blk W (N + 1) 28 (itL (st y.key) y.dn y.dd (.slice qp y.past.length dq) y.gone (.slice qv y.val.length du))) := hid (by
    have h := Blk.new (w.alloc (.cells #[.string (st x.key), .int .i64 x.dn, .int .i64 x.dd, .slice pp x.past.length dp, .bool x.gone, .slice pv x.val.length dv] 28)) 28 (itL (st y.key) y.dn y.dd (.slice qp y.past.length dq) y.gone (.slice qv y.val.length du))
    simp only [World.size_alloc] at h
    rw [hW, ← hN]
    exact h)
  have K0 : Hid (Kp Nb w W) := hid (by rw [hW]; exact ((Kp.refl Nb w).alloc _).alloc _)
  have HX := hid (hx.kept K0.out)
  have HY := hid (hy.kept K0.out)
  have HRR := hid HR0
  clear hx hy hR HR0
  have hkb := st_beq x.key y.key HX.out.key HY.out.key
  obtain ⟨e1, he1⟩ : ∃ b, decide (x.key = y.key) = b := ⟨_, rfl⟩
  obtain ⟨e2, he2⟩ : ∃ b, decide ((x.dn, x.dd) = (y.dn, y.dd)) = b := ⟨_, rfl⟩
  obtain ⟨e3, he3⟩ : ∃ b, decide (x.past = y.past) = b := ⟨_, rfl⟩
  obtain ⟨e4, he4⟩ : ∃ b, (x.gone == y.gone) = b := ⟨_, rfl⟩
  obtain ⟨e5, he5⟩ : ∃ b, decide (x.val = y.val) = b := ⟨_, rfl⟩
  have E1 : Hid (((st x.key).toList == (st y.key).toList) = e1) := hid (hkb.trans he1)
  have E2 := hid he2
  have E4 := hid he4
  obtain ⟨y2, hy2⟩ : ∃ b, (e1 && e2) = b := ⟨_, rfl⟩
  obtain ⟨y3, hy3⟩ : ∃ b, (y2 && e3) = b := ⟨_, rfl⟩
  obtain ⟨y4, hy4⟩ : ∃ b, (y3 && e4) = b := ⟨_, rfl⟩
  have Y2 := hid hy2
  have Y3 := hid hy3
  have Y4 := hid hy4
  have YR : Hid ((y4 && e5) = R) := hid (by rw [← HRR.out, ← hy4, ← hy3, ← hy2, ← he1, ← he2, ← he3, ← he4, ← he5]; rfl)
  have CS : Hid (∀ wx, Kp Nb W wx → Calls Tryz.prog 42 #[.slice pp x.past.length dp, .slice qp y.past.length dq] wx fun e w' => e = .returned (.bool e3) ∧ Kp Nb wx w') := hid (fun wx k => by rw [← he3]; exact same_any _ _ _ _ wx (HX.out.past.kept k) (HY.out.past.kept k) (by omega) (by omega))
  have CE : Hid (∀ wx, Kp Nb W wx → Calls Tryz.prog 43 #[.slice pv x.val.length dv, .slice qv y.val.length du] wx fun e w' => e = .returned (.bool e5) ∧ Kp Nb wx w') := hid (fun wx k => by
    rw [← he5]
    refine (bequal_any _ _ _ _ wx (HX.out.val.kept k (fun _ h => h)) (HY.out.val.kept k (fun _ h => h))).mono ?_
    rintro e w' ⟨rfl, rfl⟩
    exact ⟨rfl, Kp.refl _ _⟩)
  clear HRR he1 he2 he3 he4 he5 hy2 hy3 hy4
  clear ly
  clear HX HY lx hkb
  obtain ⟨key, xn, xd, past, gx, val⟩ := x
  obtain ⟨key', yn, yd, past', gy, val'⟩ := y
  unfold itVq itV
  dsimp only at *
  obtain ⟨nP, hnP⟩ : ∃ n, past.length = n := ⟨_, rfl⟩
  obtain ⟨nV, hnV⟩ : ∃ n, val.length = n := ⟨_, rfl⟩
  obtain ⟨nQ, hnQ⟩ : ∃ n, past'.length = n := ⟨_, rfl⟩
  obtain ⟨nU, hnU⟩ : ∃ n, val'.length = n := ⟨_, rfl⟩
  obtain ⟨sk, hsk⟩ : ∃ s, st key = s := ⟨_, rfl⟩
  obtain ⟨sl, hsl⟩ : ∃ s, st key' = s := ⟨_, rfl⟩
  simp only [hnP, hnV, hnQ, hnU, hsk, hsl] at hW HB1 HB2 E1 CS CE ⊢
  clear hsk hsl hnP hnV hnQ hnU
  go_enter Tryz.func12, Tryz.ntmps12
  go_upto_region 1 with fail
  rw [← hW]
  clear hW hN
  refine V3.region_valsF [none, none, none, none, some 33, some 0, some 1, some 2, some 3, some 4, some 5, some 6, some 7, some 8, some 9, some 10, some 11, some 12, some 13, some 14, some 15, some 16, some 17, some 18, some 19, some 20, some 21, some 22, some 23, some 24, some 25, some 26, some 27, some 28, some 29, some 30, some 31, some 32] [[(2, none)], [(5, some 0)], [(3, none)], [(7, some 2)], [(6, some 1), (8, some 3)], [(9, some 4)], [(2, none)], [(11, some 6)], [(3, none)], [(13, some 8)], [(12, some 7), (14, some 9)], [(10, some 5), (15, some 10)], [(16, some 11)], [(2, none)], [(18, some 13)], [(3, none)], [(20, some 15)], [(19, some 14), (21, some 16)], [(17, some 12), (22, some 17)], [(23, some 18)], [(2, none)], [(25, some 20)], [(3, none)], [(27, some 22)], [(26, some 21), (28, some 23)], [(24, some 19), (29, some 24)], [(30, some 25)], [(2, none)], [(32, some 27)], [(3, none)], [(34, some 29)], [(33, some 28), (35, some 30)], [(31, some 26), (36, some 31)], [(37, some 32)]] [some 5, some 6, some 7, some 8, some 9, some 10, some 11, some 12, some 13, some 14, some 15, some 16, some 17, some 18, some 19, some 20, some 21, some 22, some 23, some 24, some 25, some 26, some 27, some 28, some 29, some 30, some 31, some 32, some 33, some 34, some 35, some 36, some 37, some 4] [.pointer (some ⟨N, 0, none⟩), .string sk, .pointer (some ⟨N + 1, 0, none⟩), .string sl, .bool e1, .bool e1, V3.gV e1 (.pointer (some ⟨N, 1, none⟩)), V3.gV e1 (dotV xn xd), V3.gV e1 (.pointer (some ⟨N + 1, 1, none⟩)), V3.gV e1 (dotV yn yd), V3.gV e1 (.bool e2), .bool y2, .bool y2, V3.gV y2 (.pointer (some ⟨N, 3, none⟩)), V3.gV y2 (.slice pp nP dp), V3.gV y2 (.pointer (some ⟨N + 1, 3, none⟩)), V3.gV y2 (.slice qp nQ dq), V3.gV y2 (.bool e3), .bool y3, .bool y3, V3.gV y3 (.pointer (some ⟨N, 4, none⟩)), V3.gV y3 (.bool gx), V3.gV y3 (.pointer (some ⟨N + 1, 4, none⟩)), V3.gV y3 (.bool gy), V3.gV y3 (.bool e4), .bool y4, .bool y4, V3.gV y4 (.pointer (some ⟨N, 5, none⟩)), V3.gV y4 (.slice pv nV dv), V3.gV y4 (.pointer (some ⟨N + 1, 5, none⟩)), V3.gV y4 (.slice qv nU du), V3.gV y4 (.bool e5), .bool R, .bool R] (fun w' => Hid (Kp Nb W w')) (by kernel_rfl) (by kernel_rfl) ?hS (V3.VFrom.all (n := 34) (by kernel_rfl) ?hstep) ?hend
  case hstep =>
    refine V3.VFrom.cons (V3.VStep.val _ rfl _ rfl (.pointer (some ⟨N, 0, none⟩)) rfl trivial (fun ev wq hS he hr => ?_)) ?_
    · have r0 : ev (.tmp 2) = .pointer (some ⟨N, 0, none⟩) := hr (2, none) (by simp); have hk := he.1; clear hr he
      go_simp
    refine V3.VFrom.cons (V3.VStep.val _ rfl _ rfl (.string sk) rfl trivial (fun ev wq hS he hr => ?_)) ?_
    · have r0 : ev (.tmp 5) = .pointer (some ⟨N, 0, none⟩) := hr (5, some 0) (by simp); have hk := he.1; clear hr he
      have c0 := (show World.cell? wq ⟨N, 0, none⟩ = some (.string sk) from (HB1.out.kept hS.out (fun h => h)).cell 0)
      go_simp
    refine V3.VFrom.cons (V3.VStep.val _ rfl _ rfl (.pointer (some ⟨N + 1, 0, none⟩)) rfl trivial (fun ev wq hS he hr => ?_)) ?_
    · have r0 : ev (.tmp 3) = .pointer (some ⟨N + 1, 0, none⟩) := hr (3, none) (by simp); have hk := he.1; clear hr he
      go_simp
    refine V3.VFrom.cons (V3.VStep.val _ rfl _ rfl (.string sl) rfl trivial (fun ev wq hS he hr => ?_)) ?_
    · have r0 : ev (.tmp 7) = .pointer (some ⟨N + 1, 0, none⟩) := hr (7, some 2) (by simp); have hk := he.1; clear hr he
      have c0 := (show World.cell? wq ⟨(N + 1), 0, none⟩ = some (.string sl) from (HB2.out.kept hS.out (fun h => h)).cell 0)
      go_simp
    refine V3.VFrom.cons (V3.VStep.val _ rfl _ rfl (.bool e1) rfl trivial (fun ev wq hS he hr => ?_)) ?_
    · have r0 : ev (.tmp 6) = .string sk := hr (6, some 1) (by simp); have r1 : ev (.tmp 8) = .string sl := hr (8, some 3) (by simp); have hk := he.1; clear hr he
      have e1 := E1.out
      go_simp
    refine V3.VFrom.cons (V3.VStep.val _ rfl _ rfl (.bool e1) rfl trivial (fun ev wq hS he hr => ?_)) ?_
    · have r0 : ev (.tmp 9) = .bool e1 := hr (9, some 4) (by simp); have hk := he.1; clear hr he
      go_simp
    refine V3.VFrom.cons (V3.VStep.valG _ rfl _ rfl e1 (.pointer (some ⟨N, 1, none⟩)) rfl 5 true rfl (fun h => by subst h; rfl) (fun h => by subst h; exact .inl rfl) (fun hy ev wq hS he hr => ?_)) ?_
    · subst hy; have r0 : ev (.tmp 2) = .pointer (some ⟨N, 0, none⟩) := hr (2, none) (by simp); have hk := he.1; clear hr he
      go_simp
    refine V3.VFrom.cons (V3.VStep.valG _ rfl _ rfl e1 (dotV xn xd) rfl 5 true rfl (fun h => by subst h; rfl) (fun h => by subst h; exact .inl rfl) (fun hy ev wq hS he hr => ?_)) ?_
    · subst hy; have r0 : ev (.tmp 11) = .pointer (some ⟨N, 1, none⟩) := hr (11, some 6) (by simp); have hk := he.1; clear hr he
      exact exec_loadD rfl r0 (load_dotI (HB1.out.kept hS.out (fun h => h)))
    refine V3.VFrom.cons (V3.VStep.valG _ rfl _ rfl e1 (.pointer (some ⟨N + 1, 1, none⟩)) rfl 5 true rfl (fun h => by subst h; rfl) (fun h => by subst h; exact .inl rfl) (fun hy ev wq hS he hr => ?_)) ?_
    · subst hy; have r0 : ev (.tmp 3) = .pointer (some ⟨N + 1, 0, none⟩) := hr (3, none) (by simp); have hk := he.1; clear hr he
      go_simp
    refine V3.VFrom.cons (V3.VStep.valG _ rfl _ rfl e1 (dotV yn yd) rfl 5 true rfl (fun h => by subst h; rfl) (fun h => by subst h; exact .inl rfl) (fun hy ev wq hS he hr => ?_)) ?_
    · subst hy; have r0 : ev (.tmp 13) = .pointer (some ⟨N + 1, 1, none⟩) := hr (13, some 8) (by simp); have hk := he.1; clear hr he
      exact exec_loadD rfl r0 (load_dotI (HB2.out.kept hS.out (fun h => h)))
    refine V3.VFrom.cons (V3.VStep.valG _ rfl _ rfl e1 (.bool e2) rfl 5 true rfl (fun h => by subst h; rfl) (fun h => by subst h; exact .inl rfl) (fun hy ev wq hS he hr => ?_)) ?_
    · subst hy; have r0 : ev (.tmp 12) = dotV xn xd := hr (12, some 7) (by simp); have r1 : ev (.tmp 14) = dotV yn yd := hr (14, some 9) (by simp); have hk := he.1; clear hr he
      exact exec_eqDotI (p := (xn, xd)) (q := (yn, yd)) rfl r0 r1 E2.out
    refine V3.VFrom.cons (V3.VStep.val _ rfl _ rfl (.bool y2) rfl trivial (fun ev wq hS he hr => ?_)) ?_
    · have r0 : ev (.tmp 10) = .bool e1 := hr (10, some 5) (by simp); have r1 : ev (.tmp 15) = V3.gV e1 (.bool e2) := hr (15, some 10) (by simp); have hk := he.1; clear hr he
      have e := Y2.out; cases e1 <;> (simp only [Bool.false_and, Bool.true_and] at e; subst e; dsimp only [V3.gV] at r1; go_simp)
    refine V3.VFrom.cons (V3.VStep.val _ rfl _ rfl (.bool y2) rfl trivial (fun ev wq hS he hr => ?_)) ?_
    · have r0 : ev (.tmp 16) = .bool y2 := hr (16, some 11) (by simp); have hk := he.1; clear hr he
      go_simp
    refine V3.VFrom.cons (V3.VStep.valG _ rfl _ rfl y2 (.pointer (some ⟨N, 3, none⟩)) rfl 12 true rfl (fun h => by subst h; rfl) (fun h => by subst h; exact .inl rfl) (fun hy ev wq hS he hr => ?_)) ?_
    · subst hy; have r0 : ev (.tmp 2) = .pointer (some ⟨N, 0, none⟩) := hr (2, none) (by simp); have hk := he.1; clear hr he
      go_simp
    refine V3.VFrom.cons (V3.VStep.valG _ rfl _ rfl y2 (.slice pp nP dp) rfl 12 true rfl (fun h => by subst h; rfl) (fun h => by subst h; exact .inl rfl) (fun hy ev wq hS he hr => ?_)) ?_
    · subst hy; have r0 : ev (.tmp 18) = .pointer (some ⟨N, 3, none⟩) := hr (18, some 13) (by simp); have hk := he.1; clear hr he
      have c0 := (show World.cell? wq ⟨N, 3, none⟩ = some (.slice pp nP dp) from (HB1.out.kept hS.out (fun h => h)).cell 3)
      go_simp
    refine V3.VFrom.cons (V3.VStep.valG _ rfl _ rfl y2 (.pointer (some ⟨N + 1, 3, none⟩)) rfl 12 true rfl (fun h => by subst h; rfl) (fun h => by subst h; exact .inl rfl) (fun hy ev wq hS he hr => ?_)) ?_
    · subst hy; have r0 : ev (.tmp 3) = .pointer (some ⟨N + 1, 0, none⟩) := hr (3, none) (by simp); have hk := he.1; clear hr he
      go_simp
    refine V3.VFrom.cons (V3.VStep.valG _ rfl _ rfl y2 (.slice qp nQ dq) rfl 12 true rfl (fun h => by subst h; rfl) (fun h => by subst h; exact .inl rfl) (fun hy ev wq hS he hr => ?_)) ?_
    · subst hy; have r0 : ev (.tmp 20) = .pointer (some ⟨N + 1, 3, none⟩) := hr (20, some 15) (by simp); have hk := he.1; clear hr he
      have c0 := (show World.cell? wq ⟨(N + 1), 3, none⟩ = some (.slice qp nQ dq) from (HB2.out.kept hS.out (fun h => h)).cell 3)
      go_simp
    refine V3.VFrom.cons (V3.VStep.callG _ rfl _ rfl y2 (.bool e3) rfl 12 true rfl (fun h => by subst h; rfl) (fun h => by subst h; exact .inl rfl) 42 #[.slice pp nP dp, .slice qp nQ dq] (fun hy ev wq hS he hr => ?_) (fun hy wq hS => ?_)) ?_
    · subst hy; have r0 : ev (.tmp 19) = .slice pp nP dp := hr (19, some 14) (by simp); have r1 : ev (.tmp 21) = .slice qp nQ dq := hr (21, some 16) (by simp); have hk := he.1; have hf := he.2; clear hr he
      go_simp
    · subst hy; exact (CS.out wq hS.out).mono fun e w' ⟨h1, h2⟩ => ⟨h1, hS.out.trans h2 (fun _ _ h => h)⟩
    refine V3.VFrom.cons (V3.VStep.val _ rfl _ rfl (.bool y3) rfl trivial (fun ev wq hS he hr => ?_)) ?_
    · have r0 : ev (.tmp 17) = .bool y2 := hr (17, some 12) (by simp); have r1 : ev (.tmp 22) = V3.gV y2 (.bool e3) := hr (22, some 17) (by simp); have hk := he.1; clear hr he
      have e := Y3.out; cases y2 <;> (simp only [Bool.false_and, Bool.true_and] at e; subst e; dsimp only [V3.gV] at r1; go_simp)
    refine V3.VFrom.cons (V3.VStep.val _ rfl _ rfl (.bool y3) rfl trivial (fun ev wq hS he hr => ?_)) ?_
    · have r0 : ev (.tmp 23) = .bool y3 := hr (23, some 18) (by simp); have hk := he.1; clear hr he
      go_simp
    refine V3.VFrom.cons (V3.VStep.valG _ rfl _ rfl y3 (.pointer (some ⟨N, 4, none⟩)) rfl 19 true rfl (fun h => by subst h; rfl) (fun h => by subst h; exact .inl rfl) (fun hy ev wq hS he hr => ?_)) ?_
    · subst hy; have r0 : ev (.tmp 2) = .pointer (some ⟨N, 0, none⟩) := hr (2, none) (by simp); have hk := he.1; clear hr he
      go_simp
    refine V3.VFrom.cons (V3.VStep.valG _ rfl _ rfl y3 (.bool gx) rfl 19 true rfl (fun h => by subst h; rfl) (fun h => by subst h; exact .inl rfl) (fun hy ev wq hS he hr => ?_)) ?_
    · subst hy; have r0 : ev (.tmp 25) = .pointer (some ⟨N, 4, none⟩) := hr (25, some 20) (by simp); have hk := he.1; clear hr he
      have c0 := (show World.cell? wq ⟨N, 4, none⟩ = some (.bool gx) from (HB1.out.kept hS.out (fun h => h)).cell 4)
      go_simp
    refine V3.VFrom.cons (V3.VStep.valG _ rfl _ rfl y3 (.pointer (some ⟨N + 1, 4, none⟩)) rfl 19 true rfl (fun h => by subst h; rfl) (fun h => by subst h; exact .inl rfl) (fun hy ev wq hS he hr => ?_)) ?_
    · subst hy; have r0 : ev (.tmp 3) = .pointer (some ⟨N + 1, 0, none⟩) := hr (3, none) (by simp); have hk := he.1; clear hr he
      go_simp
    refine V3.VFrom.cons (V3.VStep.valG _ rfl _ rfl y3 (.bool gy) rfl 19 true rfl (fun h => by subst h; rfl) (fun h => by subst h; exact .inl rfl) (fun hy ev wq hS he hr => ?_)) ?_
    · subst hy; have r0 : ev (.tmp 27) = .pointer (some ⟨N + 1, 4, none⟩) := hr (27, some 22) (by simp); have hk := he.1; clear hr he
      have c0 := (show World.cell? wq ⟨(N + 1), 4, none⟩ = some (.bool gy) from (HB2.out.kept hS.out (fun h => h)).cell 4)
      go_simp
    refine V3.VFrom.cons (V3.VStep.valG _ rfl _ rfl y3 (.bool e4) rfl 19 true rfl (fun h => by subst h; rfl) (fun h => by subst h; exact .inl rfl) (fun hy ev wq hS he hr => ?_)) ?_
    · subst hy; have r0 : ev (.tmp 26) = .bool gx := hr (26, some 21) (by simp); have r1 : ev (.tmp 28) = .bool gy := hr (28, some 23) (by simp); have hk := he.1; clear hr he
      have e1 := E4.out
      go_simp
    refine V3.VFrom.cons (V3.VStep.val _ rfl _ rfl (.bool y4) rfl trivial (fun ev wq hS he hr => ?_)) ?_
    · have r0 : ev (.tmp 24) = .bool y3 := hr (24, some 19) (by simp); have r1 : ev (.tmp 29) = V3.gV y3 (.bool e4) := hr (29, some 24) (by simp); have hk := he.1; clear hr he
      have e := Y4.out; cases y3 <;> (simp only [Bool.false_and, Bool.true_and] at e; subst e; dsimp only [V3.gV] at r1; go_simp)
    refine V3.VFrom.cons (V3.VStep.val _ rfl _ rfl (.bool y4) rfl trivial (fun ev wq hS he hr => ?_)) ?_
    · have r0 : ev (.tmp 30) = .bool y4 := hr (30, some 25) (by simp); have hk := he.1; clear hr he
      go_simp
    refine V3.VFrom.cons (V3.VStep.valG _ rfl _ rfl y4 (.pointer (some ⟨N, 5, none⟩)) rfl 26 true rfl (fun h => by subst h; rfl) (fun h => by subst h; exact .inl rfl) (fun hy ev wq hS he hr => ?_)) ?_
    · subst hy; have r0 : ev (.tmp 2) = .pointer (some ⟨N, 0, none⟩) := hr (2, none) (by simp); have hk := he.1; clear hr he
      go_simp
    refine V3.VFrom.cons (V3.VStep.valG _ rfl _ rfl y4 (.slice pv nV dv) rfl 26 true rfl (fun h => by subst h; rfl) (fun h => by subst h; exact .inl rfl) (fun hy ev wq hS he hr => ?_)) ?_
    · subst hy; have r0 : ev (.tmp 32) = .pointer (some ⟨N, 5, none⟩) := hr (32, some 27) (by simp); have hk := he.1; clear hr he
      have c0 := (show World.cell? wq ⟨N, 5, none⟩ = some (.slice pv nV dv) from (HB1.out.kept hS.out (fun h => h)).cell 5)
      go_simp
    refine V3.VFrom.cons (V3.VStep.valG _ rfl _ rfl y4 (.pointer (some ⟨N + 1, 5, none⟩)) rfl 26 true rfl (fun h => by subst h; rfl) (fun h => by subst h; exact .inl rfl) (fun hy ev wq hS he hr => ?_)) ?_
    · subst hy; have r0 : ev (.tmp 3) = .pointer (some ⟨N + 1, 0, none⟩) := hr (3, none) (by simp); have hk := he.1; clear hr he
      go_simp
    refine V3.VFrom.cons (V3.VStep.valG _ rfl _ rfl y4 (.slice qv nU du) rfl 26 true rfl (fun h => by subst h; rfl) (fun h => by subst h; exact .inl rfl) (fun hy ev wq hS he hr => ?_)) ?_
    · subst hy; have r0 : ev (.tmp 34) = .pointer (some ⟨N + 1, 5, none⟩) := hr (34, some 29) (by simp); have hk := he.1; clear hr he
      have c0 := (show World.cell? wq ⟨(N + 1), 5, none⟩ = some (.slice qv nU du) from (HB2.out.kept hS.out (fun h => h)).cell 5)
      go_simp
    refine V3.VFrom.cons (V3.VStep.callG _ rfl _ rfl y4 (.bool e5) rfl 26 true rfl (fun h => by subst h; rfl) (fun h => by subst h; exact .inl rfl) 43 #[.slice pv nV dv, .slice qv nU du] (fun hy ev wq hS he hr => ?_) (fun hy wq hS => ?_)) ?_
    · subst hy; have r0 : ev (.tmp 33) = .slice pv nV dv := hr (33, some 28) (by simp); have r1 : ev (.tmp 35) = .slice qv nU du := hr (35, some 30) (by simp); have hk := he.1; have hf := he.2; clear hr he
      go_simp
    · subst hy; exact (CE.out wq hS.out).mono fun e w' ⟨h1, h2⟩ => ⟨h1, hS.out.trans h2 (fun _ _ h => h)⟩
    refine V3.VFrom.cons (V3.VStep.val _ rfl _ rfl (.bool R) rfl trivial (fun ev wq hS he hr => ?_)) ?_
    · have r0 : ev (.tmp 31) = .bool y4 := hr (31, some 26) (by simp); have r1 : ev (.tmp 36) = V3.gV y4 (.bool e5) := hr (36, some 31) (by simp); have hk := he.1; clear hr he
      have e := YR.out; cases y4 <;> (simp only [Bool.false_and, Bool.true_and] at e; subst e; dsimp only [V3.gV] at r1; go_simp)
    refine V3.VFrom.cons (V3.VStep.val _ rfl _ rfl (.bool R) rfl trivial (fun ev wq hS he hr => ?_)) ?_
    · have r0 : ev (.tmp 37) = .bool R := hr (37, some 32) (by simp); have hk := he.1; clear hr he
      go_simp
    exact V3.VFrom.nil
  case hS => exact hid (Kp.refl Nb W)
  case hend =>
    intro w5 h5
    have K5 := hid (K0.out.trans h5.out (fun _ _ h => h))
    clear h5 K0
    simp only [V3.putAll, List.zip_cons_cons, List.zip_nil_right, List.foldl_cons, List.foldl_nil, Act.put, List.setIfInBounds_toArray, List.set_cons_zero, List.set_cons_succ]
    go_wp2
    go_ret
    exact ⟨rfl, K5.out⟩
set_option maxRecDepth 100000 in
set_option maxHeartbeats 8000000 in
theorem risame_any (x y : ItQ) (vp vv up uv : Value) (w : World) (hx : ItOk w x vp vv) (hy : ItOk w y up uv) (lx : x.past.length ≤ 1000) :
    Calls Tryz.prog 16 #[itVq x vp vv, itVq y up uv] w fun e w' => e = .returned (.bool (sameI x y)) ∧ Kp Nb w w' := by
  obtain ⟨pp, dp, rfl⟩ := hx.past.shape
  obtain ⟨pv, dv, rfl⟩ := by_shape hx.val
  obtain ⟨qp, dq, rfl⟩ := hy.past.shape
  obtain ⟨qv, du, rfl⟩ := by_shape hy.val
  obtain ⟨R, hR⟩ : ∃ b, sameI x y = b := ⟨_, rfl⟩
  have HR0 : sameI x y = R := hR
  rw [hR]
  obtain ⟨N, hN⟩ : ∃ N, w.heap.size = N := ⟨_, rfl⟩
  obtain ⟨W, hW⟩ : ∃ W, W = (w.alloc (.cells #[.string (st x.key), .int .i64 x.dn, .int .i64 x.dd, .slice pp x.past.length dp, .bool x.gone, .slice pv x.val.length dv] 28)).alloc (.cells #[.string (st y.key), .int .i64 y.dn, .int .i64 y.dd, .slice qp y.past.length dq, .bool y.gone, .slice qv y.val.length du] 28) := ⟨_, rfl⟩
  have HB1 : Hid (Blk W N 28 (itL (st x.key) x.dn x.dd (.slice pp x.past.length dp) x.gone (.slice pv x.val.length dv))) := hid (by rw [hW, ← hN]; exact (Blk.new w _ (itL (st x.key) x.dn x.dd (.slice pp x.past.length dp) x.gone (.slice pv x.val.length dv))).alloc _)
  have HB2 : Hid (Blk W (N + 1) 28 (itL (st y.key) y.dn y.dd (.slice qp y.past.length dq) y.gone (.slice qv y.val.length du))) := hid (by
    have h := Blk.new (w.alloc (.cells #[.string (st x.key), .int .i64 x.dn, .int .i64 x.dd, .slice pp x.past.length dp, .bool x.gone, .slice pv x.val.length dv] 28)) 28 (itL (st y.key) y.dn y.dd (.slice qp y.past.length dq) y.gone (.slice qv y.val.length du))
    simp only [World.size_alloc] at h
    rw [hW, ← hN]
    exact h)
  have K0 : Hid (Kp Nb w W) := hid (by rw [hW]; exact ((Kp.refl Nb w).alloc _).alloc _)
  have HX := hid (hx.kept K0.out)
  have HY := hid (hy.kept K0.out)
  have HRR := hid HR0
  clear hx hy hR HR0
  have hkb := st_beq x.key y.key HX.out.key HY.out.key
  obtain ⟨e1, he1⟩ : ∃ b, decide (x.key = y.key) = b := ⟨_, rfl⟩
  obtain ⟨e2, he2⟩ : ∃ b, decide ((x.dn, x.dd) = (y.dn, y.dd)) = b := ⟨_, rfl⟩
  obtain ⟨e3, he3⟩ : ∃ b, decide (x.past = y.past) = b := ⟨_, rfl⟩
  obtain ⟨e4, he4⟩ : ∃ b, (x.gone == y.gone) = b := ⟨_, rfl⟩
  obtain ⟨e5, he5⟩ : ∃ b, decide (x.val = y.val) = b := ⟨_, rfl⟩
  have E1 : Hid (((st x.key).toList == (st y.key).toList) = e1) := hid (hkb.trans he1)
  have E2 := hid he2
  have E4 := hid he4
  obtain ⟨y2, hy2⟩ : ∃ b, (e1 && e2) = b := ⟨_, rfl⟩
  obtain ⟨y3, hy3⟩ : ∃ b, (y2 && e3) = b := ⟨_, rfl⟩
  obtain ⟨y4, hy4⟩ : ∃ b, (y3 && e4) = b := ⟨_, rfl⟩
  have Y2 := hid hy2
  have Y3 := hid hy3
  have Y4 := hid hy4
  have YR : Hid ((y4 && e5) = R) := hid (by rw [← HRR.out, ← hy4, ← hy3, ← hy2, ← he1, ← he2, ← he3, ← he4, ← he5]; rfl)
  have CS : Hid (∀ wx, Kp Nb W wx → Calls Tryz.prog 49 #[.slice pp x.past.length dp, .slice qp y.past.length dq] wx fun e w' => e = .returned (.bool e3) ∧ Kp Nb wx w') := hid (fun wx k => by rw [← he3]; exact rsame_any _ _ _ _ wx (HX.out.past.kept k) (HY.out.past.kept k) (by omega))
  have hvb := st_beq x.val y.val HX.out.val.1 HY.out.val.1
  have CV1 : Hid (∀ wx, Kp Nb W wx → (convert 26 9 (.slice pv x.val.length dv)).run Tryz.prog wx = .ok (.string (st x.val)) wx) := hid (fun wx k => conv_any (HX.out.val.kept k (fun _ h => h)))
  have CV2 : Hid (∀ wx, Kp Nb W wx → (convert 26 9 (.slice qv y.val.length du)).run Tryz.prog wx = .ok (.string (st y.val)) wx) := hid (fun wx k => conv_any (HY.out.val.kept k (fun _ h => h)))
  have E5 : Hid (((st x.val).toList == (st y.val).toList) = e5) := hid (hvb.trans he5)
  obtain ⟨sv, hsv⟩ : ∃ s, st x.val = s := ⟨_, rfl⟩
  obtain ⟨su, hsu⟩ : ∃ s, st y.val = s := ⟨_, rfl⟩
  rw [hsv] at CV1 E5
  rw [hsu] at CV2 E5
  clear hvb hsv hsu HRR he1 he2 he3 he4 he5 hy2 hy3 hy4
  clear HX HY lx hkb
  obtain ⟨key, xn, xd, past, gx, val⟩ := x
  obtain ⟨key', yn, yd, past', gy, val'⟩ := y
  unfold itVq itV
  dsimp only at *
  obtain ⟨nP, hnP⟩ : ∃ n, past.length = n := ⟨_, rfl⟩
  obtain ⟨nV, hnV⟩ : ∃ n, val.length = n := ⟨_, rfl⟩
  obtain ⟨nQ, hnQ⟩ : ∃ n, past'.length = n := ⟨_, rfl⟩
  obtain ⟨nU, hnU⟩ : ∃ n, val'.length = n := ⟨_, rfl⟩
  obtain ⟨sk, hsk⟩ : ∃ s, st key = s := ⟨_, rfl⟩
  obtain ⟨sl, hsl⟩ : ∃ s, st key' = s := ⟨_, rfl⟩
  simp only [hnP, hnV, hnQ, hnU, hsk, hsl] at hW HB1 HB2 E1 CS CV1 CV2 ⊢
  clear hsk hsl hnP hnV hnQ hnU
  go_enter Tryz.func16, Tryz.ntmps16
  go_upto_region 1 with fail
  rw [← hW]
  clear hW hN
  refine V3.region_valsF [none, none, none, none, some 35, some 0, some 1, some 2, some 3, some 4, some 5, some 6, some 7, some 8, some 9, some 10, some 11, some 12, some 13, some 14, some 15, some 16, some 17, some 18, some 19, some 20, some 21, some 22, some 23, some 24, some 25, some 26, some 27, some 28, some 29, some 30, some 31, some 32, some 33, some 34] [[(2, none)], [(5, some 0)], [(3, none)], [(7, some 2)], [(6, some 1), (8, some 3)], [(9, some 4)], [(2, none)], [(11, some 6)], [(3, none)], [(13, some 8)], [(12, some 7), (14, some 9)], [(10, some 5), (15, some 10)], [(16, some 11)], [(2, none)], [(18, some 13)], [(3, none)], [(20, some 15)], [(19, some 14), (21, some 16)], [(17, some 12), (22, some 17)], [(23, some 18)], [(2, none)], [(25, some 20)], [(3, none)], [(27, some 22)], [(26, some 21), (28, some 23)], [(24, some 19), (29, some 24)], [(30, some 25)], [(2, none)], [(32, some 27)], [(33, some 28)], [(3, none)], [(35, some 30)], [(36, some 31)], [(34, some 29), (37, some 32)], [(31, some 26), (38, some 33)], [(39, some 34)]] [some 5, some 6, some 7, some 8, some 9, some 10, some 11, some 12, some 13, some 14, some 15, some 16, some 17, some 18, some 19, some 20, some 21, some 22, some 23, some 24, some 25, some 26, some 27, some 28, some 29, some 30, some 31, some 32, some 33, some 34, some 35, some 36, some 37, some 38, some 39, some 4] [.pointer (some ⟨N, 0, none⟩), .string sk, .pointer (some ⟨N + 1, 0, none⟩), .string sl, .bool e1, .bool e1, V3.gV e1 (.pointer (some ⟨N, 1, none⟩)), V3.gV e1 (dotV xn xd), V3.gV e1 (.pointer (some ⟨N + 1, 1, none⟩)), V3.gV e1 (dotV yn yd), V3.gV e1 (.bool e2), .bool y2, .bool y2, V3.gV y2 (.pointer (some ⟨N, 3, none⟩)), V3.gV y2 (.slice pp nP dp), V3.gV y2 (.pointer (some ⟨N + 1, 3, none⟩)), V3.gV y2 (.slice qp nQ dq), V3.gV y2 (.bool e3), .bool y3, .bool y3, V3.gV y3 (.pointer (some ⟨N, 4, none⟩)), V3.gV y3 (.bool gx), V3.gV y3 (.pointer (some ⟨N + 1, 4, none⟩)), V3.gV y3 (.bool gy), V3.gV y3 (.bool e4), .bool y4, .bool y4, V3.gV y4 (.pointer (some ⟨N, 5, none⟩)), V3.gV y4 (.slice pv nV dv), V3.gV y4 (.string sv), V3.gV y4 (.pointer (some ⟨N + 1, 5, none⟩)), V3.gV y4 (.slice qv nU du), V3.gV y4 (.string su), V3.gV y4 (.bool e5), .bool R, .bool R] (fun w' => Hid (Kp Nb W w')) (by kernel_rfl) (by kernel_rfl) ?hS (V3.VFrom.all (n := 36) (by kernel_rfl) ?hstep) ?hend
  case hstep =>
    refine V3.VFrom.cons (V3.VStep.val _ rfl _ rfl (.pointer (some ⟨N, 0, none⟩)) rfl trivial (fun ev wq hS he hr => ?_)) ?_
    · have r0 : ev (.tmp 2) = .pointer (some ⟨N, 0, none⟩) := hr (2, none) (by simp); have hk := he.1; clear hr he
      go_simp
    refine V3.VFrom.cons (V3.VStep.val _ rfl _ rfl (.string sk) rfl trivial (fun ev wq hS he hr => ?_)) ?_
    · have r0 : ev (.tmp 5) = .pointer (some ⟨N, 0, none⟩) := hr (5, some 0) (by simp); have hk := he.1; clear hr he
      have c0 := (show World.cell? wq ⟨N, 0, none⟩ = some (.string sk) from (HB1.out.kept hS.out (fun h => h)).cell 0)
      go_simp
    refine V3.VFrom.cons (V3.VStep.val _ rfl _ rfl (.pointer (some ⟨N + 1, 0, none⟩)) rfl trivial (fun ev wq hS he hr => ?_)) ?_
    · have r0 : ev (.tmp 3) = .pointer (some ⟨N + 1, 0, none⟩) := hr (3, none) (by simp); have hk := he.1; clear hr he
      go_simp
    refine V3.VFrom.cons (V3.VStep.val _ rfl _ rfl (.string sl) rfl trivial (fun ev wq hS he hr => ?_)) ?_
    · have r0 : ev (.tmp 7) = .pointer (some ⟨N + 1, 0, none⟩) := hr (7, some 2) (by simp); have hk := he.1; clear hr he
      have c0 := (show World.cell? wq ⟨(N + 1), 0, none⟩ = some (.string sl) from (HB2.out.kept hS.out (fun h => h)).cell 0)
      go_simp
    refine V3.VFrom.cons (V3.VStep.val _ rfl _ rfl (.bool e1) rfl trivial (fun ev wq hS he hr => ?_)) ?_
    · have r0 : ev (.tmp 6) = .string sk := hr (6, some 1) (by simp); have r1 : ev (.tmp 8) = .string sl := hr (8, some 3) (by simp); have hk := he.1; clear hr he
      have e1 := E1.out
      go_simp
    refine V3.VFrom.cons (V3.VStep.val _ rfl _ rfl (.bool e1) rfl trivial (fun ev wq hS he hr => ?_)) ?_
    · have r0 : ev (.tmp 9) = .bool e1 := hr (9, some 4) (by simp); have hk := he.1; clear hr he
      go_simp
    refine V3.VFrom.cons (V3.VStep.valG _ rfl _ rfl e1 (.pointer (some ⟨N, 1, none⟩)) rfl 5 true rfl (fun h => by subst h; rfl) (fun h => by subst h; exact .inl rfl) (fun hy ev wq hS he hr => ?_)) ?_
    · subst hy; have r0 : ev (.tmp 2) = .pointer (some ⟨N, 0, none⟩) := hr (2, none) (by simp); have hk := he.1; clear hr he
      go_simp
    refine V3.VFrom.cons (V3.VStep.valG _ rfl _ rfl e1 (dotV xn xd) rfl 5 true rfl (fun h => by subst h; rfl) (fun h => by subst h; exact .inl rfl) (fun hy ev wq hS he hr => ?_)) ?_
    · subst hy; have r0 : ev (.tmp 11) = .pointer (some ⟨N, 1, none⟩) := hr (11, some 6) (by simp); have hk := he.1; clear hr he
      exact exec_loadD rfl r0 (load_dotI (HB1.out.kept hS.out (fun h => h)))
    refine V3.VFrom.cons (V3.VStep.valG _ rfl _ rfl e1 (.pointer (some ⟨N + 1, 1, none⟩)) rfl 5 true rfl (fun h => by subst h; rfl) (fun h => by subst h; exact .inl rfl) (fun hy ev wq hS he hr => ?_)) ?_
    · subst hy; have r0 : ev (.tmp 3) = .pointer (some ⟨N + 1, 0, none⟩) := hr (3, none) (by simp); have hk := he.1; clear hr he
      go_simp
    refine V3.VFrom.cons (V3.VStep.valG _ rfl _ rfl e1 (dotV yn yd) rfl 5 true rfl (fun h => by subst h; rfl) (fun h => by subst h; exact .inl rfl) (fun hy ev wq hS he hr => ?_)) ?_
    · subst hy; have r0 : ev (.tmp 13) = .pointer (some ⟨N + 1, 1, none⟩) := hr (13, some 8) (by simp); have hk := he.1; clear hr he
      exact exec_loadD rfl r0 (load_dotI (HB2.out.kept hS.out (fun h => h)))
    refine V3.VFrom.cons (V3.VStep.valG _ rfl _ rfl e1 (.bool e2) rfl 5 true rfl (fun h => by subst h; rfl) (fun h => by subst h; exact .inl rfl) (fun hy ev wq hS he hr => ?_)) ?_
    · subst hy; have r0 : ev (.tmp 12) = dotV xn xd := hr (12, some 7) (by simp); have r1 : ev (.tmp 14) = dotV yn yd := hr (14, some 9) (by simp); have hk := he.1; clear hr he
      exact exec_eqDotI (p := (xn, xd)) (q := (yn, yd)) rfl r0 r1 E2.out
    refine V3.VFrom.cons (V3.VStep.val _ rfl _ rfl (.bool y2) rfl trivial (fun ev wq hS he hr => ?_)) ?_
    · have r0 : ev (.tmp 10) = .bool e1 := hr (10, some 5) (by simp); have r1 : ev (.tmp 15) = V3.gV e1 (.bool e2) := hr (15, some 10) (by simp); have hk := he.1; clear hr he
      have e := Y2.out; cases e1 <;> (simp only [Bool.false_and, Bool.true_and] at e; subst e; dsimp only [V3.gV] at r1; go_simp)
    refine V3.VFrom.cons (V3.VStep.val _ rfl _ rfl (.bool y2) rfl trivial (fun ev wq hS he hr => ?_)) ?_
    · have r0 : ev (.tmp 16) = .bool y2 := hr (16, some 11) (by simp); have hk := he.1; clear hr he
      go_simp
    refine V3.VFrom.cons (V3.VStep.valG _ rfl _ rfl y2 (.pointer (some ⟨N, 3, none⟩)) rfl 12 true rfl (fun h => by subst h; rfl) (fun h => by subst h; exact .inl rfl) (fun hy ev wq hS he hr => ?_)) ?_
    · subst hy; have r0 : ev (.tmp 2) = .pointer (some ⟨N, 0, none⟩) := hr (2, none) (by simp); have hk := he.1; clear hr he
      go_simp
    refine V3.VFrom.cons (V3.VStep.valG _ rfl _ rfl y2 (.slice pp nP dp) rfl 12 true rfl (fun h => by subst h; rfl) (fun h => by subst h; exact .inl rfl) (fun hy ev wq hS he hr => ?_)) ?_
    · subst hy; have r0 : ev (.tmp 18) = .pointer (some ⟨N, 3, none⟩) := hr (18, some 13) (by simp); have hk := he.1; clear hr he
      have c0 := (show World.cell? wq ⟨N, 3, none⟩ = some (.slice pp nP dp) from (HB1.out.kept hS.out (fun h => h)).cell 3)
      go_simp
    refine V3.VFrom.cons (V3.VStep.valG _ rfl _ rfl y2 (.pointer (some ⟨N + 1, 3, none⟩)) rfl 12 true rfl (fun h => by subst h; rfl) (fun h => by subst h; exact .inl rfl) (fun hy ev wq hS he hr => ?_)) ?_
    · subst hy; have r0 : ev (.tmp 3) = .pointer (some ⟨N + 1, 0, none⟩) := hr (3, none) (by simp); have hk := he.1; clear hr he
      go_simp
    refine V3.VFrom.cons (V3.VStep.valG _ rfl _ rfl y2 (.slice qp nQ dq) rfl 12 true rfl (fun h => by subst h; rfl) (fun h => by subst h; exact .inl rfl) (fun hy ev wq hS he hr => ?_)) ?_
    · subst hy; have r0 : ev (.tmp 20) = .pointer (some ⟨N + 1, 3, none⟩) := hr (20, some 15) (by simp); have hk := he.1; clear hr he
      have c0 := (show World.cell? wq ⟨(N + 1), 3, none⟩ = some (.slice qp nQ dq) from (HB2.out.kept hS.out (fun h => h)).cell 3)
      go_simp
    refine V3.VFrom.cons (V3.VStep.callG _ rfl _ rfl y2 (.bool e3) rfl 12 true rfl (fun h => by subst h; rfl) (fun h => by subst h; exact .inl rfl) 49 #[.slice pp nP dp, .slice qp nQ dq] (fun hy ev wq hS he hr => ?_) (fun hy wq hS => ?_)) ?_
    · subst hy; have r0 : ev (.tmp 19) = .slice pp nP dp := hr (19, some 14) (by simp); have r1 : ev (.tmp 21) = .slice qp nQ dq := hr (21, some 16) (by simp); have hk := he.1; have hf := he.2; clear hr he
      go_simp
    · subst hy; exact (CS.out wq hS.out).mono fun e w' ⟨h1, h2⟩ => ⟨h1, hS.out.trans h2 (fun _ _ h => h)⟩
    refine V3.VFrom.cons (V3.VStep.val _ rfl _ rfl (.bool y3) rfl trivial (fun ev wq hS he hr => ?_)) ?_
    · have r0 : ev (.tmp 17) = .bool y2 := hr (17, some 12) (by simp); have r1 : ev (.tmp 22) = V3.gV y2 (.bool e3) := hr (22, some 17) (by simp); have hk := he.1; clear hr he
      have e := Y3.out; cases y2 <;> (simp only [Bool.false_and, Bool.true_and] at e; subst e; dsimp only [V3.gV] at r1; go_simp)
    refine V3.VFrom.cons (V3.VStep.val _ rfl _ rfl (.bool y3) rfl trivial (fun ev wq hS he hr => ?_)) ?_
    · have r0 : ev (.tmp 23) = .bool y3 := hr (23, some 18) (by simp); have hk := he.1; clear hr he
      go_simp
    refine V3.VFrom.cons (V3.VStep.valG _ rfl _ rfl y3 (.pointer (some ⟨N, 4, none⟩)) rfl 19 true rfl (fun h => by subst h; rfl) (fun h => by subst h; exact .inl rfl) (fun hy ev wq hS he hr => ?_)) ?_
    · subst hy; have r0 : ev (.tmp 2) = .pointer (some ⟨N, 0, none⟩) := hr (2, none) (by simp); have hk := he.1; clear hr he
      go_simp
    refine V3.VFrom.cons (V3.VStep.valG _ rfl _ rfl y3 (.bool gx) rfl 19 true rfl (fun h => by subst h; rfl) (fun h => by subst h; exact .inl rfl) (fun hy ev wq hS he hr => ?_)) ?_
    · subst hy; have r0 : ev (.tmp 25) = .pointer (some ⟨N, 4, none⟩) := hr (25, some 20) (by simp); have hk := he.1; clear hr he
      have c0 := (show World.cell? wq ⟨N, 4, none⟩ = some (.bool gx) from (HB1.out.kept hS.out (fun h => h)).cell 4)
      go_simp
    refine V3.VFrom.cons (V3.VStep.valG _ rfl _ rfl y3 (.pointer (some ⟨N + 1, 4, none⟩)) rfl 19 true rfl (fun h => by subst h; rfl) (fun h => by subst h; exact .inl rfl) (fun hy ev wq hS he hr => ?_)) ?_
    · subst hy; have r0 : ev (.tmp 3) = .pointer (some ⟨N + 1, 0, none⟩) := hr (3, none) (by simp); have hk := he.1; clear hr he
      go_simp
    refine V3.VFrom.cons (V3.VStep.valG _ rfl _ rfl y3 (.bool gy) rfl 19 true rfl (fun h => by subst h; rfl) (fun h => by subst h; exact .inl rfl) (fun hy ev wq hS he hr => ?_)) ?_
    · subst hy; have r0 : ev (.tmp 27) = .pointer (some ⟨N + 1, 4, none⟩) := hr (27, some 22) (by simp); have hk := he.1; clear hr he
      have c0 := (show World.cell? wq ⟨(N + 1), 4, none⟩ = some (.bool gy) from (HB2.out.kept hS.out (fun h => h)).cell 4)
      go_simp
    refine V3.VFrom.cons (V3.VStep.valG _ rfl _ rfl y3 (.bool e4) rfl 19 true rfl (fun h => by subst h; rfl) (fun h => by subst h; exact .inl rfl) (fun hy ev wq hS he hr => ?_)) ?_
    · subst hy; have r0 : ev (.tmp 26) = .bool gx := hr (26, some 21) (by simp); have r1 : ev (.tmp 28) = .bool gy := hr (28, some 23) (by simp); have hk := he.1; clear hr he
      have e1 := E4.out
      go_simp
    refine V3.VFrom.cons (V3.VStep.val _ rfl _ rfl (.bool y4) rfl trivial (fun ev wq hS he hr => ?_)) ?_
    · have r0 : ev (.tmp 24) = .bool y3 := hr (24, some 19) (by simp); have r1 : ev (.tmp 29) = V3.gV y3 (.bool e4) := hr (29, some 24) (by simp); have hk := he.1; clear hr he
      have e := Y4.out; cases y3 <;> (simp only [Bool.false_and, Bool.true_and] at e; subst e; dsimp only [V3.gV] at r1; go_simp)
    refine V3.VFrom.cons (V3.VStep.val _ rfl _ rfl (.bool y4) rfl trivial (fun ev wq hS he hr => ?_)) ?_
    · have r0 : ev (.tmp 30) = .bool y4 := hr (30, some 25) (by simp); have hk := he.1; clear hr he
      go_simp
    refine V3.VFrom.cons (V3.VStep.valG _ rfl _ rfl y4 (.pointer (some ⟨N, 5, none⟩)) rfl 26 true rfl (fun h => by subst h; rfl) (fun h => by subst h; exact .inl rfl) (fun hy ev wq hS he hr => ?_)) ?_
    · subst hy; have r0 : ev (.tmp 2) = .pointer (some ⟨N, 0, none⟩) := hr (2, none) (by simp); have hk := he.1; clear hr he
      go_simp
    refine V3.VFrom.cons (V3.VStep.valG _ rfl _ rfl y4 (.slice pv nV dv) rfl 26 true rfl (fun h => by subst h; rfl) (fun h => by subst h; exact .inl rfl) (fun hy ev wq hS he hr => ?_)) ?_
    · subst hy; have r0 : ev (.tmp 32) = .pointer (some ⟨N, 5, none⟩) := hr (32, some 27) (by simp); have hk := he.1; clear hr he
      have c0 := (show World.cell? wq ⟨N, 5, none⟩ = some (.slice pv nV dv) from (HB1.out.kept hS.out (fun h => h)).cell 5)
      go_simp
    refine V3.VFrom.cons (V3.VStep.valG _ rfl _ rfl y4 (.string sv) rfl 26 true rfl (fun h => by subst h; rfl) (fun h => by subst h; exact .inl rfl) (fun hy ev wq hS he hr => ?_)) ?_
    · subst hy; have r0 : ev (.tmp 33) = .slice pv nV dv := hr (33, some 28) (by simp); have hk := he.1; clear hr he
      have e1 := CV1.out wq hS.out
      go_simp
    refine V3.VFrom.cons (V3.VStep.valG _ rfl _ rfl y4 (.pointer (some ⟨N + 1, 5, none⟩)) rfl 26 true rfl (fun h => by subst h; rfl) (fun h => by subst h; exact .inl rfl) (fun hy ev wq hS he hr => ?_)) ?_
    · subst hy; have r0 : ev (.tmp 3) = .pointer (some ⟨N + 1, 0, none⟩) := hr (3, none) (by simp); have hk := he.1; clear hr he
      go_simp
    refine V3.VFrom.cons (V3.VStep.valG _ rfl _ rfl y4 (.slice qv nU du) rfl 26 true rfl (fun h => by subst h; rfl) (fun h => by subst h; exact .inl rfl) (fun hy ev wq hS he hr => ?_)) ?_
    · subst hy; have r0 : ev (.tmp 35) = .pointer (some ⟨N + 1, 5, none⟩) := hr (35, some 30) (by simp); have hk := he.1; clear hr he
      have c0 := (show World.cell? wq ⟨(N + 1), 5, none⟩ = some (.slice qv nU du) from (HB2.out.kept hS.out (fun h => h)).cell 5)
      go_simp
    refine V3.VFrom.cons (V3.VStep.valG _ rfl _ rfl y4 (.string su) rfl 26 true rfl (fun h => by subst h; rfl) (fun h => by subst h; exact .inl rfl) (fun hy ev wq hS he hr => ?_)) ?_
    · subst hy; have r0 : ev (.tmp 36) = .slice qv nU du := hr (36, some 31) (by simp); have hk := he.1; clear hr he
      have e1 := CV2.out wq hS.out
      go_simp
    refine V3.VFrom.cons (V3.VStep.valG _ rfl _ rfl y4 (.bool e5) rfl 26 true rfl (fun h => by subst h; rfl) (fun h => by subst h; exact .inl rfl) (fun hy ev wq hS he hr => ?_)) ?_
    · subst hy; have r0 : ev (.tmp 34) = .string sv := hr (34, some 29) (by simp); have r1 : ev (.tmp 37) = .string su := hr (37, some 32) (by simp); have hk := he.1; clear hr he
      have e1 := E5.out
      go_simp
    refine V3.VFrom.cons (V3.VStep.val _ rfl _ rfl (.bool R) rfl trivial (fun ev wq hS he hr => ?_)) ?_
    · have r0 : ev (.tmp 31) = .bool y4 := hr (31, some 26) (by simp); have r1 : ev (.tmp 38) = V3.gV y4 (.bool e5) := hr (38, some 33) (by simp); have hk := he.1; clear hr he
      have e := YR.out; cases y4 <;> (simp only [Bool.false_and, Bool.true_and] at e; subst e; dsimp only [V3.gV] at r1; go_simp)
    refine V3.VFrom.cons (V3.VStep.val _ rfl _ rfl (.bool R) rfl trivial (fun ev wq hS he hr => ?_)) ?_
    · have r0 : ev (.tmp 39) = .bool R := hr (39, some 34) (by simp); have hk := he.1; clear hr he
      go_simp
    exact V3.VFrom.nil
  case hS => exact hid (Kp.refl Nb W)
  case hend =>
    intro w5 h5
    have K5 := hid (K0.out.trans h5.out (fun _ _ h => h))
    clear h5 K0
    simp only [V3.putAll, List.zip_cons_cons, List.zip_nil_right, List.foldl_cons, List.foldl_nil, Act.put, List.setIfInBounds_toArray, List.set_cons_zero, List.set_cons_succ]
    go_wp2
    go_ret
    exact ⟨rfl, K5.out⟩
set_option maxRecDepth 100000 in
set_option maxHeartbeats 8000000 in
theorem iabove_any (x y : ItQ) (vp vv up uv : Value) (w : World) (hx : ItOk w x vp vv) (hy : ItOk w y up uv) (lx : x.past.length ≤ 1000) :
    Calls Tryz.prog 14 #[itVq x vp vv, itVq y up uv] w fun e w' => e = .returned (.bool (aboveI x y)) ∧ Kp Nb w w' := by
  obtain ⟨pp, dp, rfl⟩ := hx.past.shape
  obtain ⟨pv, dv, rfl⟩ := by_shape hx.val
  obtain ⟨qp, dq, rfl⟩ := hy.past.shape
  obtain ⟨qv, du, rfl⟩ := by_shape hy.val
  obtain ⟨R, hR⟩ : ∃ b, aboveI x y = b := ⟨_, rfl⟩
  have HR0 : aboveI x y = R := hR
  rw [hR]
  obtain ⟨N, hN⟩ : ∃ N, w.heap.size = N := ⟨_, rfl⟩
  obtain ⟨W, hW⟩ : ∃ W, W = (w.alloc (.cells #[.string (st x.key), .int .i64 x.dn, .int .i64 x.dd, .slice pp x.past.length dp, .bool x.gone, .slice pv x.val.length dv] 28)).alloc (.cells #[.string (st y.key), .int .i64 y.dn, .int .i64 y.dd, .slice qp y.past.length dq, .bool y.gone, .slice qv y.val.length du] 28) := ⟨_, rfl⟩
  have HB1 : Hid (Blk W N 28 (itL (st x.key) x.dn x.dd (.slice pp x.past.length dp) x.gone (.slice pv x.val.length dv))) := hid (by rw [hW, ← hN]; exact (Blk.new w _ (itL (st x.key) x.dn x.dd (.slice pp x.past.length dp) x.gone (.slice pv x.val.length dv))).alloc _)
  have HB2 : Hid (Blk W (N + 1) 28 (itL (st y.key) y.dn y.dd (.slice qp y.past.length dq) y.gone (.slice qv y.val.length du))) := hid (by
    have h := Blk.new (w.alloc (.cells #[.string (st x.key), .int .i64 x.dn, .int .i64 x.dd, .slice pp x.past.length dp, .bool x.gone, .slice pv x.val.length dv] 28)) 28 (itL (st y.key) y.dn y.dd (.slice qp y.past.length dq) y.gone (.slice qv y.val.length du))
    simp only [World.size_alloc] at h
    rw [hW, ← hN]
    exact h)
  have K0 : Hid (Kp Nb w W) := hid (by rw [hW]; exact ((Kp.refl Nb w).alloc _).alloc _)
  have HX := hid (hx.kept K0.out)
  have HY := hid (hy.kept K0.out)
  have HRR := hid HR0
  clear hx hy hR HR0
  have hkb := st_beq x.key y.key HX.out.key HY.out.key
  obtain ⟨e1, he1⟩ : ∃ b, decide (x.key = y.key) = b := ⟨_, rfl⟩
  obtain ⟨rx, hrx⟩ : ∃ b, rightI x = b := ⟨_, rfl⟩
  obtain ⟨ry, hry⟩ : ∃ b, rightI y = b := ⟨_, rfl⟩
  obtain ⟨hb, hhb⟩ : ∃ b, hasC x.past y.dn y.dd = b := ⟨_, rfl⟩
  have E1 : Hid (((st x.key).toList == (st y.key).toList) = e1) := hid (hkb.trans he1)
  obtain ⟨y2, hy2⟩ : ∃ b, (e1 && rx) = b := ⟨_, rfl⟩
  obtain ⟨y3, hy3⟩ : ∃ b, (y2 && ry) = b := ⟨_, rfl⟩
  have Y2 := hid hy2
  have Y3 := hid hy3
  have YR : Hid ((y3 && hb) = R) := hid (by rw [← HRR.out, ← hy3, ← hy2]; unfold aboveI; rw [he1, hrx, hry, hhb])
  have C1 : Hid (∀ wx, Kp Nb W wx → Calls Tryz.prog 13 #[itV (st x.key) x.dn x.dd (.slice pp x.past.length dp) x.gone (.slice pv x.val.length dv)] wx fun e w' => e = .returned (.bool rx) ∧ Kp Nb wx w') := hid (fun wx k => by rw [← hrx]; exact iright_any x _ _ wx (HX.out.kept k))
  have C2 : Hid (∀ wx, Kp Nb W wx → Calls Tryz.prog 13 #[itV (st y.key) y.dn y.dd (.slice qp y.past.length dq) y.gone (.slice qv y.val.length du)] wx fun e w' => e = .returned (.bool ry) ∧ Kp Nb wx w') := hid (fun wx k => by rw [← hry]; exact iright_any y _ _ wx (HY.out.kept k))
  have CH : Hid (∀ wx, Kp Nb W wx → Calls Tryz.prog 47 #[.slice pp x.past.length dp, dotV y.dn y.dd] wx fun e w' => e = .returned (.bool hb) ∧ Kp Nb wx w') := hid (fun wx k => by rw [← hhb]; exact has_any _ _ y.dn y.dd wx (HX.out.past.kept k) (by omega))
  clear HRR he1 hrx hry hhb hy2 hy3
  clear HX HY lx hkb
  obtain ⟨key, xn, xd, past, gx, val⟩ := x
  obtain ⟨key', yn, yd, past', gy, val'⟩ := y
  unfold itVq itV
  dsimp only at *
  obtain ⟨nP, hnP⟩ : ∃ n, past.length = n := ⟨_, rfl⟩
  obtain ⟨nV, hnV⟩ : ∃ n, val.length = n := ⟨_, rfl⟩
  obtain ⟨nQ, hnQ⟩ : ∃ n, past'.length = n := ⟨_, rfl⟩
  obtain ⟨nU, hnU⟩ : ∃ n, val'.length = n := ⟨_, rfl⟩
  obtain ⟨sk, hsk⟩ : ∃ s, st key = s := ⟨_, rfl⟩
  obtain ⟨sl, hsl⟩ : ∃ s, st key' = s := ⟨_, rfl⟩
  simp only [hnP, hnV, hnQ, hnU, hsk, hsl] at hW HB1 HB2 E1 C1 C2 CH ⊢
  clear hsk hsl hnP hnV hnQ hnU
  go_enter Tryz.func14, Tryz.ntmps14
  go_upto_region 1 with fail
  rw [← hW]
  clear hW hN
  refine V3.region_valsF [none, none, none, none, some 20, some 0, some 1, some 2, some 3, some 4, some 5, some 6, some 7, some 8, some 9, some 10, some 11, some 12, some 13, some 14, some 15, some 16, some 17, some 18, some 19] [[(2, none)], [(5, some 0)], [(3, none)], [(7, some 2)], [(6, some 1), (8, some 3)], [(9, some 4)], [(2, none)], [(11, some 6)], [(10, some 5), (12, some 7)], [(13, some 8)], [(3, none)], [(15, some 10)], [(14, some 9), (16, some 11)], [(17, some 12)], [(2, none)], [(19, some 14)], [(3, none)], [(21, some 16)], [(20, some 15), (22, some 17)], [(18, some 13), (23, some 18)], [(24, some 19)]] [some 5, some 6, some 7, some 8, some 9, some 10, some 11, some 12, some 13, some 14, some 15, some 16, some 17, some 18, some 19, some 20, some 21, some 22, some 23, some 24, some 4] [.pointer (some ⟨N, 0, none⟩), .string sk, .pointer (some ⟨N + 1, 0, none⟩), .string sl, .bool e1, .bool e1, V3.gV e1 (itV sk xn xd (.slice pp nP dp) gx (.slice pv nV dv)), V3.gV e1 (.bool rx), .bool y2, .bool y2, V3.gV y2 (itV sl yn yd (.slice qp nQ dq) gy (.slice qv nU du)), V3.gV y2 (.bool ry), .bool y3, .bool y3, V3.gV y3 (.pointer (some ⟨N, 3, none⟩)), V3.gV y3 (.slice pp nP dp), V3.gV y3 (.pointer (some ⟨N + 1, 1, none⟩)), V3.gV y3 (dotV yn yd), V3.gV y3 (.bool hb), .bool R, .bool R] (fun w' => Hid (Kp Nb W w')) (by kernel_rfl) (by kernel_rfl) ?hS (V3.VFrom.all (n := 21) (by kernel_rfl) ?hstep) ?hend
  case hstep =>
    refine V3.VFrom.cons (V3.VStep.val _ rfl _ rfl (.pointer (some ⟨N, 0, none⟩)) rfl trivial (fun ev wq hS he hr => ?_)) ?_
    · have r0 : ev (.tmp 2) = .pointer (some ⟨N, 0, none⟩) := hr (2, none) (by simp); have hk := he.1; clear hr he
      go_simp
    refine V3.VFrom.cons (V3.VStep.val _ rfl _ rfl (.string sk) rfl trivial (fun ev wq hS he hr => ?_)) ?_
    · have r0 : ev (.tmp 5) = .pointer (some ⟨N, 0, none⟩) := hr (5, some 0) (by simp); have hk := he.1; clear hr he
      have c0 := (show World.cell? wq ⟨N, 0, none⟩ = some (.string sk) from (HB1.out.kept hS.out (fun h => h)).cell 0)
      go_simp
    refine V3.VFrom.cons (V3.VStep.val _ rfl _ rfl (.pointer (some ⟨N + 1, 0, none⟩)) rfl trivial (fun ev wq hS he hr => ?_)) ?_
    · have r0 : ev (.tmp 3) = .pointer (some ⟨N + 1, 0, none⟩) := hr (3, none) (by simp); have hk := he.1; clear hr he
      go_simp
    refine V3.VFrom.cons (V3.VStep.val _ rfl _ rfl (.string sl) rfl trivial (fun ev wq hS he hr => ?_)) ?_
    · have r0 : ev (.tmp 7) = .pointer (some ⟨N + 1, 0, none⟩) := hr (7, some 2) (by simp); have hk := he.1; clear hr he
      have c0 := (show World.cell? wq ⟨(N + 1), 0, none⟩ = some (.string sl) from (HB2.out.kept hS.out (fun h => h)).cell 0)
      go_simp
    refine V3.VFrom.cons (V3.VStep.val _ rfl _ rfl (.bool e1) rfl trivial (fun ev wq hS he hr => ?_)) ?_
    · have r0 : ev (.tmp 6) = .string sk := hr (6, some 1) (by simp); have r1 : ev (.tmp 8) = .string sl := hr (8, some 3) (by simp); have hk := he.1; clear hr he
      have e1 := E1.out
      go_simp
    refine V3.VFrom.cons (V3.VStep.val _ rfl _ rfl (.bool e1) rfl trivial (fun ev wq hS he hr => ?_)) ?_
    · have r0 : ev (.tmp 9) = .bool e1 := hr (9, some 4) (by simp); have hk := he.1; clear hr he
      go_simp
    refine V3.VFrom.cons (V3.VStep.valG _ rfl _ rfl e1 (itV sk xn xd (.slice pp nP dp) gx (.slice pv nV dv)) rfl 5 true rfl (fun h => by subst h; rfl) (fun h => by subst h; exact .inl rfl) (fun hy ev wq hS he hr => ?_)) ?_
    · subst hy; have r0 : ev (.tmp 2) = .pointer (some ⟨N, 0, none⟩) := hr (2, none) (by simp); have hk := he.1; clear hr he
      exact exec_loadD rfl r0 (load_item (HB1.out.kept hS.out (fun h => h)))
    refine V3.VFrom.cons (V3.VStep.callG _ rfl _ rfl e1 (.bool rx) rfl 5 true rfl (fun h => by subst h; rfl) (fun h => by subst h; exact .inl rfl) 13 #[itV sk xn xd (.slice pp nP dp) gx (.slice pv nV dv)] (fun hy ev wq hS he hr => ?_) (fun hy wq hS => ?_)) ?_
    · subst hy; have r0 : ev (.tmp 11) = itV sk xn xd (.slice pp nP dp) gx (.slice pv nV dv) := hr (11, some 6) (by simp); have hk := he.1; have hf := he.2; clear hr he
      go_simp
    · subst hy; exact (C1.out wq hS.out).mono fun e w' ⟨h1, h2⟩ => ⟨h1, hS.out.trans h2 (fun _ _ h => h)⟩
    refine V3.VFrom.cons (V3.VStep.val _ rfl _ rfl (.bool y2) rfl trivial (fun ev wq hS he hr => ?_)) ?_
    · have r0 : ev (.tmp 10) = .bool e1 := hr (10, some 5) (by simp); have r1 : ev (.tmp 12) = V3.gV e1 (.bool rx) := hr (12, some 7) (by simp); have hk := he.1; clear hr he
      have e := Y2.out; cases e1 <;> (simp only [Bool.false_and, Bool.true_and] at e; subst e; dsimp only [V3.gV] at r1; go_simp)
    refine V3.VFrom.cons (V3.VStep.val _ rfl _ rfl (.bool y2) rfl trivial (fun ev wq hS he hr => ?_)) ?_
    · have r0 : ev (.tmp 13) = .bool y2 := hr (13, some 8) (by simp); have hk := he.1; clear hr he
      go_simp
    refine V3.VFrom.cons (V3.VStep.valG _ rfl _ rfl y2 (itV sl yn yd (.slice qp nQ dq) gy (.slice qv nU du)) rfl 9 true rfl (fun h => by subst h; rfl) (fun h => by subst h; exact .inl rfl) (fun hy ev wq hS he hr => ?_)) ?_
    · subst hy; have r0 : ev (.tmp 3) = .pointer (some ⟨N + 1, 0, none⟩) := hr (3, none) (by simp); have hk := he.1; clear hr he
      exact exec_loadD rfl r0 (load_item (HB2.out.kept hS.out (fun h => h)))
    refine V3.VFrom.cons (V3.VStep.callG _ rfl _ rfl y2 (.bool ry) rfl 9 true rfl (fun h => by subst h; rfl) (fun h => by subst h; exact .inl rfl) 13 #[itV sl yn yd (.slice qp nQ dq) gy (.slice qv nU du)] (fun hy ev wq hS he hr => ?_) (fun hy wq hS => ?_)) ?_
    · subst hy; have r0 : ev (.tmp 15) = itV sl yn yd (.slice qp nQ dq) gy (.slice qv nU du) := hr (15, some 10) (by simp); have hk := he.1; have hf := he.2; clear hr he
      go_simp
    · subst hy; exact (C2.out wq hS.out).mono fun e w' ⟨h1, h2⟩ => ⟨h1, hS.out.trans h2 (fun _ _ h => h)⟩
    refine V3.VFrom.cons (V3.VStep.val _ rfl _ rfl (.bool y3) rfl trivial (fun ev wq hS he hr => ?_)) ?_
    · have r0 : ev (.tmp 14) = .bool y2 := hr (14, some 9) (by simp); have r1 : ev (.tmp 16) = V3.gV y2 (.bool ry) := hr (16, some 11) (by simp); have hk := he.1; clear hr he
      have e := Y3.out; cases y2 <;> (simp only [Bool.false_and, Bool.true_and] at e; subst e; dsimp only [V3.gV] at r1; go_simp)
    refine V3.VFrom.cons (V3.VStep.val _ rfl _ rfl (.bool y3) rfl trivial (fun ev wq hS he hr => ?_)) ?_
    · have r0 : ev (.tmp 17) = .bool y3 := hr (17, some 12) (by simp); have hk := he.1; clear hr he
      go_simp
    refine V3.VFrom.cons (V3.VStep.valG _ rfl _ rfl y3 (.pointer (some ⟨N, 3, none⟩)) rfl 13 true rfl (fun h => by subst h; rfl) (fun h => by subst h; exact .inl rfl) (fun hy ev wq hS he hr => ?_)) ?_
    · subst hy; have r0 : ev (.tmp 2) = .pointer (some ⟨N, 0, none⟩) := hr (2, none) (by simp); have hk := he.1; clear hr he
      go_simp
    refine V3.VFrom.cons (V3.VStep.valG _ rfl _ rfl y3 (.slice pp nP dp) rfl 13 true rfl (fun h => by subst h; rfl) (fun h => by subst h; exact .inl rfl) (fun hy ev wq hS he hr => ?_)) ?_
    · subst hy; have r0 : ev (.tmp 19) = .pointer (some ⟨N, 3, none⟩) := hr (19, some 14) (by simp); have hk := he.1; clear hr he
      have c0 := (show World.cell? wq ⟨N, 3, none⟩ = some (.slice pp nP dp) from (HB1.out.kept hS.out (fun h => h)).cell 3)
      go_simp
    refine V3.VFrom.cons (V3.VStep.valG _ rfl _ rfl y3 (.pointer (some ⟨N + 1, 1, none⟩)) rfl 13 true rfl (fun h => by subst h; rfl) (fun h => by subst h; exact .inl rfl) (fun hy ev wq hS he hr => ?_)) ?_
    · subst hy; have r0 : ev (.tmp 3) = .pointer (some ⟨N + 1, 0, none⟩) := hr (3, none) (by simp); have hk := he.1; clear hr he
      go_simp
    refine V3.VFrom.cons (V3.VStep.valG _ rfl _ rfl y3 (dotV yn yd) rfl 13 true rfl (fun h => by subst h; rfl) (fun h => by subst h; exact .inl rfl) (fun hy ev wq hS he hr => ?_)) ?_
    · subst hy; have r0 : ev (.tmp 21) = .pointer (some ⟨N + 1, 1, none⟩) := hr (21, some 16) (by simp); have hk := he.1; clear hr he
      exact exec_loadD rfl r0 (load_dotI (HB2.out.kept hS.out (fun h => h)))
    refine V3.VFrom.cons (V3.VStep.callG _ rfl _ rfl y3 (.bool hb) rfl 13 true rfl (fun h => by subst h; rfl) (fun h => by subst h; exact .inl rfl) 47 #[.slice pp nP dp, dotV yn yd] (fun hy ev wq hS he hr => ?_) (fun hy wq hS => ?_)) ?_
    · subst hy; have r0 : ev (.tmp 20) = .slice pp nP dp := hr (20, some 15) (by simp); have r1 : ev (.tmp 22) = dotV yn yd := hr (22, some 17) (by simp); have hk := he.1; have hf := he.2; clear hr he
      go_simp
    · subst hy; exact (CH.out wq hS.out).mono fun e w' ⟨h1, h2⟩ => ⟨h1, hS.out.trans h2 (fun _ _ h => h)⟩
    refine V3.VFrom.cons (V3.VStep.val _ rfl _ rfl (.bool R) rfl trivial (fun ev wq hS he hr => ?_)) ?_
    · have r0 : ev (.tmp 18) = .bool y3 := hr (18, some 13) (by simp); have r1 : ev (.tmp 23) = V3.gV y3 (.bool hb) := hr (23, some 18) (by simp); have hk := he.1; clear hr he
      have e := YR.out; cases y3 <;> (simp only [Bool.false_and, Bool.true_and] at e; subst e; dsimp only [V3.gV] at r1; go_simp)
    refine V3.VFrom.cons (V3.VStep.val _ rfl _ rfl (.bool R) rfl trivial (fun ev wq hS he hr => ?_)) ?_
    · have r0 : ev (.tmp 24) = .bool R := hr (24, some 19) (by simp); have hk := he.1; clear hr he
      go_simp
    exact V3.VFrom.nil
  case hS => exact hid (Kp.refl Nb W)
  case hend =>
    intro w5 h5
    have K5 := hid (K0.out.trans h5.out (fun _ _ h => h))
    clear h5 K0
    simp only [V3.putAll, List.zip_cons_cons, List.zip_nil_right, List.foldl_cons, List.foldl_nil, Act.put, List.setIfInBounds_toArray, List.set_cons_zero, List.set_cons_succ]
    go_wp2
    go_ret
    exact ⟨rfl, K5.out⟩
set_option maxRecDepth 100000 in
set_option maxHeartbeats 8000000 in
theorem riabove_any (x y : ItQ) (vp vv up uv : Value) (w : World) (hx : ItOk w x vp vv) (hy : ItOk w y up uv) (lx : x.past.length ≤ 1000) :
    Calls Tryz.prog 15 #[itVq x vp vv, itVq y up uv] w fun e w' => e = .returned (.bool (aboveI x y)) ∧ Kp Nb w w' := by
  obtain ⟨pp, dp, rfl⟩ := hx.past.shape
  obtain ⟨pv, dv, rfl⟩ := by_shape hx.val
  obtain ⟨qp, dq, rfl⟩ := hy.past.shape
  obtain ⟨qv, du, rfl⟩ := by_shape hy.val
  obtain ⟨R, hR⟩ : ∃ b, aboveI x y = b := ⟨_, rfl⟩
  have HR0 : aboveI x y = R := hR
  rw [hR]
  obtain ⟨N, hN⟩ : ∃ N, w.heap.size = N := ⟨_, rfl⟩
  obtain ⟨W, hW⟩ : ∃ W, W = (w.alloc (.cells #[.string (st x.key), .int .i64 x.dn, .int .i64 x.dd, .slice pp x.past.length dp, .bool x.gone, .slice pv x.val.length dv] 28)).alloc (.cells #[.string (st y.key), .int .i64 y.dn, .int .i64 y.dd, .slice qp y.past.length dq, .bool y.gone, .slice qv y.val.length du] 28) := ⟨_, rfl⟩
  have HB1 : Hid (Blk W N 28 (itL (st x.key) x.dn x.dd (.slice pp x.past.length dp) x.gone (.slice pv x.val.length dv))) := hid (by rw [hW, ← hN]; exact (Blk.new w _ (itL (st x.key) x.dn x.dd (.slice pp x.past.length dp) x.gone (.slice pv x.val.length dv))).alloc _)
  have HB2 : Hid (Blk W (N + 1) 28 (itL (st y.key) y.dn y.dd (.slice qp y.past.length dq) y.gone (.slice qv y.val.length du))) := hid (by
    have h := Blk.new (w.alloc (.cells #[.string (st x.key), .int .i64 x.dn, .int .i64 x.dd, .slice pp x.past.length dp, .bool x.gone, .slice pv x.val.length dv] 28)) 28 (itL (st y.key) y.dn y.dd (.slice qp y.past.length dq) y.gone (.slice qv y.val.length du))
    simp only [World.size_alloc] at h
    rw [hW, ← hN]
    exact h)
  have K0 : Hid (Kp Nb w W) := hid (by rw [hW]; exact ((Kp.refl Nb w).alloc _).alloc _)
  have HX := hid (hx.kept K0.out)
  have HY := hid (hy.kept K0.out)
  have HRR := hid HR0
  clear hx hy hR HR0
  have hkb := st_beq x.key y.key HX.out.key HY.out.key
  obtain ⟨e1, he1⟩ : ∃ b, decide (x.key = y.key) = b := ⟨_, rfl⟩
  obtain ⟨rx, hrx⟩ : ∃ b, rightI x = b := ⟨_, rfl⟩
  obtain ⟨ry, hry⟩ : ∃ b, rightI y = b := ⟨_, rfl⟩
  obtain ⟨hb, hhb⟩ : ∃ b, hasC x.past y.dn y.dd = b := ⟨_, rfl⟩
  have E1 : Hid (((st x.key).toList == (st y.key).toList) = e1) := hid (hkb.trans he1)
  obtain ⟨y2, hy2⟩ : ∃ b, (rx && ry) = b := ⟨_, rfl⟩
  obtain ⟨y3, hy3⟩ : ∃ b, (y2 && e1) = b := ⟨_, rfl⟩
  have Y2 := hid hy2
  have Y3 := hid hy3
  have YR : Hid ((y3 && hb) = R) := hid (by rw [← HRR.out, ← hy3, ← hy2]; unfold aboveI; rw [he1, hrx, hry, hhb]; cases e1 <;> cases rx <;> cases ry <;> rfl)
  have C1 : Hid (∀ wx, Kp Nb W wx → Calls Tryz.prog 9 #[itV (st x.key) x.dn x.dd (.slice pp x.past.length dp) x.gone (.slice pv x.val.length dv)] wx fun e w' => e = .returned (.bool rx) ∧ Kp Nb wx w') := hid (fun wx k => by rw [← hrx]; exact riright_any x _ _ wx (HX.out.kept k))
  have C2 : Hid (∀ wx, Kp Nb W wx → Calls Tryz.prog 9 #[itV (st y.key) y.dn y.dd (.slice qp y.past.length dq) y.gone (.slice qv y.val.length du)] wx fun e w' => e = .returned (.bool ry) ∧ Kp Nb wx w') := hid (fun wx k => by rw [← hry]; exact riright_any y _ _ wx (HY.out.kept k))
  have CH : Hid (∀ wx, Kp Nb W wx → Calls Tryz.prog 48 #[.slice pp x.past.length dp, dotV y.dn y.dd] wx fun e w' => e = .returned (.bool hb) ∧ Kp Nb wx w') := hid (fun wx k => by rw [← hhb]; exact rhas_any _ _ y.dn y.dd wx (HX.out.past.kept k) (by omega))
  clear HRR he1 hrx hry hhb hy2 hy3
  clear HX HY lx hkb
  obtain ⟨key, xn, xd, past, gx, val⟩ := x
  obtain ⟨key', yn, yd, past', gy, val'⟩ := y
  unfold itVq itV
  dsimp only at *
  obtain ⟨nP, hnP⟩ : ∃ n, past.length = n := ⟨_, rfl⟩
  obtain ⟨nV, hnV⟩ : ∃ n, val.length = n := ⟨_, rfl⟩
  obtain ⟨nQ, hnQ⟩ : ∃ n, past'.length = n := ⟨_, rfl⟩
  obtain ⟨nU, hnU⟩ : ∃ n, val'.length = n := ⟨_, rfl⟩
  obtain ⟨sk, hsk⟩ : ∃ s, st key = s := ⟨_, rfl⟩
  obtain ⟨sl, hsl⟩ : ∃ s, st key' = s := ⟨_, rfl⟩
  simp only [hnP, hnV, hnQ, hnU, hsk, hsl] at hW HB1 HB2 E1 C1 C2 CH ⊢
  clear hsk hsl hnP hnV hnQ hnU
  go_enter Tryz.func15, Tryz.ntmps15
  go_upto_region 1 with fail
  rw [← hW]
  clear hW hN
  refine V3.region_valsF [none, none, none, none, some 20, some 0, some 1, some 2, some 3, some 4, some 5, some 6, some 7, some 8, some 9, some 10, some 11, some 12, some 13, some 14, some 15, some 16, some 17, some 18, some 19] [[(2, none)], [(5, some 0)], [(6, some 1)], [(3, none)], [(8, some 3)], [(7, some 2), (9, some 4)], [(10, some 5)], [(2, none)], [(12, some 7)], [(3, none)], [(14, some 9)], [(13, some 8), (15, some 10)], [(11, some 6), (16, some 11)], [(17, some 12)], [(2, none)], [(19, some 14)], [(3, none)], [(21, some 16)], [(20, some 15), (22, some 17)], [(18, some 13), (23, some 18)], [(24, some 19)]] [some 5, some 6, some 7, some 8, some 9, some 10, some 11, some 12, some 13, some 14, some 15, some 16, some 17, some 18, some 19, some 20, some 21, some 22, some 23, some 24, some 4] [itV sk xn xd (.slice pp nP dp) gx (.slice pv nV dv), .bool rx, .bool rx, V3.gV rx (itV sl yn yd (.slice qp nQ dq) gy (.slice qv nU du)), V3.gV rx (.bool ry), .bool y2, .bool y2, V3.gV y2 (.pointer (some ⟨N, 0, none⟩)), V3.gV y2 (.string sk), V3.gV y2 (.pointer (some ⟨N + 1, 0, none⟩)), V3.gV y2 (.string sl), V3.gV y2 (.bool e1), .bool y3, .bool y3, V3.gV y3 (.pointer (some ⟨N, 3, none⟩)), V3.gV y3 (.slice pp nP dp), V3.gV y3 (.pointer (some ⟨N + 1, 1, none⟩)), V3.gV y3 (dotV yn yd), V3.gV y3 (.bool hb), .bool R, .bool R] (fun w' => Hid (Kp Nb W w')) (by kernel_rfl) (by kernel_rfl) ?hS (V3.VFrom.all (n := 21) (by kernel_rfl) ?hstep) ?hend
  case hstep =>
    refine V3.VFrom.cons (V3.VStep.val _ rfl _ rfl (itV sk xn xd (.slice pp nP dp) gx (.slice pv nV dv)) rfl trivial (fun ev wq hS he hr => ?_)) ?_
    · have r0 : ev (.tmp 2) = .pointer (some ⟨N, 0, none⟩) := hr (2, none) (by simp); have hk := he.1; clear hr he
      exact exec_loadD rfl r0 (load_item (HB1.out.kept hS.out (fun h => h)))
    refine V3.VFrom.cons (V3.VStep.call _ rfl _ rfl (.bool rx) rfl trivial 9 #[itV sk xn xd (.slice pp nP dp) gx (.slice pv nV dv)] (fun ev wq hS he hr => ?_) (fun wq hS => ?_)) ?_
    · have r0 : ev (.tmp 5) = itV sk xn xd (.slice pp nP dp) gx (.slice pv nV dv) := hr (5, some 0) (by simp); have hk := he.1; have hf := he.2; clear hr he
      go_simp
    · exact (C1.out wq hS.out).mono fun e w' ⟨h1, h2⟩ => ⟨h1, hS.out.trans h2 (fun _ _ h => h)⟩
    refine V3.VFrom.cons (V3.VStep.val _ rfl _ rfl (.bool rx) rfl trivial (fun ev wq hS he hr => ?_)) ?_
    · have r0 : ev (.tmp 6) = .bool rx := hr (6, some 1) (by simp); have hk := he.1; clear hr he
      go_simp
    refine V3.VFrom.cons (V3.VStep.valG _ rfl _ rfl rx (itV sl yn yd (.slice qp nQ dq) gy (.slice qv nU du)) rfl 2 true rfl (fun h => by subst h; rfl) (fun h => by subst h; exact .inl rfl) (fun hy ev wq hS he hr => ?_)) ?_
    · subst hy; have r0 : ev (.tmp 3) = .pointer (some ⟨N + 1, 0, none⟩) := hr (3, none) (by simp); have hk := he.1; clear hr he
      exact exec_loadD rfl r0 (load_item (HB2.out.kept hS.out (fun h => h)))
    refine V3.VFrom.cons (V3.VStep.callG _ rfl _ rfl rx (.bool ry) rfl 2 true rfl (fun h => by subst h; rfl) (fun h => by subst h; exact .inl rfl) 9 #[itV sl yn yd (.slice qp nQ dq) gy (.slice qv nU du)] (fun hy ev wq hS he hr => ?_) (fun hy wq hS => ?_)) ?_
    · subst hy; have r0 : ev (.tmp 8) = itV sl yn yd (.slice qp nQ dq) gy (.slice qv nU du) := hr (8, some 3) (by simp); have hk := he.1; have hf := he.2; clear hr he
      go_simp
    · subst hy; exact (C2.out wq hS.out).mono fun e w' ⟨h1, h2⟩ => ⟨h1, hS.out.trans h2 (fun _ _ h => h)⟩
    refine V3.VFrom.cons (V3.VStep.val _ rfl _ rfl (.bool y2) rfl trivial (fun ev wq hS he hr => ?_)) ?_
    · have r0 : ev (.tmp 7) = .bool rx := hr (7, some 2) (by simp); have r1 : ev (.tmp 9) = V3.gV rx (.bool ry) := hr (9, some 4) (by simp); have hk := he.1; clear hr he
      have e := Y2.out; cases rx <;> (simp only [Bool.false_and, Bool.true_and] at e; subst e; dsimp only [V3.gV] at r1; go_simp)
    refine V3.VFrom.cons (V3.VStep.val _ rfl _ rfl (.bool y2) rfl trivial (fun ev wq hS he hr => ?_)) ?_
    · have r0 : ev (.tmp 10) = .bool y2 := hr (10, some 5) (by simp); have hk := he.1; clear hr he
      go_simp
    refine V3.VFrom.cons (V3.VStep.valG _ rfl _ rfl y2 (.pointer (some ⟨N, 0, none⟩)) rfl 6 true rfl (fun h => by subst h; rfl) (fun h => by subst h; exact .inl rfl) (fun hy ev wq hS he hr => ?_)) ?_
    · subst hy; have r0 : ev (.tmp 2) = .pointer (some ⟨N, 0, none⟩) := hr (2, none) (by simp); have hk := he.1; clear hr he
      go_simp
    refine V3.VFrom.cons (V3.VStep.valG _ rfl _ rfl y2 (.string sk) rfl 6 true rfl (fun h => by subst h; rfl) (fun h => by subst h; exact .inl rfl) (fun hy ev wq hS he hr => ?_)) ?_
    · subst hy; have r0 : ev (.tmp 12) = .pointer (some ⟨N, 0, none⟩) := hr (12, some 7) (by simp); have hk := he.1; clear hr he
      have c0 := (show World.cell? wq ⟨N, 0, none⟩ = some (.string sk) from (HB1.out.kept hS.out (fun h => h)).cell 0)
      go_simp
    refine V3.VFrom.cons (V3.VStep.valG _ rfl _ rfl y2 (.pointer (some ⟨N + 1, 0, none⟩)) rfl 6 true rfl (fun h => by subst h; rfl) (fun h => by subst h; exact .inl rfl) (fun hy ev wq hS he hr => ?_)) ?_
    · subst hy; have r0 : ev (.tmp 3) = .pointer (some ⟨N + 1, 0, none⟩) := hr (3, none) (by simp); have hk := he.1; clear hr he
      go_simp
    refine V3.VFrom.cons (V3.VStep.valG _ rfl _ rfl y2 (.string sl) rfl 6 true rfl (fun h => by subst h; rfl) (fun h => by subst h; exact .inl rfl) (fun hy ev wq hS he hr => ?_)) ?_
    · subst hy; have r0 : ev (.tmp 14) = .pointer (some ⟨N + 1, 0, none⟩) := hr (14, some 9) (by simp); have hk := he.1; clear hr he
      have c0 := (show World.cell? wq ⟨(N + 1), 0, none⟩ = some (.string sl) from (HB2.out.kept hS.out (fun h => h)).cell 0)
      go_simp
    refine V3.VFrom.cons (V3.VStep.valG _ rfl _ rfl y2 (.bool e1) rfl 6 true rfl (fun h => by subst h; rfl) (fun h => by subst h; exact .inl rfl) (fun hy ev wq hS he hr => ?_)) ?_
    · subst hy; have r0 : ev (.tmp 13) = .string sk := hr (13, some 8) (by simp); have r1 : ev (.tmp 15) = .string sl := hr (15, some 10) (by simp); have hk := he.1; clear hr he
      have e1 := E1.out
      go_simp
    refine V3.VFrom.cons (V3.VStep.val _ rfl _ rfl (.bool y3) rfl trivial (fun ev wq hS he hr => ?_)) ?_
    · have r0 : ev (.tmp 11) = .bool y2 := hr (11, some 6) (by simp); have r1 : ev (.tmp 16) = V3.gV y2 (.bool e1) := hr (16, some 11) (by simp); have hk := he.1; clear hr he
      have e := Y3.out; cases y2 <;> (simp only [Bool.false_and, Bool.true_and] at e; subst e; dsimp only [V3.gV] at r1; go_simp)
    refine V3.VFrom.cons (V3.VStep.val _ rfl _ rfl (.bool y3) rfl trivial (fun ev wq hS he hr => ?_)) ?_
    · have r0 : ev (.tmp 17) = .bool y3 := hr (17, some 12) (by simp); have hk := he.1; clear hr he
      go_simp
    refine V3.VFrom.cons (V3.VStep.valG _ rfl _ rfl y3 (.pointer (some ⟨N, 3, none⟩)) rfl 13 true rfl (fun h => by subst h; rfl) (fun h => by subst h; exact .inl rfl) (fun hy ev wq hS he hr => ?_)) ?_
    · subst hy; have r0 : ev (.tmp 2) = .pointer (some ⟨N, 0, none⟩) := hr (2, none) (by simp); have hk := he.1; clear hr he
      go_simp
    refine V3.VFrom.cons (V3.VStep.valG _ rfl _ rfl y3 (.slice pp nP dp) rfl 13 true rfl (fun h => by subst h; rfl) (fun h => by subst h; exact .inl rfl) (fun hy ev wq hS he hr => ?_)) ?_
    · subst hy; have r0 : ev (.tmp 19) = .pointer (some ⟨N, 3, none⟩) := hr (19, some 14) (by simp); have hk := he.1; clear hr he
      have c0 := (show World.cell? wq ⟨N, 3, none⟩ = some (.slice pp nP dp) from (HB1.out.kept hS.out (fun h => h)).cell 3)
      go_simp
    refine V3.VFrom.cons (V3.VStep.valG _ rfl _ rfl y3 (.pointer (some ⟨N + 1, 1, none⟩)) rfl 13 true rfl (fun h => by subst h; rfl) (fun h => by subst h; exact .inl rfl) (fun hy ev wq hS he hr => ?_)) ?_
    · subst hy; have r0 : ev (.tmp 3) = .pointer (some ⟨N + 1, 0, none⟩) := hr (3, none) (by simp); have hk := he.1; clear hr he
      go_simp
    refine V3.VFrom.cons (V3.VStep.valG _ rfl _ rfl y3 (dotV yn yd) rfl 13 true rfl (fun h => by subst h; rfl) (fun h => by subst h; exact .inl rfl) (fun hy ev wq hS he hr => ?_)) ?_
    · subst hy; have r0 : ev (.tmp 21) = .pointer (some ⟨N + 1, 1, none⟩) := hr (21, some 16) (by simp); have hk := he.1; clear hr he
      exact exec_loadD rfl r0 (load_dotI (HB2.out.kept hS.out (fun h => h)))
    refine V3.VFrom.cons (V3.VStep.callG _ rfl _ rfl y3 (.bool hb) rfl 13 true rfl (fun h => by subst h; rfl) (fun h => by subst h; exact .inl rfl) 48 #[.slice pp nP dp, dotV yn yd] (fun hy ev wq hS he hr => ?_) (fun hy wq hS => ?_)) ?_
    · subst hy; have r0 : ev (.tmp 20) = .slice pp nP dp := hr (20, some 15) (by simp); have r1 : ev (.tmp 22) = dotV yn yd := hr (22, some 17) (by simp); have hk := he.1; have hf := he.2; clear hr he
      go_simp
    · subst hy; exact (CH.out wq hS.out).mono fun e w' ⟨h1, h2⟩ => ⟨h1, hS.out.trans h2 (fun _ _ h => h)⟩
    refine V3.VFrom.cons (V3.VStep.val _ rfl _ rfl (.bool R) rfl trivial (fun ev wq hS he hr => ?_)) ?_
    · have r0 : ev (.tmp 18) = .bool y3 := hr (18, some 13) (by simp); have r1 : ev (.tmp 23) = V3.gV y3 (.bool hb) := hr (23, some 18) (by simp); have hk := he.1; clear hr he
      have e := YR.out; cases y3 <;> (simp only [Bool.false_and, Bool.true_and] at e; subst e; dsimp only [V3.gV] at r1; go_simp)
    refine V3.VFrom.cons (V3.VStep.val _ rfl _ rfl (.bool R) rfl trivial (fun ev wq hS he hr => ?_)) ?_
    · have r0 : ev (.tmp 24) = .bool R := hr (24, some 19) (by simp); have hk := he.1; clear hr he
      go_simp
    exact V3.VFrom.nil
  case hS => exact hid (Kp.refl Nb W)
  case hend =>
    intro w5 h5
    have K5 := hid (K0.out.trans h5.out (fun _ _ h => h))
    clear h5 K0
    simp only [V3.putAll, List.zip_cons_cons, List.zip_nil_right, List.foldl_cons, List.foldl_nil, Act.put, List.setIfInBounds_toArray, List.set_cons_zero, List.set_cons_succ]
    go_wp2
    go_ret
    exact ⟨rfl, K5.out⟩
end

end Go.Proofs.YtogoophofgkboaaGreatDoor
