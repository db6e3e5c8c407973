/-
  Of the texts VeR what is used. No condition but what each says.
-/
import Derived.Test.YtogoophofgkboaaGreatDoorRp
import Derived.Test.YtogoophofgkboaaGreatDoorRd
import Derived.Test.YtogoophofgkboaaGreatDoorRa
import Derived.Lib.BytesEntry
import Derived.Lib.Bytealg
namespace Go.Proofs.YtogoophofgkboaaGreatDoor
section
open Go.RowKit
theorem old_setV {L : Nat → Bool} {i : Nat} {l l' : List Value} (u : Value) (hL : L i = false) (h : l' = l.set i u) : ∀ j, L j = true → l'.getD j undef = l.getD j undef := by
  intro j hj
  subst h
  have hn : i ≠ j := by rintro rfl; rw [hL] at hj; cases hj
  rw [List.getD_eq_getElem?_getD, List.getD_eq_getElem?_getD, List.getElem?_set_ne hn]
theorem exec_buildSliceV {P : Program} {ev : Operand → Value} {o : Oper} {T : TypeId} {n : Nat} {ps : Array (Nat × Operand)} {qs : Array (Nat × Value)} {v : Value} {w w' : World} (ho : o.op = .buildSlice T n ps) (hq : (ps.map fun (i, x) => (i, ev x)) = qs) (hl : (Instr.buildSlice T n qs).run P w = .ok v w') : (execOp ev o).run P w = .ok (.value v) w' := by
  unfold execOp
  simp only [ho, hq, Sem.run_bind, Sem.run_pure, Result.andThen_ok, hl]
theorem make_int3 (w : World) (a b c : Int) : (Instr.buildSlice 112 3 #[(0, .int .i64 a), (1, .int .i64 b), (2, .int .i64 c)]).run Tryz.prog w = .ok (.slice (some ⟨w.heap.size, 0, none⟩) 3 3) (w.alloc (.cells #[.int .i64 a, .int .i64 b, .int .i64 c] 3)) := by
  kernel_rfl
theorem isnanS_any (s : ByteArray) (w : World) : Calls Tryz.prog 84 #[.string s] w fun e w' => e = .returned (.bool false) ∧ Kp Nb w w' := by
  have g : (s.toList != s.toList) = false := by simp
  go_enter Tryz.func84, Tryz.ntmps84
  go_wp2
  go_ret
  exact ⟨rfl, Kp.refl _ _⟩
theorem isnanZ_any (a : Int) (w : World) : Calls Tryz.prog 85 #[.int .i64 a] w fun e w' => e = .returned (.bool false) ∧ Kp Nb w w' := by
  have g : (a != a) = false := by simp
  go_enter Tryz.func85, Tryz.ntmps85
  go_wp2
  go_ret
  exact ⟨rfl, Kp.refl _ _⟩
set_option maxRecDepth 100000 in
set_option maxHeartbeats 1000000 in
theorem cmpS_any (a b : List Int) (w : World) (ha : IsBytes a) (hb : IsBytes b) : Calls Tryz.prog 51 #[.string (st a), .string (st b)] w fun e w' => e = .returned (.int .i64 (cmpM a b)) ∧ Kp Nb w w' := by
  have L1 := st_lt a b ha hb
  have L2 := st_lt b a hb ha
  have CA := hid (isnanS_any (st a))
  have CB := hid (isnanS_any (st b))
  have HR : Hid (cmpM a b = if lexI a b then -1 else if lexI b a then 1 else 0) := hid rfl
  obtain ⟨r, hr⟩ : ∃ r, cmpM a b = r := ⟨_, rfl⟩
  rw [hr] at HR ⊢
  have EQ := st_beq a b ha hb
  obtain ⟨eb, heb⟩ : ∃ e, decide (a = b) = e := ⟨_, rfl⟩
  have HE : Hid ((lexI b a = true → eb = false) ∧ (lexI a b = false → lexI b a = false → eb = true)) := hid ⟨fun h => by rw [← heb, decide_eq_false_iff_not]; rintro rfl; rw [lexI_irr] at h; exact Bool.noConfusion h, fun h g => by rw [← heb, decide_eq_true_eq]; exact lexI_tri a b h g⟩
  rw [heb] at EQ
  obtain ⟨sa, hsa⟩ : ∃ s, st a = s := ⟨_, rfl⟩
  obtain ⟨sb, hsb⟩ : ∃ s, st b = s := ⟨_, rfl⟩
  obtain ⟨l1, hl1⟩ : ∃ l, lexI a b = l := ⟨_, rfl⟩
  obtain ⟨l2, hl2⟩ : ∃ l, lexI b a = l := ⟨_, rfl⟩
  rw [hsa] at L1 L2 CA EQ ⊢
  rw [hsb] at L1 L2 CB EQ ⊢
  rw [hl1] at L1 HR HE
  rw [hl2] at L2 HR HE
  clear hr hsa hsb hl1 hl2 ha hb heb
  go_enter Tryz.func51, Tryz.ntmps51
  go_wp2_with fail
  refine (CA.out _).mono ?_
  rintro e w1 ⟨rfl, k1⟩
  have K1 := hid k1
  clear k1
  go_wp2_with fail
  refine (CB.out _).mono ?_
  rintro e w2 ⟨rfl, k2⟩
  have K2 := hid (K1.out.trans k2 (fun _ _ h => h))
  clear k2
  cases l1 with
  | true =>
    go_wp2
    go_ret
    exact ⟨by rw [HR.out]; rfl, K2.out⟩
  | false =>
    cases l2 with
    | true =>
      obtain rfl : eb = false := HE.out.1 rfl
      go_wp2
      go_ret
      exact ⟨by rw [HR.out]; rfl, K2.out⟩
    | false =>
      obtain rfl : eb = true := HE.out.2 rfl rfl
      go_wp2
      go_ret
      exact ⟨by rw [HR.out]; rfl, K2.out⟩
set_option maxRecDepth 100000 in
set_option maxHeartbeats 1000000 in
theorem cmpZ_any (a b : Int) (w : World) : Calls Tryz.prog 52 #[.int .i64 a, .int .i64 b] w fun e w' => e = .returned (.int .i64 (cmpZ a b)) ∧ Kp Nb w w' := by
  have CA := hid (isnanZ_any a)
  have CB := hid (isnanZ_any b)
  have HR : Hid (cmpZ a b = if a < b then -1 else if b < a then 1 else 0) := hid rfl
  obtain ⟨r, hr⟩ : ∃ r, cmpZ a b = r := ⟨_, rfl⟩
  rw [hr] at HR ⊢
  clear hr
  go_enter Tryz.func52, Tryz.ntmps52
  go_wp2_with fail
  refine (CA.out _).mono ?_
  rintro e w1 ⟨rfl, k1⟩
  have K1 := hid k1
  clear k1
  go_wp2_with fail
  refine (CB.out _).mono ?_
  rintro e w2 ⟨rfl, k2⟩
  have K2 := hid (K1.out.trans k2 (fun _ _ h => h))
  clear k2 CA CB
  by_cases h1 : a < b
  · have hr : r = -1 := by rw [HR.out, if_pos h1]
    subst hr
    clear HR
    go_wp2
    go_ret
    exact ⟨rfl, K2.out⟩
  · by_cases h2 : a > b
    · have hr : r = 1 := by rw [HR.out, if_neg h1, if_pos h2]
      subst hr
      clear HR
      go_wp2
      go_ret
      exact ⟨rfl, K2.out⟩
    · have hr : r = 0 := by rw [HR.out, if_neg h1, if_neg h2]
      subst hr
      clear HR
      go_wp2
      go_ret
      exact ⟨rfl, K2.out⟩
def or3 (a b c : Int) : Int := if a ≠ 0 then a else if b ≠ 0 then b else c
def OriR (W : World) (a b c : Int) (i : Value) (wr : World) : Prop := ((i = .int .i64 0) ∨ (i = .int .i64 1 ∧ a = 0) ∨ (i = .int .i64 2 ∧ a = 0 ∧ b = 0) ∨ (i = .int .i64 3 ∧ a = 0 ∧ b = 0 ∧ c = 0)) ∧ Hid (Kp Nb W wr)
set_option maxRecDepth 100000 in
set_option maxHeartbeats 2000000 in
theorem or3_any (B : Nat) (a b c : Int) (w : World) (h : Blk w B 3 [.int .i64 a, .int .i64 b, .int .i64 c]) : Calls Tryz.prog 50 #[.slice (some ⟨B, 0, none⟩) 3 3] w fun e w' => e = .returned (.int .i64 (or3 a b c)) ∧ Kp Nb w w' := by
  have HR : Hid (or3 a b c = if a ≠ 0 then a else if b ≠ 0 then b else c) := hid rfl
  obtain ⟨r, hr⟩ : ∃ r, or3 a b c = r := ⟨_, rfl⟩
  rw [hr] at HR ⊢
  have HB := hid h
  clear h hr
  go_enter Tryz.func50, Tryz.ntmps50
  go_wp2
  go_loopw [8] (OriR w a b c) (fun i _ => 3 - (intOf i).toNat)
  case atStart => exact ⟨.inl rfl, hid (Kp.refl _ _)⟩
  case round =>
    obtain ⟨hi, HK⟩ := hrel
    have HBr := hid (HB.out.kept HK.out (fun h => h))
    have c0 : wr.cell? ⟨B, 0, none⟩ = some (.int .i64 a) := HBr.out.cell 0
    have c1 : wr.cell? ⟨B, 1, none⟩ = some (.int .i64 b) := HBr.out.cell 1
    have c2 : wr.cell? ⟨B, 2, none⟩ = some (.int .i64 c) := HBr.out.cell 2
    rcases hi with rfl | ⟨rfl, ha⟩ | ⟨rfl, ha, hb⟩ | ⟨rfl, ha, hb, hc⟩
    · by_cases h0 : a = 0
      · have g : (a != 0) = false := by rw [h0]; rfl
        have HT := hid (show OriR w a b c (.int .i64 1) wr from ⟨.inr (.inl ⟨rfl, h0⟩), HK⟩)
        clear h0
        go_wp2
        exact ⟨HT.out, by decide⟩
      · have g : (a != 0) = true := by rw [bne_iff_ne]; exact h0
        have HG : Hid (a = r) := hid (by rw [HR.out, if_pos h0])
        clear h0
        go_wp2
        go_ret
        exact ⟨by rw [HG.out]; rfl, HK.out⟩
    · by_cases h0 : b = 0
      · have g : (b != 0) = false := by rw [h0]; rfl
        have HT := hid (show OriR w a b c (.int .i64 2) wr from ⟨.inr (.inr (.inl ⟨rfl, ha, h0⟩)), HK⟩)
        clear h0 ha
        go_wp2
        exact ⟨HT.out, by decide⟩
      · have g : (b != 0) = true := by rw [bne_iff_ne]; exact h0
        have HG : Hid (b = r) := hid (by rw [HR.out, if_neg (fun h => h ha), if_pos h0])
        clear h0 ha
        go_wp2
        go_ret
        exact ⟨by rw [HG.out]; rfl, HK.out⟩
    · by_cases h0 : c = 0
      · have g : (c != 0) = false := by rw [h0]; rfl
        have HT := hid (show OriR w a b c (.int .i64 3) wr from ⟨.inr (.inr (.inr ⟨rfl, ha, hb, h0⟩)), HK⟩)
        clear h0 ha hb
        go_wp2
        exact ⟨HT.out, by decide⟩
      · have g : (c != 0) = true := by rw [bne_iff_ne]; exact h0
        have HG : Hid (c = r) := hid (by rw [HR.out, if_neg (fun h => h ha), if_neg (fun h => h hb)])
        clear h0 ha hb
        go_wp2
        go_ret
        exact ⟨by rw [HG.out]; rfl, HK.out⟩
    · have HG : Hid (r = 0) := hid (by rw [HR.out, if_neg (fun h => h ha), if_neg (fun h => h hb), hc])
      clear ha hb hc
      go_wp2
      go_ret
      exact ⟨by rw [HG.out]; rfl, HK.out⟩
theorem cmp_bytes : ∀ (x y : List Int), IsBytes x → IsBytes y → Lib.compareBytes (x.map fun z => UInt8.ofNat z.toNat) (y.map fun z => UInt8.ofNat z.toNat) = cmpM x y
  | [], [], _, _ => rfl
  | [], _ :: _, _, _ => rfl
  | _ :: _, [], _, _ => rfl
  | a :: x, b :: y, hx, hy => by
    have ih := cmp_bytes x y hx.tail hy.tail
    have e1 := byte_lt a b hx.head hy.head
    have e2 := byte_lt b a hy.head hx.head
    show (if UInt8.ofNat a.toNat < UInt8.ofNat b.toNat then (-1 : Int) else if UInt8.ofNat b.toNat < UInt8.ofNat a.toNat then 1 else Lib.compareBytes _ _) = _
    rw [ih]
    unfold cmpM
    simp only [lexI]
    by_cases h1 : a < b
    · rw [if_pos (e1.2 h1)]
      simp [h1]
    · rw [if_neg (fun h => h1 (e1.1 h))]
      by_cases h2 : b < a
      · rw [if_pos (e2.2 h2)]
        have h3 : (a == b) = false := beq_eq_false_iff_ne.2 (by omega)
        simp [h1, h2, h3]
      · rw [if_neg (fun h => h2 (e2.1 h))]
        obtain rfl : a = b := by omega
        simp
theorem st_dataV (m : List Int) : (st m).data.toList = m.map fun z => UInt8.ofNat z.toNat := by simp [st]
theorem load_bytesV {P : Program} {S : Nat → Prop} {w : World} {v : Value} {m : List Int} (h : BySl S w v m) : (Extern.Bytes.bytesOf v).run P w = .ok (st m) w := by
  have key : ∀ (a : Addr), (∀ i, i < m.length → w.cell? (a.add i) = some (.int .u8 (m[i]?.getD 0))) → (Extern.Bytes.loadBytes a m.length .empty).run P w = .ok (st m) w := fun a hb => by
    have hl := Lib.run_loadBytesX (P := P) w m a .empty (fun j x hj => by
      have hjl : j < m.length := (List.getElem?_eq_some_iff.1 hj).1
      rw [hb j hjl, hj]
      rfl)
    have he : (⟨ByteArray.empty.data ++ (Lib.bytesOf m).toArray⟩ : ByteArray) = st m := by
      apply ByteArray.ext
      show (#[] : Array UInt8) ++ (Lib.bytesOf m).toArray = (m.map fun z => UInt8.ofNat z.toNat).toArray
      simp [Lib.bytesOf]
    rw [he] at hl
    exact hl
  rcases h.2 with ⟨⟨a, cap, rfl⟩, rfl⟩ | ⟨blk, off, cap, rfl, hc, hm, hb, _⟩
  · cases a with
    | none => rfl
    | some a => exact key a (fun i hi => absurd hi (by simp))
  · refine key ⟨blk, off, none⟩ (fun i hi => ?_)
    have ea : Addr.add ⟨blk, off, none⟩ i = ⟨blk, off + i, none⟩ := by unfold Addr.add; split <;> simp_all
    rw [ea]
    exact hb i hi
/-- The model's entry at two slices of bytes. -/
theorem run_cmpV {S : Nat → Prop} {w : World} {va vb : Value} {a b : List Int} (hA : BySl S w va a) (hB : BySl S w vb b) :
    (callFunc 86 #[va, vb]).run Tryz.prog w = .ok (.value (.int .i64 (cmpM a b))) w := by
  rw [run_callFunc_extern Tryz.func86 (by kernel_rfl) (by kernel_rfl) (by kernel_rfl) (e := Extern.BytealgCompare.compare) (by kernel_rfl)]
  have h1 := load_bytesV (P := Tryz.prog) hA
  have h2 := load_bytesV (P := Tryz.prog) hB
  have h3 : (Extern.BytealgCompare.compare #[va, vb]).run Tryz.prog w = .ok (.int .i64 (cmpM a b)) w := by
    change Sem.run Tryz.prog (do pure (goInt (Extern.BytealgCompare.cmp (← Extern.Bytes.bytesOf va) (← Extern.Bytes.bytesOf vb)))) w = _
    simp only [Sem.run_bind, Sem.run_pure, h1, h2, Result.andThen]
    rw [Lib.cmp_eq, st_dataV, st_dataV, cmp_bytes a b hA.1 hB.1]
    rfl
  rw [h3]
  rfl
theorem exec_call_valV {P : Program} {ev : Operand → Value} {o : Oper} {f : FuncId} {x y : Operand} {ts : Array TypeId} {a b v : Value} {w : World} (ho : o.op = .call { callee := .value (.func f), args := #[x, y], argTypes := ts }) (hf : ev (.func f) = .func (.func f) #[] #[]) (hx : ev x = a) (hy : ev y = b)
    (hr : (callFunc f #[a, b]).run P w = .ok (.value v) w) : (execOp ev o).run P w = .ok (.value v) w := by
  simp [execOp, ho, resolve, invoke, Deferred.ofValue, hf, hx, hy, hr]
set_option maxRecDepth 100000 in
set_option maxHeartbeats 2000000 in
theorem bcmpV_any (va vb : Value) (a b : List Int) (w : World) (hA : BySl Nb w va a) (hB : BySl Nb w vb b) :
    Calls Tryz.prog 53 #[va, vb] w fun e w' => e = .returned (.int .i64 (cmpM a b)) ∧ w = w' := by
  obtain ⟨ya, da, rfl⟩ := by_shape hA
  obtain ⟨yb, db, rfl⟩ := by_shape hB
  have HR := run_cmpV hA hB
  obtain ⟨r, hr⟩ : ∃ r, cmpM a b = r := ⟨_, rfl⟩
  rw [hr] at HR ⊢
  obtain ⟨na, hna⟩ : ∃ n, a.length = n := ⟨_, rfl⟩
  obtain ⟨nb, hnb⟩ : ∃ n, b.length = n := ⟨_, rfl⟩
  rw [hna, hnb] at HR ⊢
  have HRC := hid HR
  clear hA hB HR hr hna hnb
  go_enter Tryz.func53, Tryz.ntmps53
  go_wp2_with (refine wpList_val (by rfl) _ _ (exec_call_valV rfl rfl rfl rfl HRC.out) ?_)
  go_ret
  exact ⟨rfl, rfl⟩
set_option maxRecDepth 100000 in
set_option maxHeartbeats 8000000 in
theorem icompare_any (x y : ItQ) (vp vv up uv : Value) (w : World) (hx : ItOk w x vp vv) (hy : ItOk w y up uv) (lx : x.past.length ≤ 1000) (ly : y.past.length ≤ 1000) (ox : ∀ g, vp.ownBlock = some g → g < w.heap.size) (oy : ∀ g, up.ownBlock = some g → g < w.heap.size) :
    Calls Tryz.prog 17 #[itVq x vp vv, itVq y up uv] w fun e w' => e = .returned (.int .i64 (cmpI x y)) ∧ Kp Nb w w' := by
  obtain ⟨pp, dp, rfl⟩ := hx.past.shape
  obtain ⟨pv, dv, rfl⟩ := by_shape hx.val
  obtain ⟨qp, dq, rfl⟩ := hy.past.shape
  obtain ⟨qv, du, rfl⟩ := by_shape hy.val
  obtain ⟨N, hN⟩ : ∃ N, w.heap.size = N := ⟨_, rfl⟩
  obtain ⟨W, hW⟩ : ∃ W, W = (w.alloc (.cells #[.string (st x.key), .int .i64 x.dn, .int .i64 x.dd, .slice pp x.past.length dp, .bool x.gone, .slice pv x.val.length dv] 28)).alloc (.cells #[.string (st y.key), .int .i64 y.dn, .int .i64 y.dd, .slice qp y.past.length dq, .bool y.gone, .slice qv y.val.length du] 28) := ⟨_, rfl⟩
  have HB1 : Hid (Blk W N 28 (itL (st x.key) x.dn x.dd (.slice pp x.past.length dp) x.gone (.slice pv x.val.length dv))) := hid (by rw [hW, ← hN]; exact (Blk.new w _ (itL (st x.key) x.dn x.dd (.slice pp x.past.length dp) x.gone (.slice pv x.val.length dv))).alloc _)
  have HB2 : Hid (Blk W (N + 1) 28 (itL (st y.key) y.dn y.dd (.slice qp y.past.length dq) y.gone (.slice qv y.val.length du))) := hid (by
    have h := Blk.new (w.alloc (.cells #[.string (st x.key), .int .i64 x.dn, .int .i64 x.dd, .slice pp x.past.length dp, .bool x.gone, .slice pv x.val.length dv] 28)) 28 (itL (st y.key) y.dn y.dd (.slice qp y.past.length dq) y.gone (.slice qv y.val.length du))
    simp only [World.size_alloc] at h
    rw [hW, ← hN]
    exact h)
  have K0 : Hid (Kp Nb w W) := hid (by rw [hW]; exact ((Kp.refl Nb w).alloc _).alloc _)
  have HX := hid (hx.kept K0.out)
  have HY := hid (hy.kept K0.out)
  have CR1 := hid (fun wx (k : Kp Nb W wx) => iright_any x _ _ wx (HX.out.kept k))
  have CR2 := hid (fun wx (k : Kp Nb W wx) => iright_any y _ _ wx (HY.out.kept k))
  have CS := hid (fun wx (k : Kp Nb W wx) => isame_any x y _ _ _ _ wx (HX.out.kept k) (HY.out.kept k) lx ly)
  have CX1 := hid (fun wx (k : Kp Nb W wx) => ibytes_any x _ _ wx (HX.out.kept k) (fun g hg => by have := ox g hg; have := K0.out.size; have := k.size; omega))
  have CX2 := hid (fun wx (k : Kp Nb W wx) => ibytes_any y _ _ wx (HY.out.kept k) (fun g hg => by have := oy g hg; have := K0.out.size; have := k.size; omega))
  have CC1 := hid (fun wx => cmpS_any x.key y.key wx HX.out.key HY.out.key)
  have CC2 := hid (cmpZ_any x.dn y.dn)
  have CC3 := hid (cmpZ_any x.dd y.dd)
  have HKY : Hid (keyI x y = if cmpM x.key y.key ≠ 0 then cmpM x.key y.key else if cmpZ x.dn y.dn ≠ 0 then cmpZ x.dn y.dn else cmpZ x.dd y.dd) := hid rfl
  have HRS : Hid (cmpI x y = if !rightI x || !rightI y then 0 else if keyI x y ≠ 0 ∨ sameI x y = true then keyI x y else cmpM (bytesX x) (bytesX y)) := hid rfl
  obtain ⟨RS, hRS⟩ : ∃ b, cmpI x y = b := ⟨_, rfl⟩
  obtain ⟨rx, hrx⟩ : ∃ b, rightI x = b := ⟨_, rfl⟩
  obtain ⟨ry, hry⟩ : ∃ b, rightI y = b := ⟨_, rfl⟩
  obtain ⟨od, hod⟩ : ∃ b, keyI x y = b := ⟨_, rfl⟩
  obtain ⟨sb, hsb⟩ : ∃ b, sameI x y = b := ⟨_, rfl⟩
  obtain ⟨bX, hbX⟩ : ∃ b, bytesX x = b := ⟨_, rfl⟩
  obtain ⟨bY, hbY⟩ : ∃ b, bytesX y = b := ⟨_, rfl⟩
  rw [hRS] at HRS ⊢
  rw [hod] at HKY
  rw [hrx, hry, hod, hsb, hbX, hbY] at HRS
  rw [hrx] at CR1
  rw [hry] at CR2
  rw [hsb] at CS
  rw [hbX] at CX1
  rw [hbY] at CX2
  clear hx hy hRS hrx hry hod hsb hbX hbY HX HY lx ly ox oy
  obtain ⟨key, xn, xd, past, gx, val⟩ := x
  obtain ⟨key', yn, yd, past', gy, val'⟩ := y
  unfold itVq itV at *
  dsimp only at *
  obtain ⟨nP, hnP⟩ : ∃ n, past.length = n := ⟨_, rfl⟩
  obtain ⟨nV, hnV⟩ : ∃ n, val.length = n := ⟨_, rfl⟩
  obtain ⟨nQ, hnQ⟩ : ∃ n, past'.length = n := ⟨_, rfl⟩
  obtain ⟨nU, hnU⟩ : ∃ n, val'.length = n := ⟨_, rfl⟩
  obtain ⟨sk, hsk⟩ : ∃ s, st key = s := ⟨_, rfl⟩
  obtain ⟨sl, hsl⟩ : ∃ s, st key' = s := ⟨_, rfl⟩
  obtain ⟨c1, hc1⟩ : ∃ c, cmpM key key' = c := ⟨_, rfl⟩
  obtain ⟨c2, hc2⟩ : ∃ c, cmpZ xn yn = c := ⟨_, rfl⟩
  obtain ⟨c3, hc3⟩ : ∃ c, cmpZ xd yd = c := ⟨_, rfl⟩
  rw [hc1] at HKY CC1
  rw [hc2] at HKY CC2
  rw [hc3] at HKY CC3
  simp only [hnP, hnV, hnQ, hnU, hsk, hsl] at hW HB1 HB2 CR1 CR2 CS CX1 CX2 CC1 ⊢
  have CO : Hid (∀ B wx, Blk wx B 3 [.int .i64 c1, .int .i64 c2, .int .i64 c3] → Calls Tryz.prog 50 #[.slice (some ⟨B, 0, none⟩) 3 3] wx fun e w' => e = .returned (.int .i64 od) ∧ Kp Nb wx w') := hid (fun B wx h => by rw [HKY.out]; exact or3_any B c1 c2 c3 wx h)
  have CBC : Hid (∀ va vb wx, BySl Nb wx va bX → BySl Nb wx vb bY → Calls Tryz.prog 53 #[va, vb] wx fun e w' => e = .returned (.int .i64 (cmpM bX bY)) ∧ wx = w') := hid (fun va vb wx h1 h2 => bcmpV_any va vb bX bY wx h1 h2)
  obtain ⟨cb, hcb⟩ : ∃ c, cmpM bX bY = c := ⟨_, rfl⟩
  rw [hcb] at CBC HRS
  clear hnP hnV hnQ hnU hsk hsl hc1 hc2 hc3 hcb HKY
  go_enter Tryz.func17, Tryz.ntmps17
  go_upto_region 1 with fail
  try rw [hN]
  try simp only [World.size_alloc, hN]
  rw [← hW]
  clear hW hN
  go_wp2_with (first | (refine wpList_load_mid (by rfl) 28 (.tmp 2) (by rfl) N 0 (by rfl) (itL sk xn xd (.slice pp nP dp) gx (.slice pv nV dv)) _ (range_ofR HB1.out) under_item.choose_spec rfl item_info ?_))
  refine (CR1.out W (Kp.refl _ _)).mono ?_
  rintro r w1 ⟨rfl, k1⟩
  have HB11 := hid (HB1.out.kept k1 (fun h => h))
  have HB21 := hid (HB2.out.kept k1 (fun h => h))
  have K1 := hid (K0.out.trans k1 (fun _ _ h => h))
  have KW1 := hid k1
  clear k1
  cases rx with
  | false =>
    have HR0 : Hid (RS = 0) := hid HRS.out
    clear HB1 HB2 HRS CR1 CR2 CS CX1 CX2 CC1 CC2 CC3 CO CBC
    go_wp2
    go_ret
    exact ⟨by rw [HR0.out]; rfl, K1.out⟩
  | true =>
    go_wp2_with (first | (refine wpList_valI (by rfl) _ _ (exec_loadD (x := .tmp 3) rfl (by rfl) (load_item HB21.out)) ?_))
    refine (CR2.out w1 KW1.out).mono ?_
    rintro r w3 ⟨rfl, k3⟩
    have K3 := hid (K1.out.trans k3 (fun _ _ h => h))
    have KW3 := hid (KW1.out.trans k3 (fun _ _ h => h))
    clear k3 HB11 HB21 KW1 K1
    cases ry with
    | false =>
      have HR0 : Hid (RS = 0) := hid HRS.out
      clear HB1 HB2 HRS CR1 CR2 CS CX1 CX2 CC1 CC2 CC3 CO CBC
      go_wp2
      go_ret
      exact ⟨by rw [HR0.out]; rfl, K3.out⟩
    | true =>
      have HR1 : Hid (RS = if od ≠ 0 ∨ sb = true then od else cb) := hid HRS.out
      have HB1' := HB1
      have HB2' := HB2
      clear HRS CR1 CR2 HB1 HB2
      have HB1 := hid (HB1'.out.kept KW3.out (fun h => h))
      have HB2 := hid (HB2'.out.kept KW3.out (fun h => h))
      clear HB1' HB2'
      go_upto_region 3 with fail
      refine region_ghost (g0 := (undef : Value)) [none, none, none, none, none, some 21, none, none, none, none, none, none, none, none, some 0, some 1, some 2, some 3, some 4, some 5, some 6, some 7, some 8, some 9, some 10, some 11, some 12, some 13, some 14, some 15, some 16, some 17, some 18, some 19, some 20, none, none, none, none, none, none, none, none, none, none, none, none, none] [[(2, none)], [(14, some 0)], [(3, none)], [(16, some 2)], [(15, some 1), (17, some 3)], [(2, none)], [(19, some 5)], [(20, some 6)], [(3, none)], [(22, some 8)], [(23, some 9)], [(21, some 7), (24, some 10)], [(2, none)], [(26, some 12)], [(27, some 13)], [(3, none)], [(29, some 15)], [(30, some 16)], [(28, some 14), (31, some 17)], [(18, some 4), (25, some 11), (32, some 18)], [(33, some 19)], [(34, some 20)]] [some 14, some 15, some 16, some 17, some 18, some 19, some 20, some 21, some 22, some 23, some 24, some 25, some 26, some 27, some 28, some 29, some 30, some 31, some 32, some 33, some 34, some 5] (fun g => [.pointer (some ⟨N, 0, none⟩), .string sk, .pointer (some ⟨N + 1, 0, none⟩), .string sl, .int .i64 c1, .pointer (some ⟨N, 1, none⟩), .pointer (some ⟨N, 1, none⟩), .int .i64 xn, .pointer (some ⟨N + 1, 1, none⟩), .pointer (some ⟨N + 1, 1, none⟩), .int .i64 yn, .int .i64 c2, .pointer (some ⟨N, 1, none⟩), .pointer (some ⟨N, 2, none⟩), .int .i64 xd, .pointer (some ⟨N + 1, 1, none⟩), .pointer (some ⟨N + 1, 2, none⟩), .int .i64 yd, .int .i64 c3, g, .int .i64 od, .int .i64 od]) [19] (fun (bs : List Bool) (g : Value) wq => Hid (Kp Nb w3 wq ∧ (bs.getD 0 false = true → ∃ B, g = .slice (some ⟨B, 0, none⟩) 3 3 ∧ Blk wq B 3 [.int .i64 c1, .int .i64 c2, .int .i64 c3]))) (by kernel_rfl) (by kernel_rfl) (fun g => by kernel_rfl) (by kernel_rfl) ?hS (GFrom.all (n := 22) (by kernel_rfl) ?hstep) ?hend
      case hstep =>
        refine GFrom.cons (GStep.val _ rfl rfl _ rfl (fun g => .pointer (some ⟨N, 0, none⟩)) (fun _ => rfl) (fun _ => trivial) (fun bs g ev wq hS he hr => ?_)) ?_
        · have r0 : ev (.tmp 2) = .pointer (some ⟨N, 0, none⟩) := hr (2, none) (by simp); have hk := he.1; clear hr he
          go_simp
        refine GFrom.cons (GStep.val _ rfl rfl _ rfl (fun g => .string sk) (fun _ => rfl) (fun _ => trivial) (fun bs g ev wq hS he hr => ?_)) ?_
        · have r0 : ev (.tmp 14) = .pointer (some ⟨N, 0, none⟩) := hr (14, some 0) (by simp); have hk := he.1; clear hr he
          have c0 := (show World.cell? wq ⟨N, 0, none⟩ = some (.string sk) from (HB1.out.kept hS.out.1 (fun h => h)).cell 0)
          go_simp
        refine GFrom.cons (GStep.val _ rfl rfl _ rfl (fun g => .pointer (some ⟨N + 1, 0, none⟩)) (fun _ => rfl) (fun _ => trivial) (fun bs g ev wq hS he hr => ?_)) ?_
        · have r0 : ev (.tmp 3) = .pointer (some ⟨N + 1, 0, none⟩) := hr (3, none) (by simp); have hk := he.1; clear hr he
          go_simp
        refine GFrom.cons (GStep.val _ rfl rfl _ rfl (fun g => .string sl) (fun _ => rfl) (fun _ => trivial) (fun bs g ev wq hS he hr => ?_)) ?_
        · have r0 : ev (.tmp 16) = .pointer (some ⟨N + 1, 0, none⟩) := hr (16, some 2) (by simp); have hk := he.1; clear hr he
          have c0 := (show World.cell? wq ⟨(N + 1), 0, none⟩ = some (.string sl) from (HB2.out.kept hS.out.1 (fun h => h)).cell 0)
          go_simp
        refine GFrom.cons (GStep.call _ rfl rfl _ rfl (fun g => .int .i64 c1) (fun _ => rfl) (fun _ => trivial) 51 (fun g => #[.string sk, .string sl]) (fun bs g ev wq hS he hr => ?_) (fun L g wq hd hL hS => ?_)) ?_
        · have r0 : ev (.tmp 15) = .string sk := hr (15, some 1) (by simp); have r1 : ev (.tmp 17) = .string sl := hr (17, some 3) (by simp); have hk := he.1; have hf := he.2; clear hr he
          go_simp
        · exact (CC1.out wq).mono fun e w' ⟨h1, h2⟩ => ⟨h1, hid ⟨hS.out.1.trans h2 (fun _ _ h => h), fun hb => by obtain ⟨B, e1, e2⟩ := hS.out.2 hb; exact ⟨B, e1, e2.kept h2 (fun h => h)⟩⟩⟩
        refine GFrom.cons (GStep.val _ rfl rfl _ rfl (fun g => .pointer (some ⟨N, 1, none⟩)) (fun _ => rfl) (fun _ => trivial) (fun bs g ev wq hS he hr => ?_)) ?_
        · have r0 : ev (.tmp 2) = .pointer (some ⟨N, 0, none⟩) := hr (2, none) (by simp); have hk := he.1; clear hr he
          go_simp
        refine GFrom.cons (GStep.val _ rfl rfl _ rfl (fun g => .pointer (some ⟨N, 1, none⟩)) (fun _ => rfl) (fun _ => trivial) (fun bs g ev wq hS he hr => ?_)) ?_
        · have r0 : ev (.tmp 19) = .pointer (some ⟨N, 1, none⟩) := hr (19, some 5) (by simp); have hk := he.1; clear hr he
          go_simp
        refine GFrom.cons (GStep.val _ rfl rfl _ rfl (fun g => .int .i64 xn) (fun _ => rfl) (fun _ => trivial) (fun bs g ev wq hS he hr => ?_)) ?_
        · have r0 : ev (.tmp 20) = .pointer (some ⟨N, 1, none⟩) := hr (20, some 6) (by simp); have hk := he.1; clear hr he
          have c0 := (show World.cell? wq ⟨N, 1, none⟩ = some (.int .i64 xn) from (HB1.out.kept hS.out.1 (fun h => h)).cell 1)
          go_simp
        refine GFrom.cons (GStep.val _ rfl rfl _ rfl (fun g => .pointer (some ⟨N + 1, 1, none⟩)) (fun _ => rfl) (fun _ => trivial) (fun bs g ev wq hS he hr => ?_)) ?_
        · have r0 : ev (.tmp 3) = .pointer (some ⟨N + 1, 0, none⟩) := hr (3, none) (by simp); have hk := he.1; clear hr he
          go_simp
        refine GFrom.cons (GStep.val _ rfl rfl _ rfl (fun g => .pointer (some ⟨N + 1, 1, none⟩)) (fun _ => rfl) (fun _ => trivial) (fun bs g ev wq hS he hr => ?_)) ?_
        · have r0 : ev (.tmp 22) = .pointer (some ⟨N + 1, 1, none⟩) := hr (22, some 8) (by simp); have hk := he.1; clear hr he
          go_simp
        refine GFrom.cons (GStep.val _ rfl rfl _ rfl (fun g => .int .i64 yn) (fun _ => rfl) (fun _ => trivial) (fun bs g ev wq hS he hr => ?_)) ?_
        · have r0 : ev (.tmp 23) = .pointer (some ⟨N + 1, 1, none⟩) := hr (23, some 9) (by simp); have hk := he.1; clear hr he
          have c0 := (show World.cell? wq ⟨(N + 1), 1, none⟩ = some (.int .i64 yn) from (HB2.out.kept hS.out.1 (fun h => h)).cell 1)
          go_simp
        refine GFrom.cons (GStep.call _ rfl rfl _ rfl (fun g => .int .i64 c2) (fun _ => rfl) (fun _ => trivial) 52 (fun g => #[.int .i64 xn, .int .i64 yn]) (fun bs g ev wq hS he hr => ?_) (fun L g wq hd hL hS => ?_)) ?_
        · have r0 : ev (.tmp 21) = .int .i64 xn := hr (21, some 7) (by simp); have r1 : ev (.tmp 24) = .int .i64 yn := hr (24, some 10) (by simp); have hk := he.1; have hf := he.2; clear hr he
          go_simp
        · exact (CC2.out wq).mono fun e w' ⟨h1, h2⟩ => ⟨h1, hid ⟨hS.out.1.trans h2 (fun _ _ h => h), fun hb => by obtain ⟨B, e1, e2⟩ := hS.out.2 hb; exact ⟨B, e1, e2.kept h2 (fun h => h)⟩⟩⟩
        refine GFrom.cons (GStep.val _ rfl rfl _ rfl (fun g => .pointer (some ⟨N, 1, none⟩)) (fun _ => rfl) (fun _ => trivial) (fun bs g ev wq hS he hr => ?_)) ?_
        · have r0 : ev (.tmp 2) = .pointer (some ⟨N, 0, none⟩) := hr (2, none) (by simp); have hk := he.1; clear hr he
          go_simp
        refine GFrom.cons (GStep.val _ rfl rfl _ rfl (fun g => .pointer (some ⟨N, 2, none⟩)) (fun _ => rfl) (fun _ => trivial) (fun bs g ev wq hS he hr => ?_)) ?_
        · have r0 : ev (.tmp 26) = .pointer (some ⟨N, 1, none⟩) := hr (26, some 12) (by simp); have hk := he.1; clear hr he
          go_simp
        refine GFrom.cons (GStep.val _ rfl rfl _ rfl (fun g => .int .i64 xd) (fun _ => rfl) (fun _ => trivial) (fun bs g ev wq hS he hr => ?_)) ?_
        · have r0 : ev (.tmp 27) = .pointer (some ⟨N, 2, none⟩) := hr (27, some 13) (by simp); have hk := he.1; clear hr he
          have c0 := (show World.cell? wq ⟨N, 2, none⟩ = some (.int .i64 xd) from (HB1.out.kept hS.out.1 (fun h => h)).cell 2)
          go_simp
        refine GFrom.cons (GStep.val _ rfl rfl _ rfl (fun g => .pointer (some ⟨N + 1, 1, none⟩)) (fun _ => rfl) (fun _ => trivial) (fun bs g ev wq hS he hr => ?_)) ?_
        · have r0 : ev (.tmp 3) = .pointer (some ⟨N + 1, 0, none⟩) := hr (3, none) (by simp); have hk := he.1; clear hr he
          go_simp
        refine GFrom.cons (GStep.val _ rfl rfl _ rfl (fun g => .pointer (some ⟨N + 1, 2, none⟩)) (fun _ => rfl) (fun _ => trivial) (fun bs g ev wq hS he hr => ?_)) ?_
        · have r0 : ev (.tmp 29) = .pointer (some ⟨N + 1, 1, none⟩) := hr (29, some 15) (by simp); have hk := he.1; clear hr he
          go_simp
        refine GFrom.cons (GStep.val _ rfl rfl _ rfl (fun g => .int .i64 yd) (fun _ => rfl) (fun _ => trivial) (fun bs g ev wq hS he hr => ?_)) ?_
        · have r0 : ev (.tmp 30) = .pointer (some ⟨N + 1, 2, none⟩) := hr (30, some 16) (by simp); have hk := he.1; clear hr he
          have c0 := (show World.cell? wq ⟨(N + 1), 2, none⟩ = some (.int .i64 yd) from (HB2.out.kept hS.out.1 (fun h => h)).cell 2)
          go_simp
        refine GFrom.cons (GStep.call _ rfl rfl _ rfl (fun g => .int .i64 c3) (fun _ => rfl) (fun _ => trivial) 52 (fun g => #[.int .i64 xd, .int .i64 yd]) (fun bs g ev wq hS he hr => ?_) (fun L g wq hd hL hS => ?_)) ?_
        · have r0 : ev (.tmp 28) = .int .i64 xd := hr (28, some 14) (by simp); have r1 : ev (.tmp 31) = .int .i64 yd := hr (31, some 17) (by simp); have hk := he.1; have hf := he.2; clear hr he
          go_simp
        · exact (CC3.out wq).mono fun e w' ⟨h1, h2⟩ => ⟨h1, hid ⟨hS.out.1.trans h2 (fun _ _ h => h), fun hb => by obtain ⟨B, e1, e2⟩ := hS.out.2 hb; exact ⟨B, e1, e2.kept h2 (fun h => h)⟩⟩⟩
        refine GFrom.cons (GStep.make _ rfl _ rfl (fun _ => trivial) (fun Lx g ev wq hL hd hcl hS he hr => ?_)) ?_
        · have r0 : ev (.tmp 18) = .int .i64 c1 := hr (18, some 4) (by simp); have r1 : ev (.tmp 25) = .int .i64 c2 := hr (25, some 11) (by simp); have r2 : ev (.tmp 32) = .int .i64 c3 := hr (32, some 18) (by simp); clear hr he
          have e2 : bitsAt [19] (upd Lx 19) = [true] := by simp [bitsAt, upd]
          exact ⟨.slice (some ⟨wq.heap.size, 0, none⟩) 3 3, .slice (some ⟨wq.heap.size, 0, none⟩) 3 3, _, exec_buildSliceV (qs := #[(0, .int .i64 c1), (1, .int .i64 c2), (2, .int .i64 c3)]) rfl (by simp [r0, r1, r2]) (make_int3 wq c1 c2 c3), rfl, old_setV _ hL rfl, by rw [e2]; exact hid ⟨hS.out.1.trans ((Kp.refl Nb wq).alloc _) (fun _ _ h => h), fun _ => ⟨_, rfl, Blk.new wq _ [.int .i64 c1, .int .i64 c2, .int .i64 c3]⟩⟩⟩
        refine GFrom.cons (GStep.call _ rfl rfl _ rfl (fun g => .int .i64 od) (fun _ => rfl) (fun _ => trivial) 50 (fun g => #[g]) (fun bs g ev wq hS he hr => ?_) (fun L g wq hd hL hS => ?_)) ?_
        · have r0 : ev (.tmp 33) = g := hr (33, some 19) (by simp); have hk := he.1; have hf := he.2; clear hr he
          go_simp
        · have l19 : L 19 = true := hd 19 (by kernel_rfl); have e : bitsAt [19] L = [true] := by simp [bitsAt, l19]
          rw [e] at hS ⊢
          obtain ⟨B, rfl, hb⟩ := hS.out.2 rfl
          exact (CO.out B wq hb).mono fun e w' ⟨h1, h2⟩ => ⟨h1, hid ⟨hS.out.1.trans h2 (fun _ _ h => h), fun _ => ⟨B, rfl, hb.kept h2 (fun h => h)⟩⟩⟩
        refine GFrom.cons (GStep.val _ rfl rfl _ rfl (fun g => .int .i64 od) (fun _ => rfl) (fun _ => trivial) (fun bs g ev wq hS he hr => ?_)) ?_
        · have r0 : ev (.tmp 34) = .int .i64 od := hr (34, some 20) (by simp); have hk := he.1; clear hr he
          go_simp
        exact GFrom.nil
      case hS => exact hid ⟨(Kp.refl Nb w3).drew, (fun e => by cases e)⟩
      case hend =>
        intro g w5 h5
        have K5 := hid (K3.out.trans h5.out.1 (fun _ _ h => h))
        have KW5 := hid (KW3.out.trans h5.out.1 (fun _ _ h => h))
        have HB15 := hid (HB1.out.kept h5.out.1 (fun h => h))
        have HB25 := hid (HB2.out.kept h5.out.1 (fun h => h))
        clear h5 K3 KW3 HB1 HB2 CC1 CC2 CC3 CO
        simp only [putAll, List.zip_cons_cons, List.zip_nil_right, List.foldl_cons, List.foldl_nil, Act.put, List.setIfInBounds_toArray, List.set_cons_zero, List.set_cons_succ]
        by_cases h0 : od = 0
        · have g0 : (od != 0) = false := by rw [h0]; rfl
          have HR2 : Hid (RS = if sb = true then 0 else cb) := hid (by rw [HR1.out, h0]; simp)
          have HZ0 := hid h0
          clear h0 HR1
          go_wp2_with (first | (refine wpList_valI (by rfl) _ _ (exec_loadD (x := .tmp 2) rfl (by rfl) (load_item HB15.out)) ?_) | (refine wpList_valI (by rfl) _ _ (exec_loadD (x := .tmp 3) rfl (by rfl) (load_item HB25.out)) ?_))
          refine (CS.out w5 KW5.out).mono ?_
          rintro r w6 ⟨rfl, k6⟩
          have K6 := hid (K5.out.trans k6 (fun _ _ h => h))
          have HB1 := hid (HB15.out.kept k6 (fun h => h))
          have HB2 := hid (HB25.out.kept k6 (fun h => h))
          have KW6 := hid (KW5.out.trans k6 (fun _ _ h => h))
          clear k6 KW5 K5 CS HB15 HB25
          cases sb with
          | true =>
            go_wp2
            go_ret
            exact ⟨by rw [HR2.out, HZ0.out]; rfl, K6.out⟩
          | false =>
            have HR3 : Hid (RS = cb) := hid HR2.out
            have CB1 : Hid (∀ wx, Kp Nb w6 wx → _) := hid (fun wx (k : Kp Nb w6 wx) => CX1.out wx (KW6.out.trans k (fun _ _ h => h)))
            have CB2 : Hid (∀ wx, Kp Nb w6 wx → _) := hid (fun wx (k : Kp Nb w6 wx) => CX2.out wx (KW6.out.trans k (fun _ _ h => h)))
            clear CX1 CX2 HR2
            go_upto_region 6 with fail
            refine region_ghost (g0 := ((undef, undef) : Value × Value)) [none, none, none, none, some 5, none, none, none, none, none, none, none, none, none, none, none, none, none, none, none, none, none, none, none, none, none, none, none, none, none, none, none, none, none, none, none, none, none, none, none, none, none, none, some 0, some 1, some 2, some 3, some 4] [[(2, none)], [(43, some 0)], [(3, none)], [(45, some 2)], [(44, some 1), (46, some 3)], [(47, some 4)]] [some 43, some 44, some 45, some 46, some 47, some 4] (fun g => [itV sk xn xd (.slice pp nP dp) gx (.slice pv nV dv), g.1, itV sl yn yd (.slice qp nQ dq) gy (.slice qv nU du), g.2, .int .i64 cb, .int .i64 cb]) [1, 3] (fun (bs : List Bool) (g : Value × Value) wq => Hid (Kp Nb w6 wq ∧ (bs.getD 0 false = true → BySl Nb wq g.1 bX) ∧ (bs.getD 1 false = true → BySl Nb wq g.2 bY))) (by kernel_rfl) (by kernel_rfl) (fun g => by kernel_rfl) (by kernel_rfl) ?hS (GFrom.all (n := 6) (by kernel_rfl) ?hstep) ?hend
            case hstep =>
              refine GFrom.cons (GStep.val _ rfl rfl _ rfl (fun g => itV sk xn xd (.slice pp nP dp) gx (.slice pv nV dv)) (fun _ => rfl) (fun _ => trivial) (fun bs g ev wq hS he hr => ?_)) ?_
              · have r0 : ev (.tmp 2) = .pointer (some ⟨N, 0, none⟩) := hr (2, none) (by simp); have hk := he.1; clear hr he
                exact exec_loadD rfl r0 (load_item (HB1.out.kept hS.out.1 (fun h => h)))
              refine GFrom.cons (GStep.callm _ rfl _ rfl (fun _ => trivial) 30 (fun g => #[itV sk xn xd (.slice pp nP dp) gx (.slice pv nV dv)]) (fun bs g ev wq hS he hr => ?_) (fun L g wq hL hd hcl hS => ?_)) ?_
              · have r0 : ev (.tmp 43) = itV sk xn xd (.slice pp nP dp) gx (.slice pv nV dv) := hr (43, some 0) (by simp); have hk := he.1; have hf := he.2; clear hr he
                go_simp
              · have e := (show bitsAt [1, 3] L = [false, L 3] by simp [bitsAt, hL])
                have e2 := (show bitsAt [1, 3] (upd L 1) = [true, L 3] by simp [bitsAt, upd])
                rw [show bitsAt [1, 3] L = _ from e] at hS
                refine (CB1.out wq hS.out.1).mono ?_
                rintro e w' ⟨r, rfl, hby, -, k⟩
                exact ⟨r, (r, g.2), rfl, rfl, old_setV _ hL rfl, by rw [e2]; exact hid ⟨hS.out.1.trans k (fun _ _ h => h), (fun _ => hby), (fun h => (hS.out.2.2 h).kept k (fun _ h => h))⟩⟩
              refine GFrom.cons (GStep.val _ rfl rfl _ rfl (fun g => itV sl yn yd (.slice qp nQ dq) gy (.slice qv nU du)) (fun _ => rfl) (fun _ => trivial) (fun bs g ev wq hS he hr => ?_)) ?_
              · have r0 : ev (.tmp 3) = .pointer (some ⟨N + 1, 0, none⟩) := hr (3, none) (by simp); have hk := he.1; clear hr he
                exact exec_loadD rfl r0 (load_item (HB2.out.kept hS.out.1 (fun h => h)))
              refine GFrom.cons (GStep.callm _ rfl _ rfl (fun _ => trivial) 30 (fun g => #[itV sl yn yd (.slice qp nQ dq) gy (.slice qv nU du)]) (fun bs g ev wq hS he hr => ?_) (fun L g wq hL hd hcl hS => ?_)) ?_
              · have r0 : ev (.tmp 45) = itV sl yn yd (.slice qp nQ dq) gy (.slice qv nU du) := hr (45, some 2) (by simp); have hk := he.1; have hf := he.2; clear hr he
                go_simp
              · have e := (show bitsAt [1, 3] L = [L 1, false] by simp [bitsAt, hL])
                have e2 := (show bitsAt [1, 3] (upd L 3) = [L 1, true] by simp [bitsAt, upd])
                rw [show bitsAt [1, 3] L = _ from e] at hS
                refine (CB2.out wq hS.out.1).mono ?_
                rintro e w' ⟨r, rfl, hby, -, k⟩
                exact ⟨r, (g.1, r), rfl, rfl, old_setV _ hL rfl, by rw [e2]; exact hid ⟨hS.out.1.trans k (fun _ _ h => h), (fun h => (hS.out.2.1 h).kept k (fun _ h => h)), (fun _ => hby)⟩⟩
              refine GFrom.cons (GStep.call _ rfl rfl _ rfl (fun g => .int .i64 cb) (fun _ => rfl) (fun _ => trivial) 53 (fun g => #[g.1, g.2]) (fun bs g ev wq hS he hr => ?_) (fun L g wq hd hL hS => ?_)) ?_
              · have r0 : ev (.tmp 44) = g.1 := hr (44, some 1) (by simp); have r1 : ev (.tmp 46) = g.2 := hr (46, some 3) (by simp); have hk := he.1; have hf := he.2; clear hr he
                go_simp
              · have l1 : L 1 = true := hd 1 (by kernel_rfl); have l3 : L 3 = true := hd 3 (by kernel_rfl); have e : bitsAt [1, 3] L = [true, true] := by simp [bitsAt, l1, l3]
                rw [e] at hS ⊢
                refine (CBC.out g.1 g.2 wq (hS.out.2.1 rfl) (hS.out.2.2 rfl)).mono ?_
                rintro e w' ⟨rfl, rfl⟩
                exact ⟨rfl, hS⟩
              refine GFrom.cons (GStep.val _ rfl rfl _ rfl (fun g => .int .i64 cb) (fun _ => rfl) (fun _ => trivial) (fun bs g ev wq hS he hr => ?_)) ?_
              · have r0 : ev (.tmp 47) = .int .i64 cb := hr (47, some 4) (by simp); have hk := he.1; clear hr he
                go_simp
              exact GFrom.nil
            case hS => exact hid ⟨(Kp.refl Nb w6).drew, (fun e => by cases e), (fun e => by cases e)⟩
            case hend =>
              intro g w7 h7
              have K7 := hid (K6.out.trans h7.out.1 (fun _ _ h => h))
              clear h7
              simp only [putAll, List.zip_cons_cons, List.zip_nil_right, List.foldl_cons, List.foldl_nil, Act.put, List.setIfInBounds_toArray, List.set_cons_zero, List.set_cons_succ]
              go_wp2
              go_ret
              exact ⟨by rw [HR3.out]; rfl, K7.out⟩
        · have g0 : (od != 0) = true := by rw [bne_iff_ne]; exact h0
          have HR2 : Hid (RS = od) := hid (by rw [HR1.out, if_pos (.inl h0)])
          clear h0 HR1
          go_wp2
          go_ret
          exact ⟨by rw [HR2.out]; rfl, K5.out⟩
set_option maxRecDepth 100000 in
set_option maxHeartbeats 16000000 in
theorem ricompare_any (x y : ItQ) (vp vv up uv : Value) (w : World) (hx : ItOk w x vp vv) (hy : ItOk w y up uv) (rx : rightI x = true) (ry : rightI y = true) :
    Calls Tryz.prog 10 #[itVq x vp vv, itVq y up uv] w fun e w' => e = .returned (.int .i64 (rcmpI x y)) ∧ Kp Nb w w' := by
  obtain ⟨pp, dp, rfl⟩ := hx.past.shape
  obtain ⟨pv, dv, rfl⟩ := by_shape hx.val
  obtain ⟨qp, dq, rfl⟩ := hy.past.shape
  obtain ⟨qv, du, rfl⟩ := by_shape hy.val
  obtain ⟨N, hN⟩ : ∃ N, w.heap.size = N := ⟨_, rfl⟩
  obtain ⟨W, hW⟩ : ∃ W, W = (w.alloc (.cells #[.string (st x.key), .int .i64 x.dn, .int .i64 x.dd, .slice pp x.past.length dp, .bool x.gone, .slice pv x.val.length dv] 28)).alloc (.cells #[.string (st y.key), .int .i64 y.dn, .int .i64 y.dd, .slice qp y.past.length dq, .bool y.gone, .slice qv y.val.length du] 28) := ⟨_, rfl⟩
  have HB1 : Hid (Blk W N 28 (itL (st x.key) x.dn x.dd (.slice pp x.past.length dp) x.gone (.slice pv x.val.length dv))) := hid (by rw [hW, ← hN]; exact (Blk.new w _ (itL (st x.key) x.dn x.dd (.slice pp x.past.length dp) x.gone (.slice pv x.val.length dv))).alloc _)
  have HB2 : Hid (Blk W (N + 1) 28 (itL (st y.key) y.dn y.dd (.slice qp y.past.length dq) y.gone (.slice qv y.val.length du))) := hid (by
    have h := Blk.new (w.alloc (.cells #[.string (st x.key), .int .i64 x.dn, .int .i64 x.dd, .slice pp x.past.length dp, .bool x.gone, .slice pv x.val.length dv] 28)) 28 (itL (st y.key) y.dn y.dd (.slice qp y.past.length dq) y.gone (.slice qv y.val.length du))
    simp only [World.size_alloc] at h
    rw [hW, ← hN]
    exact h)
  have K0 : Hid (Kp Nb w W) := hid (by rw [hW]; exact ((Kp.refl Nb w).alloc _).alloc _)
  have HX := hid (hx.kept K0.out)
  have HY := hid (hy.kept K0.out)
  have CB1 := hid (fun wx (k : Kp Nb W wx) => ribytes_any x _ _ wx (HX.out.kept k) rx)
  have CB2 := hid (fun wx (k : Kp Nb W wx) => ribytes_any y _ _ wx (HY.out.kept k) ry)
  have LK := st_lt x.key y.key HX.out.key HY.out.key
  have EK := st_beq x.key y.key HX.out.key HY.out.key
  have LB := st_lt (bytesI x) (bytesI y) (bytesI_bytes rx HX.out.key HX.out.val.1) (bytesI_bytes ry HY.out.key HY.out.val.1)
  have EB := st_beq (bytesI x) (bytesI y) (bytesI_bytes rx HX.out.key HX.out.val.1) (bytesI_bytes ry HY.out.key HY.out.val.1)
  have HRS : Hid (rcmpI x y = if lexI x.key y.key = true ∨ (x.key = y.key ∧ (x.dn < y.dn ∨ (x.dn = y.dn ∧ (x.dd < y.dd ∨ (x.dd = y.dd ∧ lexI (bytesI x) (bytesI y) = true))))) then -1 else if bytesI x = bytesI y then 0 else 1) := hid rfl
  obtain ⟨RS, hRS⟩ : ∃ b, rcmpI x y = b := ⟨_, rfl⟩
  obtain ⟨bX, hbX⟩ : ∃ b, bytesI x = b := ⟨_, rfl⟩
  obtain ⟨bY, hbY⟩ : ∃ b, bytesI y = b := ⟨_, rfl⟩
  obtain ⟨sx, hsx⟩ : ∃ b, st bX = b := ⟨_, rfl⟩
  obtain ⟨sy, hsy⟩ : ∃ b, st bY = b := ⟨_, rfl⟩
  rw [hRS] at HRS ⊢
  rw [hbX, hbY] at HRS LB EB
  rw [hbX] at CB1
  rw [hbY] at CB2
  rw [hsx] at CB1 LB EB
  rw [hsy] at CB2 LB EB
  clear hx hy hRS hbX hbY HX HY hsx hsy rx ry
  obtain ⟨key, xn, xd, past, gx, val⟩ := x
  obtain ⟨key', yn, yd, past', gy, val'⟩ := y
  unfold itVq itV at *
  dsimp only at *
  obtain ⟨nP, hnP⟩ : ∃ n, past.length = n := ⟨_, rfl⟩
  obtain ⟨nV, hnV⟩ : ∃ n, val.length = n := ⟨_, rfl⟩
  obtain ⟨nQ, hnQ⟩ : ∃ n, past'.length = n := ⟨_, rfl⟩
  obtain ⟨nU, hnU⟩ : ∃ n, val'.length = n := ⟨_, rfl⟩
  obtain ⟨sk, hsk⟩ : ∃ s, st key = s := ⟨_, rfl⟩
  obtain ⟨sl, hsl⟩ : ∃ s, st key' = s := ⟨_, rfl⟩
  simp only [hnP, hnV, hnQ, hnU, hsk, hsl] at hW HB1 HB2 CB1 CB2 LK EK ⊢
  clear hnP hnV hnQ hnU hsk hsl
  go_enter Tryz.func10, Tryz.ntmps10
  go_upto_region 1 with fail
  try rw [hN]
  try simp only [World.size_alloc, hN]
  rw [← hW]
  clear hW hN
  refine region_vals2 [none, none, none, none, none, some 4, some 5, some 0, some 1, some 2, some 3, none, none, none, none, none, none, none, none, none, none, none, none, none, none, none, none, none, none, none, none, none, none, none, none, none, none, none, none, none, none, none, none, none, none, none, none, none, none, none, none, none, none, none, none, none, none, none, none, none, none, none, none, none, none, none, none] [[(2, none)], [(7, some 0)], [(3, none)], [(9, some 2)], [(8, some 1)], [(10, some 3)]] [some 7, some 8, some 9, some 10, some 5, some 6] [itV sk xn xd (.slice pp nP dp) gx (.slice pv nV dv), .string sx, itV sl yn yd (.slice qp nQ dq) gy (.slice qv nU du), .string sy, .string sx, .string sy] (fun wq => Hid (Kp Nb W wq)) (by kernel_rfl) (by kernel_rfl) (by kernel_rfl) ?hS (VFrom.all (n := 6) (by kernel_rfl) ?hstep) ?hend
  case hstep =>
    refine VFrom.cons (VStep.val _ rfl _ rfl (itV sk xn xd (.slice pp nP dp) gx (.slice pv nV dv)) rfl trivial (fun ev wq hS he hr => ?_)) ?_
    · have r0 : ev (.tmp 2) = .pointer (some ⟨N, 0, none⟩) := hr (2, none) (by simp); have hk := he.1; clear hr he
      exact exec_loadD rfl r0 (load_item (HB1.out.kept hS.out (fun h => h)))
    refine VFrom.cons (VStep.call _ rfl _ rfl (.string sx) rfl trivial 23 #[itV sk xn xd (.slice pp nP dp) gx (.slice pv nV dv)] (fun ev wq hS he hr => ?_) (fun wq hS => ?_)) ?_
    · have r0 : ev (.tmp 7) = itV sk xn xd (.slice pp nP dp) gx (.slice pv nV dv) := hr (7, some 0) (by simp); have hk := he.1; have hf := he.2; clear hr he
      go_simp
    · exact (CB1.out wq hS.out).mono fun e w' ⟨h1, h2⟩ => ⟨h1, hid (hS.out.trans h2 (fun _ _ h => h))⟩
    refine VFrom.cons (VStep.val _ rfl _ rfl (itV sl yn yd (.slice qp nQ dq) gy (.slice qv nU du)) rfl trivial (fun ev wq hS he hr => ?_)) ?_
    · have r0 : ev (.tmp 3) = .pointer (some ⟨N + 1, 0, none⟩) := hr (3, none) (by simp); have hk := he.1; clear hr he
      exact exec_loadD rfl r0 (load_item (HB2.out.kept hS.out (fun h => h)))
    refine VFrom.cons (VStep.call _ rfl _ rfl (.string sy) rfl trivial 23 #[itV sl yn yd (.slice qp nQ dq) gy (.slice qv nU du)] (fun ev wq hS he hr => ?_) (fun wq hS => ?_)) ?_
    · have r0 : ev (.tmp 9) = itV sl yn yd (.slice qp nQ dq) gy (.slice qv nU du) := hr (9, some 2) (by simp); have hk := he.1; have hf := he.2; clear hr he
      go_simp
    · exact (CB2.out wq hS.out).mono fun e w' ⟨h1, h2⟩ => ⟨h1, hid (hS.out.trans h2 (fun _ _ h => h))⟩
    refine VFrom.cons (VStep.val _ rfl _ rfl (.string sx) rfl trivial (fun ev wq hS he hr => ?_)) ?_
    · have r0 : ev (.tmp 8) = .string sx := hr (8, some 1) (by simp); have hk := he.1; clear hr he
      go_simp
    refine VFrom.cons (VStep.val _ rfl _ rfl (.string sy) rfl trivial (fun ev wq hS he hr => ?_)) ?_
    · have r0 : ev (.tmp 10) = .string sy := hr (10, some 3) (by simp); have hk := he.1; clear hr he
      go_simp
    exact VFrom.nil
  case hS => exact hid (Kp.refl Nb W).drew
  case hend =>
    intro w1 h1
    have K1 := hid (K0.out.trans h1.out (fun _ _ h => h))
    have B1 := hid (HB1.out.kept h1.out (fun h => h))
    have B2 := hid (HB2.out.kept h1.out (fun h => h))
    have a0 : w1.cell? ⟨N, 0, none⟩ = some (.string sk) := B1.out.cell 0
    have a1 : w1.cell? ⟨N, 1, none⟩ = some (.int .i64 xn) := B1.out.cell 1
    have a2 : w1.cell? ⟨N, 2, none⟩ = some (.int .i64 xd) := B1.out.cell 2
    have b0 : w1.cell? ⟨N + 1, 0, none⟩ = some (.string sl) := B2.out.cell 0
    have b1 : w1.cell? ⟨N + 1, 1, none⟩ = some (.int .i64 yn) := B2.out.cell 1
    have b2 : w1.cell? ⟨N + 1, 2, none⟩ = some (.int .i64 yd) := B2.out.cell 2
    clear h1 HB1 HB2 CB1 CB2
    simp only [putAll, List.zip_cons_cons, List.zip_nil_right, List.foldl_cons, List.foldl_nil, Act.put, List.setIfInBounds_toArray, List.set_cons_zero, List.set_cons_succ]
    obtain ⟨lk, hlk⟩ : ∃ b, lexI key key' = b := ⟨_, rfl⟩
    obtain ⟨ek, hek⟩ : ∃ b, decide (key = key') = b := ⟨_, rfl⟩
    obtain ⟨lb, hlb⟩ : ∃ b, lexI bX bY = b := ⟨_, rfl⟩
    obtain ⟨eb, heb⟩ : ∃ b, decide (bX = bY) = b := ⟨_, rfl⟩
    have HF : Hid ((key = key' ↔ ek = true) ∧ (bX = bY ↔ eb = true)) := hid ⟨by rw [← hek, decide_eq_true_eq], by rw [← heb, decide_eq_true_eq]⟩
    rw [hlk, hlb] at HRS
    rw [hlk] at LK
    rw [hek] at EK
    rw [hlb] at LB
    rw [heb] at EB
    have HRS2 : Hid (RS = if lk = true ∨ (ek = true ∧ (xn < yn ∨ (xn = yn ∧ (xd < yd ∨ (xd = yd ∧ lb = true))))) then -1 else if eb = true then 0 else 1) := hid (by rw [HRS.out]; simp only [HF.out.1, HF.out.2])
    clear HRS HF hlk hek hlb heb
    have fin : ∀ (c : Prop) [Decidable c], (lk = true ∨ (ek = true ∧ (xn < yn ∨ (xn = yn ∧ (xd < yd ∨ (xd = yd ∧ lb = true))))) ↔ c) → RS = if c then -1 else if eb = true then 0 else 1 := fun c _ h => by rw [HRS2.out]; simp only [h]
    have FIN := hid fin
    clear fin HRS2
    cases lk with
    | true =>
      have HR : Hid (RS = -1) := hid ((FIN.out True (by simp)).trans (if_pos trivial))
      clear FIN
      go_wp2
      go_ret
      exact ⟨by rw [HR.out]; rfl, K1.out⟩
    | false =>
      cases ek with
      | false =>
        have HR : Hid (RS = if eb = true then 0 else 1) := hid ((FIN.out False (by simp)).trans (if_neg id))
        clear FIN
        cases eb with
        | true =>
          go_wp2
          go_ret
          exact ⟨by rw [HR.out]; rfl, K1.out⟩
        | false =>
          go_wp2
          go_ret
          exact ⟨by rw [HR.out]; rfl, K1.out⟩
      | true =>
        by_cases n1 : xn < yn
        · have m := hid n1
          have HR : Hid (RS = -1) := hid ((FIN.out True (by simp [m.out])).trans (if_pos trivial))
          clear FIN
          go_wp2
          go_ret
          exact ⟨by rw [HR.out]; rfl, K1.out⟩
        · by_cases n2 : xn = yn
          · have g2 : (xn == yn) = true := beq_iff_eq.2 n2
            have m := hid (And.intro n1 n2)
            clear n2
            by_cases d1 : xd < yd
            · have md := hid d1
              have HR : Hid (RS = -1) := hid ((FIN.out True (by simp [m.out.2, md.out])).trans (if_pos trivial))
              clear FIN
              go_wp2
              go_ret
              exact ⟨by rw [HR.out]; rfl, K1.out⟩
            · by_cases d2 : xd = yd
              · have g3 : (xd == yd) = true := beq_iff_eq.2 d2
                have md := hid (And.intro d1 d2)
                clear d2
                cases lb with
                | true =>
                  have HR : Hid (RS = -1) := hid ((FIN.out True (by simp [m.out.2, md.out.2])).trans (if_pos trivial))
                  clear FIN
                  go_wp2
                  go_ret
                  exact ⟨by rw [HR.out]; rfl, K1.out⟩
                | false =>
                  have HR : Hid (RS = if eb = true then 0 else 1) := hid ((FIN.out False (by simp [m.out.2, md.out.2])).trans (if_neg id))
                  clear FIN
                  cases eb with
                  | true =>
                    go_wp2
                    go_ret
                    exact ⟨by rw [HR.out]; rfl, K1.out⟩
                  | false =>
                    go_wp2
                    go_ret
                    exact ⟨by rw [HR.out]; rfl, K1.out⟩
              · have g3 : (xd == yd) = false := beq_eq_false_iff_ne.2 d2
                have md := hid (And.intro d1 d2)
                clear d2
                have HR : Hid (RS = if eb = true then 0 else 1) := hid ((FIN.out False (by simp [m.out.2, md.out.1, md.out.2])).trans (if_neg id))
                clear FIN
                cases eb with
                | true =>
                  go_wp2
                  go_ret
                  exact ⟨by rw [HR.out]; rfl, K1.out⟩
                | false =>
                  go_wp2
                  go_ret
                  exact ⟨by rw [HR.out]; rfl, K1.out⟩
          · have g2 : (xn == yn) = false := beq_eq_false_iff_ne.2 n2
            have m := hid (And.intro n1 n2)
            clear n2
            have HR : Hid (RS = if eb = true then 0 else 1) := hid ((FIN.out False (by simp [m.out.1, m.out.2])).trans (if_neg id))
            clear FIN
            cases eb with
            | true =>
              go_wp2
              go_ret
              exact ⟨by rw [HR.out]; rfl, K1.out⟩
            | false =>
              go_wp2
              go_ret
              exact ⟨by rw [HR.out]; rfl, K1.out⟩
end

end Go.Proofs.YtogoophofgkboaaGreatDoor
