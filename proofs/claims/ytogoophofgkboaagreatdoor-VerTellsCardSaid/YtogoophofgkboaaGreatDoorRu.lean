/-
  Of the texts VeAa what is used. No condition but what each says.
-/
import Derived.Test.YtogoophofgkboaaGreatDoorRt
import Derived.Test.YtogoophofgkboaaGreatDoorRp
import Derived.Test.YtogoophofgkboaaGreatDoorRg
import Derived.Test.YtogoophofgkboaaGreatDoorRq
import Derived.Lib.SlBytesConst
namespace Go.Proofs.YtogoophofgkboaaGreatDoor
section
open Go.RowKit
theorem run_mark_eqV (d : Nat) (zs ys : List Int) (hz : zs.length = 16) (hy : ys.length = 16) (w : World) :
    (Op.equalIn (d + 2) 30 (bytesVal zs) (bytesVal ys)).run Tryz.prog w = .ok (decide (zs = ys)) w := by
  obtain ⟨i, hi⟩ := info_u8
  unfold bytesVal
  rw [run_equalIn_array w (d + 1) _ _ under_mark hi, cells_u8, eqItems_bytes d zs ys 16 hz hy w _ (fun i h => List.mem_range.1 h), all_range zs ys 16 hz hy]
def mkI (x : ItQ) : List Int := if rightI x then markList (markA (bytesI x)) (markB (bytesI x)) 8 else [0, 0, 0, 0, 0, 0, 0, 0, 0, 0, 0, 0, 0, 0, 0, 0]
theorem mkV_ints (x : ItQ) : mkV x = bytesVal (mkI x) := by
  unfold mkV mkL bytesVal mkI
  split <;> rfl
theorem mkI_len (x : ItQ) : (mkI x).length = 16 := by
  have h := mkL_len x
  have e : mkL x = (mkI x).map (Value.int .u8) := by unfold mkL mkI; split <;> rfl
  rw [e, List.length_map] at h
  exact h
theorem mk_eq (x y : ItQ) (w : World) : Sem.run Tryz.prog (Op.equal 30 (mkV x) (mkV y)) w = .ok (decide (mkI x = mkI y)) w := by
  rw [mkV_ints, mkV_ints]
  exact run_mark_eqV 9998 _ _ (mkI_len x) (mkI_len y) w
theorem exec_eqMarkV {ev : Operand → Value} {o : Oper} {x y : Operand} {t' : TypeId} {p q : ItQ} {b : Bool} {w : World} (ho : o.op = .binOp .eql 30 x y t') (hx : ev x = mkV p) (hy : ev y = mkV q)
    (h : Sem.run Tryz.prog (Op.equal 30 (mkV p) (mkV q)) w = .ok b w) : (execOp ev o).run Tryz.prog w = .ok (.value (.bool b)) w := by
  unfold mkV at hx hy h
  have h1 : Sem.run Tryz.prog (eqGuard .eql 30 x y (.agg (mkL p).toArray) (.agg (mkL q).toArray)) w = .ok () w := by go_simp
  have h2 : Sem.run Tryz.prog (binOp .eql 30 (.agg (mkL p).toArray) (.agg (mkL q).toArray)) w = .ok (.bool b) w := by
    show Sem.run Tryz.prog (do pure (Value.bool (← Op.equal 30 (.agg (mkL p).toArray) (.agg (mkL q).toArray)))) w = _
    simp only [Sem.run_bind, Sem.run_pure, Result.andThen_ok, h]
  unfold execOp
  simp only [ho, hx, hy, Sem.run_bind, Sem.run_pure, Result.andThen_ok, h1, h2]
theorem exec_neqMarkV {ev : Operand → Value} {o : Oper} {x y : Operand} {t' : TypeId} {p q : ItQ} {w : World} (ho : o.op = .binOp .neq 30 x y t') (hx : ev x = mkV p) (hy : ev y = mkV q)
    (h : Sem.run Tryz.prog (Op.equal 30 (mkV p) (mkV q)) w = .ok false w) : (execOp ev o).run Tryz.prog w = .ok (.value (.bool true)) w := by
  unfold mkV at hx hy h
  have h1 : Sem.run Tryz.prog (eqGuard .neq 30 x y (.agg (mkL p).toArray) (.agg (mkL q).toArray)) w = .ok () w := by go_simp
  have h2 : Sem.run Tryz.prog (binOp .neq 30 (.agg (mkL p).toArray) (.agg (mkL q).toArray)) w = .ok (.bool true) w := by
    show Sem.run Tryz.prog (do pure (Value.bool (!(← Op.equal 30 (.agg (mkL p).toArray) (.agg (mkL q).toArray))))) w = _
    simp only [Sem.run_bind, Sem.run_pure, Result.andThen_ok, h]
    rfl
  unfold execOp
  simp only [ho, hx, hy, Sem.run_bind, Sem.run_pure, Result.andThen_ok, h1, h2]
theorem exec_lenS {ev : Operand → Value} {o : Oper} {x : Operand} {s : ByteArray} {n : Nat} {w : World} (ho : o.op = .call { callee := .builtin .len, args := #[x], argTypes := #[9] }) (hx : ev x = .string s) (hs : s.size = n) : (execOp ev o).run Tryz.prog w = .ok (.value (.int .i64 (n : Int))) w := by
  have h : (Builtin.len_ #[9] o.type #[.string s]).run Tryz.prog w = .ok (.int .i64 (n : Int)) w := by
    rw [← hs]
    kernel_rfl
  simp [execOp, ho, resolve, invoke, builtin, hx, h, Result.andThen]
theorem build_m0 (w : World) : (Instr.build 30 #[]).run Tryz.prog w = .ok (.agg ((List.replicate 16 (0 : Int)).map (Value.int .u8)).toArray) w := by kernel_rfl
theorem at_loadV {P : Program} {ops : Array Oper} {rest : List Oper} {o : Oper} {a : Act} {w : World} {Q : Exit → Act → World → Prop} (T : TypeId) (x : Operand) (_ : o.op = .load T x) (h : wpList P ops Q (o :: rest) a w) : wpList P ops Q (o :: rest) a w := h
theorem run_minV (P : Program) (w : World) (ts : Array TypeId) (t : TypeId) (k k' : IntKind) (x y : Int) : (Builtin.min_ ts t #[.int k x, .int k' y]).run P w = .ok (.int k (min x y)) w := by
  rw [run_min_int2]
  congr 2
  rw [Int.min_def]
  split <;> split <;> omega
def grI (x : ItQ) : Int := 20 + min (x.key.length : Int) 5000 + min (x.val.length : Int) 5000 + 5 * min (x.past.length : Int) 1000
def grS : List ItQ → Int
  | [] => 0
  | x :: xs => grI x + grS xs
theorem grI_rng (x : ItQ) : 20 ≤ grI x ∧ grI x ≤ 15020 := by unfold grI; omega
theorem grS_snoc (xs : List ItQ) (x : ItQ) : grS (xs ++ [x]) = grS xs + grI x := by
  induction xs with
  | nil => simp [grS]
  | cons y ys ih => simp only [List.cons_append, grS, ih]; omega
theorem grS_rng (xs : List ItQ) : 0 ≤ grS xs ∧ grS xs ≤ 15020 * xs.length := by
  induction xs with
  | nil => simp [grS]
  | cons y ys ih => have := grI_rng y; simp only [grS, List.length_cons]; omega
abbrev ItP := ItQ × Value × Value
def itR (x : ItP) : List Value := itL (st x.1.key) x.1.dn x.1.dd x.2.1 x.1.gone x.2.2
def GtR4 (W : World) (l : List ItP) (u i : Value) (wr : World) : Prop := ∃ k : Nat, k ≤ l.length ∧ i = .int .i64 k ∧ u = .int .i64 (grS ((l.take k).map (·.1))) ∧ Hid (Kp Nb W wr)
section
attribute [-go_sem] run_min_int2
attribute [local go_sem] run_minV
set_option maxRecDepth 100000 in
set_option maxHeartbeats 4000000 in
theorem great4_any (B n : Nat) (l : List ItP) (w : World) (hl : l.length = n) (hn : n ≤ 10) (hr : ∀ j, j < n → ∀ x, l[j]? = some x → w.rangeAt B (j * 6) (itR x) ∧ ItOk w x.1 x.2.1 x.2.2) :
    Calls Tryz.prog 8 #[.slice (some ⟨B, 0, none⟩) n n] w fun e w' => e = .returned (.int .i64 (grS (l.map (·.1)))) ∧ Kp Nb w w' := by
  have HR := hid hr
  have HL := hid hl
  have HN := hid hn
  clear hl hr
  go_enter Tryz.func8, Tryz.ntmps8
  go_wp2
  go_loopw [3, 8] (GtR4 w l) (fun _ i _ => n - (intOf i).toNat)
  case atStart => exact ⟨0, Nat.zero_le _, rfl, rfl, hid (Kp.refl _ _)⟩
  case round =>
    obtain ⟨k, hk, rfl, rfl, HK⟩ := hrel
    rw [HL.out] at hk
    by_cases hlt : k < n
    · obtain ⟨⟨x, vp, vv⟩, hx⟩ : ∃ x, l[k]? = some x := ⟨_, List.getElem?_eq_getElem (by rw [HL.out]; exact hlt)⟩
      obtain ⟨hra, hok⟩ := HR.out k hlt _ hx
      dsimp only at hra hok
      unfold itR at hra
      dsimp only at hra
      obtain ⟨yp, dp, rfl⟩ := hok.past.shape
      obtain ⟨yv, dv, rfl⟩ := by_shape hok.val
      have HRA : Hid (wr.rangeAt B (k * 6) (itL (st x.key) x.dn x.dd (.slice yp x.past.length dp) x.gone (.slice yv x.val.length dv))) := hid (fun j u hu => HK.out.cell (hra j u hu) (fun h => h))
      have HS : Hid (grS ((l.take (k + 1)).map (·.1)) = grS ((l.take k).map (·.1)) + grI x) := hid (by
        have hkl : k < l.length := by rw [HL.out]; exact hlt
        have e : l[k] = (x, _, _) := Option.some.inj ((List.getElem?_eq_getElem hkl).symm.trans hx)
        rw [List.take_succ_eq_append_getElem hkl, e, List.map_append, List.map_cons, List.map_nil, grS_snoc])
      have HG : Hid (0 ≤ grS ((l.take k).map (·.1)) ∧ grS ((l.take k).map (·.1)) ≤ 200000) := hid (by have h := grS_rng ((l.take k).map (·.1)); rw [List.length_map, List.length_take] at h; have := HN.out; omega)
      obtain ⟨G, hG⟩ : ∃ G, grS ((l.take k).map (·.1)) = G := ⟨_, rfl⟩
      rw [hG] at HS HG
      rw [hG]
      have HX0 : Hid (grI x = 20 + min (x.key.length : Int) 5000 + min (x.val.length : Int) 5000 + 5 * min (x.past.length : Int) 1000) := hid rfl
      have hsz := st_size x.key
      clear hG hx hra hok
      obtain ⟨X, hX⟩ : ∃ X, wr.heap.size = X := ⟨_, rfl⟩
      obtain ⟨V, hV⟩ : ∃ V, V = (wr.alloc (.cells #[.string ⟨#[]⟩, .int .i64 0, .int .i64 0, .slice none 0 0, .bool false, .slice none 0 0] 28)).setCells X 0 (itL (st x.key) x.dn x.dd (.slice yp x.past.length dp) x.gone (.slice yv x.val.length dv)) := ⟨_, rfl⟩
      have hz : Blk (wr.alloc (.cells #[.string ⟨#[]⟩, .int .i64 0, .int .i64 0, .slice none 0 0, .bool false, .slice none 0 0] 28)) X 28 (itL ⟨#[]⟩ 0 0 (.slice none 0 0) false (.slice none 0 0)) := by rw [← hX]; exact Blk.new wr _ (itL ⟨#[]⟩ 0 0 (.slice none 0 0) false (.slice none 0 0))
      have ks : Kp Nb wr V := by rw [hV]; exact Kp.setCells (fun h => absurd h (by omega)) _ 0 _ ((Kp.refl Nb wr).alloc _)
      have BX := hid (show Blk V X 28 (itL (st x.key) x.dn x.dd (.slice yp x.past.length dp) x.gone (.slice yv x.val.length dv)) by rw [hV]; exact row_set hz rfl)
      have KV := hid (HK.out.trans ks (fun _ _ h => h))
      have TH := hid (item_there (ks := st x.key) (dn := x.dn) (dd := x.dd) (vp := .slice yp x.past.length dp) (vv := .slice yv x.val.length dv) (g := x.gone) hz rfl)
      clear ks hz HK
      obtain ⟨key, dn, dd, past, gn, val⟩ := x
      dsimp only at *
      obtain ⟨mk, hmk⟩ : ∃ m : Int, min (key.length : Int) 5000 = m := ⟨_, rfl⟩
      obtain ⟨mv, hmv⟩ : ∃ m : Int, min (val.length : Int) 5000 = m := ⟨_, rfl⟩
      obtain ⟨mp, hmp⟩ : ∃ m : Int, min (past.length : Int) 1000 = m := ⟨_, rfl⟩
      have hb1 : 0 ≤ mk ∧ mk ≤ 5000 := by omega
      have hb2 : 0 ≤ mv ∧ mv ≤ 5000 := by omega
      have hb3 : 0 ≤ mp ∧ mp ≤ 1000 := by omega
      rw [hmk, hmv, hmp] at HX0
      obtain ⟨nP, hnP⟩ : ∃ n, past.length = n := ⟨_, rfl⟩
      obtain ⟨nV, hnV⟩ : ∃ n, val.length = n := ⟨_, rfl⟩
      obtain ⟨nK, hnK⟩ : ∃ n, key.length = n := ⟨_, rfl⟩
      obtain ⟨sk, hsk⟩ : ∃ s, st key = s := ⟨_, rfl⟩
      rw [hnK] at hmk
      rw [hnV] at hmv
      rw [hnP] at hmp
      rw [hsk, hnK] at hsz
      simp only [hnP, hnV, hsk] at hV BX HRA TH
      have HKK := hid hlt
      have HREL : Hid (∀ g : Int, g = G + (20 + mk + mv + 5 * mp) → GtR4 w l (.int .i64 g) (.int .i64 ((k : Int) + 1)) V) := hid (fun g hg => ⟨k + 1, by rw [HL.out]; exact HKK.out, rfl, by rw [HS.out, HX0.out, hg], KV⟩)
      clear hnP hnV hnK hsk HS HX0 KV
      have hgr : 0 ≤ G ∧ G ≤ 200000 := HG.out
      have c0 : V.cell? ⟨X, 0, none⟩ = some (.string sk) := BX.out.cell 0
      have c3 : V.cell? ⟨X, 3, none⟩ = some (.slice yp nP dp) := BX.out.cell 3
      have c5 : V.cell? ⟨X, 5, none⟩ = some (.slice yv nV dv) := BX.out.cell 5
      go_upto_region 5 with (first
        | (refine at_loadV 28 (.tmp 10) (by rfl) ?_; refine wpList_load_mid (by rfl) 28 (.tmp 10) (by rfl) B (k * 6) (by rfl) (itL sk dn dd (.slice yp nP dp) gn (.slice yv nV dv)) _ HRA.out under_item.choose_spec rfl item_info ?_)
        | (refine at_storeV 28 (.tmp 5) (.tmp 11) (by rfl) ?_; refine wpList_store_mid (by rfl) 28 (.tmp 5) (.tmp 11) (by rfl) X 0 (itL sk dn dd (.slice yp nP dp) gn (.slice yv nV dv)).toArray (by rfl) (by rfl) TH.out item_info (item_one _ _ _ _ _ _ _ _ _ _) ?_))
      try rw [hX]
      rw [show (wr.alloc (.cells #[.string ⟨#[]⟩, .int .i64 0, .int .i64 0, .slice none 0 0, .bool false, .slice none 0 0] 28)).setCells X 0 (itL sk dn dd (.slice yp nP dp) gn (.slice yv nV dv)) = V from hV.symm]
      clear hV TH hX HRA
      go_wp2
      exact ⟨HREL.out _ (by omega), by simp [intOf]; have := HKK.out; omega⟩
    · obtain rfl : k = n := by omega
      have HT : Hid (l.take k = l) := hid (by rw [← HL.out]; exact List.take_length)
      rw [HT.out]
      go_wp2
      go_ret
      exact ⟨rfl, HK.out⟩
end
theorem marked_cell (W : World) (a b : Value) (t : TypeId) : (W.alloc (.cells #[a, b] t (2, 3))).cell? ⟨W.heap.size, 0, none⟩ = some a ∧ (W.alloc (.cells #[a, b] t (2, 3))).cell? ⟨W.heap.size, 1, none⟩ = some b := by
  have h : (W.alloc (.cells #[a, b] t (2, 3))).heap[W.heap.size]? = some (.cells #[a, b] t (2, 3)) := by
    show (W.heap.push _)[W.heap.size]? = _
    simp
  unfold World.cell?
  simp only [h]
  exact ⟨rfl, rfl⟩
def xI : ItQ := ⟨[107], 0, 3, [(1, 2, 2)], false, [118, 49]⟩
def yI : ItQ := ⟨[107], 1, 2, [], true, []⟩
theorem xI_right : rightI xI = true := by kernel_rfl
theorem xy_above : aboveI xI yI = true := by kernel_rfl
theorem yx_above : aboveI yI xI = false := by kernel_rfl
theorem xy_cmp : cmpI xI yI = -1 := by kernel_rfl
theorem xI_text : bs (textI xI) = ⟨#[54, 98, 32, 48, 58, 51, 32, 91, 49, 58, 50, 93, 32, 55, 54, 51, 49]⟩ := by kernel_rfl
theorem xI_key : IsBytes xI.key := isb_cons (by decide) isb_nil
theorem xI_val : IsBytes xI.val := isb_cons (by decide) (isb_cons (by decide) isb_nil)
theorem xI_par : parI [54, 98, 32, 48, 58, 51, 32, 91, 49, 58, 50, 93, 32, 55, 54, 51, 49] = some xI := (parI_iff _ _).2 ⟨xI_right, xI_key, xI_val, by
  have h := xI_text
  unfold textI at h
  rw [if_pos xI_right] at h
  exact congrArg (fun b : ByteArray => b.data.toList) h⟩
theorem xy_mark : decide (mkI xI = mkI yI) = false := by
  have h : (mkI xI).head? ≠ (mkI yI).head? := by decide +kernel
  rw [decide_eq_false_iff_not]
  intro e
  exact h (by rw [e])
theorem hex_zero : (bs (hexL (List.replicate 16 0))).size = 32 := by kernel_rfl
theorem ok_xI (w : World) (A B : Nat) (ha : Blk w A 38 [.int .i64 1, .int .i64 2, .int .i64 2]) (hb : w.cell? ⟨B, 0, none⟩ = some (.int .u8 118) ∧ w.cell? ⟨B, 1, none⟩ = some (.int .u8 49)) : ItOk w xI (.slice (some ⟨A, 0, none⟩) 1 1) (.slice (some ⟨B, 0, none⟩) 2 2) := by
  refine ⟨xI_key, by unfold I64 xI; decide, by unfold I64 xI; decide, ⟨runAt_ok (fun q hq => by rw [List.mem_singleton.1 hq]; unfold RunOk I64; decide), .inr ⟨A, 0, 1, rfl, Nat.le_refl _, by unfold maxLen; omega, fun i hi j u hu => ?_⟩⟩, ⟨xI_val, .inr ⟨B, 0, 2, rfl, Nat.le_refl _, by unfold maxLen; omega, fun i hi => ?_, fun _ h => h⟩⟩⟩
  · have e : i = 0 := by have : i < 1 := hi; omega
    subst e
    rw [show 0 + 0 * 3 + j = j by omega, ha.cell]
    exact hu
  · match i, hi with
    | 0, _ => exact hb.1
    | 1, _ => exact hb.2
theorem ok_yI (w : World) : ItOk w yI (.slice none 0 0) (.slice none 0 0) := ⟨isb_cons (by decide) isb_nil, by unfold I64 yI; decide, by unfold I64 yI; decide, cl_nil w, ⟨isb_nil, .inl ⟨⟨_, _, rfl⟩, rfl⟩⟩⟩
set_option maxRecDepth 100000 in
set_option maxHeartbeats 16000000 in
theorem first4_any (w : World) (hm : Mx w) (he : Ev w) (ht : Tab w) : Calls Tryz.prog 7 #[] w fun e w' => e = .returned (.bool true) ∧ Kp Nb w w' := by
  have HM := hid (show Mx w ∧ Ev w ∧ Tab w from ⟨hm, he, ht⟩)
  clear hm he ht
  -- the two items
  obtain ⟨A, hA⟩ : ∃ A, w.heap.size = A := ⟨_, rfl⟩
  obtain ⟨w2, hw2⟩ : ∃ w2, w2 = (w.alloc (.cells #[.int .i64 1, .int .i64 2, .int .i64 2] 38)).alloc (.cells #[.int .u8 118, .int .u8 49] 5 (2, 3)) := ⟨_, rfl⟩
  have hX : w2.heap.size = A + 1 + 1 := by rw [hw2, ← hA]; simp only [World.size_alloc]
  obtain ⟨w3, hw3⟩ : ∃ w3, w3 = (w2.alloc (.cells #[.string ⟨#[]⟩, .int .i64 0, .int .i64 0, .slice none 0 0, .bool false, .slice none 0 0] 28)).setCells (A + 1 + 1) 0 (itL ⟨#[107]⟩ 0 3 (.slice (some ⟨A, 0, none⟩) 1 1) false (.slice (some ⟨A + 1, 0, none⟩) 2 2)) := ⟨_, rfl⟩
  obtain ⟨Y, hY⟩ : ∃ Y, w3.heap.size = Y := ⟨_, rfl⟩
  obtain ⟨w4, hw4⟩ : ∃ w4, w4 = (w3.alloc (.cells #[.string ⟨#[]⟩, .int .i64 0, .int .i64 0, .slice none 0 0, .bool false, .slice none 0 0] 28)).setCells Y 0 (itL ⟨#[107]⟩ 1 2 (.slice none 0 0) true (.slice none 0 0)) := ⟨_, rfl⟩
  have k2 : Kp Nb w w2 := by rw [hw2]; exact ((Kp.refl Nb w).alloc _).alloc _
  have hzx : Blk (w2.alloc (.cells #[.string ⟨#[]⟩, .int .i64 0, .int .i64 0, .slice none 0 0, .bool false, .slice none 0 0] 28)) (A + 1 + 1) 28 (itL ⟨#[]⟩ 0 0 (.slice none 0 0) false (.slice none 0 0)) := by rw [← hX]; exact Blk.new w2 _ (itL ⟨#[]⟩ 0 0 (.slice none 0 0) false (.slice none 0 0))
  have hzy : Blk (w3.alloc (.cells #[.string ⟨#[]⟩, .int .i64 0, .int .i64 0, .slice none 0 0, .bool false, .slice none 0 0] 28)) Y 28 (itL ⟨#[]⟩ 0 0 (.slice none 0 0) false (.slice none 0 0)) := by rw [← hY]; exact Blk.new w3 _ (itL ⟨#[]⟩ 0 0 (.slice none 0 0) false (.slice none 0 0))
  have k3 : Kp Nb w2 w3 := by rw [hw3]; exact Kp.setCells (fun h => absurd h (by omega)) _ 0 _ ((Kp.refl Nb w2).alloc _)
  have k4 : Kp Nb w3 w4 := by rw [hw4]; exact Kp.setCells (fun h => absurd h (by omega)) _ 0 _ ((Kp.refl Nb w3).alloc _)
  have bA : Blk w2 A 38 [.int .i64 1, .int .i64 2, .int .i64 2] := by rw [hw2, ← hA]; exact (Blk.new w _ [.int .i64 1, .int .i64 2, .int .i64 2]).alloc _
  have bB : w2.cell? ⟨A + 1, 0, none⟩ = some (.int .u8 118) ∧ w2.cell? ⟨A + 1, 1, none⟩ = some (.int .u8 49) := by
    have h := marked_cell (w.alloc (.cells #[.int .i64 1, .int .i64 2, .int .i64 2] 38)) (.int .u8 118) (.int .u8 49) 5
    simp only [World.size_alloc, hA] at h
    rw [hw2]
    exact h
  have bX : Blk w3 (A + 1 + 1) 28 (itL ⟨#[107]⟩ 0 3 (.slice (some ⟨A, 0, none⟩) 1 1) false (.slice (some ⟨A + 1, 0, none⟩) 2 2)) := by rw [hw3]; exact row_set hzx rfl
  have bY : Blk w4 Y 28 (itL ⟨#[107]⟩ 1 2 (.slice none 0 0) true (.slice none 0 0)) := by rw [hw4]; exact row_set hzy rfl
  have k24 := k3.trans k4 (fun _ _ h => h)
  have BA := hid (bA.kept k24 (fun h => h))
  have BB := hid (And.intro (k24.cell bB.1 (fun h => h)) (k24.cell bB.2 (fun h => h)))
  have BX0 := hid (bX.kept k4 (fun h => h))
  have BY0 := hid bY
  have K4 := hid (k2.trans k24 (fun _ _ h => h))
  have OX := hid (ok_xI w4 A (A + 1) BA.out BB.out)
  have OY := hid (ok_yI w4)
  have THX := hid (item_there (ks := ⟨#[107]⟩) (dn := 0) (dd := 3) (vp := .slice (some ⟨A, 0, none⟩) 1 1) (vv := .slice (some ⟨A + 1, 0, none⟩) 2 2) (g := false) hzx rfl)
  have THY := hid (item_there (ks := ⟨#[107]⟩) (dn := 1) (dd := 2) (vp := .slice none 0 0) (vv := .slice none 0 0) (g := true) hzy rfl)
  have HAB : Hid (A < w4.heap.size ∧ A + 1 + 1 < w4.heap.size) := hid ⟨BA.out.lt, BX0.out.lt⟩
  have HM4 := hid (show Mx w4 ∧ Ev w4 ∧ Tab w4 from ⟨HM.out.1.kept K4.out, HM.out.2.1.kept K4.out, HM.out.2.2.kept K4.out⟩)
  clear k2 k3 k4 k24 bA bB bX bY hzx hzy BA BB HM
  have CP0 := iparse_any [54, 98, 32, 48, 58, 51, 32, 91, 49, 58, 50, 93, 32, 55, 54, 51, 49] w4 (by decide) HM4.out.1 HM4.out.2.1 HM4.out.2.2
  rw [xI_par] at CP0
  have CP := hid CP0
  clear CP0
  go_enter Tryz.func7, Tryz.ntmps7
  go_upto_region 1 with fail
  have hcv := Lib.run_convert_bytes_const (P := Tryz.prog) (w.alloc (.cells #[.int .i64 1, .int .i64 2, .int .i64 2] 38)) 26 5 #[.int .u8 118, .int .u8 49] 2 2 Tryz.underlying26 Tryz.underlying5
  simp only [World.size_alloc, hA, show (#[Value.int .u8 118, Value.int .u8 49] : Array Value).size = 2 from rfl] at hcv
  rw [hw2] at THX
  go_upto_region 2 with (first
    | (refine at_storeV 28 (.tmp 1) (.tmp 12) (by rfl) ?_; refine wpList_store_mid (by rfl) 28 (.tmp 1) (.tmp 12) (by rfl) (A + 1 + 1) 0 (itL ⟨#[107]⟩ 0 3 (.slice (some ⟨A, 0, none⟩) 1 1) false (.slice (some ⟨A + 1, 0, none⟩) 2 2)).toArray (by rfl) (by rfl) THX.out item_info (item_one _ _ _ _ _ _ _ _ _ _) ?_))
  rw [← hw2, show (w2.alloc (.cells #[.string ⟨#[]⟩, .int .i64 0, .int .i64 0, .slice none 0 0, .bool false, .slice none 0 0] 28)).setCells (A + 1 + 1) 0 (itL ⟨#[107]⟩ 0 3 (.slice (some ⟨A, 0, none⟩) 1 1) false (.slice (some ⟨A + 1, 0, none⟩) 2 2)) = w3 from hw3.symm]
  obtain ⟨X, hXX⟩ : ∃ X, A + 1 + 1 = X := ⟨_, rfl⟩
  rw [hXX] at BX0 ⊢
  clear hw2 hw3 hA hX THX hcv hXX
  go_upto_region 3 with (first
    | (refine at_storeV 28 (.tmp 2) (.tmp 14) (by rfl) ?_; refine wpList_store_mid (by rfl) 28 (.tmp 2) (.tmp 14) (by rfl) Y 0 (itL ⟨#[107]⟩ 1 2 (.slice none 0 0) true (.slice none 0 0)).toArray (by rfl) (by rfl) THY.out item_info (item_one _ _ _ _ _ _ _ _ _ _) ?_))
  rw [show (w3.alloc (.cells #[.string ⟨#[]⟩, .int .i64 0, .int .i64 0, .slice none 0 0, .bool false, .slice none 0 0] 28)).setCells Y 0 (itL ⟨#[107]⟩ 1 2 (.slice none 0 0) true (.slice none 0 0)) = w4 from hw4.symm]
  clear hw4 hY THY
  go_wp2_with fail
  refine CP.out.mono ?_
  rintro e w5 ⟨vp, vv, rfl, hit, k5⟩
  have hit : ItOk w5 xI vp vv := hit
  obtain ⟨yp, dp, e1⟩ := hit.past.shape
  obtain ⟨yv, dv, e2⟩ := by_shape hit.val
  have e1 : vp = .slice yp 1 dp := e1
  have e2 : vv = .slice yv 2 dv := e2
  subst e1 e2
  have OZ5 := hid hit
  have KW5 := hid k5
  have K5 := hid (K4.out.trans k5 (fun _ _ h => h))
  clear hit k5 CP K4
  obtain ⟨Z, hZ⟩ : ∃ X, w5.heap.size = X := ⟨_, rfl⟩
  obtain ⟨w6, hw6⟩ : ∃ V, V = (w5.alloc (.cells #[.string ⟨#[]⟩, .int .i64 0, .int .i64 0, .slice none 0 0, .bool false, .slice none 0 0] 28)).setCells Z 0 (itL ⟨#[107]⟩ 0 3 (.slice yp 1 dp) false (.slice yv 2 dv)) := ⟨_, rfl⟩
  have hzz : Blk (w5.alloc (.cells #[.string ⟨#[]⟩, .int .i64 0, .int .i64 0, .slice none 0 0, .bool false, .slice none 0 0] 28)) Z 28 (itL ⟨#[]⟩ 0 0 (.slice none 0 0) false (.slice none 0 0)) := by rw [← hZ]; exact Blk.new w5 _ (itL ⟨#[]⟩ 0 0 (.slice none 0 0) false (.slice none 0 0))
  have k6 : Kp Nb w5 w6 := by rw [hw6]; exact Kp.setCells (fun h => absurd h (by omega)) _ 0 _ ((Kp.refl Nb w5).alloc _)
  have BZ6 := hid (show Blk w6 Z 28 (itL ⟨#[107]⟩ 0 3 (.slice yp 1 dp) false (.slice yv 2 dv)) by rw [hw6]; exact row_set hzz rfl)
  have THZ := hid (item_there (ks := ⟨#[107]⟩) (dn := 0) (dd := 3) (vp := .slice yp 1 dp) (vv := .slice yv 2 dv) (g := false) hzz rfl)
  have KW6 := hid (KW5.out.trans k6 (fun _ _ h => h))
  have K6 := hid (K5.out.trans k6 (fun _ _ h => h))
  have OZ6 := hid (OZ5.out.kept k6)
  have BX6 := hid (BX0.out.kept KW6.out (fun h => h))
  have CB := hid (ibytes_any xI _ _ w6 (OX.out.kept KW6.out) (fun g hg => by
    have e : A = g := by simpa [Value.ownBlock] using hg
    have := HAB.out.1; have := KW6.out.size; omega))
  clear k6 hzz KW5 K5 OZ5
  go_upto_region 4 with (first
    | (refine at_storeV 28 (.tmp 3) (.tmp 17) (by rfl) ?_; refine wpList_store_mid (by rfl) 28 (.tmp 3) (.tmp 17) (by rfl) Z 0 (itL ⟨#[107]⟩ 0 3 (.slice yp 1 dp) false (.slice yv 2 dv)).toArray (by rfl) (by rfl) THZ.out item_info (item_one _ _ _ _ _ _ _ _ _ _) ?_))
  try rw [hZ]
  rw [show (w5.alloc (.cells #[.string ⟨#[]⟩, .int .i64 0, .int .i64 0, .slice none 0 0, .bool false, .slice none 0 0] 28)).setCells Z 0 (itL ⟨#[107]⟩ 0 3 (.slice yp 1 dp) false (.slice yv 2 dv)) = w6 from hw6.symm]
  clear hw6 THZ hZ
  go_wp2_with (first
    | (refine at_loadV 28 (.tmp 1) (by rfl) ?_; refine wpList_val (by rfl) _ _ (exec_loadD (x := .tmp 1) rfl (by rfl) (load_item BX6.out)) ?_))
  refine CB.out.mono ?_
  rintro e w7 ⟨vb, rfl, hvb, -, k7⟩
  have hbx : bytesX xI = bytesI xI := by unfold bytesX; rw [if_pos xI_right]
  rw [hbx] at hvb
  have CRD0 := iread_any vb (bytesI xI) w7 hvb (by have := bytesX_len xI; rw [hbx] at this; omega)
  rw [readI_back xI_right xI_key xI_val] at CRD0
  have CRD := hid CRD0
  obtain ⟨yb, db, eb⟩ := by_shape hvb
  subst eb
  have KW7 := hid (KW6.out.trans k7 (fun _ _ h => h))
  have K7 := hid (K6.out.trans k7 (fun _ _ h => h))
  have BZ7 := hid (BZ6.out.kept k7 (fun h => h))
  have OZ7 := hid (OZ6.out.kept k7)
  obtain ⟨nb, hnb⟩ : ∃ n, (bytesI xI).length = n := ⟨_, rfl⟩
  rw [hnb] at CRD ⊢
  clear hvb hbx CRD0 k7 CB KW6 K6 BZ6 OZ6 BX6 hnb
  go_wp2_with fail
  refine CRD.out.mono ?_
  rintro e w8 ⟨vp2, vv2, rfl, hit2, -, -, k8⟩
  have hit2 : ItOk w8 xI vp2 vv2 := hit2
  obtain ⟨zp, ep, e1⟩ := hit2.past.shape
  obtain ⟨zv, ev', e2⟩ := by_shape hit2.val
  have e1 : vp2 = .slice zp 1 ep := e1
  have e2 : vv2 = .slice zv 2 ev' := e2
  subst e1 e2
  have OW8 := hid hit2
  have KW8 := hid (KW7.out.trans k8 (fun _ _ h => h))
  have K8 := hid (K7.out.trans k8 (fun _ _ h => h))
  have BZ8 := hid (BZ7.out.kept k8 (fun h => h))
  have OZ8 := hid (OZ7.out.kept k8)
  clear hit2 k8 CRD KW7 K7 BZ7 OZ7
  obtain ⟨V, hV⟩ : ∃ X, w8.heap.size = X := ⟨_, rfl⟩
  obtain ⟨W, hW⟩ : ∃ W, W = (w8.alloc (.cells #[.string ⟨#[]⟩, .int .i64 0, .int .i64 0, .slice none 0 0, .bool false, .slice none 0 0] 28)).setCells V 0 (itL ⟨#[107]⟩ 0 3 (.slice zp 1 ep) false (.slice zv 2 ev')) := ⟨_, rfl⟩
  have hzv : Blk (w8.alloc (.cells #[.string ⟨#[]⟩, .int .i64 0, .int .i64 0, .slice none 0 0, .bool false, .slice none 0 0] 28)) V 28 (itL ⟨#[]⟩ 0 0 (.slice none 0 0) false (.slice none 0 0)) := by rw [← hV]; exact Blk.new w8 _ (itL ⟨#[]⟩ 0 0 (.slice none 0 0) false (.slice none 0 0))
  have k9 : Kp Nb w8 W := by rw [hW]; exact Kp.setCells (fun h => absurd h (by omega)) _ 0 _ ((Kp.refl Nb w8).alloc _)
  have BW := hid (show Blk W V 28 (itL ⟨#[107]⟩ 0 3 (.slice zp 1 ep) false (.slice zv 2 ev')) by rw [hW]; exact row_set hzv rfl)
  have THV := hid (item_there (ks := ⟨#[107]⟩) (dn := 0) (dd := 3) (vp := .slice zp 1 ep) (vv := .slice zv 2 ev') (g := false) hzv rfl)
  have KWW := hid (KW8.out.trans k9 (fun _ _ h => h))
  have K9 := hid (K8.out.trans k9 (fun _ _ h => h))
  have BZ := hid (BZ8.out.kept k9 (fun h => h))
  have BX := hid (BX0.out.kept KWW.out (fun h => h))
  have BY := hid (BY0.out.kept KWW.out (fun h => h))
  have OZ := hid (OZ8.out.kept k9)
  have OW := hid (OW8.out.kept k9)
  have OX9 := hid (OX.out.kept KWW.out)
  have OY9 := hid (OY.out.kept KWW.out)
  have lox : ∀ (wq : World), Kp Nb W wq → ∀ g, (Value.slice (some ⟨A, 0, none⟩) 1 1).ownBlock = some g → g < wq.heap.size := fun wq q g hg => by
    have e : A = g := by simpa [Value.ownBlock] using hg
    have := HAB.out.1; have := KWW.out.size; have := q.size; omega
  have loy : ∀ (wq : World), Kp Nb W wq → ∀ g, (Value.slice none 0 0).ownBlock = some g → g < wq.heap.size := fun wq q g hg => by simp [Value.ownBlock] at hg
  have LOX := hid lox
  have LOY := hid loy
  have HMW := hid (HM4.out.2.2.kept KWW.out)
  clear k9 hzv BZ8 OZ8 OW8 K8 KW8 OX OY BX0 BY0 HM4 lox loy
  have CR : Hid (∀ wq, Kp Nb W wq → Calls Tryz.prog 13 #[itV ⟨#[107]⟩ 0 3 (.slice (some ⟨A, 0, none⟩) 1 1) false (.slice (some ⟨A + 1, 0, none⟩) 2 2)] wq fun e w' => e = .returned (.bool true) ∧ Kp Nb wq w') := hid (fun wq q => by have h := iright_any xI _ _ wq (OX9.out.kept q); rwa [xI_right] at h)
  have CA1 : Hid (∀ wq, Kp Nb W wq → Calls Tryz.prog 14 #[itV ⟨#[107]⟩ 0 3 (.slice (some ⟨A, 0, none⟩) 1 1) false (.slice (some ⟨A + 1, 0, none⟩) 2 2), itV ⟨#[107]⟩ 1 2 (.slice none 0 0) true (.slice none 0 0)] wq fun e w' => e = .returned (.bool true) ∧ Kp Nb wq w') := hid (fun wq q => by have h := iabove_any xI yI _ _ _ _ wq (OX9.out.kept q) (OY9.out.kept q) (by decide); rwa [xy_above] at h)
  have CA2 : Hid (∀ wq, Kp Nb W wq → Calls Tryz.prog 14 #[itV ⟨#[107]⟩ 1 2 (.slice none 0 0) true (.slice none 0 0), itV ⟨#[107]⟩ 0 3 (.slice (some ⟨A, 0, none⟩) 1 1) false (.slice (some ⟨A + 1, 0, none⟩) 2 2)] wq fun e w' => e = .returned (.bool false) ∧ Kp Nb wq w') := hid (fun wq q => by have h := iabove_any yI xI _ _ _ _ wq (OY9.out.kept q) (OX9.out.kept q) (by decide); rwa [yx_above] at h)
  have CT : Hid (∀ wq, Kp Nb W wq → Calls Tryz.prog 35 #[itV ⟨#[107]⟩ 0 3 (.slice (some ⟨A, 0, none⟩) 1 1) false (.slice (some ⟨A + 1, 0, none⟩) 2 2)] wq fun e w' => e = .returned (.string ⟨#[54, 98, 32, 48, 58, 51, 32, 91, 49, 58, 50, 93, 32, 55, 54, 51, 49]⟩) ∧ Kp Nb wq w') := hid (fun wq q => by have h := itext_any xI _ _ wq (OX9.out.kept q) (HMW.out.kept q); rwa [xI_text] at h)
  have CS1 : Hid (∀ wq, Kp Nb W wq → Calls Tryz.prog 12 #[itV ⟨#[107]⟩ 0 3 (.slice yp 1 dp) false (.slice yv 2 dv), itV ⟨#[107]⟩ 0 3 (.slice (some ⟨A, 0, none⟩) 1 1) false (.slice (some ⟨A + 1, 0, none⟩) 2 2)] wq fun e w' => e = .returned (.bool true) ∧ Kp Nb wq w') := hid (fun wq q => by have h := isame_any xI xI _ _ _ _ wq (OZ.out.kept q) (OX9.out.kept q) (by decide) (by decide); rwa [(sameI_iff xI xI).2 rfl] at h)
  have CS2 : Hid (∀ wq, Kp Nb W wq → Calls Tryz.prog 12 #[itV ⟨#[107]⟩ 0 3 (.slice zp 1 ep) false (.slice zv 2 ev'), itV ⟨#[107]⟩ 0 3 (.slice (some ⟨A, 0, none⟩) 1 1) false (.slice (some ⟨A + 1, 0, none⟩) 2 2)] wq fun e w' => e = .returned (.bool true) ∧ Kp Nb wq w') := hid (fun wq q => by have h := isame_any xI xI _ _ _ _ wq (OW.out.kept q) (OX9.out.kept q) (by decide) (by decide); rwa [(sameI_iff xI xI).2 rfl] at h)
  have CM1 : Hid (∀ wq, Kp Nb W wq → Calls Tryz.prog 18 #[itV ⟨#[107]⟩ 0 3 (.slice (some ⟨A, 0, none⟩) 1 1) false (.slice (some ⟨A + 1, 0, none⟩) 2 2)] wq fun e w' => e = .returned (mkV xI) ∧ Kp Nb wq w') := hid (fun wq q => imark_any xI _ _ wq (OX9.out.kept q) (LOX.out wq q))
  have CM2 : Hid (∀ wq, Kp Nb W wq → Calls Tryz.prog 18 #[itV ⟨#[107]⟩ 1 2 (.slice none 0 0) true (.slice none 0 0)] wq fun e w' => e = .returned (mkV yI) ∧ Kp Nb wq w') := hid (fun wq q => imark_any yI _ _ wq (OY9.out.kept q) (LOY.out wq q))
  have CC : Hid (∀ wq, Kp Nb W wq → Calls Tryz.prog 17 #[itV ⟨#[107]⟩ 0 3 (.slice (some ⟨A, 0, none⟩) 1 1) false (.slice (some ⟨A + 1, 0, none⟩) 2 2), itV ⟨#[107]⟩ 1 2 (.slice none 0 0) true (.slice none 0 0)] wq fun e w' => e = .returned (.int .i64 (-1)) ∧ Kp Nb wq w') := hid (fun wq q => by have h := icompare_any xI yI _ _ _ _ wq (OX9.out.kept q) (OY9.out.kept q) (by decide) (by decide) (LOX.out wq q) (LOY.out wq q); rwa [xy_cmp] at h)
  have HNE : Hid (∀ wq : World, Sem.run Tryz.prog (Op.equal 30 (mkV xI) (mkV yI)) wq = .ok false wq) := hid (fun wq => by rw [← xy_mark]; exact mk_eq xI yI wq)
  obtain ⟨hz, hhz⟩ : ∃ t, bs (hexL (List.replicate 16 0)) = t := ⟨_, rfl⟩
  have HZ : Hid (hz.size = 32) := hid (by rw [← hhz]; exact hex_zero)
  have CH : Hid (∀ wq, Kp Nb W wq → Calls Tryz.prog 20 #[.agg ((List.replicate 16 (0 : Int)).map (Value.int .u8)).toArray] wq fun e w' => e = .returned (.string hz) ∧ Kp Nb wq w') := hid (fun wq q => by rw [← hhz]; exact ihex_any (List.replicate 16 0) wq rfl (IsBytes.zeros 16))
  clear hhz
  go_upto_region 5 with (first
    | (refine at_storeV 28 (.tmp 5) (.tmp 23) (by rfl) ?_; refine wpList_store_mid (by rfl) 28 (.tmp 5) (.tmp 23) (by rfl) V 0 (itL ⟨#[107]⟩ 0 3 (.slice zp 1 ep) false (.slice zv 2 ev')).toArray (by rfl) (by rfl) THV.out item_info (item_one _ _ _ _ _ _ _ _ _ _) ?_))
  try rw [hV]
  rw [show (w8.alloc (.cells #[.string ⟨#[]⟩, .int .i64 0, .int .i64 0, .slice none 0 0, .bool false, .slice none 0 0] 28)).setCells V 0 (itL ⟨#[107]⟩ 0 3 (.slice zp 1 ep) false (.slice zv 2 ev')) = W from hW.symm]
  clear hW THV hV
  refine V3.region_vals2 [some 54, none, none, none, none, none, none, none, none, none, none, none, none, none, none, none, none, none, none, none, none, none, none, none, none, some 0, some 1, some 2, some 3, some 4, some 5, some 6, some 7, some 8, some 9, some 10, some 11, some 12, some 13, some 14, some 15, some 16, some 17, some 18, some 19, some 20, some 21, some 22, some 23, some 24, some 25, some 26, some 27, some 28, some 29, some 30, some 31, some 32, some 33, some 34, some 35, some 36, some 37, some 38, some 39, some 40, some 41, some 42, some 43, some 44, some 45, some 46, some 47, some 48, some 49, some 50, some 51, some 52, some 53] [[(1, none)], [(25, some 0)], [(26, some 1)], [(1, none)], [(2, none)], [(28, some 3), (29, some 4)], [(27, some 2), (30, some 5)], [(31, some 6)], [(2, none)], [(1, none)], [(33, some 8), (34, some 9)], [(35, some 10)], [(32, some 7), (36, some 11)], [(37, some 12)], [(1, none)], [(39, some 14)], [(40, some 15)], [(38, some 13), (41, some 16)], [(42, some 17)], [(4, none)], [(43, some 18), (44, some 19)], [(45, some 20)], [(3, none)], [(1, none)], [(47, some 22), (48, some 23)], [(46, some 21), (49, some 24)], [(50, some 25)], [(6, none)], [(52, some 27)], [(51, some 26), (53, some 28)], [(54, some 29)], [(5, none)], [(1, none)], [(56, some 31), (57, some 32)], [(55, some 30), (58, some 33)], [(59, some 34)], [(1, none)], [(61, some 36)], [(2, none)], [(63, some 38)], [(62, some 37), (64, some 39)], [(60, some 35), (65, some 40)], [(66, some 41)], [(1, none)], [(2, none)], [(68, some 43), (69, some 44)], [(70, some 45)], [(67, some 42), (71, some 46)], [(72, some 47)], [], [(74, some 49)], [(75, some 50)], [(76, some 51)], [(73, some 48), (77, some 52)], [(78, some 53)]] [some 25, some 26, some 27, some 28, some 29, some 30, some 31, some 32, some 33, some 34, some 35, some 36, some 37, some 38, some 39, some 40, some 41, some 42, some 43, some 44, some 45, some 46, some 47, some 48, some 49, some 50, some 51, some 52, some 53, some 54, some 55, some 56, some 57, some 58, some 59, some 60, some 61, some 62, some 63, some 64, some 65, some 66, some 67, some 68, some 69, some 70, some 71, some 72, some 73, some 74, some 75, some 76, some 77, some 78, some 0] [itV ⟨#[107]⟩ 0 3 (.slice (some ⟨A, 0, none⟩) 1 1) false (.slice (some ⟨A + 1, 0, none⟩) 2 2), .bool true, .bool true, itV ⟨#[107]⟩ 0 3 (.slice (some ⟨A, 0, none⟩) 1 1) false (.slice (some ⟨A + 1, 0, none⟩) 2 2), itV ⟨#[107]⟩ 1 2 (.slice none 0 0) true (.slice none 0 0), .bool true, .bool true, .bool true, itV ⟨#[107]⟩ 1 2 (.slice none 0 0) true (.slice none 0 0), itV ⟨#[107]⟩ 0 3 (.slice (some ⟨A, 0, none⟩) 1 1) false (.slice (some ⟨A + 1, 0, none⟩) 2 2), .bool false, .bool true, .bool true, .bool true, itV ⟨#[107]⟩ 0 3 (.slice (some ⟨A, 0, none⟩) 1 1) false (.slice (some ⟨A + 1, 0, none⟩) 2 2), .string ⟨#[54, 98, 32, 48, 58, 51, 32, 91, 49, 58, 50, 93, 32, 55, 54, 51, 49]⟩, .bool true, .bool true, .bool true, .bool true, .bool true, .bool true, itV ⟨#[107]⟩ 0 3 (.slice yp 1 dp) false (.slice yv 2 dv), itV ⟨#[107]⟩ 0 3 (.slice (some ⟨A, 0, none⟩) 1 1) false (.slice (some ⟨A + 1, 0, none⟩) 2 2), .bool true, .bool true, .bool true, .int .i64 0, .bool true, .bool true, .bool true, itV ⟨#[107]⟩ 0 3 (.slice zp 1 ep) false (.slice zv 2 ev'), itV ⟨#[107]⟩ 0 3 (.slice (some ⟨A, 0, none⟩) 1 1) false (.slice (some ⟨A + 1, 0, none⟩) 2 2), .bool true, .bool true, .bool true, itV ⟨#[107]⟩ 0 3 (.slice (some ⟨A, 0, none⟩) 1 1) false (.slice (some ⟨A + 1, 0, none⟩) 2 2), mkV xI, itV ⟨#[107]⟩ 1 2 (.slice none 0 0) true (.slice none 0 0), mkV yI, .bool true, .bool true, .bool true, itV ⟨#[107]⟩ 0 3 (.slice (some ⟨A, 0, none⟩) 1 1) false (.slice (some ⟨A + 1, 0, none⟩) 2 2), itV ⟨#[107]⟩ 1 2 (.slice none 0 0) true (.slice none 0 0), .int .i64 (-1), .bool true, .bool true, .bool true, .agg ((List.replicate 16 (0 : Int)).map (Value.int .u8)).toArray, .string hz, .int .i64 32, .bool true, .bool true, .bool true] (fun wq => Hid (Kp Nb W wq)) (by kernel_rfl) (by kernel_rfl) (by kernel_rfl) ?hS (V3.VFrom.all (n := 55) (by kernel_rfl) ?hstep) ?hend
  case hstep =>
    refine V3.VFrom.cons (V3.VStep.val _ rfl _ rfl (itV ⟨#[107]⟩ 0 3 (.slice (some ⟨A, 0, none⟩) 1 1) false (.slice (some ⟨A + 1, 0, none⟩) 2 2)) rfl trivial (fun ev wq hS he hr => ?_)) ?_
    · have r0 : ev (.tmp 1) = .pointer (some ⟨X, 0, none⟩) := hr (1, none) (by simp); have hk := he.1; clear hr he
      exact exec_loadD rfl r0 (load_item (BX.out.kept hS.out (fun h => h)))
    refine V3.VFrom.cons (V3.VStep.call _ rfl _ rfl (.bool true) rfl trivial 13 #[itV ⟨#[107]⟩ 0 3 (.slice (some ⟨A, 0, none⟩) 1 1) false (.slice (some ⟨A + 1, 0, none⟩) 2 2)] (fun ev wq hS he hr => ?_) (fun wq hS => ?_)) ?_
    · have r0 : ev (.tmp 25) = itV ⟨#[107]⟩ 0 3 (.slice (some ⟨A, 0, none⟩) 1 1) false (.slice (some ⟨A + 1, 0, none⟩) 2 2) := hr (25, some 0) (by simp); have hk := he.1; have hf := he.2; clear hr he
      go_simp
    · exact (CR.out wq hS.out).mono fun e w' ⟨h1, h2⟩ => ⟨h1, hid (hS.out.trans h2 (fun _ _ h => h))⟩
    refine V3.VFrom.cons (V3.VStep.val _ rfl _ rfl (.bool true) rfl trivial (fun ev wq hS he hr => ?_)) ?_
    · have r0 : ev (.tmp 26) = .bool true := hr (26, some 1) (by simp); have hk := he.1; clear hr he
      go_simp
    refine V3.VFrom.cons (V3.VStep.val _ rfl _ rfl (itV ⟨#[107]⟩ 0 3 (.slice (some ⟨A, 0, none⟩) 1 1) false (.slice (some ⟨A + 1, 0, none⟩) 2 2)) rfl rfl (fun ev wq hS he hr => ?_)) ?_
    · have r0 : ev (.tmp 1) = .pointer (some ⟨X, 0, none⟩) := hr (1, none) (by simp); have hk := he.1; clear hr he
      exact exec_loadD rfl r0 (load_item (BX.out.kept hS.out (fun h => h)))
    refine V3.VFrom.cons (V3.VStep.val _ rfl _ rfl (itV ⟨#[107]⟩ 1 2 (.slice none 0 0) true (.slice none 0 0)) rfl rfl (fun ev wq hS he hr => ?_)) ?_
    · have r0 : ev (.tmp 2) = .pointer (some ⟨Y, 0, none⟩) := hr (2, none) (by simp); have hk := he.1; clear hr he
      exact exec_loadD rfl r0 (load_item (BY.out.kept hS.out (fun h => h)))
    refine V3.VFrom.cons (V3.VStep.call _ rfl _ rfl (.bool true) rfl rfl 14 #[itV ⟨#[107]⟩ 0 3 (.slice (some ⟨A, 0, none⟩) 1 1) false (.slice (some ⟨A + 1, 0, none⟩) 2 2), itV ⟨#[107]⟩ 1 2 (.slice none 0 0) true (.slice none 0 0)] (fun ev wq hS he hr => ?_) (fun wq hS => ?_)) ?_
    · have r0 : ev (.tmp 28) = itV ⟨#[107]⟩ 0 3 (.slice (some ⟨A, 0, none⟩) 1 1) false (.slice (some ⟨A + 1, 0, none⟩) 2 2) := hr (28, some 3) (by simp); have r1 : ev (.tmp 29) = itV ⟨#[107]⟩ 1 2 (.slice none 0 0) true (.slice none 0 0) := hr (29, some 4) (by simp); have hk := he.1; have hf := he.2; clear hr he
      go_simp
    · exact (CA1.out wq hS.out).mono fun e w' ⟨h1, h2⟩ => ⟨h1, hid (hS.out.trans h2 (fun _ _ h => h))⟩
    refine V3.VFrom.cons (V3.VStep.val _ rfl _ rfl (.bool true) rfl trivial (fun ev wq hS he hr => ?_)) ?_
    · have r0 : ev (.tmp 27) = .bool true := hr (27, some 2) (by simp); have r1 : ev (.tmp 30) = .bool true := hr (30, some 5) (by simp); have hk := he.1; clear hr he
      go_simp
    refine V3.VFrom.cons (V3.VStep.val _ rfl _ rfl (.bool true) rfl trivial (fun ev wq hS he hr => ?_)) ?_
    · have r0 : ev (.tmp 31) = .bool true := hr (31, some 6) (by simp); have hk := he.1; clear hr he
      go_simp
    refine V3.VFrom.cons (V3.VStep.val _ rfl _ rfl (itV ⟨#[107]⟩ 1 2 (.slice none 0 0) true (.slice none 0 0)) rfl rfl (fun ev wq hS he hr => ?_)) ?_
    · have r0 : ev (.tmp 2) = .pointer (some ⟨Y, 0, none⟩) := hr (2, none) (by simp); have hk := he.1; clear hr he
      exact exec_loadD rfl r0 (load_item (BY.out.kept hS.out (fun h => h)))
    refine V3.VFrom.cons (V3.VStep.val _ rfl _ rfl (itV ⟨#[107]⟩ 0 3 (.slice (some ⟨A, 0, none⟩) 1 1) false (.slice (some ⟨A + 1, 0, none⟩) 2 2)) rfl rfl (fun ev wq hS he hr => ?_)) ?_
    · have r0 : ev (.tmp 1) = .pointer (some ⟨X, 0, none⟩) := hr (1, none) (by simp); have hk := he.1; clear hr he
      exact exec_loadD rfl r0 (load_item (BX.out.kept hS.out (fun h => h)))
    refine V3.VFrom.cons (V3.VStep.call _ rfl _ rfl (.bool false) rfl rfl 14 #[itV ⟨#[107]⟩ 1 2 (.slice none 0 0) true (.slice none 0 0), itV ⟨#[107]⟩ 0 3 (.slice (some ⟨A, 0, none⟩) 1 1) false (.slice (some ⟨A + 1, 0, none⟩) 2 2)] (fun ev wq hS he hr => ?_) (fun wq hS => ?_)) ?_
    · have r0 : ev (.tmp 33) = itV ⟨#[107]⟩ 1 2 (.slice none 0 0) true (.slice none 0 0) := hr (33, some 8) (by simp); have r1 : ev (.tmp 34) = itV ⟨#[107]⟩ 0 3 (.slice (some ⟨A, 0, none⟩) 1 1) false (.slice (some ⟨A + 1, 0, none⟩) 2 2) := hr (34, some 9) (by simp); have hk := he.1; have hf := he.2; clear hr he
      go_simp
    · exact (CA2.out wq hS.out).mono fun e w' ⟨h1, h2⟩ => ⟨h1, hid (hS.out.trans h2 (fun _ _ h => h))⟩
    refine V3.VFrom.cons (V3.VStep.val _ rfl _ rfl (.bool true) rfl rfl (fun ev wq hS he hr => ?_)) ?_
    · have r0 : ev (.tmp 35) = .bool false := hr (35, some 10) (by simp); have hk := he.1; clear hr he
      go_simp
    refine V3.VFrom.cons (V3.VStep.val _ rfl _ rfl (.bool true) rfl trivial (fun ev wq hS he hr => ?_)) ?_
    · have r0 : ev (.tmp 32) = .bool true := hr (32, some 7) (by simp); have r1 : ev (.tmp 36) = .bool true := hr (36, some 11) (by simp); have hk := he.1; clear hr he
      go_simp
    refine V3.VFrom.cons (V3.VStep.val _ rfl _ rfl (.bool true) rfl trivial (fun ev wq hS he hr => ?_)) ?_
    · have r0 : ev (.tmp 37) = .bool true := hr (37, some 12) (by simp); have hk := he.1; clear hr he
      go_simp
    refine V3.VFrom.cons (V3.VStep.val _ rfl _ rfl (itV ⟨#[107]⟩ 0 3 (.slice (some ⟨A, 0, none⟩) 1 1) false (.slice (some ⟨A + 1, 0, none⟩) 2 2)) rfl rfl (fun ev wq hS he hr => ?_)) ?_
    · have r0 : ev (.tmp 1) = .pointer (some ⟨X, 0, none⟩) := hr (1, none) (by simp); have hk := he.1; clear hr he
      exact exec_loadD rfl r0 (load_item (BX.out.kept hS.out (fun h => h)))
    refine V3.VFrom.cons (V3.VStep.call _ rfl _ rfl (.string ⟨#[54, 98, 32, 48, 58, 51, 32, 91, 49, 58, 50, 93, 32, 55, 54, 51, 49]⟩) rfl rfl 35 #[itV ⟨#[107]⟩ 0 3 (.slice (some ⟨A, 0, none⟩) 1 1) false (.slice (some ⟨A + 1, 0, none⟩) 2 2)] (fun ev wq hS he hr => ?_) (fun wq hS => ?_)) ?_
    · have r0 : ev (.tmp 39) = itV ⟨#[107]⟩ 0 3 (.slice (some ⟨A, 0, none⟩) 1 1) false (.slice (some ⟨A + 1, 0, none⟩) 2 2) := hr (39, some 14) (by simp); have hk := he.1; have hf := he.2; clear hr he
      go_simp
    · exact (CT.out wq hS.out).mono fun e w' ⟨h1, h2⟩ => ⟨h1, hid (hS.out.trans h2 (fun _ _ h => h))⟩
    refine V3.VFrom.cons (V3.VStep.val _ rfl _ rfl (.bool true) rfl rfl (fun ev wq hS he hr => ?_)) ?_
    · have r0 : ev (.tmp 40) = .string ⟨#[54, 98, 32, 48, 58, 51, 32, 91, 49, 58, 50, 93, 32, 55, 54, 51, 49]⟩ := hr (40, some 15) (by simp); have hk := he.1; clear hr he
      go_simp
    refine V3.VFrom.cons (V3.VStep.val _ rfl _ rfl (.bool true) rfl trivial (fun ev wq hS he hr => ?_)) ?_
    · have r0 : ev (.tmp 38) = .bool true := hr (38, some 13) (by simp); have r1 : ev (.tmp 41) = .bool true := hr (41, some 16) (by simp); have hk := he.1; clear hr he
      go_simp
    refine V3.VFrom.cons (V3.VStep.val _ rfl _ rfl (.bool true) rfl trivial (fun ev wq hS he hr => ?_)) ?_
    · have r0 : ev (.tmp 42) = .bool true := hr (42, some 17) (by simp); have hk := he.1; clear hr he
      go_simp
    refine V3.VFrom.cons (V3.VStep.val _ rfl _ rfl (.bool true) rfl rfl (fun ev wq hS he hr => ?_)) ?_
    · have r0 : ev (.tmp 4) = .bool true := hr (4, none) (by simp); have hk := he.1; clear hr he
      go_simp
    refine V3.VFrom.cons (V3.VStep.val _ rfl _ rfl (.bool true) rfl trivial (fun ev wq hS he hr => ?_)) ?_
    · have r0 : ev (.tmp 43) = .bool true := hr (43, some 18) (by simp); have r1 : ev (.tmp 44) = .bool true := hr (44, some 19) (by simp); have hk := he.1; clear hr he
      go_simp
    refine V3.VFrom.cons (V3.VStep.val _ rfl _ rfl (.bool true) rfl trivial (fun ev wq hS he hr => ?_)) ?_
    · have r0 : ev (.tmp 45) = .bool true := hr (45, some 20) (by simp); have hk := he.1; clear hr he
      go_simp
    refine V3.VFrom.cons (V3.VStep.val _ rfl _ rfl (itV ⟨#[107]⟩ 0 3 (.slice yp 1 dp) false (.slice yv 2 dv)) rfl rfl (fun ev wq hS he hr => ?_)) ?_
    · have r0 : ev (.tmp 3) = .pointer (some ⟨Z, 0, none⟩) := hr (3, none) (by simp); have hk := he.1; clear hr he
      exact exec_loadD rfl r0 (load_item (BZ.out.kept hS.out (fun h => h)))
    refine V3.VFrom.cons (V3.VStep.val _ rfl _ rfl (itV ⟨#[107]⟩ 0 3 (.slice (some ⟨A, 0, none⟩) 1 1) false (.slice (some ⟨A + 1, 0, none⟩) 2 2)) rfl rfl (fun ev wq hS he hr => ?_)) ?_
    · have r0 : ev (.tmp 1) = .pointer (some ⟨X, 0, none⟩) := hr (1, none) (by simp); have hk := he.1; clear hr he
      exact exec_loadD rfl r0 (load_item (BX.out.kept hS.out (fun h => h)))
    refine V3.VFrom.cons (V3.VStep.call _ rfl _ rfl (.bool true) rfl rfl 12 #[itV ⟨#[107]⟩ 0 3 (.slice yp 1 dp) false (.slice yv 2 dv), itV ⟨#[107]⟩ 0 3 (.slice (some ⟨A, 0, none⟩) 1 1) false (.slice (some ⟨A + 1, 0, none⟩) 2 2)] (fun ev wq hS he hr => ?_) (fun wq hS => ?_)) ?_
    · have r0 : ev (.tmp 47) = itV ⟨#[107]⟩ 0 3 (.slice yp 1 dp) false (.slice yv 2 dv) := hr (47, some 22) (by simp); have r1 : ev (.tmp 48) = itV ⟨#[107]⟩ 0 3 (.slice (some ⟨A, 0, none⟩) 1 1) false (.slice (some ⟨A + 1, 0, none⟩) 2 2) := hr (48, some 23) (by simp); have hk := he.1; have hf := he.2; clear hr he
      go_simp
    · exact (CS1.out wq hS.out).mono fun e w' ⟨h1, h2⟩ => ⟨h1, hid (hS.out.trans h2 (fun _ _ h => h))⟩
    refine V3.VFrom.cons (V3.VStep.val _ rfl _ rfl (.bool true) rfl trivial (fun ev wq hS he hr => ?_)) ?_
    · have r0 : ev (.tmp 46) = .bool true := hr (46, some 21) (by simp); have r1 : ev (.tmp 49) = .bool true := hr (49, some 24) (by simp); have hk := he.1; clear hr he
      go_simp
    refine V3.VFrom.cons (V3.VStep.val _ rfl _ rfl (.bool true) rfl trivial (fun ev wq hS he hr => ?_)) ?_
    · have r0 : ev (.tmp 50) = .bool true := hr (50, some 25) (by simp); have hk := he.1; clear hr he
      go_simp
    refine V3.VFrom.cons (V3.VStep.val _ rfl _ rfl (.int .i64 0) rfl rfl (fun ev wq hS he hr => ?_)) ?_
    · have r0 : ev (.tmp 6) = .int .i64 0 := hr (6, none) (by simp); have hk := he.1; clear hr he
      go_simp
    refine V3.VFrom.cons (V3.VStep.val _ rfl _ rfl (.bool true) rfl rfl (fun ev wq hS he hr => ?_)) ?_
    · have r0 : ev (.tmp 52) = .int .i64 0 := hr (52, some 27) (by simp); have hk := he.1; clear hr he
      go_simp
    refine V3.VFrom.cons (V3.VStep.val _ rfl _ rfl (.bool true) rfl trivial (fun ev wq hS he hr => ?_)) ?_
    · have r0 : ev (.tmp 51) = .bool true := hr (51, some 26) (by simp); have r1 : ev (.tmp 53) = .bool true := hr (53, some 28) (by simp); have hk := he.1; clear hr he
      go_simp
    refine V3.VFrom.cons (V3.VStep.val _ rfl _ rfl (.bool true) rfl trivial (fun ev wq hS he hr => ?_)) ?_
    · have r0 : ev (.tmp 54) = .bool true := hr (54, some 29) (by simp); have hk := he.1; clear hr he
      go_simp
    refine V3.VFrom.cons (V3.VStep.val _ rfl _ rfl (itV ⟨#[107]⟩ 0 3 (.slice zp 1 ep) false (.slice zv 2 ev')) rfl rfl (fun ev wq hS he hr => ?_)) ?_
    · have r0 : ev (.tmp 5) = .pointer (some ⟨V, 0, none⟩) := hr (5, none) (by simp); have hk := he.1; clear hr he
      exact exec_loadD rfl r0 (load_item (BW.out.kept hS.out (fun h => h)))
    refine V3.VFrom.cons (V3.VStep.val _ rfl _ rfl (itV ⟨#[107]⟩ 0 3 (.slice (some ⟨A, 0, none⟩) 1 1) false (.slice (some ⟨A + 1, 0, none⟩) 2 2)) rfl rfl (fun ev wq hS he hr => ?_)) ?_
    · have r0 : ev (.tmp 1) = .pointer (some ⟨X, 0, none⟩) := hr (1, none) (by simp); have hk := he.1; clear hr he
      exact exec_loadD rfl r0 (load_item (BX.out.kept hS.out (fun h => h)))
    refine V3.VFrom.cons (V3.VStep.call _ rfl _ rfl (.bool true) rfl rfl 12 #[itV ⟨#[107]⟩ 0 3 (.slice zp 1 ep) false (.slice zv 2 ev'), itV ⟨#[107]⟩ 0 3 (.slice (some ⟨A, 0, none⟩) 1 1) false (.slice (some ⟨A + 1, 0, none⟩) 2 2)] (fun ev wq hS he hr => ?_) (fun wq hS => ?_)) ?_
    · have r0 : ev (.tmp 56) = itV ⟨#[107]⟩ 0 3 (.slice zp 1 ep) false (.slice zv 2 ev') := hr (56, some 31) (by simp); have r1 : ev (.tmp 57) = itV ⟨#[107]⟩ 0 3 (.slice (some ⟨A, 0, none⟩) 1 1) false (.slice (some ⟨A + 1, 0, none⟩) 2 2) := hr (57, some 32) (by simp); have hk := he.1; have hf := he.2; clear hr he
      go_simp
    · exact (CS2.out wq hS.out).mono fun e w' ⟨h1, h2⟩ => ⟨h1, hid (hS.out.trans h2 (fun _ _ h => h))⟩
    refine V3.VFrom.cons (V3.VStep.val _ rfl _ rfl (.bool true) rfl trivial (fun ev wq hS he hr => ?_)) ?_
    · have r0 : ev (.tmp 55) = .bool true := hr (55, some 30) (by simp); have r1 : ev (.tmp 58) = .bool true := hr (58, some 33) (by simp); have hk := he.1; clear hr he
      go_simp
    refine V3.VFrom.cons (V3.VStep.val _ rfl _ rfl (.bool true) rfl trivial (fun ev wq hS he hr => ?_)) ?_
    · have r0 : ev (.tmp 59) = .bool true := hr (59, some 34) (by simp); have hk := he.1; clear hr he
      go_simp
    refine V3.VFrom.cons (V3.VStep.val _ rfl _ rfl (itV ⟨#[107]⟩ 0 3 (.slice (some ⟨A, 0, none⟩) 1 1) false (.slice (some ⟨A + 1, 0, none⟩) 2 2)) rfl rfl (fun ev wq hS he hr => ?_)) ?_
    · have r0 : ev (.tmp 1) = .pointer (some ⟨X, 0, none⟩) := hr (1, none) (by simp); have hk := he.1; clear hr he
      exact exec_loadD rfl r0 (load_item (BX.out.kept hS.out (fun h => h)))
    refine V3.VFrom.cons (V3.VStep.call _ rfl _ rfl (mkV xI) rfl rfl 18 #[itV ⟨#[107]⟩ 0 3 (.slice (some ⟨A, 0, none⟩) 1 1) false (.slice (some ⟨A + 1, 0, none⟩) 2 2)] (fun ev wq hS he hr => ?_) (fun wq hS => ?_)) ?_
    · have r0 : ev (.tmp 61) = itV ⟨#[107]⟩ 0 3 (.slice (some ⟨A, 0, none⟩) 1 1) false (.slice (some ⟨A + 1, 0, none⟩) 2 2) := hr (61, some 36) (by simp); have hk := he.1; have hf := he.2; clear hr he
      go_simp
    · exact (CM1.out wq hS.out).mono fun e w' ⟨h1, h2⟩ => ⟨h1, hid (hS.out.trans h2 (fun _ _ h => h))⟩
    refine V3.VFrom.cons (V3.VStep.val _ rfl _ rfl (itV ⟨#[107]⟩ 1 2 (.slice none 0 0) true (.slice none 0 0)) rfl rfl (fun ev wq hS he hr => ?_)) ?_
    · have r0 : ev (.tmp 2) = .pointer (some ⟨Y, 0, none⟩) := hr (2, none) (by simp); have hk := he.1; clear hr he
      exact exec_loadD rfl r0 (load_item (BY.out.kept hS.out (fun h => h)))
    refine V3.VFrom.cons (V3.VStep.call _ rfl _ rfl (mkV yI) rfl rfl 18 #[itV ⟨#[107]⟩ 1 2 (.slice none 0 0) true (.slice none 0 0)] (fun ev wq hS he hr => ?_) (fun wq hS => ?_)) ?_
    · have r0 : ev (.tmp 63) = itV ⟨#[107]⟩ 1 2 (.slice none 0 0) true (.slice none 0 0) := hr (63, some 38) (by simp); have hk := he.1; have hf := he.2; clear hr he
      go_simp
    · exact (CM2.out wq hS.out).mono fun e w' ⟨h1, h2⟩ => ⟨h1, hid (hS.out.trans h2 (fun _ _ h => h))⟩
    refine V3.VFrom.cons (V3.VStep.val _ rfl _ rfl (.bool true) rfl rfl (fun ev wq hS he hr => ?_)) ?_
    · have r0 : ev (.tmp 62) = mkV xI := hr (62, some 37) (by simp); have r1 : ev (.tmp 64) = mkV yI := hr (64, some 39) (by simp); have hk := he.1; clear hr he
      exact exec_neqMarkV rfl r0 r1 (HNE.out wq)
    refine V3.VFrom.cons (V3.VStep.val _ rfl _ rfl (.bool true) rfl trivial (fun ev wq hS he hr => ?_)) ?_
    · have r0 : ev (.tmp 60) = .bool true := hr (60, some 35) (by simp); have r1 : ev (.tmp 65) = .bool true := hr (65, some 40) (by simp); have hk := he.1; clear hr he
      go_simp
    refine V3.VFrom.cons (V3.VStep.val _ rfl _ rfl (.bool true) rfl trivial (fun ev wq hS he hr => ?_)) ?_
    · have r0 : ev (.tmp 66) = .bool true := hr (66, some 41) (by simp); have hk := he.1; clear hr he
      go_simp
    refine V3.VFrom.cons (V3.VStep.val _ rfl _ rfl (itV ⟨#[107]⟩ 0 3 (.slice (some ⟨A, 0, none⟩) 1 1) false (.slice (some ⟨A + 1, 0, none⟩) 2 2)) rfl rfl (fun ev wq hS he hr => ?_)) ?_
    · have r0 : ev (.tmp 1) = .pointer (some ⟨X, 0, none⟩) := hr (1, none) (by simp); have hk := he.1; clear hr he
      exact exec_loadD rfl r0 (load_item (BX.out.kept hS.out (fun h => h)))
    refine V3.VFrom.cons (V3.VStep.val _ rfl _ rfl (itV ⟨#[107]⟩ 1 2 (.slice none 0 0) true (.slice none 0 0)) rfl rfl (fun ev wq hS he hr => ?_)) ?_
    · have r0 : ev (.tmp 2) = .pointer (some ⟨Y, 0, none⟩) := hr (2, none) (by simp); have hk := he.1; clear hr he
      exact exec_loadD rfl r0 (load_item (BY.out.kept hS.out (fun h => h)))
    refine V3.VFrom.cons (V3.VStep.call _ rfl _ rfl (.int .i64 (-1)) rfl rfl 17 #[itV ⟨#[107]⟩ 0 3 (.slice (some ⟨A, 0, none⟩) 1 1) false (.slice (some ⟨A + 1, 0, none⟩) 2 2), itV ⟨#[107]⟩ 1 2 (.slice none 0 0) true (.slice none 0 0)] (fun ev wq hS he hr => ?_) (fun wq hS => ?_)) ?_
    · have r0 : ev (.tmp 68) = itV ⟨#[107]⟩ 0 3 (.slice (some ⟨A, 0, none⟩) 1 1) false (.slice (some ⟨A + 1, 0, none⟩) 2 2) := hr (68, some 43) (by simp); have r1 : ev (.tmp 69) = itV ⟨#[107]⟩ 1 2 (.slice none 0 0) true (.slice none 0 0) := hr (69, some 44) (by simp); have hk := he.1; have hf := he.2; clear hr he
      go_simp
    · exact (CC.out wq hS.out).mono fun e w' ⟨h1, h2⟩ => ⟨h1, hid (hS.out.trans h2 (fun _ _ h => h))⟩
    refine V3.VFrom.cons (V3.VStep.val _ rfl _ rfl (.bool true) rfl rfl (fun ev wq hS he hr => ?_)) ?_
    · have r0 : ev (.tmp 70) = .int .i64 (-1) := hr (70, some 45) (by simp); have hk := he.1; clear hr he
      go_simp
    refine V3.VFrom.cons (V3.VStep.val _ rfl _ rfl (.bool true) rfl trivial (fun ev wq hS he hr => ?_)) ?_
    · have r0 : ev (.tmp 67) = .bool true := hr (67, some 42) (by simp); have r1 : ev (.tmp 71) = .bool true := hr (71, some 46) (by simp); have hk := he.1; clear hr he
      go_simp
    refine V3.VFrom.cons (V3.VStep.val _ rfl _ rfl (.bool true) rfl trivial (fun ev wq hS he hr => ?_)) ?_
    · have r0 : ev (.tmp 72) = .bool true := hr (72, some 47) (by simp); have hk := he.1; clear hr he
      go_simp
    refine V3.VFrom.cons (V3.VStep.val _ rfl _ rfl (.agg ((List.replicate 16 (0 : Int)).map (Value.int .u8)).toArray) rfl rfl (fun ev wq hS he hr => ?_)) ?_
    · have hk := he.1; clear hr he
      exact exec_build rfl (by simp) (build_m0 wq)
    refine V3.VFrom.cons (V3.VStep.call _ rfl _ rfl (.string hz) rfl rfl 20 #[.agg ((List.replicate 16 (0 : Int)).map (Value.int .u8)).toArray] (fun ev wq hS he hr => ?_) (fun wq hS => ?_)) ?_
    · have r0 : ev (.tmp 74) = .agg ((List.replicate 16 (0 : Int)).map (Value.int .u8)).toArray := hr (74, some 49) (by simp); have hk := he.1; have hf := he.2; clear hr he
      go_simp
    · exact (CH.out wq hS.out).mono fun e w' ⟨h1, h2⟩ => ⟨h1, hid (hS.out.trans h2 (fun _ _ h => h))⟩
    refine V3.VFrom.cons (V3.VStep.val _ rfl _ rfl (.int .i64 32) rfl rfl (fun ev wq hS he hr => ?_)) ?_
    · have r0 : ev (.tmp 75) = .string hz := hr (75, some 50) (by simp); have hk := he.1; clear hr he
      exact exec_lenS rfl r0 HZ.out
    refine V3.VFrom.cons (V3.VStep.val _ rfl _ rfl (.bool true) rfl rfl (fun ev wq hS he hr => ?_)) ?_
    · have r0 : ev (.tmp 76) = .int .i64 32 := hr (76, some 51) (by simp); have hk := he.1; clear hr he
      go_simp
    refine V3.VFrom.cons (V3.VStep.val _ rfl _ rfl (.bool true) rfl trivial (fun ev wq hS he hr => ?_)) ?_
    · have r0 : ev (.tmp 73) = .bool true := hr (73, some 48) (by simp); have r1 : ev (.tmp 77) = .bool true := hr (77, some 52) (by simp); have hk := he.1; clear hr he
      go_simp
    refine V3.VFrom.cons (V3.VStep.val _ rfl _ rfl (.bool true) rfl trivial (fun ev wq hS he hr => ?_)) ?_
    · have r0 : ev (.tmp 78) = .bool true := hr (78, some 53) (by simp); have hk := he.1; clear hr he
      go_simp
    exact V3.VFrom.nil
  case hS => exact hid (Kp.refl Nb W).drew
  case hend =>
    intro w9 h9
    have KF := hid (K9.out.trans h9.out (fun _ _ h => h))
    clear h9
    simp only [V3.putAll, List.zip_cons_cons, List.zip_nil_right, List.foldl_cons, List.foldl_nil, Act.put, List.setIfInBounds_toArray, List.set_cons_zero, List.set_cons_succ]
    go_wp2
    go_ret
    exact ⟨rfl, KF.out⟩
end

end Go.Proofs.YtogoophofgkboaaGreatDoor
