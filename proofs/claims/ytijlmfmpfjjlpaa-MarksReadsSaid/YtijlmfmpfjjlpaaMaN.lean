/-
  Layer 9: Get. Conditions: an eye in memory; fewer than 2^47 bytes.
-/
import Derived.Test.YtijlmfmpfjjlpaaMaM
import Derived.Test.YtijlmfmpfjjlpaaMke
namespace Go.Proofs.Ytijlmfmpfjjlpaa
open Go.RowKit Go.Shelf
attribute [local go_sem] Oper.semAt_some

theorem markOf_ok {ys : List Int} (h : IsBytes ys) (hl : ys.length ≤ 16) : MarkOk (markOf ys) :=
  ⟨markOf_length ys hl, h.append (IsBytes.of fun z hz => by rw [List.eq_of_mem_replicate (List.mem_of_mem_drop hz)]; omega)⟩
/-- So many marks read: what came, or none. -/
def getL : Nat → List Int → Int → List (List Int) → Option (List (List Int)) × List Int × Int
  | 0, z, e, acc => (some acc, z, e)
  | k + 1, z, e, acc => if (fixN z e 16).2.2 ≠ 0 then (none, (fixN z e 16).2.1, (fixN z e 16).2.2) else getL k (fixN z e 16).2.1 (fixN z e 16).2.2 (acc ++ [markOf (fixN z e 16).1])
def finM : Option (List (List Int)) × List Int × Int → List (List Int) × List Int × Int
  | (none, z, e) => ([], z, e)
  | (some l, z, e) => if rightB l then (l, z, e) else ([], failS z e 11, failE e 11)
/-- A set read. -/
def getM (zs : List Int) (e : Int) : List (List Int) × List Int × Int := finM (getL (readN zs e 4096).1.toNat (readN zs e 4096).2.1 (readN zs e 4096).2.2 [])
theorem nil_sl (w : World) : MkSl w (.slice none 0 0) [] := ⟨fun i => by unfold markAt; exact zero_ok, .inl ⟨⟨_, _, rfl⟩, rfl⟩⟩
theorem nil_own (w w' : World) : OwnV w (.slice none 0 0) w' := by intro g hg; simp [Value.ownBlock] at hg
theorem fixN_left (zs : List Int) (e n : Int) : (fixN zs e n).2.1.length ≤ zs.length := by
  unfold fixN
  split
  · exact Nat.le_refl _
  · split
    · simp
    · split
      · simp
      · simp
theorem mark_copied (ys : List Int) : (markL (List.replicate 16 0)).take 0 ++ markL ys ++ (markL (List.replicate 16 0)).drop (0 + ys.length) = markL (markOf ys) := by
  unfold markOf
  rw [List.take_zero, List.nil_append, Nat.zero_add]
  unfold markL
  rw [List.map_append, List.map_drop]
def GtR (w : World) (S : Nat → Prop) (B : Nat) (n : Nat) (R : Option (List (List Int)) × List Int × Int) (a u : Value) (wr : World) : Prop := ∃ (k : Nat) (out : List (List Int)) (z : List Int) (e : Int), k ≤ n ∧ a = .int .i64 k ∧ Hid (EyeOn S wr B z e) ∧ Hid (wr.ownsRow w.heap.size 24 16 u out.length (flatR markL out)) ∧
  Hid (∀ q ∈ out, MarkOk q) ∧ Hid (getL (n - k) z e out = R) ∧ Hid (out.length ≤ k) ∧ Hid (Kp (Jb B) w wr) ∧ Hid (z.length ≤ 140737488355328)

set_option maxRecDepth 100000 in
set_option maxHeartbeats 4000000 in
theorem mget_any (B : Nat) (zs : List Int) (e : Int) (w : World) {S : Nat → Prop} (hS : ∀ i, S i ↔ i = B ∨ w.heap.size ≤ i) (h : EyeOn S w B zs e) (hbig : zs.length ≤ 140737488355328) (hrn : 0 ≤ (readN zs e 4096).1 ∧ (readN zs e 4096).1 ≤ 4096) :
    Calls Try.prog 30 #[.pointer (some ⟨B, 0, none⟩)] w fun r w' => ∃ v', r = .returned v' ∧ MkSl w' v' (getM zs e).1 ∧ OwnV w v' w' ∧ EyeOn S w' B (getM zs e).2.1 (getM zs e).2.2 ∧ Kp (Jb B) w w' := by
  have HSB : Hid (∀ i, Jb B i → S i) := hid (fun i h => (hS i).2 (.inl h))
  have HSN : Hid (∀ i, w.heap.size ≤ i → S i) := hid (fun i h => (hS i).2 (.inr h))
  have HB := hid h.lt
  have CN := hid (number_on B zs e 4096 w HSB.out h)
  obtain ⟨⟨n0, z0, e0⟩, hr⟩ : ∃ r, readN zs e 4096 = r := ⟨_, rfl⟩
  have hz := readN_left zs e 4096
  rw [hr] at CN hz hrn
  dsimp only at CN hz hrn
  obtain ⟨n, rfl⟩ : ∃ n : Nat, n0 = (n : Int) := ⟨n0.toNat, by omega⟩
  obtain ⟨R, hR⟩ : ∃ R, getL n z0 e0 [] = R := ⟨_, rfl⟩
  have HGM : Hid (getM zs e = finM R) := hid (by unfold getM; rw [hr]; dsimp only; rw [Int.toNat_natCast, hR])
  have HZ0 : Hid (z0.length ≤ 140737488355328) := hid (by omega)
  have HN : Hid (n ≤ 4096) := hid (by omega)
  have HR0 := hid hR
  obtain ⟨G, hG⟩ : ∃ G, getM zs e = G := ⟨_, rfl⟩
  rw [hG] at HGM ⊢
  have hwi : IntKind.i64.wrap (n : Int) = (n : Int) := IntWalk.i64_in _ (by omega)
  clear h hbig hr hz hrn hR hG hS
  go_enter Try.func30, Try.ntmps30
  go_wp2_with (go_at_call 48; refine CN.out.mono ?_; rintro r w1 ⟨rfl, h1, k1⟩; have HE1 := hid h1; have K1 := hid k1; clear h1 k1)
  have T0 : Hid (w1.ownsRow w.heap.size 24 16 (.slice none 0 0) ([] : List (List Int)).length (flatR markL [])) := hid (World.ownsRow_nil _ _ _ _)
  have T1 : Hid (∀ q ∈ ([] : List (List Int)), MarkOk q) := hid (fun q hq => by cases hq)
  have T2 : Hid (getL (n - 0) z0 e0 [] = R) := HR0
  go_loopw [8, 3] (fun a u wr => GtR w S B n R a u wr) (fun a _ _ => n - (intOf a).toNat)
  case atStart => exact ⟨0, [], z0, e0, Nat.zero_le _, rfl, HE1, T0, T1, T2, hid (Nat.le_refl _), K1, HZ0⟩
  case round =>
    clear T0 T1 T2 HE1 K1 HR0
    obtain ⟨k, out, z, e, hk, rfl, HE, HO, HOK, HG, HLN, HK, HZ⟩ := hrel
    by_cases hlt : k < n
    · have HLT := hid hlt
      obtain ⟨f, hf⟩ : ∃ f, fixN z e 16 = f := ⟨_, rfl⟩
      have hfl := fixN_le z e 16 (by decide)
      have hfz := fixN_left z e 16
      have HGS : Hid (R = if f.2.2 ≠ 0 then (none, f.2.1, f.2.2) else getL (n - (k + 1)) f.2.1 f.2.2 (out ++ [markOf f.1])) := hid (by
        rw [← HG.out, show n - k = (n - (k + 1)) + 1 from by omega, getL, hf])
      have CF : Hid (∀ w, EyeOn S w B z e → Calls Try.prog 49 #[.pointer (some ⟨B, 0, none⟩), .int .i64 16] w fun r w' => (∃ v', r = .returned v' ∧ BySl (fun i => i < w.heap.size) w' v' f.1) ∧ EyeOn S w' B f.2.1 f.2.2 ∧ Kp (Jb B) w w') := hid (fun w h => by rw [← hf]; exact fixed_on B z e 16 w HSB.out h HZ.out)
      rw [hf] at hfl hfz
      have HFL := hid hfl
      have HZ2 : Hid (f.2.1.length ≤ 140737488355328) := hid (Nat.le_trans hfz HZ.out)
      obtain ⟨C, hC⟩ : ∃ C, wr.heap.size = C := ⟨_, rfl⟩
      obtain ⟨V, hV⟩ : ∃ V, V = wr.alloc (.cells (markL (List.replicate 16 0)).toArray 24) := ⟨_, rfl⟩
      have AL : Hid ((Instr.alloc 24 true (.tuple #[])).run Try.prog wr = .ok (.pointer (some ⟨C, 0, none⟩)) V) := hid (by rw [hV, ← hC]; exact mk_new wr)
      have HC : Hid (Blk V C 24 (markL (List.replicate 16 0))) := hid (by rw [hV, ← hC]; exact Blk.new wr _ _)
      have KV : Hid (Kp Nb wr V) := hid (by rw [hV]; exact (Kp.refl Nb wr).alloc _)
      have HEV := hid (HE.out.kept KV.out (fun h => h) (fun _ h => h.elim))
      have HOV := hid (ownsRow_kp HO.out KV.out)
      have HCB : Hid (C ≠ B ∧ w.heap.size ≤ C) := hid ⟨by have := HE.out.lt; omega, by have := HK.out.size; omega⟩
      have HKV : Hid (Kp (Jb B) w V) := hid (HK.out.trans KV.out (fun _ _ h => h.elim))
      obtain ⟨a0, c0, rfl⟩ := own_shape HO.out
      have HSEP : Hid (∀ g, (Value.slice a0 out.length c0).ownBlock = some g → w.heap.size ≤ g ∧ g < C) := hid (fun g hg => by obtain ⟨h1, o, ho, -⟩ := row_cells HO.out hg; exact ⟨h1, by rw [← hC]; exact (Array.getElem?_eq_some_iff.1 ho).1⟩)
      clear hf hfl hfz hC hV HE HO HK HG KV
      go_upto_region 5 with (refine wpList_val (by rfl) _ _ (exec_allocM rfl AL.out) ?_)
      simp only [Act.put]
      go_region_held3 (fun w' => Hid (Kp (fun x => x = B ∨ x = C) V w'))
        (first | exact hid ((Kp.refl _ V).drew) | exact kh)
        (first
          | (go_at_call 49; refine (CF.out _ HEV.out.drew).mono ?_; rintro e wy ⟨⟨v', rfl, hv'⟩, he, kk⟩; have kh : Hid (Kp (fun x => x = B ∨ x = C) V wy) := hid (((Kp.refl _ V).drew).trans kk (fun _ _ h => .inl h)); have HE3 := hid he; have HV := hid hv'; have HC3 := hid (Blk.kept (Blk.drew HC.out) kk HCB.out.1); clear he hv' kk)
          | (refine step_copy_blk (by rfl) (.tmp 10) (.tmp 12) (by rfl) C 0 16 16 24 (markL (List.replicate 16 0)) v' f.1 (by rfl) (by rfl) HC3.out HV.out (by have := HFL.out; omega) (by rw [markL_length, List.length_replicate]; have := HFL.out; omega) ?_; intro w4 hb4 k4; have kh : Hid (Kp (fun x => x = B ∨ x = C) V w4) := hid (kh.out.trans k4 (fun _ _ h => .inr h)); have HC4 := hid hb4; have K4 := hid k4; clear hb4 k4))
      have HE4 := hid (HE3.out.kept K4.out (fun h => HCB.out.1 h.symm) (fun i h => by have h' : i = C := h; exact HSN.out i (by have := HCB.out.2; omega)))
      have hkk := kh.out
      have HO4 : Hid (w4.ownsRow w.heap.size 24 16 (.slice a0 out.length c0) out.length (flatR markL out)) := hid (ownsRow_same HOV.out (fun g hg => by
        obtain ⟨h1, h2⟩ := HSEP.out g hg
        refine hkk.heap (by have := HC.out.lt; omega) (fun h => ?_)
        rcases h with h | h
        · have := HB.out; omega
        · omega))
      have HK4 : Hid (Kp (Jb B) w w4) := hid (HKV.out.trans hkk (fun i hi h => h.elim (fun h => h) (fun h => by have := HCB.out.2; omega)))
      have HC5 : Hid (Blk w4 C 24 (markL (markOf f.1))) := hid (by have := HC4.out; rwa [mark_copied] at this)
      have HMO : Hid (MarkOk (markOf f.1)) := hid (markOf_ok HV.out.1 (by have := HFL.out; omega))
      obtain ⟨ys, z', e'⟩ := f
      dsimp only at HE4 HC5 HMO HZ2 HGS
      obtain ⟨q, hq⟩ : ∃ q, markOf ys = q := ⟨_, rfl⟩
      rw [hq] at HC5 HMO HGS
      have CE := hid (err_on B z' e' w4 HSB.out HE4.out)
      clear hkk HC4 HE3 HC3 HV K4 kh HEV HOV HC HKV CF hq AL HFL
      by_cases he : e' = 0
      · subst he
        have HGS2 : Hid (R = getL (n - (k + 1)) z' 0 (out ++ [q])) := hid (by rw [HGS.out]; rfl)
        have HLC := hid (load_mark HMO.out (range_of HC5.out))
        have MK9 := hid (make_mark1 q HMO.out.len w4)
        obtain ⟨i0, zz, hi, hz0, hz1, hz2, hz3⟩ := mark_info3
        have B2 : Hid (out.length + [q].length ≤ maxLen ∧ (out.length + [q].length) * 16 ≤ 140737488355328 ∧ w.heap.size ≤ (w4.alloc (.cells (markL q).toArray 24 (0, 0))).heap.size) := hid (by
          have h1 := HK4.out.size
          have h2 := ((Kp.refl Nb w4).alloc (.cells (markL q).toArray 24 (0, 0))).size
          refine ⟨?_, ?_, Nat.le_trans h1 h2⟩ <;> rw [List.length_singleton]
          · unfold maxLen; have := HLN.out; have := HN.out; omega
          · have := HLN.out; have := HN.out; omega)
        clear HGS
        go_wp2_with (first
          | (go_at_call 33; refine CE.out.mono ?_; rintro r w5 ⟨rfl, rfl⟩)
          | (refine wpList_val (by rfl) _ _ (exec_loadM (a := ⟨C, 0, none⟩) rfl (by rfl) HLC.out) ?_)
          | (refine wpList_val (by rfl) _ _ (exec_buildSlice rfl (qs := #[(0, markV q)]) (by simp [Act.eval, Act.put]) MK9.out) ?_)
          | (at_builtin; refine wpList_append_rows (f := markL) (z := List.replicate 16 0) (c := 16) rfl _ _ 22 rfl w.heap.size 24 i0 zz 16 Try.underlying22 hi hz0 hz1 hz2 hz3 (by decide) _ _ _ rfl (ownsRow_kp HO4.out ((Kp.refl Nb _).alloc _)) _ [q] rfl (rows_one (Blk.new _ _ _)) (fun x hx => by rw [List.mem_singleton.1 hx, markL_length, HMO.out.len]) (fun x _ => markL_one x) B2.out.1 B2.out.2.1 B2.out.2.2 ?_))
        intro v10 w10 hown hgrow
        have HK10 : Hid (Kp (Jb B) w w10) := hid ((HK4.out.trans ((Kp.refl Nb w4).alloc (.cells (markL q).toArray 24 (0, 0))) (fun _ _ h => h.elim)).grown hgrow (fun g hg h => by have := (HSEP.out g hg).1; omega))
        have HE10 : Hid (EyeOn S w10 B z' 0) := hid (by
          have hkn : Kp (fun i => w.heap.size ≤ i) w4 w10 := ((Kp.refl (fun i => w.heap.size ≤ i) w4).alloc (.cells (markL q).toArray 24 (0, 0))).grown hgrow (fun g hg h => (HSEP.out g hg).1)
          exact HE4.out.kept hkn (fun h => by have := HB.out; omega) (fun i h => HSN.out i h))
        have HO10 : Hid (w10.ownsRow w.heap.size 24 16 v10 (out ++ [q]).length (flatR markL (out ++ [q]))) := hid (by rw [List.length_append, flatR_append]; exact hown)
        have hy := own_shape hown
        obtain ⟨a10, c10, rfl⟩ := hy
        have RE : Hid (GtR w S B n R (.int .i64 ((k : Int) + 1)) (.slice a10 (out.length + [q].length) c10) w10) := hid ⟨k + 1, out ++ [q], z', 0, HLT.out, by go_num, HE10, HO10, hid (fun x hx => by
          rcases List.mem_append.1 hx with hx | hx
          · exact HOK.out x hx
          · rw [List.mem_singleton.1 hx]; exact HMO.out), hid HGS2.out.symm, hid (by rw [List.length_append, List.length_singleton]; have := HLN.out; omega), HK10, HZ2⟩
        clear hown hgrow HK10 HE10 HO10
        have hn4 := HN.out
        go_wp2
        go_roundw
        case rel => exact RE.out
        case measure => have := HLT.out; simp [intOf]; omega
      · have HGE : Hid (G = ([], z', e')) := hid (by rw [HGM.out, HGS.out, if_pos he]; rfl)
        clear HGS
        go_wp2_with (go_at_call 33; refine CE.out.mono ?_; rintro r w5 ⟨rfl, rfl⟩)
        go_ret
        rw [HGE.out]
        exact ⟨_, rfl, nil_sl _, nil_own _ _, HE4.out, HK4.out⟩
    · obtain rfl : k = n := by omega
      have HRS : Hid (R = (some out, z, e)) := hid (by have := HG.out; rw [Nat.sub_self] at this; exact this.symm)
      have hrows := rows_owned (f := markL) (z := List.replicate 16 0) HO.out (fun q hq => by rw [markL_length, (HOK.out q hq).len])
      have HM : Hid (MkSl wr u3 out) := hid (mk_of_rows hrows HOK.out)
      have CR := hid (mright_any _ out wr HM.out (by have := HLN.out; have := HN.out; omega))
      obtain ⟨a0, c0, rfl⟩ := own_shape HO.out
      obtain ⟨b, hb⟩ : ∃ b, rightB out = b := ⟨_, rfl⟩
      rw [hb] at CR
      have HBB := hid hb
      clear hrows HG hb
      cases b with
      | true =>
        have HGE : Hid (G = (out, z, e)) := hid (by rw [HGM.out, HRS.out]; show (if rightB out = true then _ else _) = _; rw [HBB.out]; rfl)
        go_wp2_with (go_at_call 11; refine CR.out.mono ?_; rintro r w5 ⟨rfl, k5⟩; have K5 := hid k5; clear k5)
        go_ret
        rw [HGE.out]
        refine ⟨_, rfl, HM.out.kept K5.out, ?_, HE.out.kept K5.out (fun h => h) (fun _ h => h.elim), HK.out.trans K5.out (fun _ _ h => h.elim)⟩
        intro g hg
        obtain ⟨h1, o, ho, -⟩ := row_cells HO.out hg
        exact ⟨h1, Nat.lt_of_lt_of_le (Array.getElem?_eq_some_iff.1 ho).1 K5.out.size⟩
      | false =>
        have HGE : Hid (G = ([], failS z e 11, failE e 11)) := hid (by rw [HGM.out, HRS.out]; show (if rightB out = true then _ else _) = _; rw [HBB.out]; rfl)
        have CF := fun wx (hx : EyeOn S wx B z e) => fail_on B z e 11 wx HSB.out hx
        have CF := hid CF
        go_wp2_with (first
          | (go_at_call 11; refine CR.out.mono ?_; rintro r w5 ⟨rfl, k5⟩; have HE5 := hid (HE.out.kept k5 (fun h => h) (fun _ h => h.elim)); have K5 := hid (HK.out.trans k5 (fun _ _ h => h.elim)); clear k5)
          | (go_at_call 50; refine (CF.out _ HE5.out).mono ?_; rintro r w6 ⟨rfl, he6, k6⟩; have HE6 := hid he6; have K6 := hid (K5.out.trans k6 (fun _ _ h => h)); clear he6 k6))
        go_ret
        rw [HGE.out]
        exact ⟨_, rfl, nil_sl _, nil_own _ _, HE6.out, K6.out⟩

end Go.Proofs.Ytijlmfmpfjjlpaa
