/-
  Of the texts VeU what is used. No condition but what each says.
-/
import Derived.Test.YtogoophofgkboaaGreatDoorQq
import Derived.Test.YtogoophofgkboaaGreatDoorQg
namespace Go.Proofs.YtogoophofgkboaaGreatDoor
section
open Go.RowKit
theorem unhL_snoc : ∀ (t : List UInt8) (l : List Int) (a b : UInt8), unhL t = some l → unhL (t ++ [a, b]) = (unhd a).bind fun x => (unhd b).map fun y => l ++ [((x * 16 + y : Nat) : Int)]
  | [], l, a, b, h => by
    simp only [unhL, Option.some.injEq] at h
    subst h
    rw [List.nil_append]
    simp only [unhL]
    cases unhd a with
    | none => rfl
    | some x => cases unhd b <;> rfl
  | [_], l, a, b, h => by simp [unhL] at h
  | c :: d :: t, l, a, b, h => by
    simp only [unhL] at h
    cases hc : unhd c with
    | none => rw [hc] at h; cases h
    | some x =>
      cases hd : unhd d with
      | none => rw [hc, hd] at h; cases h
      | some y =>
        cases ht : unhL t with
        | none => rw [hc, hd, ht] at h; cases h
        | some l2 =>
          rw [hc, hd, ht] at h
          simp only [Option.bind_some, Option.map_some, Option.some.injEq] at h
          subst h
          have ih := unhL_snoc t l2 a b ht
          rw [List.cons_append, List.cons_append]
          simp only [unhL, hc, hd, ih, Option.bind_some]
          cases unhd a with
          | none => rfl
          | some x => cases unhd b <;> rfl
theorem unhL_bad : ∀ (t : List UInt8) (l : List Int) (a b : UInt8) (r : List UInt8), unhL t = some l → (unhd a = none ∨ unhd b = none) → unhL (t ++ a :: b :: r) = none
  | [], l, a, b, r, h, hb => by
    rw [List.nil_append]
    simp only [unhL]
    rcases hb with hb | hb
    · rw [hb]; rfl
    · rw [hb]; cases unhd a <;> rfl
  | [_], l, a, b, r, h, hb => by simp [unhL] at h
  | c :: d :: t, l, a, b, r, h, hb => by
    simp only [unhL] at h
    cases hc : unhd c with
    | none => rw [hc] at h; cases h
    | some x =>
      cases hd : unhd d with
      | none => rw [hc, hd] at h; cases h
      | some y =>
        cases ht : unhL t with
        | none => rw [hc, hd, ht] at h; cases h
        | some l2 =>
          have ih := unhL_bad t l2 a b r ht hb
          rw [List.cons_append, List.cons_append]
          simp only [unhL, hc, hd, ih, Option.bind_some]
          rfl
theorem unhL_odd : ∀ (t : List UInt8), t.length % 2 = 1 → unhL t = none
  | [], h => by simp at h
  | [_], _ => rfl
  | c :: d :: t, h => by
    have ih := unhL_odd t (by simp only [List.length_cons] at h; omega)
    simp only [unhL, ih]
    cases unhd c with
    | none => rfl
    | some x => cases unhd d <;> rfl
theorem take_two (s : List UInt8) (p : Nat) (h : p + 1 < s.length) : s.take (p + 2) = s.take p ++ [s[p]?.getD 0, s[p + 1]?.getD 0] ∧ s = s.take p ++ (s[p]?.getD 0) :: (s[p + 1]?.getD 0) :: s.drop (p + 2) := by
  have e0 : s[p]?.getD 0 = s[p] := by rw [List.getElem?_eq_getElem (by omega), Option.getD_some]
  have e1 : s[p + 1]?.getD 0 = s[p + 1] := by rw [List.getElem?_eq_getElem h, Option.getD_some]
  have e : s.take (p + 2) = s.take p ++ [s[p]?.getD 0, s[p + 1]?.getD 0] := by
    rw [e0, e1, List.take_succ_eq_append_getElem (i := p + 1) h, List.take_succ_eq_append_getElem (i := p) (by omega), List.append_assoc]
    rfl
  refine ⟨e, ?_⟩
  conv => lhs; rw [← List.take_append_drop (p + 2) s, e]
  simp
theorem unhd_lt {c : UInt8} {x : Nat} (h : unhd c = some x) : x < 16 := (hexd_unhd h).1
theorem or_16 (x y : Int) (hx : 0 ≤ x ∧ x < 16) (hy : 0 ≤ y ∧ y < 16) : bits .or .u8 (x * 16) y = x * 16 + y := by
  have hA : (BitVec.ofInt 8 (x * 16)).toNat = x.toNat * 16 := by rw [BitVec.toNat_ofInt]; omega
  have hB : (BitVec.ofInt 8 y).toNat = y.toNat := by rw [BitVec.toNat_ofInt]; omega
  have h1 : bits .or .u8 (x * 16) y = IntKind.u8.wrap (((BitVec.ofInt 8 (x * 16) ||| BitVec.ofInt 8 y).toNat : Nat) : Int) := rfl
  have h2 : (BitVec.ofInt 8 (x * 16) ||| BitVec.ofInt 8 y).toNat = x.toNat * 16 + y.toNat := by
    rw [BitVec.toNat_or, hA, hB]
    have := Nat.shiftLeft_add_eq_or_of_lt (i := 4) (b := y.toNat) (by omega) x.toNat
    rw [Nat.shiftLeft_eq] at this
    exact this.symm
  rw [h1, h2, IntKind.wrap_u8]
  omega
set_option maxHeartbeats 1000000 in
theorem value_any (c : UInt8) (w : World) : Calls Tryz.prog 111 #[.int .u8 (c.toNat : Int)] w fun e w' => e = .returned (.tuple #[.int .u8 (((unhd c).getD 0 : Nat) : Int), .bool (unhd c).isSome]) ∧ Kp Nb w w' := by
  have HU : Hid (unhd c = if 48 ≤ c.toNat ∧ c.toNat ≤ 57 then some (c.toNat - 48) else if 97 ≤ c.toNat ∧ c.toNat ≤ 102 then some (c.toNat - 87) else none) := hid rfl
  obtain ⟨u, hu⟩ : ∃ u, unhd c = u := ⟨_, rfl⟩
  rw [hu] at HU ⊢
  obtain ⟨n, hn⟩ : ∃ n, c.toNat = n := ⟨_, rfl⟩
  have hlt : n < 256 := by rw [← hn]; exact c.toNat_lt
  rw [hn] at HU ⊢
  clear hu hn
  obtain ⟨z, hz⟩ : ∃ z : Int, (n : Int) = z := ⟨_, rfl⟩
  have HZ := hid hz
  have hz0 : 0 ≤ z ∧ z < 256 := by omega
  rw [hz]
  by_cases h1 : 48 ≤ z
  · by_cases h2 : z ≤ 57
    · have HR : Hid (u = some (n - 48)) := hid (by rw [HU.out, if_pos (by omega)])
      have HV : Hid (z - 48 = ((n - 48 : Nat) : Int)) := hid (by omega)
      clear hz hlt HU
      go_enter Tryz.func111, Tryz.ntmps111
      go_wp2
      go_ret2
      exact ⟨by rw [HR.out]; show Ending.returned (.tuple #[.int .u8 _, .bool true]) = .returned (.tuple #[.int .u8 ((n - 48 : Nat) : Int), .bool true]); rw [← HV.out], Kp.refl _ _⟩
    · by_cases h3 : 97 ≤ z
      · by_cases h4 : z ≤ 102
        · have HR : Hid (u = some (n - 87)) := hid (by rw [HU.out, if_neg (by omega), if_pos (by omega)])
          have HV : Hid (z - 97 + 10 = ((n - 87 : Nat) : Int)) := hid (by omega)
          clear hz hlt HU
          go_enter Tryz.func111, Tryz.ntmps111
          go_wp2
          go_ret2
          exact ⟨by rw [HR.out]; show Ending.returned (.tuple #[.int .u8 _, .bool true]) = .returned (.tuple #[.int .u8 ((n - 87 : Nat) : Int), .bool true]); rw [← HV.out], Kp.refl _ _⟩
        · have HR : Hid (u = none) := hid (by rw [HU.out, if_neg (by omega), if_neg (by omega)])
          clear hz hlt HU
          go_enter Tryz.func111, Tryz.ntmps111
          go_wp2
          go_ret2
          exact ⟨by rw [HR.out]; rfl, Kp.refl _ _⟩
      · have HR : Hid (u = none) := hid (by rw [HU.out, if_neg (by omega), if_neg (by omega)])
        clear hz hlt HU
        go_enter Tryz.func111, Tryz.ntmps111
        go_wp2
        go_ret2
        exact ⟨by rw [HR.out]; rfl, Kp.refl _ _⟩
  · have h3 : ¬ 97 ≤ z := by omega
    have HR : Hid (u = none) := hid (by rw [HU.out, if_neg (by omega), if_neg (by omega)])
    clear hz hlt HU
    go_enter Tryz.func111, Tryz.ntmps111
    go_wp2
    go_ret2
    exact ⟨by rw [HR.out]; rfl, Kp.refl _ _⟩
/-- What a word is as bytes, at most so many. -/
def readB (s : List UInt8) (most : Nat) : Option (List Int) := if s = [46] then some [] else if s.length = 0 ∨ s.length % 2 ≠ 0 ∨ most < s.length / 2 then none else unhL s
theorem rows_new1 (w : World) (a : Int) : RowsSl byL 0 1 (w.alloc (.cells #[.int .u8 a] 5)) (.slice (some ⟨w.heap.size, 0, none⟩) 1 1) [a] := by
  refine .inr ⟨w.heap.size, 0, 1, rfl, Nat.le_refl _, by unfold maxLen; omega, fun i hi j u hu => ?_⟩
  have hb := Blk.new w 5 [.int .u8 a]
  match j with
  | 0 =>
    match i with
    | 0 => injection hu with hu; rw [← hu]; exact hb.cell 0
    | i + 1 => simp at hi
  | j + 1 => simp [byL] at hu
def RbR (W : World) (s : List UInt8) (base : Nat) (i u : Value) (wr : World) : Prop := ∃ (p : Nat) (l : List Int), p ≤ s.length ∧ p % 2 = 0 ∧ i = .int .i64 p ∧ Hid (unhL (s.take p) = some l) ∧ Hid (l.length ≤ p) ∧ Hid (wr.ownsRow base 5 1 u l.length (flatR byL l)) ∧ Hid (Kp Nb W wr)
theorem own_nilV (w : World) (base : Nat) : w.ownsRow base 5 1 (.slice none 0 0) 0 [] := ⟨rfl, .inl ⟨rfl, rfl⟩⟩
set_option maxRecDepth 100000 in
set_option maxHeartbeats 8000000 in
theorem rbytes4_any (s : List UInt8) (most : Nat) (w : World) (hl : s.length ≤ 1000) (hm : most ≤ 1000) : Calls Tryz.prog 98 #[.string (bs s), .int .i64 (most : Int)] w fun e w' => ∃ v, e = .returned (.tuple #[v, .bool (readB s most).isSome]) ∧ BySl Nb w' v ((readB s most).getD []) ∧ OwnV w v w' ∧ Kp Nb w w' := by
  have HRB : Hid (readB s most = if s = [46] then some [] else if s.length = 0 ∨ s.length % 2 ≠ 0 ∨ most < s.length / 2 then none else unhL s) := hid rfl
  have none_ok : ∀ w', BySl Nb w' (.slice none 0 0) [] := fun w' => ⟨isb_nil, .inl ⟨⟨_, _, rfl⟩, rfl⟩⟩
  have HNO := hid none_ok
  clear none_ok
  have own0 : ∀ w', OwnV w (.slice none 0 0) w' := fun w' g hg => by simp [Value.ownBlock] at hg
  have HOW := hid own0
  clear own0
  have HE : Hid (((bs s).toList == [46]) = decide (s = [46])) := hid (by
    have e : (bs s).toList = s := ByteArray.toList_mk _
    rw [e, Bool.eq_iff_iff, beq_iff_eq, decide_eq_true_eq])
  obtain ⟨RB, hRB⟩ : ∃ r, readB s most = r := ⟨_, rfl⟩
  rw [hRB] at HRB ⊢
  clear hRB
  have HIX0 := hid (fun (i : Nat) (hi : i < s.length) (w : World) => idx_bs s w i hi)
  have hsz : (bs s).size = s.length := by show s.toArray.size = _; rw [List.size_toArray]
  obtain ⟨ss, hss⟩ : ∃ t, bs s = t := ⟨_, rfl⟩
  obtain ⟨L, hL⟩ : ∃ n, s.length = n := ⟨_, rfl⟩
  have HL := hid hL
  rw [hss] at HE HIX0 hsz ⊢
  rw [hL] at hsz hl HRB
  have HLM : Hid (L ≤ 1000 ∧ most ≤ 1000) := hid ⟨hl, hm⟩
  have HSZ := hid hsz
  clear hss
  by_cases h46 : s = [46]
  · have he : (ss.toList == [46]) = true := HE.out.trans (decide_eq_true h46)
    have HR : Hid (RB = some []) := hid (by rw [HRB.out, if_pos h46])
    clear h46 HE HRB hL hm hl
    go_enter Tryz.func98, Tryz.ntmps98
    go_wp2
    go_ret2
    rw [HR.out]
    exact ⟨_, rfl, HNO.out _, HOW.out _, Kp.refl _ _⟩
  · have he : (ss.toList == [46]) = false := HE.out.trans (decide_eq_false h46)
    have HRB2 : Hid (RB = if L = 0 ∨ L % 2 ≠ 0 ∨ most < L / 2 then none else unhL s) := hid (by rw [HRB.out, if_neg h46])
    clear HE HRB hL
    by_cases h0 : L = 0
    · have g0 : ((L : Int) == 0) = true := by rw [h0]; rfl
      have HR : Hid (RB = none) := hid (by rw [HRB2.out, if_pos (.inl h0)])
      clear h46 h0 HRB2 hm hl
      go_enter Tryz.func98, Tryz.ntmps98
      go_wp2
      go_ret2
      rw [HR.out]
      exact ⟨_, rfl, HNO.out _, HOW.out _, Kp.refl _ _⟩
    · have g0 : ((L : Int) == 0) = false := beq_eq_false_iff_ne.2 (by omega)
      by_cases h2 : L % 2 = 0
      · have g2 : ((L : Int) % 2 != 0) = false := by rw [bne_eq_false_iff_eq]; omega
        by_cases h3 : most < L / 2
        · have g3 : (L : Int) / 2 > (most : Int) := by omega
          have HR : Hid (RB = none) := hid (by rw [HRB2.out, if_pos (.inr (.inr h3))])
          clear h46 h0 h2 h3 HRB2 hm
          go_enter Tryz.func98, Tryz.ntmps98
          go_wp2
          go_ret2
          rw [HR.out]
          exact ⟨_, rfl, HNO.out _, HOW.out _, Kp.refl _ _⟩
        · have g3 : ¬ (L : Int) / 2 > (most : Int) := by omega
          have HR : Hid (RB = unhL s) := hid (by rw [HRB2.out, if_neg (by rintro (h | h | h) <;> omega)])
          have HEV := hid h2
          clear h46 h0 h2 h3 HRB2 hm
          obtain ⟨base, hbase⟩ : ∃ b, w.heap.size = b := ⟨_, rfl⟩
          have HBW := hid hbase
          have HO := hid (own_nilV w base)
          clear hbase
          go_enter Tryz.func98, Tryz.ntmps98
          go_wp2
          clear g0 g2 g3
          go_loopw [7, 6] (RbR w s base) (fun i _ _ => L - (intOf i).toNat)
          case atStart => exact ⟨0, [], Nat.zero_le _, rfl, rfl, hid rfl, hid (Nat.le_refl _), HO, hid (Kp.refl _ _)⟩
          case round =>
            obtain ⟨p, l, hp, hp2, rfl, HT, HLL, HR0, HK⟩ := hrel
            rw [HL.out] at hp
            by_cases hlt : p < L
            · have hp1 : p + 1 < L := by have := HEV.out; omega
              obtain ⟨a, ha⟩ : ∃ a, s[p]?.getD 0 = a := ⟨_, rfl⟩
              obtain ⟨b, hb⟩ : ∃ b, s[p + 1]?.getD 0 = b := ⟨_, rfl⟩
              have TT := take_two s p (by rw [HL.out]; exact hp1)
              rw [ha, hb] at TT
              have HTT := hid TT
              have hia : ∀ w : World, (Instr.index 9 (.string ss) (.int .i64 (p : Int))).run Tryz.prog w = .ok (.int .u8 (a.toNat : Int)) w := fun w => by rw [← ha]; exact HIX0.out p (by rw [HL.out]; exact hlt) w
              have hib : ∀ w : World, (Instr.index 9 (.string ss) (.int .i64 ((p : Int) + 1))).run Tryz.prog w = .ok (.int .u8 (b.toNat : Int)) w := fun w => by rw [← hb]; exact HIX0.out (p + 1) (by rw [HL.out]; exact hp1) w
              have HPB : Hid (p + 1 < L ∧ p % 2 = 0) := hid ⟨hp1, hp2⟩
              have hpb : p < 1000 := by omega
              have CVA := hid (value_any a)
              have CVB := hid (value_any b)
              have HSN := hid (unhL_snoc (s.take p) l a b HT.out)
              have HBD := hid (unhL_bad (s.take p) l a b (s.drop (p + 2)) HT.out)
              have hua := fun x (h : unhd a = some x) => unhd_lt h
              have hub := fun x (h : unhd b = some x) => unhd_lt h
              have HUA := hid hua
              have HUB := hid hub
              obtain ⟨za, hza⟩ : ∃ z : Int, (a.toNat : Int) = z := ⟨_, rfl⟩
              obtain ⟨zb, hzb⟩ : ∃ z : Int, (b.toNat : Int) = z := ⟨_, rfl⟩
              rw [hza] at hia CVA
              rw [hzb] at hib CVB
              clear ha hb TT hua hub hza hzb hp1 hp2
              obtain ⟨ua, hua⟩ : ∃ u, unhd a = u := ⟨_, rfl⟩
              obtain ⟨ub, hub⟩ : ∃ u, unhd b = u := ⟨_, rfl⟩
              rw [hua] at CVA HSN HBD HUA
              rw [hub] at CVB HSN HBD HUB
              clear hua hub
              go_wp2_with fail
              refine (CVA.out _).mono ?_
              rintro e w1 ⟨rfl, k1⟩
              have K1 := hid k1
              clear k1
              go_wp2_with fail
              refine (CVB.out _).mono ?_
              rintro e w2 ⟨rfl, k2⟩
              have K2 := hid (K1.out.trans k2 (fun _ _ h => h))
              clear k2 CVA CVB hia hib
              cases ua with
              | none =>
                have HRN : Hid (RB = none) := hid (by rw [HR.out, HTT.out.2]; exact HBD.out (.inl rfl))
                go_wp2
                go_ret2
                rw [HRN.out]
                exact ⟨_, rfl, HNO.out _, HOW.out _, HK.out.trans K2.out (fun _ _ h => h)⟩
              | some x =>
                cases ub with
                | none =>
                  have HRN : Hid (RB = none) := hid (by rw [HR.out, HTT.out.2]; exact HBD.out (.inr rfl))
                  go_wp2
                  go_ret2
                  rw [HRN.out]
                  exact ⟨_, rfl, HNO.out _, HOW.out _, HK.out.trans K2.out (fun _ _ h => h)⟩
                | some y =>
                  have hx := HUA.out x rfl
                  have hy := HUB.out y rfl
                  obtain ⟨X, hX⟩ : ∃ z : Int, (x : Int) = z := ⟨_, rfl⟩
                  obtain ⟨Y, hY⟩ : ∃ z : Int, (y : Int) = z := ⟨_, rfl⟩
                  obtain ⟨V, hV⟩ : ∃ z : Int, X * 16 + Y = z := ⟨_, rfl⟩
                  have hw : IntKind.u8.wrap (X * 16) = X * 16 := by rw [IntKind.wrap_u8]; omega
                  have ho : bits .or .u8 (X * 16) Y = V := by rw [or_16 X Y (by omega) (by omega), hV]
                  have HSN2 : Hid (unhL (s.take (p + 2)) = some (l ++ [V])) := hid (by
                    rw [HTT.out.1, HSN.out]
                    show some (l ++ [((x * 16 + y : Nat) : Int)]) = _
                    rw [← hV, ← hX, ← hY]
                    rfl)
                  obtain ⟨yy, cc, rfl⟩ := own_shape HR0.out
                  obtain ⟨m, hm⟩ : ∃ m, l.length = m := ⟨_, rfl⟩
                  have HR9 : Hid (w2.ownsRow base 5 1 (.slice yy m cc) l.length (flatR byL l)) := hid (by rw [← hm]; exact ownsRow_kpV HR0.out K2.out)
                  have HLP : Hid (l.length ≤ 1000) := hid (by have := HLL.out; omega)
                  have KW2 := hid (HK.out.trans K2.out (fun _ _ h => h))
                  simp only [Option.getD_some, hX, hY, hm, Option.isSome_some]
                  clear hX hY hV hm hx hy HSN HBD HUA HUB HR0 HK K1 K2
                  have k3 : Kp Nb w2 (w2.alloc (.cells #[.int .u8 V] 5)) := (Kp.refl Nb w2).alloc _
                  have HR3 := hid (ownsRow_kpV HR9.out k3)
                  have HN1 := hid (rows_new1 w2 V)
                  have K3 := hid (KW2.out.trans k3 (fun _ _ h => h))
                  have HB3 : Hid (base ≤ (w2.alloc (.cells #[.int .u8 V] 5)).heap.size) := hid (by have := K3.out.size; have := HBW.out; omega)
                  obtain ⟨i0, hi0, hz0, hz1, hz2⟩ := info_parts byte_infoV
                  have HMX : Hid (l.length + [V].length ≤ maxLen ∧ (l.length + [V].length) * 1 ≤ 140737488355328) := hid (by unfold maxLen; have := HLP.out; simp only [List.length_singleton]; omega)
                  clear k3 HR9 KW2
                  go_wp2_with (at_builtin; refine wpList_append_rows (f := byL) (z := 0) (c := 1) rfl _ _ 26 rfl base 5 i0 (.int .u8 0) 1 Tryz.underlying26 hi0 hz0 hz1 hz2 rfl (by decide) _ l.length (flatR byL l) rfl HR3.out _ [V] rfl HN1.out (fun _ _ => rfl) (fun _ _ u hu => by unfold byL at hu; rw [List.mem_singleton.1 hu]; rfl) HMX.out.1 HMX.out.2 HB3.out ?_)
                  intro v4 w4 ho4 hg4
                  have HO4 : Hid (w4.ownsRow base 5 1 v4 (l ++ [V]).length (flatR byL (l ++ [V]))) := hid (by
                    rw [List.length_append]
                    unfold flatR at ho4 ⊢
                    rw [List.flatMap_append]
                    exact ho4)
                  have K4 : Hid (Kp Nb w w4) := hid (K3.out.grown hg4 (fun b hb hlt => by
                    have := (row_cells HR3.out hb).1; have := HBW.out; omega))
                  have HREL : Hid (RbR w s base (.int .i64 ((p : Int) + 2)) v4 w4) := hid ⟨p + 2, l ++ [V], by rw [HL.out]; have := HPB.out; omega, by have := HPB.out; omega, rfl, HSN2, hid (by rw [List.length_append, List.length_singleton]; have := HLL.out; omega), HO4, K4⟩
                  clear ho4 hg4 HO4 K4 HR3 HN1 K3 HB3
                  go_wp2
                  exact ⟨HREL.out, by simp [intOf]; have := HPB.out; omega⟩
            · obtain rfl : p = L := by omega
              have HRS : Hid (RB = some l) := hid (by
                rw [HR.out, ← HT.out, ← HL.out, List.take_length])
              have HBY := hid (by_owned HR0.out (hex_unh _ _ HT.out).1)
              have h9 := HR0.out
              rw [← HBW.out] at h9
              have HOV := hid (own_of h9)
              clear h9
              go_wp2
              go_ret2
              rw [HRS.out]
              exact ⟨_, rfl, HBY.out, HOV.out, HK.out⟩
      · have g2 : ((L : Int) % 2 != 0) = true := by rw [bne_iff_ne]; omega
        have HR : Hid (RB = none) := hid (by rw [HRB2.out, if_pos (.inr (.inl h2))])
        clear h46 h0 h2 HRB2 hm
        go_enter Tryz.func98, Tryz.ntmps98
        go_wp2
        go_ret2
        rw [HR.out]
        exact ⟨_, rfl, HNO.out _, HOW.out _, Kp.refl _ _⟩
def RuI (W : World) (a b : UInt8) (u i : Value) (wr : World) : Prop := ∃ v : Int, u = .int .i64 v ∧ ((i = .int .i64 0 ∧ v = 0) ∨ (∃ x : Nat, i = .int .i64 1 ∧ unhd a = some x ∧ v = x) ∨ (∃ x y : Nat, i = .int .i64 2 ∧ unhd a = some x ∧ unhd b = some y ∧ v = x * 16 + y)) ∧ Hid (Kp Nb W wr)
def RuR (W : World) (s : List UInt8) (u i : Value) (wr : World) : Prop := ∃ (p : Nat) (l : List Int), p ≤ s.length ∧ p % 2 = 0 ∧ i = .int .i64 p ∧ u = .string (st l) ∧ Hid (unhL (s.take p) = some l) ∧ Hid (l.length ≤ p) ∧ Hid (Kp Nb W wr)
theorem unhd_dig {c : UInt8} (h : 48 ≤ (c.toNat : Int)) (h2 : (c.toNat : Int) ≤ 57) : unhd c = some (c.toNat - 48) := by unfold unhd; rw [if_pos (by omega)]
theorem unhd_let {c : UInt8} (h : 97 ≤ (c.toNat : Int)) (h2 : (c.toNat : Int) ≤ 102) : unhd c = some (c.toNat - 87) := by unfold unhd; rw [if_neg (by omega), if_pos (by omega)]
theorem unhd_bad {c : UInt8} (h : ¬ (48 ≤ (c.toNat : Int) ∧ (c.toNat : Int) ≤ 57)) (h2 : ¬ (97 ≤ (c.toNat : Int) ∧ (c.toNat : Int) ≤ 102)) : unhd c = none := by unfold unhd; rw [if_neg (by omega), if_neg (by omega)]
set_option maxRecDepth 100000 in
set_option maxHeartbeats 8000000 in
theorem runhex_any (s : List UInt8) (w : World) (hl : s.length ≤ 1000) : Calls Tryz.prog 76 #[.string (bs s)] w fun e w' => e = .returned (.tuple #[.string (st ((unhL s).getD [])), .bool (unhL s).isSome]) ∧ Kp Nb w w' := by
  have HRB : Hid (unhL s = unhL s) := hid rfl
  obtain ⟨RB, hRB⟩ : ∃ r, unhL s = r := ⟨_, rfl⟩
  have HR := hid hRB
  rw [hRB]
  clear HRB hRB
  have HIX0 := hid (fun (i : Nat) (hi : i < s.length) (w : World) => idx_bs s w i hi)
  have hsz : (bs s).size = s.length := by show s.toArray.size = _; rw [List.size_toArray]
  obtain ⟨ss, hss⟩ : ∃ t, bs s = t := ⟨_, rfl⟩
  obtain ⟨L, hL⟩ : ∃ n, s.length = n := ⟨_, rfl⟩
  have HL := hid hL
  rw [hss] at HIX0 hsz ⊢
  rw [hL] at hsz hl
  have HLM : Hid (L ≤ 1000) := hid hl
  clear hss
  by_cases h2 : L % 2 = 1
  · have g2 : ((L : Int) % 2 == 1) = true := by rw [beq_iff_eq]; omega
    have HRN : Hid (RB = none) := hid (by rw [← HR.out]; exact unhL_odd s (by omega))
    clear h2 hL
    go_enter Tryz.func76, Tryz.ntmps76
    go_wp2
    go_ret2
    exact ⟨by rw [HRN.out]; rfl, Kp.refl _ _⟩
  · have g2 : ((L : Int) % 2 == 1) = false := beq_eq_false_iff_ne.2 (by omega)
    have HEV : Hid (L % 2 = 0) := hid (by omega)
    clear h2 hL
    go_enter Tryz.func76, Tryz.ntmps76
    go_wp2
    clear g2
    go_loopw [4, 5] (RuR w s) (fun _ i _ => L - (intOf i).toNat)
    case atStart => exact ⟨0, [], Nat.zero_le _, rfl, rfl, rfl, hid rfl, hid (Nat.le_refl _), hid (Kp.refl _ _)⟩
    case round =>
      obtain ⟨p, l, hp, hp2, rfl, rfl, HT, HLL, HK⟩ := hrel
      rw [HL.out] at hp
      by_cases hlt : p < L
      · have hp1 : p + 1 < L := by have := HEV.out; omega
        obtain ⟨a, ha⟩ : ∃ a, s[p]?.getD 0 = a := ⟨_, rfl⟩
        obtain ⟨b, hb⟩ : ∃ b, s[p + 1]?.getD 0 = b := ⟨_, rfl⟩
        have TT := take_two s p (by rw [HL.out]; exact hp1)
        rw [ha, hb] at TT
        have HTT := hid TT
        obtain ⟨za, hza⟩ : ∃ z : Int, (a.toNat : Int) = z := ⟨_, rfl⟩
        obtain ⟨zb, hzb⟩ : ∃ z : Int, (b.toNat : Int) = z := ⟨_, rfl⟩
        have HIA : Hid (∀ w : World, (Instr.index 9 (.string ss) (.int .i64 (p : Int))).run Tryz.prog w = .ok (.int .u8 za) w) := hid (fun w => by rw [← hza, ← ha]; exact HIX0.out p (by rw [HL.out]; exact hlt) w)
        have HIB : Hid (∀ w : World, (Instr.index 9 (.string ss) (.int .i64 ((p : Int) + 1))).run Tryz.prog w = .ok (.int .u8 zb) w) := hid (fun w => by rw [← hzb, ← hb]; exact HIX0.out (p + 1) (by rw [HL.out]; exact hp1) w)
        have HPB : Hid (p + 1 < L ∧ p % 2 = 0 ∧ L ≤ 1000) := hid ⟨hp1, hp2, HLM.out⟩
        have hpb : p < 1000 := by omega
        have HSN := hid (unhL_snoc (s.take p) l a b HT.out)
        have HBD := hid (unhL_bad (s.take p) l a b (s.drop (p + 2)) HT.out)
        have HZA : Hid ((a.toNat : Int) = za ∧ 0 ≤ za ∧ za < 256) := hid ⟨hza, by have := a.toNat_lt; omega, by have := a.toNat_lt; omega⟩
        have HZB : Hid ((b.toNat : Int) = zb ∧ 0 ≤ zb ∧ zb < 256) := hid ⟨hzb, by have := b.toNat_lt; omega, by have := b.toNat_lt; omega⟩
        clear ha hb TT hza hzb hp1 hp2
        go_wp2_with fail
        refine region_ghost (g0 := (0 : Nat)) [none, none, none, none, none, none, none, none, none, none, none, none, none, none, none, none, none, none, none, some 0, some 1, some 2, some 3, some 4, some 5, some 6, some 7, some 8, some 9, none, none, none, none, none, none, none, none, none, none, none, none, none, none, none, none, none, none, none, none, none, none, none, none, none, none, none, none, none, none, none, none, none, none, none] [[(0, none)], [(5, none)], [(19, some 0), (20, some 1)], [(0, none)], [(5, none)], [(23, some 4)], [(22, some 3), (24, some 5)], [(21, some 2), (25, some 6)], [(26, some 7)], []] [some 19, some 20, some 21, some 22, some 23, some 24, some 25, some 26, some 27, some 28] (fun g => [.string ss, .int .i64 (p : Int), .int .u8 za, .string ss, .int .i64 (p : Int), .int .i64 ((p : Int) + 1), .int .u8 zb, .slice (some ⟨g, 0, none⟩) 2 2, .int .i64 2, .int .i64 0]) [7] (fun (bs : List Bool) (g : Nat) wq => Hid (Kp Nb wr wq ∧ (bs.getD 0 false = true → Blk wq g 5 [.int .u8 za, .int .u8 zb]))) (by kernel_rfl) (by kernel_rfl) (fun g => by kernel_rfl) (by kernel_rfl) ?hS (GFrom.all (n := 10) (by kernel_rfl) ?hstep) ?hend
        case hstep =>
          refine GFrom.cons (GStep.val _ rfl rfl _ rfl (fun g => .string ss) (fun _ => rfl) (fun _ => trivial) (fun bs g ev wq hS he hr => ?_)) ?_
          · have r0 : ev (.tmp 0) = .string ss := hr (0, none) (by simp); have hk := he.1; clear hr he
            go_simp
          refine GFrom.cons (GStep.val _ rfl rfl _ rfl (fun g => .int .i64 (p : Int)) (fun _ => rfl) (fun _ => trivial) (fun bs g ev wq hS he hr => ?_)) ?_
          · have r0 : ev (.tmp 5) = .int .i64 (p : Int) := hr (5, none) (by simp); have hk := he.1; clear hr he
            go_simp
          refine GFrom.cons (GStep.val _ rfl rfl _ rfl (fun g => .int .u8 za) (fun _ => rfl) (fun _ => trivial) (fun bs g ev wq hS he hr => ?_)) ?_
          · have r0 : ev (.tmp 19) = .string ss := hr (19, some 0) (by simp); have r1 : ev (.tmp 20) = .int .i64 (p : Int) := hr (20, some 1) (by simp); have hk := he.1; clear hr he
            exact exec_indexV rfl r0 r1 (HIA.out wq)
          refine GFrom.cons (GStep.val _ rfl rfl _ rfl (fun g => .string ss) (fun _ => rfl) (fun _ => trivial) (fun bs g ev wq hS he hr => ?_)) ?_
          · have r0 : ev (.tmp 0) = .string ss := hr (0, none) (by simp); have hk := he.1; clear hr he
            go_simp
          refine GFrom.cons (GStep.val _ rfl rfl _ rfl (fun g => .int .i64 (p : Int)) (fun _ => rfl) (fun _ => trivial) (fun bs g ev wq hS he hr => ?_)) ?_
          · have r0 : ev (.tmp 5) = .int .i64 (p : Int) := hr (5, none) (by simp); have hk := he.1; clear hr he
            go_simp
          refine GFrom.cons (GStep.val _ rfl rfl _ rfl (fun g => .int .i64 ((p : Int) + 1)) (fun _ => rfl) (fun _ => trivial) (fun bs g ev wq hS he hr => ?_)) ?_
          · have r0 : ev (.tmp 23) = .int .i64 (p : Int) := hr (23, some 4) (by simp); have hk := he.1; clear hr he
            have hpb := HPB.out; go_simp; exact IntWalk.i64_in _ (by omega)
          refine GFrom.cons (GStep.val _ rfl rfl _ rfl (fun g => .int .u8 zb) (fun _ => rfl) (fun _ => trivial) (fun bs g ev wq hS he hr => ?_)) ?_
          · have r0 : ev (.tmp 22) = .string ss := hr (22, some 3) (by simp); have r1 : ev (.tmp 24) = .int .i64 ((p : Int) + 1) := hr (24, some 5) (by simp); have hk := he.1; clear hr he
            exact exec_indexV rfl r0 r1 (HIB.out wq)
          refine GFrom.cons (GStep.make _ rfl _ rfl (fun _ => trivial) (fun Lx g ev wq hL hd hcl hS he hr => ?_)) ?_
          · have r0 : ev (.tmp 21) = .int .u8 za := hr (21, some 2) (by simp); have r1 : ev (.tmp 25) = .int .u8 zb := hr (25, some 6) (by simp); clear hr he
            have e2 : bitsAt [7] (upd Lx 7) = [true] := by simp [bitsAt, upd]
            exact ⟨.slice (some ⟨wq.heap.size, 0, none⟩) 2 2, wq.heap.size, _, exec_buildSliceV (qs := #[(0, .int .u8 za), (1, .int .u8 zb)]) rfl (by simp [r0, r1]) (make_by2 wq za zb), rfl, old_setV _ hL rfl, by rw [e2]; exact hid ⟨hS.out.1.trans ((Kp.refl Nb wq).alloc _) (fun _ _ h => h), fun _ => Blk.new wq _ [.int .u8 za, .int .u8 zb]⟩⟩
          refine GFrom.cons (GStep.val _ rfl rfl _ rfl (fun g => .int .i64 2) (fun _ => rfl) (fun _ => trivial) (fun bs g ev wq hS he hr => ?_)) ?_
          · have r0 : ev (.tmp 26) = .slice (some ⟨g, 0, none⟩) 2 2 := hr (26, some 7) (by simp); have hk := he.1; clear hr he
            exact exec_lenV rfl r0
          refine GFrom.cons (GStep.val _ rfl rfl _ rfl (fun g => .int .i64 0) (fun _ => rfl) (fun _ => trivial) (fun bs g ev wq hS he hr => ?_)) ?_
          · have hk := he.1; clear hr he
            go_simp
          exact GFrom.nil
        case hS => exact hid ⟨(Kp.refl Nb wr).drew, (fun e => by cases e)⟩
        case hend =>
          intro B w5 h5
          have HB := hid (h5.out.2 rfl)
          have K5 := hid (HK.out.trans h5.out.1 (fun _ _ h => h))
          clear h5 HK HIA HIB
          simp only [putAll, List.zip_cons_cons, List.zip_nil_right, List.foldl_cons, List.foldl_nil, Act.put, List.setIfInBounds_toArray, List.set_cons_zero, List.set_cons_succ]
          go_wp2
          go_loopw [6, 28] (RuI w5 a b) (fun _ i _ => 2 - (intOf i).toNat)
          case atStart => exact ⟨0, rfl, .inl ⟨rfl, rfl⟩, hid (Kp.refl _ _)⟩
          case round =>
            obtain ⟨v, rfl, hi, HKr⟩ := hrel
            have c0 : wr.cell? ⟨B, 0, none⟩ = some (.int .u8 za) := HKr.out.cell (HB.out.cell 0) (fun h => h)
            have c1 : wr.cell? ⟨B, 1, none⟩ = some (.int .u8 zb) := HKr.out.cell (HB.out.cell 1) (fun h => h)
            rcases hi with ⟨rfl, hv⟩ | ⟨x, rfl, hx, hv⟩ | ⟨x, y, rfl, hx, hy, hv⟩
            · subst hv
              have hzr := HZA.out
              have hzb := hzr.2
              have hcc := hzr.1
              by_cases h1 : 48 ≤ za
              · by_cases h2 : za ≤ 57
                · have hu := unhd_dig (c := a) (by omega) (by omega)
                  go_wp2
                  refine ⟨⟨_, rfl, .inr (.inl ⟨_, rfl, hu, by omega⟩), HKr⟩, by decide⟩
                · by_cases h3 : 97 ≤ za
                  · by_cases h4 : za ≤ 102
                    · have hu := unhd_let (c := a) (by omega) (by omega)
                      go_wp2
                      refine ⟨⟨_, rfl, .inr (.inl ⟨_, rfl, hu, by omega⟩), HKr⟩, by decide⟩
                    · have hu := unhd_bad (c := a) (by omega) (by omega)
                      have HRN : Hid (RB = none) := hid (by rw [← HR.out, HTT.out.2]; exact HBD.out (.inl hu))
                      go_wp2
                      go_ret2
                      exact ⟨by rw [HRN.out]; rfl, K5.out.trans HKr.out (fun _ _ h => h)⟩
                  · have hu := unhd_bad (c := a) (by omega) (by omega)
                    have HRN : Hid (RB = none) := hid (by rw [← HR.out, HTT.out.2]; exact HBD.out (.inl hu))
                    go_wp2
                    go_ret2
                    exact ⟨by rw [HRN.out]; rfl, K5.out.trans HKr.out (fun _ _ h => h)⟩
              · have h3 : ¬ 97 ≤ za := by omega
                have hu := unhd_bad (c := a) (by omega) (by omega)
                have HRN : Hid (RB = none) := hid (by rw [← HR.out, HTT.out.2]; exact HBD.out (.inl hu))
                go_wp2
                go_ret2
                exact ⟨by rw [HRN.out]; rfl, K5.out.trans HKr.out (fun _ _ h => h)⟩
            · have hxl := unhd_lt hx
              have hvr : 0 ≤ v ∧ v < 16 := by omega
              have hzr := HZB.out
              have hzb := hzr.2
              have hcc := hzr.1
              by_cases h1 : 48 ≤ zb
              · by_cases h2 : zb ≤ 57
                · have hu := unhd_dig (c := b) (by omega) (by omega)
                  go_wp2
                  refine ⟨⟨_, rfl, .inr (.inr ⟨x, _, rfl, hx, hu, by omega⟩), HKr⟩, by decide⟩
                · by_cases h3 : 97 ≤ zb
                  · by_cases h4 : zb ≤ 102
                    · have hu := unhd_let (c := b) (by omega) (by omega)
                      go_wp2
                      refine ⟨⟨_, rfl, .inr (.inr ⟨x, _, rfl, hx, hu, by omega⟩), HKr⟩, by decide⟩
                    · have hu := unhd_bad (c := b) (by omega) (by omega)
                      have HRN : Hid (RB = none) := hid (by rw [← HR.out, HTT.out.2]; exact HBD.out (.inr hu))
                      go_wp2
                      go_ret2
                      exact ⟨by rw [HRN.out]; rfl, K5.out.trans HKr.out (fun _ _ h => h)⟩
                  · have hu := unhd_bad (c := b) (by omega) (by omega)
                    have HRN : Hid (RB = none) := hid (by rw [← HR.out, HTT.out.2]; exact HBD.out (.inr hu))
                    go_wp2
                    go_ret2
                    exact ⟨by rw [HRN.out]; rfl, K5.out.trans HKr.out (fun _ _ h => h)⟩
              · have h3 : ¬ 97 ≤ zb := by omega
                have hu := unhd_bad (c := b) (by omega) (by omega)
                have HRN : Hid (RB = none) := hid (by rw [← HR.out, HTT.out.2]; exact HBD.out (.inr hu))
                go_wp2
                go_ret2
                exact ⟨by rw [HRN.out]; rfl, K5.out.trans HKr.out (fun _ _ h => h)⟩
            · have hxl := unhd_lt hx
              have hyl := unhd_lt hy
              have hvr : 0 ≤ v ∧ v < 256 := by omega
              have hc := conv_one wr v hvr.1 hvr.2
              have HSN2 : Hid (unhL (s.take (p + 2)) = some (l ++ [v])) := hid (by
                rw [HTT.out.1, HSN.out, hx, hy]
                show some (l ++ [((x * 16 + y : Nat) : Int)]) = _
                rw [hv]
                rfl)
              have hwv : IntKind.u8.wrap v = v := by rw [IntKind.wrap_u8]; omega
              have g2 : ¬ (9223372036854775807 < (st l).size + (st [v]).size) := by rw [st_size, st_size, List.length_singleton]; have := HLL.out; omega
              have HAP : Hid (st l ++ st [v] = st (l ++ [v])) := hid (st_append l [v]).symm
              have HREL : Hid (RuR w s (.string (st l ++ st [v])) (.int .i64 ((p : Int) + 2)) (wr.alloc (.cells #[.int .u8 v] 5))) := hid ⟨p + 2, l ++ [v], by rw [HL.out]; have := HPB.out; omega, by have := HPB.out; omega, rfl, by rw [HAP.out], HSN2, hid (by rw [List.length_append, List.length_singleton]; have := HLL.out; omega), hid ((K5.out.trans HKr.out (fun _ _ h => h)).alloc _)⟩
              obtain ⟨sl, hsl⟩ : ∃ t, st l = t := ⟨_, rfl⟩
              obtain ⟨sv, hsv⟩ : ∃ t, st [v] = t := ⟨_, rfl⟩
              rw [hsl] at g2 HREL ⊢
              rw [hsv] at g2 HREL hc
              clear hx hy hv hxl hyl hsl hsv HAP
              go_wp2
              exact ⟨HREL.out, by simp [intOf]; have := HPB.out; omega⟩
      · obtain rfl : p = L := by omega
        have HRS : Hid (RB = some l) := hid (by rw [← HR.out, ← HT.out, ← HL.out, List.take_length])
        go_wp2
        go_ret2
        exact ⟨by rw [HRS.out]; rfl, HK.out⟩
end

end Go.Proofs.YtogoophofgkboaaGreatDoor
