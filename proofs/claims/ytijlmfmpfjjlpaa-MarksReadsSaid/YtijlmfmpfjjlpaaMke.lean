/-
  Of earlier texts what is used here: U64, SipPlain, SipA, SipB, SipC, SipD .. No condition.
-/
import Derived.Test.YtijlmfmpfjjlpaaMkp
import Derived.Test.YtijlmfmpfjjlpaaProg
import Derived.BigQuiet
import Derived.ChangeAlike
import Derived.ChangeKeysEq
import Derived.Deep.AppendLies
import Derived.Deep.DeepCutAuto
import Derived.Deep.QuietTactic
import Derived.Deep.RegionHeld3
import Derived.Deep.RegionLaw
import Derived.IntWalk
import Derived.Laws.IdiomCopy
import Derived.Laws.IdiomStrings
import Derived.Lib.BitFns
import Derived.Lib.SlBytesConst
import Derived.Lib.SliceRun
import Derived.Lib.Walk
import Derived.Maps.AppendAt
import Derived.OwnWalk
import Derived.RegionTactic
import Derived.StillTailTactics
import Derived.WalkKit
import Derived.WalkLawsBesides
import Derived.WalkSpells
namespace Go.Proofs.Ytijlmfmpfjjlpaa
section
open Go.RowKit
theorem readN_left (zs : List Int) (e most : Int) : (readN zs e most).2.1.length ≤ zs.length := by
  unfold readN
  split
  · exact Nat.le_refl _
  · split
    · exact Nat.zero_le _
    · split
      · exact Nat.zero_le _
      · show (zs.drop _).length ≤ _
        rw [List.length_drop]; omega
end
section
open Go.RowKit
def EyeOn (S : Nat → Prop) (w : World) (B : Nat) (zs : List Int) (e : Int) : Prop := ∃ v, Blk w B 80 [v, .int .i64 e] ∧ BySl S w v zs
theorem EyeOn.lt {S : Nat → Prop} {w : World} {B : Nat} {zs : List Int} {e : Int} (h : EyeOn S w B zs e) : B < w.heap.size := by obtain ⟨v, hb, _⟩ := h; exact hb.lt
theorem EyeOn.kept {S S' : Nat → Prop} {w w' : World} {B : Nat} {zs : List Int} {e : Int} (h : EyeOn S w B zs e) (k : Kp S' w w') (hB : ¬ S' B) (hS : ∀ i, S' i → S i) : EyeOn S w' B zs e := by
  obtain ⟨v, hb, hv⟩ := h
  exact ⟨v, hb.kept k hB, hv.kept k hS⟩
theorem EyeOn.drew {S : Nat → Prop} {w : World} {B : Nat} {zs : List Int} {e : Int} (h : EyeOn S w B zs e) : EyeOn S w.drew B zs e := h.kept ((Kp.refl Nb w).drew) (fun h => h) (fun _ h => h.elim)
/-- Of blocks that come later the bytes lie in none. -/
theorem EyeOn.of {w : World} {B : Nat} {zs : List Int} {e : Int} (h : EyeAt w B zs e) (N : Nat) (hN : w.heap.size ≤ N) : EyeOn (fun i => i = B ∨ N ≤ i) w B zs e := by
  obtain ⟨v, hb, hy, hv⟩ := h
  refine ⟨v, hb, hy, ?_⟩
  rcases hv with hv | ⟨blk, off, cap, rfl, hc, hm, hat, hS⟩
  · exact .inl hv
  · refine .inr ⟨blk, off, cap, rfl, hc, hm, hat, fun h0 hp => ?_⟩
    rcases hp with hp | hp
    · exact hS h0 hp
    · have := World.block_lt_of_cell? w _ (hat 0 h0)
      dsimp only at this
      omega
theorem EyeOn.at {S : Nat → Prop} {w : World} {B : Nat} {zs : List Int} {e : Int} (h : EyeOn S w B zs e) (hS : ∀ i, Jb B i → S i) : EyeAt w B zs e := by
  obtain ⟨v, hb, hy, hv⟩ := h
  refine ⟨v, hb, hy, ?_⟩
  rcases hv with hv | ⟨blk, off, cap, rfl, hc, hm, hat, h0⟩
  · exact .inl hv
  · exact .inr ⟨blk, off, cap, rfl, hc, hm, hat, fun h1 hp => h0 h1 (hS _ hp)⟩
set_option maxHeartbeats 400000 in
theorem err_on (B : Nat) (zs : List Int) (e : Int) (w : World) {S : Nat → Prop} (hS : ∀ i, Jb B i → S i) (h : EyeOn S w B zs e) :
    Calls Try.prog 33 #[.pointer (some ⟨B, 0, none⟩)] w fun r w' => r = .returned (.int .i64 e) ∧ w = w' := by
  have HS := hid hS
  clear hS
  obtain ⟨v, hb, -⟩ := h
  have c1 := hb.cell 1
  have c0 := hb.cell 0
  simp only [List.getElem?_cons_zero, List.getElem?_cons_succ] at c0 c1
  clear hb
  go_enter Try.func33, Try.ntmps33
  go_wp2
  go_ret
  exact ⟨rfl, rfl⟩
set_option maxHeartbeats 400000 in
theorem fail_on (B : Nat) (zs : List Int) (e f : Int) (w : World) {S : Nat → Prop} (hS : ∀ i, Jb B i → S i) (h : EyeOn S w B zs e) :
    Calls Try.prog 50 #[.pointer (some ⟨B, 0, none⟩), .int .i64 f] w fun r w' => r = .returned (.tuple #[]) ∧ EyeOn S w' B (failS zs e f) (failE e f) ∧ Kp (Jb B) w w' := by
  have HS := hid hS
  clear hS
  obtain ⟨v, hb, hv⟩ := h
  have c1 := hb.cell 1
  have c0 := hb.cell 0
  simp only [List.getElem?_cons_zero, List.getElem?_cons_succ] at c0 c1
  have f0 := hb.frozen 0
  have f1 := hb.frozen 1
  have HB := hid hb
  have HV := hid hv
  clear hb hv
  by_cases h0 : e = 0
  · by_cases h1 : f = 0
    · have HN := hid (show ¬ (e = 0 ∧ f ≠ 0) by omega)
      have g1 : (f != 0) = false := by rw [bne_eq_false_iff_eq]; exact h1
      subst h0
      go_enter Try.func50, Try.ntmps50
      go_wp2
      go_end0
      exact ⟨rfl, by simp only [failS, failE, ne_eq, not_true_eq_false, and_false, if_false]; exact ⟨v, HB.out, HV.out⟩, Kp.refl _ _⟩
    · have HN := hid (show (e = 0 ∧ f ≠ 0) from ⟨h0, h1⟩)
      have g1 : (f != 0) = true := by rw [bne_iff_ne]; exact h1
      subst h0
      go_enter Try.func50, Try.ntmps50
      go_wp2
      go_end0
      refine ⟨rfl, ?_, ((Kp.refl (Jb B) w).set 1 _).set 0 _⟩
      have hf := HN.out.2
      simp only [failS, failE, ne_eq, hf, not_false_eq_true, and_true, if_true]
      exact ⟨.slice none 0 0, (HB.out.set 1 (.int .i64 f)).set 0 (.slice none 0 0), fun i => by simp, .inl ⟨⟨none, 0, rfl⟩, rfl⟩⟩
  · have HN := hid (show ¬ (e = 0 ∧ f ≠ 0) by omega)
    have g1 : (e == 0) = false := by rw [beq_eq_false_iff_ne]; exact h0
    go_enter Try.func50, Try.ntmps50
    go_wp2
    go_end0
    exact ⟨rfl, by unfold failS failE; rw [if_neg HN.out, if_neg HN.out]; exact ⟨v, HB.out, HV.out⟩, Kp.refl _ _⟩
set_option maxRecDepth 100000 in
set_option maxHeartbeats 1000000 in
theorem number_on (B : Nat) (zs : List Int) (e most : Int) (w : World) {S : Nat → Prop} (hS : ∀ i, Jb B i → S i) (h : EyeOn S w B zs e) :
    Calls Try.prog 48 #[.pointer (some ⟨B, 0, none⟩), .int .u64 most] w fun r w' => r = .returned (.int .u64 (readN zs e most).1) ∧ EyeOn S w' B (readN zs e most).2.1 (readN zs e most).2.2 ∧ Kp (Jb B) w w' := by
  have HS := hid hS
  clear hS
  have H := hid h
  obtain ⟨v, hb, hv⟩ := h
  have c0 := hb.cell 0
  simp only [List.getElem?_cons_zero] at c0
  have f0 := hb.frozen 0
  have HB := hid hb
  have HV := hid hv
  clear hb hv
  obtain ⟨R, hR⟩ : ∃ R, R = readN zs e most := ⟨_, rfl⟩
  rw [← hR]
  have HR := hid hR
  clear hR
  unfold readN at HR
  by_cases he : e = 0
  · subst he
    have HR2 := HR.out.trans (if_neg (fun h => h rfl))
    have HR := hid HR2
    clear HR2
    have hok := firstOf_ok zs
    have HF : Hid (firstVal zs = .tuple #[.int .u64 (firstOf zs).1, .int .i64 (firstOf zs).2.1, .int .i64 (firstOf zs).2.2]) := (rfl : firstVal zs = firstVal zs)
    obtain ⟨⟨U, N, E⟩, hF⟩ : ∃ F, F = firstOf zs := ⟨_, rfl⟩
    rw [← hF] at HR hok HF
    clear hF
    simp only at HR hok HF
    go_enter Try.func48, Try.ntmps48
    go_wp2_with fail
    refine (err_on B zs 0 _ HS.out H.out).mono ?_
    rintro r w1 ⟨rfl, rfl⟩
    go_wp2_with fail
    refine (firstb_any v zs _ HV.out).mono ?_
    rintro r w1 ⟨rfl, rfl⟩
    rw [HF.out]
    by_cases hE : E = 0
    · subst hE
      have HR2 := HR.out.trans (if_neg (fun h => h rfl))
      by_cases hm : most < U
      · rw [if_pos hm] at HR2
        subst HR2
        clear HR hok
        go_wp2_with fail
        refine (fail_on B zs 0 12 _ HS.out H.out).mono ?_
        rintro r w2 ⟨rfl, h2, k2⟩
        have H2 := hid h2
        have K2 := hid k2
        clear h2 k2
        go_wp2
        go_ret
        exact ⟨rfl, H2.out, K2.out⟩
      · rw [if_neg hm] at HR2
        subst HR2
        clear HR
        have hN := hok rfl
        clear hok
        obtain ⟨xv, cv, hV1, hV2⟩ := HV.out.cutL N hN.2
        have HV2 := hid hV2
        clear hV2
        go_wp2
        go_ret
        refine ⟨rfl, ⟨_, HB.out.set 0 _, ?_⟩, (Kp.refl _ _).set 0 _⟩
        exact HV2.out.kept ((Kp.refl (Jb B) _).set 0 _) HS.out
    · have HR2 := HR.out
      rw [if_pos hE] at HR2
      subst HR2
      clear HR hok
      have g1 : (E == 0) = false := by rw [beq_eq_false_iff_ne]; exact hE
      have g2 : (E != 0) = true := by rw [bne_iff_ne]; exact hE
      have HE := hid hE
      clear hE
      go_wp2_with fail
      refine (fail_on B zs 0 E _ HS.out H.out).mono ?_
      rintro r w2 ⟨rfl, h2, k2⟩
      have e1 : failS zs 0 E = [] := by unfold failS; rw [if_pos ⟨rfl, HE.out⟩]
      have e2 : failE 0 E = E := by unfold failE; rw [if_pos ⟨rfl, HE.out⟩]
      rw [e1, e2] at h2
      have H2 := hid h2
      have K2 := hid k2
      clear h2 k2 e1 e2
      go_wp2
      go_ret
      exact ⟨rfl, H2.out, K2.out⟩
  · have HR2 := HR.out
    rw [if_pos he] at HR2
    subst HR2
    clear HR
    have g1 : (e != 0) = true := by rw [bne_iff_ne]; exact he
    clear he
    go_enter Try.func48, Try.ntmps48
    go_wp2_with fail
    refine (err_on B zs e _ HS.out H.out).mono ?_
    rintro r w1 ⟨rfl, rfl⟩
    go_wp2
    go_ret
    exact ⟨rfl, H.out, Kp.refl _ _⟩
set_option maxRecDepth 100000 in
set_option maxHeartbeats 400000 in
theorem take_on (B : Nat) (zs : List Int) (e : Int) (n : Nat) (w : World) {S : Nat → Prop} (hS : ∀ i, Jb B i → S i) (h : EyeOn S w B zs e) (hn : n ≤ zs.length) (hbig : zs.length ≤ 140737488355328) :
    Calls Try.prog 62 #[.pointer (some ⟨B, 0, none⟩), .int .i64 n] w fun r w' => (∃ v', r = .returned v' ∧ BySl (fun i => i < w.heap.size) w' v' (zs.take n)) ∧ EyeOn S w' B (zs.drop n) e ∧ Kp (Jb B) w w' := by
  have HS := hid hS
  clear hS
  have hlt := h.lt
  obtain ⟨v, hb, hv⟩ := h
  have c0 := hb.cell 0
  simp only [List.getElem?_cons_zero] at c0
  obtain ⟨x1, d1, t1, b1⟩ := hv.cutH n hn
  obtain ⟨x2, d2, t2, b2⟩ := hv.cutL n hn
  have HB := hid hb
  have H1 := hid b1
  have H2 := hid b2
  have hl : (zs.take n).length ≤ 140737488355328 := by rw [List.length_take]; omega
  have HL := hid hl
  have HLT := hid hlt
  clear hb hv b1 b2 hl hbig hlt hn
  go_enter Try.func62, Try.ntmps62
  go_wp2_with fail
  refine (clone_any _ (zs.take n) _ H1.out HL.out).mono ?_
  rintro r w1 ⟨v', rfl, ho, k1⟩
  obtain ⟨xo, co, rfl⟩ := own_slice ho
  have hb1 := HB.out.kept k1 (fun h => h)
  have c1 := hb1.cell 0
  simp only [List.getElem?_cons_zero] at c1
  have f1 := hb1.frozen 0
  have HB1 := hid hb1
  have hv1 : BySl (fun i => i < w.heap.size) w1 (.slice xo (zs.take n).length co) (zs.take n) := (BySl.ofOwn ho H1.out.1 (fun k hk _ h => by have := hk; omega))
  rw [List.length_take] at hv1
  have HV1 := hid hv1
  clear hv1
  have HV2 := hid (H2.out.kept (S' := Nb) k1 (fun _ h => absurd h (fun h => h)))
  have K1 := hid (k1.mono (S' := Jb B) (fun _ _ h => absurd h (fun h => h)))
  clear ho k1 hb1 c0
  go_wp2
  go_ret
  refine ⟨⟨_, rfl, ?_⟩, ⟨_, HB1.out.set 0 _, ?_⟩, K1.out.set 0 _⟩
  · exact HV1.out.kept ((Kp.refl (Jb B) _).set 0 _) (fun i h => by have h' : i = B := h; have := HLT.out; show i < _; omega)
  · exact HV2.out.kept ((Kp.refl (Jb B) _).set 0 _) HS.out
set_option maxRecDepth 100000 in
set_option maxHeartbeats 400000 in
theorem fixed_on (B : Nat) (zs : List Int) (e n : Int) (w : World) {S : Nat → Prop} (hS : ∀ i, Jb B i → S i) (h : EyeOn S w B zs e) (hbig : zs.length ≤ 140737488355328) :
    Calls Try.prog 49 #[.pointer (some ⟨B, 0, none⟩), .int .i64 n] w fun r w' => (∃ v', r = .returned v' ∧ BySl (fun i => i < w.heap.size) w' v' (fixN zs e n).1) ∧ EyeOn S w' B (fixN zs e n).2.1 (fixN zs e n).2.2 ∧ Kp (Jb B) w w' := by
  have HS := hid hS
  clear hS
  have H := hid h
  obtain ⟨v, hb, hv⟩ := h
  have c0 := hb.cell 0
  simp only [List.getElem?_cons_zero] at c0
  obtain ⟨x, c, rfl⟩ : ∃ x c, v = .slice x zs.length c := by
    rcases hv.2 with ⟨⟨a, c, rfl⟩, rfl⟩ | ⟨blk, off, cap, rfl, -⟩
    · exact ⟨a, c, rfl⟩
    · exact ⟨_, _, rfl⟩
  clear hb hv
  obtain ⟨R, hR⟩ : ∃ R, R = fixN zs e n := ⟨_, rfl⟩
  rw [← hR]
  have HR := hid hR
  clear hR
  unfold fixN at HR
  have HBIG := hid hbig
  clear hbig
  by_cases he : e = 0
  · subst he
    have HR2 := HR.out.trans (if_neg (fun h => h rfl))
    by_cases hn : n < 0
    · rw [if_pos hn] at HR2
      subst HR2
      clear HR
      go_enter Try.func49, Try.ntmps49
      go_wp2_with fail
      refine (err_on B zs 0 _ HS.out H.out).mono ?_
      rintro r w1 ⟨rfl, rfl⟩
      go_wp2_with fail
      refine (fail_on B zs 0 2 _ HS.out H.out).mono ?_
      rintro r w2 ⟨rfl, h2, k2⟩
      have H2 := hid h2
      have K2 := hid k2
      clear h2 k2
      go_wp2
      go_ret
      exact ⟨⟨_, rfl, BySl.none _⟩, H2.out, K2.out⟩
    · rw [if_neg hn] at HR2
      by_cases hl : (zs.length : Int) < n
      · rw [if_pos hl] at HR2
        subst HR2
        clear HR
        go_enter Try.func49, Try.ntmps49
        go_wp2_with fail
        refine (err_on B zs 0 _ HS.out H.out).mono ?_
        rintro r w1 ⟨rfl, rfl⟩
        go_wp2_with fail
        refine (fail_on B zs 0 10 _ HS.out H.out).mono ?_
        rintro r w2 ⟨rfl, h2, k2⟩
        have H2 := hid h2
        have K2 := hid k2
        clear h2 k2
        go_wp2
        go_ret
        exact ⟨⟨_, rfl, BySl.none _⟩, H2.out, K2.out⟩
      · rw [if_neg hl] at HR2
        subst HR2
        clear HR
        obtain ⟨m, rfl⟩ := Int.eq_ofNat_of_zero_le (show 0 ≤ n by omega)
        rw [Int.toNat_natCast]
        go_enter Try.func49, Try.ntmps49
        go_wp2_with fail
        refine (err_on B zs 0 _ HS.out H.out).mono ?_
        rintro r w1 ⟨rfl, rfl⟩
        go_wp2_with fail
        refine (take_on B zs 0 m _ HS.out H.out (by omega) HBIG.out).mono ?_
        rintro r w2 ⟨⟨v', rfl, h3⟩, h2, k2⟩
        have H2 := hid h2
        have H3 := hid h3
        have K2 := hid k2
        clear h2 k2 h3
        go_wp2
        go_ret
        exact ⟨⟨_, rfl, H3.out⟩, H2.out, K2.out⟩
  · have HR2 := HR.out.trans (if_pos he)
    subst HR2
    clear HR
    have g1 : (e != 0) = true := by rw [bne_iff_ne]; exact he
    clear he
    go_enter Try.func49, Try.ntmps49
    go_wp2_with fail
    refine (err_on B zs e _ HS.out H.out).mono ?_
    rintro r w1 ⟨rfl, rfl⟩
    go_wp2
    go_ret
    exact ⟨⟨_, rfl, BySl.none _⟩, H.out, Kp.refl _ _⟩
end
section
open Go.RowKit
theorem under_bytes : Try.prog.underlying 45 = some (.slice 5) := Try.underlying45
theorem size_u8 : (Try.prog.info? 5).map (·.size) = some 1 := by kernel_rfl
/-- Bytes copied into a block, from offset o on: all that there are. -/
theorem step_copy_blk {S : Nat → Prop} {ops : Array Oper} {o : Oper} {a : Act} {w : World} {K : Act → World → Prop} {Q : Exit → Act → World → Prop} {E : Prop} (hgd : o.guard = none) (d s : Operand)
    (ho : o.op = .call { callee := .builtin .copy, args := #[d, s], argTypes := #[45, 45] }) (C off n cap t : Nat) (vs : List Value) (v : Value) (ys : List Int) (hd : a.eval d = .slice (some ⟨C, off, none⟩) n cap) (hs : a.eval s = v)
    (hC : Blk w C t vs) (hv : BySl S w v ys) (hn : ys.length ≤ n) (hfit : off + ys.length ≤ vs.length)
    (h : ∀ w', Blk w' C t (vs.take off ++ markL ys ++ vs.drop (off + ys.length)) → Kp (Jb C) w w' → K (a.put o.dst (goInt ys.length)) w') :
    if Region.wanted o (yielded ops a.tmps) = true then Oper.wp Try.prog o a w K Q else E := by
  have hw : Region.wanted o (yielded ops a.tmps) = true := by simp [Region.wanted, hgd]
  rw [if_pos hw]
  unfold Oper.wp
  rcases hv.2 with ⟨⟨x, c, rfl⟩, rfl⟩ | ⟨blk, of', cap', rfl, hc, hm, hb, -⟩
  · have hrun := run_copy_none (P := Try.prog) w 45 45 o.type 5 (some ⟨C, off, none⟩) x n cap 0 c under_bytes size_u8 (by simp)
    simp [execOp, ho, resolve, invoke, builtin, hd, hs, hrun, Result.andThen]
    refine h w ?_ (Kp.refl _ _)
    simpa [markL] using hC
  · have hsrc : ∀ j u, (markL ys)[j]? = some u → w.cell? ((⟨blk, of', none⟩ : Addr).add j) = some u := fun j u hj => by
      have hjl : j < ys.length := by have := (List.getElem?_eq_some_iff.1 hj).1; rw [markL_length] at this; exact this
      rw [Addr.add_mid, hb j hjl, ← markL_get ys j hjl]
      exact hj
    have th := hC.there off ys.length hfit
    have hrun := run_copy_cells (P := Try.prog) w 45 45 o.type 5 C off n cap ⟨blk, of', none⟩ ys.length cap' (markL ys) under_bytes size_u8 (by rw [markL_length]; exact (Nat.min_eq_left hn).symm) hsrc
      (fun j hj => (th j (by rw [markL_length] at hj; exact hj)).1) (fun j hj => (th j (by rw [markL_length] at hj; exact hj)).2) (markL_one ys)
    simp [execOp, ho, resolve, invoke, builtin, hd, hs, hrun, Result.andThen]
    rw [markL_length]
    refine h _ ?_ (Kp.setCells (S := Jb C) (fun _ => show C = C from rfl) _ off w (Kp.refl _ _))
    have h2 := hC.setCells (markL ys) off w vs (by rw [markL_length]; exact hfit)
    rw [markL_length] at h2
    exact h2
/-- A mark of the bytes that came: sixteen, or none. -/
def markOf (ys : List Int) : List Int := ys ++ (List.replicate 16 0).drop ys.length
theorem markOf_length (ys : List Int) (h : ys.length ≤ 16) : (markOf ys).length = 16 := by unfold markOf; simp; omega
theorem fixN_le (zs : List Int) (e n : Int) (hn : 0 ≤ n) : ((fixN zs e n).1.length : Int) ≤ n := by
  unfold fixN
  split
  · simpa using hn
  · split
    · simpa using hn
    · split
      · simpa using hn
      · simp; omega
end

end Go.Proofs.Ytijlmfmpfjjlpaa
