/-
  Layer 22: Text: a line's words, joined. Conditions: rows of 64 bits; the table of powers of ten lies as the program's text lays it.
-/
import Derived.Test.YtjipcmhknikcgaaDoorLgG
import Derived.Test.YtjipcmhknikcgaaDoorLgK
import Derived.Test.YtjipcmhknikcgaaDoorAp1
import Derived.Lib.ItoaLen
namespace Go.Proofs.YtjipcmhknikcgaaDoor
open Go.RowKit Go.Shelf
attribute [local go_sem] Oper.semAt_some

theorem exec_cat {P : Program} {ev : Operand → Value} {o : Oper} {t t' : TypeId} {x y : Operand} {a b : ByteArray} {w : World} (ho : o.op = .binOp .add t x y t') (hx : ev x = .string a) (hy : ev y = .string b) (hs : a.size + b.size ≤ 9223372036854775807) : (execOp ev o).run P w = .ok (.value (.string (a ++ b))) w := by
  have h1 : (eqGuard BinOp.add t x y (.string a) (.string b)).run P w = .ok () w := by go_simp
  have h2 : (binOp BinOp.add t (.string a) (.string b)).run P w = .ok (.string (a ++ b)) w := by
    unfold binOp
    exact run_string_add_sum w a b hs
  unfold execOp
  simp only [ho, hx, hy, Sem.run_bind, Sem.run_pure, Result.andThen_ok, h1, h2]
theorem strs_load {w : World} {M : Nat} {v : Value} (h : Blk w M 62 [v]) : (Instr.loadAt 62 (.pointer (some ⟨M, 0, none⟩))).run Tryd.prog w = .ok v w := by
  have hc : w.cell? ⟨M, 0, none⟩ = some v := h.cell 0
  go_simp
theorem strs_make (w : World) (s : ByteArray) : (Instr.buildSlice 62 1 #[(0, .string s)]).run Tryd.prog w = .ok (.slice (some ⟨w.heap.size, 0, none⟩) 1 1) (w.alloc (.cells #[.string s] 9 (0, 0))) := by go_simp
theorem strs_store {w : World} {M : Nat} {v : Value} (h : Blk w M 62 [v]) (a : Option Addr) (n c : Nat) : (Instr.storeAt 62 (.pointer (some ⟨M, 0, none⟩)) (.slice a n c)).run Tryd.prog w = .ok () (w.setCell ⟨M, 0, none⟩ (.slice a n c)) := by
  have hc : w.cell? ⟨M, 0, none⟩ = some v := h.cell 0
  have hf := h.frozen 0
  go_simp
theorem strs_info : (Tryd.prog.info? 9).map (fun i => (i.zero, i.size, i.bytes)) = some (some (.string ⟨#[]⟩), 1, 16) := by kernel_rfl
/-- A row's word. -/
def wordB (k : Nat) (q : RwQ) : ByteArray := (((decB (k + 1) ++ ⟨#[32]⟩) ++ decB q.1.toNat) ++ ⟨#[32]⟩) ++ decB q.2.toNat
def wordsB (rs : List RwQ) (xs : List Nat) : List ByteArray := xs.map fun x => wordB x (rowAt rs x)
def textB (rs : List RwQ) : ByteArray := if nzT rs 14 = [] then ⟨#[45]⟩ else ⟨(Lib.join ((wordsB rs (nzT rs 14)).map (·.data.toList)) [44, 32]).toArray⟩
theorem decB_size (u : Nat) (h : u < 18446744073709551616) : (decB u).size ≤ 20 := by
  have := Lib.nDigits_le20 u h
  have h2 := Lib.decDigits_length u
  show (Lib.decDigits u).toArray.size ≤ 20
  simp only [List.size_toArray]
  omega
theorem wordB_size (k : Nat) (q : RwQ) (hk : k < 14) (hq : RwOk q) : (wordB k q).size ≤ 62 := by
  unfold RwOk u64R mx64 at hq
  have h0 := decB_size (k + 1) (by omega)
  have h1 := decB_size q.1.toNat (by omega)
  have h2 := decB_size q.2.toNat (by omega)
  have e : (⟨#[32]⟩ : ByteArray).size = 1 := rfl
  unfold wordB
  simp only [ByteArray.size_append, e]
  omega
theorem join_le (xs : List (List UInt8)) (sep : List UInt8) (c : Nat) (h : ∀ l ∈ xs, l.length ≤ c) : (Lib.join xs sep).length ≤ (c + sep.length) * xs.length := by
  have hl : ∀ ys : List (List UInt8), (∀ l ∈ ys, l.length ≤ c) → Lib.lens ys ≤ c * ys.length := by
    intro ys
    induction ys with
    | nil => intro _; simp [Lib.lens]
    | cons y ys ih =>
      intro hy
      have h1 := hy y (List.mem_cons_self)
      have h2 := ih (fun l hl => hy l (List.mem_cons_of_mem _ hl))
      simp only [Lib.lens, List.map_cons, List.sum_cons, List.length_cons] at h2 ⊢
      rw [Nat.mul_succ]
      omega
  cases xs with
  | nil => simp [Lib.join_nil]
  | cons x r =>
    rw [Lib.join_cons, List.length_append, Lib.joinTail_length, List.length_cons]
    have h1 := h x (List.mem_cons_self)
    have h2 := hl r (fun l hl => h l (List.mem_cons_of_mem _ hl))
    rw [Nat.mul_succ, Nat.add_mul]
    omega
theorem fmt_any (u : Nat) (hu : u < 18446744073709551616) (w : World) (ht : Tb w) : Calls Tryd.prog 25 #[.int .u64 u, .int .i64 10] w fun e w' => e = .returned (.string (decB u)) ∧ Kp Nb w w' := by
  have CF := hid (fuint_in u hu w ht)
  clear ht
  go_enter Tryd.func25, Tryd.ntmps25
  go_wp2_with fail
  refine CF.out.mono ?_
  rintro e w' ⟨rfl, k⟩
  have K := hid k
  clear k
  go_wp2
  go_ret
  exact ⟨rfl, K.out⟩
/-- Between two rounds. -/
def TxI (w : World) (M : Nat) (rs : List RwQ) (pre : List (Fin 14)) (W : World) : Prop := (∃ va, W.ownsRow w.heap.size 9 1 va pre.length ((wordsB rs (pre.map Fin.val)).map Value.string) ∧ Blk W M 62 [va]) ∧ Kp Nb w W
theorem txI_own (w : World) (M : Nat) (rs : List RwQ) {B : Nat} (hB : w.heap.size ≤ B) : OwnFrom B (TxI w M rs) :=
  OwnFrom.and (Own.from (fun _ A C row hs hg hr => by
    obtain ⟨va, h1, h2⟩ := hs
    exact ⟨va, ownsRow_same h1 (fun g hg' => by
      obtain ⟨-, o, ho, hc⟩ := row_cells h1 hg'
      exact hg.block g (Array.getElem?_eq_some_iff.1 ho).1 (fun e => by
        obtain ⟨o', ho', hc'⟩ := hr _ e.symm
        rw [ho] at ho'
        cases ho'
        rw [hc] at hc'
        cases hc')), blk_turn h2 hg hr⟩) _) (fun _ _ _ _ hs hg hr => hs.grown hg (fun k e h => by have := (hr k e).1; omega))
def AxT (Z : Nat) (rs : List RwQ) (fr : Nat → Act) (x : Fin 14) (a' : Act) (W : World) : Prop := ∃ N, Z ≤ N ∧ a' = fr N ∧ Blk W N 29 (rL (rowAt rs x.val))
theorem axT_own (Z : Nat) (rs : List RwQ) (fr : Nat → Act) (x : Fin 14) (a' : Act) {B : Nat} : OwnFrom B (fun (_ : Unit) W => AxT Z rs fr x a' W) :=
  Own.from (fun _ A W row hs hg hr => by
    obtain ⟨N, h1, h2, h3⟩ := hs
    exact ⟨N, h1, h2, blk_turn h3 hg hr⟩) _

set_option maxRecDepth 100000 in
set_option maxHeartbeats 4000000 in
theorem text_in (n : Nat) (hn : 3 ≤ n) (p : Option Nat) (rs : List RwQ) (w : World) (h : LgO w p rs) (ht : Tb w) :
    CallsIn Fence.wide n Tryd.prog 17 #[lgP p] w fun e w' => e = .returned (.string (textB rs)) ∧ Kp Nb w w' := by
  have h1 : 1 ≤ n := by omega
  have OK := hid h.len
  have HT := hid ht
  have CRW : Hid (∀ wx, Kp Nb w wx → Calls Tryd.prog 22 #[lgP p] wx fun e w' => ∃ Ba, e = .returned (.func (.func 30) #[] #[.pointer (some ⟨Ba, 0, none⟩)]) ∧ ArAt w' Ba rs ∧ wx.heap.size ≤ Ba ∧ Kp Nb wx w') := hid (fun wx k => lrows_any p rs wx (h.kept k (fun _ _ h => h)))
  obtain ⟨P, hP⟩ : ∃ P, lgP p = P := ⟨_, rfl⟩
  rw [hP] at CRW ⊢
  clear h hP ht
  refine callsIn_of_wp_marks Tryd.func17 rfl trivial ?_ rfl
  simp only [Tryd.ntmps17, List.size_toArray, List.length_cons, List.length_nil, Nat.reduceAdd, Nat.reduceSub, Array.replicate_succ, Array.replicate_zero, List.push_toArray, List.append_toArray, List.nil_append, List.cons_append]
  gi_wp2_with (refine ⟨trivial, ?_⟩; gi_at_call 22; refine (callsIn_wide.2 (CRW.out _ ((Kp.refl Nb w).alloc _))).mono ?_; rintro r W0 ⟨Ba, rfl, har, -, k0⟩)
  obtain ⟨M, hM⟩ : ∃ M, w.heap.size = M := ⟨_, rfl⟩
  have HAR := hid har
  have HB : Hid (Kp Nb w W0) := hid (((Kp.refl Nb w).alloc _).trans k0 (fun _ _ h => h))
  have hbx : Blk (w.alloc (.cells #[.slice none 0 0] 62)) M 62 [.slice none 0 0] := by rw [← hM]; exact Blk.new w _ _
  have HI0 : Hid (TxI w M rs [] W0) := hid ⟨⟨.slice none 0 0, ⟨rfl, .inl ⟨rfl, rfl⟩⟩, hbx.kept k0 (fun h => h)⟩, HB.out⟩
  have HZ : Hid (M + 1 ≤ W0.heap.size ∧ w.heap.size = M ∧ 0 < M) := hid ⟨by have := (hbx.kept k0 (fun h => h)).lt; omega, hM, by obtain ⟨t, fr, e⟩ := HT.out.at0; have := (Array.getElem?_eq_some_iff.1 e).1; omega⟩
  rw [hM]
  clear har hbx k0 CRW hM
  refine wpIn_rangeW rfl h1 (gf := 30) (lb := #[.pointer (some ⟨Ba, 0, none⟩)]) rfl trivial (enters_of Tryd.func30 (by kernel_rfl) rfl)
    (rows_seqF (n - 1) (by omega) Ba rs W0 HAR.out) kp0_t (fun _ _ _ _ _ _ _ => trivial) (fun xs => static_ownW _) (fun xs => static_ownW _) (Below.refl _ _) (fun x => rfl)
    (TxI w M rs) (fun _ _ _ => False) (txI_own w M rs HB.out.size) (fun _ _ _ _ _ hs _ _ => hs) HI0.out
    (fun x a' W => AxT (M + 1) rs (fun N => { tmps := #[P, undef, .string ⟨#[]⟩, .pointer (some ⟨M, 0, none⟩), .int .i64 ((x.val : Int) + 1), .pointer (some ⟨N, 0, none⟩), P, .func (.func 30) #[] #[.pointer (some ⟨Ba, 0, none⟩)], .int .i64 ((x.val : Int) + 1), rV (rowAt rs x.val), undef, undef, undef, undef, undef, undef, undef, undef, undef, undef, undef, undef, undef, undef, undef, undef, undef, undef, undef, undef], defers := [] }) x a' W)
    (fun x a' => axT_own _ _ _ x a') ?assign ?body ?done ?stop
  case assign =>
    rintro l pre x W R hI hR
    have HI := hid hI
    have HR := hid hR
    obtain ⟨W5, s1, s2, s3⟩ := rw_fresh W (rowAt rs x.val)
    have ST : Hid ((Instr.storeAt 29 (.pointer (some ⟨W.heap.size, 0, none⟩)) (rV (rowAt rs x.val))).run Tryd.prog (W.alloc (.cells #[.int .u64 0, .int .u64 0] 29)) = .ok () W5) := hid s1
    have S2 := hid s2
    have S3 := hid s3
    have HSZ : Hid (M + 1 ≤ W.heap.size) := hid (by obtain ⟨va, -, hb⟩ := hI.1; have := hb.lt; omega)
    clear hI hR s1 s2 s3
    gi_wp2_with (first
      | (refine wpListIn_storeL rfl 29 (.tmp 5) (.tmp 9) rfl (p := ⟨W.heap.size, 0, none⟩) (by rfl) (v := rV (rowAt rs x.val)) (by rfl) ST.out ?_)
      | (refine wpIn_store_at 29 (.tmp 5) (.tmp 9) rfl (p := ⟨W.heap.size, 0, none⟩) (by rfl) (v := rV (rowAt rs x.val)) (by rfl) ST.out ?_))
    obtain ⟨⟨va, r1, r2⟩, r3⟩ := HI.out
    exact HR.out _ _ (S3.out.keepsNb _) trivial ⟨⟨va, ownsRow_kpA r1 S3.out, r2.kept S3.out (fun h => h)⟩, r3.trans S3.out (fun _ _ h => h)⟩ ⟨_, HSZ.out, rfl, S2.out⟩
  case body =>
    rintro l pre x a' W hI ⟨N, hN, rfl, hx⟩ hlt
    obtain ⟨⟨va, hrow, hbx⟩, hkk⟩ := hI
    have HROW := hid hrow
    have HBX := hid hbx
    have HK0 := hid hkk
    have HX := hid hx
    obtain ⟨q, hq⟩ : ∃ q, rowAt rs x.val = q := ⟨_, rfl⟩
    have OQ : RwOk q := by rw [← hq]; exact rowAt_ok OK.out.2 x.val
    rw [hq] at HX ⊢
    obtain ⟨q1, q2⟩ := q
    unfold RwOk u64R mx64 at OQ
    obtain ⟨u1, rfl⟩ : ∃ u : Nat, q1 = (u : Int) := ⟨q1.toNat, by omega⟩
    obtain ⟨u2, rfl⟩ : ∃ u : Nat, q2 = (u : Int) := ⟨q2.toNat, by omega⟩
    have hu1 : u1 < 18446744073709551616 := by omega
    have hu2 : u2 < 18446744073709551616 := by omega
    have HNX : Hid (Blk W N 29 [.int .u64 (u1 : Int), .int .u64 (u2 : Int)]) := hid HX.out
    have HTB : Hid (Tb W) := hid (HT.out.kept hkk (fun h => h))
    have hno : ∀ b t vs, Blk W b t vs → t ≠ 9 → b ≠ M → ¬ ApS va M b := fun b t vs hb ht hbM hs => by
      rcases hs with hs | hs
      · obtain ⟨cs', fr', e2⟩ := row_tyA hrow hs
        rw [show W.heap[b]? = _ from hb] at e2
        injection e2 with e2
        injection e2 with _ e2
        exact ht e2
      · exact hbM hs
    have HNN : Hid (¬ ApS va M N) := hid (hno N _ _ hx (by decide) (by omega))
    have HN0 : Hid (¬ ApS va M 0) := hid (fun hs => by
      rcases hs with hs | hs
      · have := (row_cells hrow hs).1; have := HZ.out; omega
      · have := HZ.out; omega)
    obtain ⟨s0, hs0⟩ : ∃ s, decB (x.val + 1) = s := ⟨_, rfl⟩
    obtain ⟨s1, hs1⟩ : ∃ s, decB u1 = s := ⟨_, rfl⟩
    obtain ⟨s2, hs2⟩ : ∃ s, decB u2 = s := ⟨_, rfl⟩
    have z0 : s0.size ≤ 20 := by rw [← hs0]; exact decB_size _ (by omega)
    have z1 : s1.size ≤ 20 := by rw [← hs1]; exact decB_size _ hu1
    have z2 : s2.size ≤ 20 := by rw [← hs2]; exact decB_size _ hu2
    have zs : (⟨#[32]⟩ : ByteArray).size = 1 := rfl
    obtain ⟨a3, h3⟩ : ∃ a, s0 ++ (⟨#[32]⟩ : ByteArray) = a := ⟨_, rfl⟩
    obtain ⟨a7, h7⟩ : ∃ a, a3 ++ s1 = a := ⟨_, rfl⟩
    obtain ⟨a8, h8⟩ : ∃ a, a7 ++ (⟨#[32]⟩ : ByteArray) = a := ⟨_, rfl⟩
    obtain ⟨a12, h12⟩ : ∃ a, a8 ++ s2 = a := ⟨_, rfl⟩
    have y3 : a3.size ≤ 21 := by rw [← h3, ByteArray.size_append]; omega
    have y7 : a7.size ≤ 41 := by rw [← h7, ByteArray.size_append]; omega
    have y8 : a8.size ≤ 42 := by rw [← h8, ByteArray.size_append]; omega
    have HA3 := hid h3
    have HA7 := hid h7
    have HA8 := hid h8
    have HA12 := hid h12
    have HZ3 : Hid (s0.size + (⟨#[32]⟩ : ByteArray).size ≤ 9223372036854775807) := hid (by omega)
    have HZ7 : Hid (a3.size + s1.size ≤ 9223372036854775807) := hid (by omega)
    have HZ8 : Hid (a7.size + (⟨#[32]⟩ : ByteArray).size ≤ 9223372036854775807) := hid (by omega)
    have HZ12 : Hid (a8.size + s2.size ≤ 9223372036854775807) := hid (by omega)
    have HWD : Hid (wordB x.val (rowAt rs x.val) = a12) := hid (by
      rw [hq]
      unfold wordB
      rw [hs0, h3, Int.toNat_natCast, Int.toNat_natCast, hs1, h7, h8, hs2, h12])
    have CI : Hid (∀ w, Calls Tryd.prog 24 #[.int .i64 ((x.val : Int) + 1)] w fun e w' => e = .returned (.string s0) ∧ Kp Nb w w') := hid (fun w => by
      have h := Tryd.strconv_Itoa_small (x.val + 1) (by omega) w
      rw [show ((x.val + 1 : Nat) : Int) = (x.val : Int) + 1 by omega] at h
      exact h.mono fun e w' ⟨e1, e2⟩ => ⟨by rw [← hs0]; exact e1, by rw [e2]; exact Kp.refl _ _⟩)
    have CF1 : Hid (∀ w, Tb w → Calls Tryd.prog 25 #[.int .u64 u1, .int .i64 10] w fun e w' => e = .returned (.string s1) ∧ Kp Nb w w') := hid (fun w ht => by rw [← hs1]; exact fmt_any u1 hu1 w ht)
    have CF2 : Hid (∀ w, Tb w → Calls Tryd.prog 25 #[.int .u64 u2, .int .i64 10] w fun e w' => e = .returned (.string s2) ∧ Kp Nb w w') := hid (fun w ht => by rw [← hs2]; exact fmt_any u2 hu2 w ht)
    obtain ⟨bse, hbse⟩ : ∃ b, w.heap.size = b := ⟨_, rfl⟩
    obtain ⟨np, hnp⟩ : ∃ b, pre.length = b := ⟨_, rfl⟩
    obtain ⟨xs, hxs⟩ : ∃ b, (wordsB rs (pre.map Fin.val)).map Value.string = b := ⟨_, rfl⟩
    have HMX : Hid (np + 1 ≤ maxLen ∧ (np + 1) * 16 ≤ 140737488355328 ∧ bse ≤ W.heap.size) := hid (by unfold maxLen; have := hkk.size; omega)
    rw [hbse, hnp, hxs] at HROW
    have HBS := hid hbse
    have HNP := hid hnp
    have HXS := hid hxs
    clear hrow hbx hkk hx hq OQ hu1 hu2 hno hs0 hs1 hs2 z0 z1 z2 zs h3 h7 h8 h12 y3 y7 y8 hbse hnp hxs hN HX hlt
    gi_wp2_with fail
    refine region_ghostR (by kernel_rfl) (g0 := ((undef, undef) : Value × Value)) [none, none, none, none, none, none, none, none, none, none, some 0, some 1, some 2, some 3, some 4, some 5, some 6, some 7, some 8, some 9, some 10, some 11, some 12, some 13, some 14, none, none, none, none, none] [[(3, none)], [(4, none)], [(11, some 1)], [(12, some 2)], [(5, none)], [(14, some 4)], [(15, some 5)], [(13, some 3), (16, some 6)], [(17, some 7)], [(5, none)], [(19, some 9)], [(20, some 10)], [(18, some 8), (21, some 11)], [(22, some 12)], [(10, some 0), (23, some 13)], [(3, none), (24, some 14)]] [some 10, some 11, some 12, some 13, some 14, some 15, some 16, some 17, some 18, some 19, some 20, some 21, some 22, some 23, some 24, none] (fun g => [va, .int .i64 ((x.val : Int) + 1), .string s0, .string a3, .pointer (some ⟨N, 0, none⟩), .int .u64 (u1 : Int), .string s1, .string a7, .string a8, .pointer (some ⟨N, 1, none⟩), .int .u64 (u2 : Int), .string s2, .string a12, g.1, g.2, undef]) [13, 14, 15] (fun (bs : List Bool) (g : Value × Value) wq => Hid (Ap1 W 62 9 bse 1 M va np xs [.string a12] bs g wq)) (by kernel_rfl) (by kernel_rfl) (fun g => by kernel_rfl) (by kernel_rfl) ?hS (GFrom.all (n := 16) (by kernel_rfl) ?hstep) ?hend
    case hstep =>
      refine GFrom.cons (GStep.make _ rfl _ rfl (fun _ => trivial) (fun Lx g ev wq hL hd hcl hS he hr => ?_)) ?_
      · have r0 : ev (.tmp 3) = .pointer (some ⟨M, 0, none⟩) := hr (3, none) (by simp); clear hr he
        have l15 : Lx 15 = false := by cases h : Lx 15 with | false => rfl | true => (have := hcl 15 _ rfl h 0 (by kernel_rfl); rw [hL] at this; cases this)
        exact ⟨va, g, wq, exec_loadL rfl r0 (strs_load (hS.out.box0 (by simp [bitsAt, l15]))), rfl, fun _ _ => rfl, by rw [bitsAt_upd (by rfl)]; exact hS⟩
      refine GFrom.cons (GStep.val _ rfl rfl _ rfl (fun g => .int .i64 ((x.val : Int) + 1)) (fun _ => rfl) (fun _ => trivial) (fun bs g ev wq hS he hr => ?_)) ?_
      · have r0 : ev (.tmp 4) = .int .i64 ((x.val : Int) + 1) := hr (4, none) (by simp); have hk := he.1; clear hr he
        go_simp
      refine GFrom.cons (GStep.call _ rfl rfl _ rfl (fun g => .string s0) (fun _ => rfl) (fun _ => trivial) 24 (fun g => #[.int .i64 ((x.val : Int) + 1)]) (fun bs g ev wq hS he hr => ?_) (fun L g wq hd hL hS => ?_)) ?_
      · have r0 : ev (.tmp 11) = .int .i64 ((x.val : Int) + 1) := hr (11, some 1) (by simp); have hk := he.1; have hf := he.2; clear hr he
        go_simp
      · exact (CI.out wq).mono fun e w' ⟨h1, h2⟩ => ⟨h1, hid (hS.out.keptN h2)⟩
      refine GFrom.cons (GStep.val _ rfl rfl _ rfl (fun g => .string a3) (fun _ => rfl) (fun _ => trivial) (fun bs g ev wq hS he hr => ?_)) ?_
      · have r0 : ev (.tmp 12) = .string s0 := hr (12, some 2) (by simp); have hk := he.1; clear hr he
        rw [← HA3.out]; exact exec_cat rfl r0 (hk _) HZ3.out
      refine GFrom.cons (GStep.val _ rfl rfl _ rfl (fun g => .pointer (some ⟨N, 0, none⟩)) (fun _ => rfl) (fun _ => trivial) (fun bs g ev wq hS he hr => ?_)) ?_
      · have r0 : ev (.tmp 5) = .pointer (some ⟨N, 0, none⟩) := hr (5, none) (by simp); have hk := he.1; clear hr he
        go_simp
      refine GFrom.cons (GStep.val _ rfl rfl _ rfl (fun g => .int .u64 (u1 : Int)) (fun _ => rfl) (fun _ => trivial) (fun bs g ev wq hS he hr => ?_)) ?_
      · have r0 : ev (.tmp 14) = .pointer (some ⟨N, 0, none⟩) := hr (14, some 4) (by simp); have hk := he.1; clear hr he
        have c0 := (show wq.cell? ⟨N, 0, none⟩ = some (.int .u64 (u1 : Int)) from (HNX.out.kept hS.out.kp HNN.out).cell 0)
        go_simp
      refine GFrom.cons (GStep.call _ rfl rfl _ rfl (fun g => .string s1) (fun _ => rfl) (fun _ => trivial) 25 (fun g => #[.int .u64 (u1 : Int), .int .i64 10]) (fun bs g ev wq hS he hr => ?_) (fun L g wq hd hL hS => ?_)) ?_
      · have r0 : ev (.tmp 15) = .int .u64 (u1 : Int) := hr (15, some 5) (by simp); have hk := he.1; have hf := he.2; clear hr he
        go_simp
      · exact (CF1.out wq (HTB.out.kept hS.out.kp HN0.out)).mono fun e w' ⟨h1, h2⟩ => ⟨h1, hid (hS.out.keptN h2)⟩
      refine GFrom.cons (GStep.val _ rfl rfl _ rfl (fun g => .string a7) (fun _ => rfl) (fun _ => trivial) (fun bs g ev wq hS he hr => ?_)) ?_
      · have r0 : ev (.tmp 13) = .string a3 := hr (13, some 3) (by simp); have r1 : ev (.tmp 16) = .string s1 := hr (16, some 6) (by simp); have hk := he.1; clear hr he
        rw [← HA7.out]; exact exec_cat rfl r0 r1 HZ7.out
      refine GFrom.cons (GStep.val _ rfl rfl _ rfl (fun g => .string a8) (fun _ => rfl) (fun _ => trivial) (fun bs g ev wq hS he hr => ?_)) ?_
      · have r0 : ev (.tmp 17) = .string a7 := hr (17, some 7) (by simp); have hk := he.1; clear hr he
        rw [← HA8.out]; exact exec_cat rfl r0 (hk _) HZ8.out
      refine GFrom.cons (GStep.val _ rfl rfl _ rfl (fun g => .pointer (some ⟨N, 1, none⟩)) (fun _ => rfl) (fun _ => trivial) (fun bs g ev wq hS he hr => ?_)) ?_
      · have r0 : ev (.tmp 5) = .pointer (some ⟨N, 0, none⟩) := hr (5, none) (by simp); have hk := he.1; clear hr he
        go_simp
      refine GFrom.cons (GStep.val _ rfl rfl _ rfl (fun g => .int .u64 (u2 : Int)) (fun _ => rfl) (fun _ => trivial) (fun bs g ev wq hS he hr => ?_)) ?_
      · have r0 : ev (.tmp 19) = .pointer (some ⟨N, 1, none⟩) := hr (19, some 9) (by simp); have hk := he.1; clear hr he
        have c0 := (show wq.cell? ⟨N, 1, none⟩ = some (.int .u64 (u2 : Int)) from (HNX.out.kept hS.out.kp HNN.out).cell 1)
        go_simp
      refine GFrom.cons (GStep.call _ rfl rfl _ rfl (fun g => .string s2) (fun _ => rfl) (fun _ => trivial) 25 (fun g => #[.int .u64 (u2 : Int), .int .i64 10]) (fun bs g ev wq hS he hr => ?_) (fun L g wq hd hL hS => ?_)) ?_
      · have r0 : ev (.tmp 20) = .int .u64 (u2 : Int) := hr (20, some 10) (by simp); have hk := he.1; have hf := he.2; clear hr he
        go_simp
      · exact (CF2.out wq (HTB.out.kept hS.out.kp HN0.out)).mono fun e w' ⟨h1, h2⟩ => ⟨h1, hid (hS.out.keptN h2)⟩
      refine GFrom.cons (GStep.val _ rfl rfl _ rfl (fun g => .string a12) (fun _ => rfl) (fun _ => trivial) (fun bs g ev wq hS he hr => ?_)) ?_
      · have r0 : ev (.tmp 18) = .string a8 := hr (18, some 8) (by simp); have r1 : ev (.tmp 21) = .string s2 := hr (21, some 11) (by simp); have hk := he.1; clear hr he
        rw [← HA12.out]; exact exec_cat rfl r0 r1 HZ12.out
      refine GFrom.cons (GStep.make _ rfl _ rfl (fun _ => trivial) (fun Lx g ev wq hL hd hcl hS he hr => ?_)) ?_
      · have r0 : ev (.tmp 22) = .string a12 := hr (22, some 12) (by simp); clear hr he
        have e : bitsAt [13, 14, 15] Lx = [false, Lx 14, Lx 15] := by simp [bitsAt, hL]
        have e2 : bitsAt [13, 14, 15] (upd Lx 13) = [true, Lx 14, Lx 15] := by simp [bitsAt, upd]
        rw [e] at hS
        exact ⟨.slice (some ⟨wq.heap.size, 0, none⟩) 1 1, (Value.slice (some ⟨wq.heap.size, 0, none⟩) 1 1, g.2), _, exec_buildSliceA (qs := #[(0, .string a12)]) rfl (by simp [r0]) (strs_make wq a12), rfl, old_setA _ hL rfl, by rw [e2]; exact hid hS.out.make⟩
      refine GFrom.cons (GStep.make _ rfl _ rfl (fun _ => trivial) (fun Lx g ev wq hL hd hcl hS he hr => ?_)) ?_
      · have r0 : ev (.tmp 10) = va := hr (10, some 0) (by simp); have r1 : ev (.tmp 23) = g.1 := hr (23, some 13) (by simp); clear hr he
        have l13 : Lx 13 = true := hd 13 (by kernel_rfl)
        have l15 : Lx 15 = false := by cases h : Lx 15 with | false => rfl | true => (have := hcl 15 _ rfl h 14 (by kernel_rfl); rw [hL] at this; cases this)
        have e : bitsAt [13, 14, 15] Lx = [true, false, false] := by simp [bitsAt, hL, l13, l15]
        have e2 : bitsAt [13, 14, 15] (upd Lx 14) = [true, true, false] := by simp [bitsAt, upd, l13, l15]
        rw [e] at hS
        obtain ⟨B, hB, hB2⟩ := hS.out.made rfl rfl
        obtain ⟨v', w', hrun, ho, hg⟩ := app_one (T := 62) (ty := 62) Tryd.underlying62 strs_info rfl (by decide) (hS.out.row0 rfl) hB2 rfl (by simp [Value.oneCell']) HMX.out.1 HMX.out.2.1 (by have := hS.out.kp.size; have := HMX.out.2.2; omega)
        exact ⟨v', (g.1, v'), w', exec_appendA rfl r0 (r1.trans hB) hrun, rfl, old_setA v' hL rfl, by rw [e2]; exact hid (hS.out.append (by decide) ho hg)⟩
      refine GFrom.cons (GStep.storem _ rfl _ rfl (fun _ => rfl) (fun _ => trivial) (fun Lx g ev wq hL hd hcl hS he hr => ?_)) ?_
      · have r0 : ev (.tmp 3) = .pointer (some ⟨M, 0, none⟩) := hr (3, none) (by simp); have r1 : ev (.tmp 24) = g.2 := hr (24, some 14) (by simp); clear hr he
        have l14 : Lx 14 = true := hd 14 (by kernel_rfl)
        have l13 : Lx 13 = true := hcl 14 _ rfl l14 13 (by kernel_rfl)
        have e : bitsAt [13, 14, 15] Lx = [true, true, false] := by simp [bitsAt, hL, l13, l14]
        have e2 : bitsAt [13, 14, 15] (upd Lx 15) = [true, true, true] := by simp [bitsAt, upd, l13, l14]
        rw [e] at hS
        obtain ⟨a5, c5, h5⟩ := own_shape (hS.out.row1 rfl)
        refine ⟨_, exec_storeA rfl r0 r1 (by rw [h5]; exact strs_store (hS.out.box0 rfl) a5 _ c5), ?_⟩
        rw [e2, ← h5]; exact hid (hS.out.fill (by decide))
      exact GFrom.nil
    case hS => exact hid (Ap1.start HROW.out HBX.out)
    case hend =>
      intro g wy hy
      have R1 := hy.out.row1 rfl
      have X1 := hy.out.box1 rfl
      have K9 := hy.out.kp
      refine ⟨?_, trivial, ⟨⟨g.2, ?_, X1⟩, ?_⟩⟩
      · refine K9.keepsFrom _ (fun i hi => ?_)
        rcases hi with hi | rfl
        · obtain ⟨cs', fr', e2⟩ := row_tyA HROW.out hi
          exact ⟨_, _, _, e2⟩
        · exact ⟨_, _, _, HBX.out⟩
      · rw [HBS.out, List.length_append, List.length_singleton, HNP.out]
        have e : (wordsB rs ((pre ++ [x]).map Fin.val)).map Value.string = xs ++ [.string a12] := by
          rw [← HXS.out, ← HWD.out]
          simp [wordsB]
        rw [e]
        exact R1
      · refine HK0.out.trans K9 (fun i hi h => ?_)
        rcases h with h | rfl
        · have := (row_cells HROW.out h).1; have := HBS.out; omega
        · have := HZ.out; omega
  case done =>
    rintro D xs W hD hxs ⟨⟨va, hrow, hbx⟩, hkk⟩ hK
    have HXS := hid hxs
    obtain ⟨vp, vc, rfl⟩ := own_shape hrow
    have LB := hid (strs_load hbx)
    have HROW := hid hrow
    have HKK := hid hkk
    have HK := hid hK
    have HD := hid hD
    have HLX : Hid (xs.length ≤ 14) := hid (by
      have e : xs.length = (nzT rs 14).length := by rw [← hxs, List.length_map]
      have h := List.length_filter_le (fun i => !decide (rowAt rs i = (0, 0))) (List.range 14)
      rw [List.length_range] at h
      rw [e]; exact h)
    obtain ⟨nn, hnn⟩ : ∃ b, xs.length = b := ⟨_, rfl⟩
    rw [hnn] at LB
    have HNN := hid hnn
    clear hrow hbx hkk hK hD hxs hnn
    by_cases h0 : nn = 0
    · subst h0
      have HTX : Hid (textB rs = ⟨#[45]⟩) := hid (by
        unfold textB
        rw [if_pos]
        rw [← HXS.out]
        rw [List.map_eq_nil_iff]
        exact List.length_eq_zero_iff.1 HNN.out)
      gi_wp2_with (first
        | (refine wpListIn_valL rfl (by intro c hc; cases hc) (by simp [Oper.about]) _ (exec_loadL (T := 62) (a := ⟨M, 0, none⟩) rfl rfl LB.out) ?_))
      refine ⟨by simp, .inl ⟨_, _, rfl, run_takeDeferred HK.out, ?_⟩⟩
      exact ⟨_, results_tmp rfl _ _ _, by rw [HTX.out]; rfl, HKK.out.putNew (by have := HZ.out; have := HD.out; omega) _⟩
    · have h0i : ((nn : Int) == 0) = false := by rw [beq_eq_false_iff_ne]; omega
      have hne : nzT rs 14 ≠ [] := fun e => by
        have := HXS.out
        rw [e, List.map_eq_nil_iff] at this
        rw [this] at HNN
        exact h0 HNN.out.symm
      obtain ⟨J, hJ⟩ : ∃ J : ByteArray, (⟨(Lib.join ((wordsB rs (nzT rs 14)).map (·.data.toList)) [44, 32]).toArray⟩ : ByteArray) = J := ⟨_, rfl⟩
      have HTX : Hid (textB rs = J) := hid (by unfold textB; rw [if_neg hne]; exact hJ)
      have hlen : (wordsB rs (nzT rs 14)).length = nn := by unfold wordsB; rw [List.length_map, ← HXS.out, List.length_map]; exact HNN.out
      have hrow := HROW.out
      rw [HXS.out, HNN.out] at hrow
      obtain ⟨g0, c0, rfl, hcell, hbk, hcap⟩ : ∃ g0, ∃ c0 : Nat, vp = some ⟨g0, 0, none⟩ ∧ (∀ (j : Nat) x, (wordsB rs (nzT rs 14))[j]? = some x → W.cell? ⟨g0, 0 + j, none⟩ = some (.string x)) ∧ g0 < W.heap.size ∧ nn ≤ vc := by
        rcases hrow.2 with ⟨-, h⟩ | ⟨g, cap, cur, e, -, hg, h1, -, -, h4⟩
        · exact absurd h h0
        · cases e
          refine ⟨g, 0, rfl, fun j x hj => ?_, (Array.getElem?_eq_some_iff.1 hg).1, h1⟩
          have hjl : j < nn := by rw [← hlen]; exact (List.getElem?_eq_some_iff.1 hj).1
          have hx : ((wordsB rs (nzT rs 14)).map Value.string)[j]? = some (.string x) := by rw [List.getElem?_map, hj]; rfl
          rw [show (wordsB rs (nzT rs 14)).map Value.string = cur.toList.take (nn * 1) from h4.symm, Nat.mul_one, List.getElem?_take_of_lt hjl, Array.getElem?_toList] at hx
          unfold World.cell?
          rw [hg]
          simpa using hx
      have hjl : (Lib.join ((wordsB rs (nzT rs 14)).map (·.data.toList)) [44, 32]).length ≤ 140737488355328 := by
        have h := join_le ((wordsB rs (nzT rs 14)).map (·.data.toList)) [44, 32] 62 (fun l hl => by
          obtain ⟨b, hb, rfl⟩ := List.mem_map.1 hl
          unfold wordsB at hb
          obtain ⟨k, hk, rfl⟩ := List.mem_map.1 hb
          have hk14 : k < 14 := List.mem_range.1 (List.mem_filter.1 hk).1
          have := wordB_size k (rowAt rs k) hk14 (rowAt_ok OK.out.2 k)
          simpa using this)
        rw [List.length_map, hlen] at h
        have := HLX.out
        have := HNN.out
        have e2 : ([44, 32] : List UInt8).length = 2 := rfl
        rw [e2] at h
        omega
      have CJ : Hid (Calls Tryd.prog 26 #[.slice (some ⟨g0, 0, none⟩) nn vc, .string ⟨#[44, 32]⟩] W fun e w' => e = .returned (.string J) ∧ Below W.heap.size W w') := hid (by
        have h := Tryd.strings_Join g0 0 vc (wordsB rs (nzT rs 14)) ⟨#[44, 32]⟩ W hcell hbk (by rw [hlen]; have := HLX.out; have := HNN.out; omega) (by rw [hlen]; exact hcap) hjl
        rw [hlen] at h
        exact h.mono fun e w' ⟨e1, e2⟩ => ⟨by rw [← hJ]; exact e1, e2⟩)
      have hd1 : 1 ≤ n - 1 := by omega
      clear hne hJ hlen hrow hcell hbk hcap hjl h0
      gi_wp2_with (first
        | (refine wpListIn_valL rfl (by intro c hc; cases hc) (by simp [Oper.about]) _ (exec_loadL (T := 62) (a := ⟨M, 0, none⟩) rfl rfl LB.out) ?_)
        | (refine ⟨trivial, ?_⟩; gi_at_call 26; refine (callsIn_wide.2 CJ.out).mono ?_; rintro r w2 ⟨rfl, k2⟩; have K2 := hid k2; clear k2))
      refine ⟨by simp, .inl ⟨_, _, rfl, run_takeDeferred ((K2.out.block D (Array.getElem?_eq_some_iff.1 HK.out).1).trans HK.out), ?_⟩⟩
      exact ⟨_, results_tmp rfl _ _ _, by rw [HTX.out]; rfl, ((HKK.out.trans (Kp.of_below (S := Nb) K2.out) (fun _ _ h => h))).putNew (by have := HZ.out; have := HD.out; omega) _⟩
  case stop =>
    rintro D c pre W _ _ h _
    exact h.elim

theorem ltext_any (p : Option Nat) (rs : List RwQ) (w : World) (h : LgO w p rs) (ht : Tb w) : Calls Tryd.prog 17 #[lgP p] w fun e w' => e = .returned (.string (textB rs)) ∧ Kp Nb w w' :=
  callsIn_wide.1 (text_in 3 (Nat.le_refl _) p rs w h ht)

end Go.Proofs.YtjipcmhknikcgaaDoor
