/-
  Of the texts DtAn, Vals3, Vals4 what is used. No condition but what each says.
-/
import Derived.Test.YtogoophofgkboaaGreatDoorRg
import Derived.Test.YtogoophofgkboaaGreatDoorRd
import Derived.Test.YtogoophofgkboaaGreatDoorRe
import Derived.Test.YtogoophofgkboaaGreatDoorRc
namespace Go.Proofs.YtogoophofgkboaaGreatDoor
section
open Go.RowKit
set_option maxHeartbeats 400000 in
theorem rgood_any (n d : Int) (w : World) : Calls Tryz.prog 37 #[dotV n d] w fun e w' => e = .returned (.bool (goodB n d)) ∧ Kp Nb w w' := by
  have K := hid ((Kp.refl Nb w).alloc (.cells #[.int .i64 n, .int .i64 d] 23))
  by_cases h1 : 0 ≤ n
  · by_cases h2 : n ≤ 7
    · by_cases h3 : 1 ≤ d
      · obtain ⟨b, hb⟩ : ∃ b, decide (d ≤ 1099511627776) = b := ⟨_, rfl⟩
        have HG : Hid (goodB n d = b) := hid (by unfold goodB; rw [← hb]; simp [h1, h2, h3])
        go_enter Tryz.func37, Tryz.ntmps37
        go_wp2
        go_ret
        exact ⟨by rw [HG.out, ← hb]; rfl, K.out⟩
      · have HG : Hid (goodB n d = false) := hid (by unfold goodB; simp [h3])
        go_enter Tryz.func37, Tryz.ntmps37
        go_wp2
        go_ret
        exact ⟨by rw [HG.out]; rfl, K.out⟩
    · have HG : Hid (goodB n d = false) := hid (by unfold goodB; simp [h2])
      go_enter Tryz.func37, Tryz.ntmps37
      go_wp2
      go_ret
      exact ⟨by rw [HG.out]; rfl, K.out⟩
  · have HG : Hid (goodB n d = false) := hid (by unfold goodB; simp [h1])
    go_enter Tryz.func37, Tryz.ntmps37
    go_wp2
    go_ret
    exact ⟨by rw [HG.out]; rfl, K.out⟩
theorem top_less {c : List RunQ} (h : Rt c) {k : Nat} (hk : k < c.length) {n : Int} (hn : (runAt c k).1 = n) : topF (c.take k) n < (runAt c k).2.2 := by
  have g := goodR_of.1 (h.1 _ (runAt_mem hk))
  unfold topF
  rcases List.eq_nil_or_concat (ofF (c.take k) n) with e | ⟨l, x, e⟩
  · rw [e]
    show (0 : Int) < _
    omega
  · have e' : ofF (c.take k) n = l ++ [x] := by rw [e, List.concat_eq_append]
    rw [e', List.getLast?_concat]
    show x.2.2 < _
    have hx : x ∈ ofF (c.take k) n := by rw [e']; simp
    obtain ⟨hx1, hx2⟩ := List.mem_filter.1 hx
    have hx2 := of_decide_eq_true hx2
    have hpw : (c.take (k + 1)).Pairwise Gap := h.2.sublist (List.take_sublist _ _)
    rw [take_snocR c k hk] at hpw
    have hg := (List.pairwise_append.1 hpw).2.2 x hx1 (runAt c k) (by simp)
    unfold Gap at hg
    omega
def RtR (w : World) (c : List RunQ) (n : Int) (i u : Value) (wr : World) : Prop := ∃ (k : Nat) (T : Int), k ≤ c.length ∧ i = .int .i64 k ∧ u = .int .i64 T ∧ Hid (T = if rightC c then topF (c.take k) n else 0) ∧ Hid (Kp Nb w wr)
set_option maxRecDepth 100000 in
set_option maxHeartbeats 4000000 in
theorem rtop_any (v : Value) (c : List RunQ) (n : Int) (w : World) (hs : ClSl w v c) (hl : c.length ≤ 1000) :
    Calls Tryz.prog 39 #[v, .int .i64 n] w fun e w' => e = .returned (.int .i64 (topC c n)) ∧ Kp Nb w w' := by
  obtain ⟨pv, dv, rfl⟩ := hs.shape
  obtain ⟨L, hL⟩ : ∃ L, c.length = L := ⟨_, rfl⟩
  have HLE := hid hL
  rw [hL] at hs hl ⊢
  have HS := hid hs
  have hLb := hl
  obtain ⟨R, hR⟩ : ∃ b, rightC c = b := ⟨_, rfl⟩
  have HRR := hid hR
  obtain ⟨Z, hZ⟩ : ∃ z, (if R then topF c n else 0) = z := ⟨_, rfl⟩
  have HZE := hid hZ
  have HT : Hid (topC c n = Z) := hid (by unfold topC; rw [hR, hZ])
  rw [HT.out]
  clear hZ
  have CR : Hid (∀ wx, Kp Nb w wx → Calls Tryz.prog 38 #[.slice pv L dv] wx fun e w' => e = .returned (.bool R) ∧ Kp Nb wx w') := hid (fun wx k => by rw [← hR]; exact rright_any _ c wx (hs.kept k) (by omega))
  clear hs hL hl hR
  go_enter Tryz.func39, Tryz.ntmps39
  go_wp2_with fail
  go_loopw [10, 5] (RtR w c n) (fun i _ _ => L - (intOf i).toNat)
  case atStart => exact ⟨0, 0, Nat.zero_le _, rfl, rfl, hid (by rw [HRR.out]; cases R <;> rfl), hid (Kp.refl _ _)⟩
  case round =>
    obtain ⟨k, T, hk, rfl, rfl, HTT, HK⟩ := hrel
    rw [HLE.out] at hk
    rw [HRR.out] at HTT
    by_cases hlt : k < L
    · obtain ⟨blk, off, cap, e1, hc, hm, hcell⟩ := cl_shape (HS.out.kept HK.out) (by intro h; have := HLE.out; rw [h, List.length_nil] at this; omega)
      rw [HLE.out] at e1 hc hcell
      injection e1 with e1 _ e2
      subst e1 e2
      have HR := hid (hcell k hlt)
      obtain ⟨⟨qn, qf, qt⟩, hq⟩ : ∃ q, runAt c k = q := ⟨_, rfl⟩
      have HOK := HS.out.1 k
      rw [hq] at HR HOK
      have HQ := hid hq
      obtain ⟨M, hM⟩ : ∃ M, wr.heap.size = M := ⟨_, rfl⟩
      obtain ⟨W2, hW2⟩ : ∃ W, W = (wr.alloc (.cells (runL (0, 0, 0)).toArray 38)).setCells M 0 (runL (qn, qf, qt)) := ⟨_, rfl⟩
      have hz := Blk.new wr 38 (runL (0, 0, 0))
      rw [hM] at hz
      have KW : Hid (Kp Nb wr W2) := hid (by rw [hW2]; exact Kp.setCells (fun h => absurd h (by omega)) _ 0 _ ((Kp.refl Nb wr).alloc _))
      have HMW : Hid (wr.heap.size = M) := hid hM
      have TH := hid (run_there (q := (qn, qf, qt)) hz)
      have HZ : Hid (Blk W2 M 38 (runL (qn, qf, qt))) := hid (by rw [hW2]; exact row_set hz rfl)
      have HK2 := hid (HK.out.trans KW.out (fun _ _ h => h))
      unfold maxLen at hm
      obtain ⟨fs, hfs⟩ := under_run
      clear hz hcell hq
      go_upto_region 5 with (first
        | (refine wpList_load_mid (by rfl) 38 (.tmp 12) (by rfl) blk (off + k * 3) (by rfl) (runL (qn, qf, qt)) _ HR.out hfs rfl (run_infoL (qn, qf, qt)) ?_)
        | (refine wpList_store_mid (by rfl) 38 (.tmp 7) (.tmp 13) (by rfl) M 0 (runL (qn, qf, qt)).toArray (by rfl) (by rfl) TH.out (run_infoA (qn, qf, qt)) (run_one (qn, qf, qt)) ?_))
      rw [show (wr.alloc (.cells #[.int .i64 0, .int .i64 0, .int .i64 0] 38)).setCells M 0 (runL (qn, qf, qt)) = W2 from hW2.symm]
      clear hW2 TH hM
      have c0 : W2.cell? ⟨M, 0, none⟩ = some (.int .i64 qn) := HZ.out.cell 0
      have c1 : W2.cell? ⟨M, 1, none⟩ = some (.int .i64 qf) := HZ.out.cell 1
      have c2 : W2.cell? ⟨M, 2, none⟩ = some (.int .i64 qt) := HZ.out.cell 2
      have HC : Hid (k < c.length) := hid (by rw [HLE.out]; exact hlt)
      clear HK HR KW HMW
      by_cases h1 : qn = n
      · subst h1
        by_cases h2 : T < qt
        · have h2' : qt > T := h2
          go_wp2_with fail
          refine (CR.out W2 HK2.out).mono ?_
          rintro r w3 ⟨rfl, k3⟩
          have HZ3 := hid (HZ.out.kept k3 (fun h => h))
          have HK3 := hid (HK2.out.trans k3 (fun _ _ h => h))
          have d2 : w3.cell? ⟨M, 2, none⟩ = some (.int .i64 qt) := HZ3.out.cell 2
          clear k3 c0 c1 c2
          cases R with
          | true =>
            have HV : Hid (qt = if rightC c then topF (c.take (k + 1)) qn else 0) := hid (by rw [HRR.out, if_pos rfl, topF_eq c qn k HC.out (by rw [HQ.out]), HQ.out])
            go_wp2
            go_roundw
            case rel => exact ⟨k + 1, _, by rw [HLE.out]; omega, by go_num, rfl, HV, HK3⟩
            case measure => simp [intOf]; omega
          | false =>
            have HV : Hid (T = if rightC c then topF (c.take (k + 1)) qn else 0) := hid (by rw [HRR.out, if_neg (by decide)]; rw [HTT.out, if_neg (by decide)])
            go_wp2
            go_roundw
            case rel => exact ⟨k + 1, _, by rw [HLE.out]; omega, by go_num, rfl, HV, HK3⟩
            case measure => simp [intOf]; omega
        · have h2' : ¬ qt > T := h2
          have HV : Hid (T = if rightC c then topF (c.take (k + 1)) qn else 0) := hid (by
            cases R with
            | true =>
              exfalso
              have h := top_less (rightC_rt.1 HRR.out) HC.out (n := qn) (by rw [HQ.out])
              have ht := HTT.out
              rw [if_pos rfl] at ht
              rw [HQ.out, ← ht] at h
              exact h2 h
            | false => rw [HRR.out, if_neg (by decide), HTT.out, if_neg (by decide)])
          go_wp2
          go_roundw
          case rel => exact ⟨k + 1, _, by rw [HLE.out]; omega, by go_num, rfl, HV, HK2⟩
          case measure => simp [intOf]; omega
      · have HV : Hid (T = if rightC c then topF (c.take (k + 1)) n else 0) := hid (by rw [HRR.out, topF_ne c n k HC.out (by rw [HQ.out]; exact h1)]; exact HTT.out)
        go_wp2
        go_roundw
        case rel => exact ⟨k + 1, _, by rw [HLE.out]; omega, by go_num, rfl, HV, HK2⟩
        case measure => simp [intOf]; omega
    · obtain rfl : k = L := by omega
      have hU : T = Z := by have h := HTT.out; rw [← HLE.out, List.take_length] at h; exact h.trans HZE.out
      subst hU
      go_wp2
      go_ret
      exact ⟨rfl, HK.out⟩
end
section
namespace V3
open Go.RowKit
theorem region_inv0 {P : Program} {ops : Array Oper} {Q : Exit → Act → World → Prop} {rid : Nat} {a : Act} {w : World} (hm : P.follows .mixedOrders = true) (hup : ∀ (i : Nat) (o : Oper), ops[i]? = some o → ∀ e ∈ o.after, Region.binds .any e = true → e.on < i)
    (Inv : (Nat → Bool) → Act → World → Prop) (h0 : Inv (fun _ => false) a w.drew)
    (hstep : ∀ (L : Nat → Bool) (a : Act) (w : World) (i : Nat) (o : Oper), Inv L a w → ops[i]? = some o → L i = false → (∀ e ∈ o.after, Region.binds .any e = true → L e.on = true) → wpOp P ops Q i (Inv (upd L i)) a w)
    (hend : ∀ (L : Nat → Bool) (a : Act) (w : World), Inv L a w → (∀ i, i < ops.size → L i = true) → Q .normal a w) : (Code.region rid ops true).wp P Q a w := by
  have key : ∀ (fuel : Nat) (listed : Array Bool) (a : Act) (w : World), listed.size = ops.size → ops.size ≤ fuel + listed.toList.countP id → Inv (bitsOf listed) a w → wpAny P .any ops Q fuel listed a w := by
    intro fuel
    induction fuel with
    | zero =>
      intro listed a w hs hc hi
      have hall : ∀ b ∈ listed.toList, b = true := by
        have h1 : listed.toList.countP id ≤ listed.toList.length := List.countP_le_length
        have h2 : listed.toList.length = listed.size := Array.length_toList
        have h3 : listed.toList.countP id = listed.toList.length := by omega
        intro b hb
        exact List.countP_eq_length.1 h3 b hb
      have hr : Region.ready .any ops listed = [] := by
        apply List.eq_nil_iff_forall_not_mem.2
        intro j hj
        have h1 := (mem_ready.1 hj).1
        rw [Array.getD_eq_getD_getElem?] at h1
        cases hg : listed[j]? with
        | none => rw [hg] at h1; cases h1
        | some b =>
          rw [hg] at h1
          have : b ∈ listed.toList := by simpa using Array.mem_of_getElem? hg
          rw [hall b this] at h1
          cases h1
      exact ⟨hr, hend _ a w hi (bits_done listed hs hup hr)⟩
    | succ fuel ih =>
      intro listed a w hs hc hi
      refine ⟨fun hr => hend _ a w hi (bits_done listed hs hup hr), fun i hr => ?_⟩
      obtain ⟨h1, o, ho, hall⟩ := mem_ready.1 hr
      have hlt : i < listed.size := by have := (Array.getElem?_eq_some_iff.1 ho).1; omega
      have hb : bitsOf listed i = false := by
        unfold bitsOf
        rw [Array.getD_eq_getD_getElem?, Array.getElem?_eq_getElem hlt] at h1 ⊢
        exact h1
      refine wpOp_mono (fun a' w' h => ih _ a' w' (by simpa using hs) ?_ ?_) (hstep _ a w i o hi ho hb hall)
      · rw [countP_snoc listed i hlt h1]; omega
      · rw [bitsOf_set listed i hlt]; exact h
  refine wp_region_any hm (key _ _ _ _ (by simp) (by omega) ?_)
  have : bitsOf (Array.replicate ops.size false) = fun _ => false := by
    funext i
    unfold bitsOf
    rw [Array.getD_eq_getD_getElem?, Array.getElem?_replicate]
    split <;> rfl
  rw [this]
  exact h0
def aft (o : Oper) (j : Nat) : Bool := o.after.toList.any fun e => Region.binds .any e && e.on == j
/-- wr: which operation writes a slot; reads: which slots an operation reads, and whose value it finds there (none: that of the beginning). -/
def okOne (ops : Array Oper) (wr : List (Option Nat)) (N i : Nat) (rd : List (Nat × Option Nat)) : Bool :=
  match ops[i]? with
  | none => false
  | some o =>
    (o.after.toList.all fun e => !Region.binds .any e || decide (e.on < i)) &&
    (match o.dst with | none => true | some d => decide (d < N) && wr.getD d none == some i) &&
    (match o.guard with | none => true | some (g, _) => aft o g && (match ops[g]? with | some og => og.dst.isSome | none => false)) &&
    rd.all fun p => match p.2 with
      | some j => wr.getD p.1 none == some j && aft o j
      | none => match wr.getD p.1 none with | none => true | some j => (match ops[j]? with | some oj => aft oj i | none => false)
def okAll (ops : Array Oper) (wr : List (Option Nat)) (N : Nat) (reads : List (List (Nat × Option Nat))) : Bool :=
  ((List.range ops.size).all fun i => okOne ops wr N i (reads.getD i [])) &&
  (wr.length == N && (List.range N).all fun s => match wr.getD s none with | none => true | some i => (match ops[i]? with | some o => o.dst == some s | none => false))
def EvOk (ev : Operand → Value) : Prop := (∀ v, ev (.const v) = v) ∧ (∀ f, ev (.func f) = .func (.func f) #[] #[])
def srcV (a0 : Act) (vals : List Value) : Nat × Option Nat → Value
  | (s, none) => a0.eval (.tmp s)
  | (_, some j) => vals.getD j undef
/-- What an operation's run must be. -/
def RunsTo (P : Program) (S : World → Prop) (o : Oper) (u : Value) (facts : (Operand → Value) → Prop) : Prop :=
  ∀ (ev : Operand → Value) (w : World), S w → EvOk ev → facts ev →
    (execOp ev o).run P w = .ok (.value u) w ∨ ∃ f args, (execOp ev o).run P w = .ok (.enter f args) w ∧ Calls P f args w fun e w' => e = .returned u ∧ S w'
def VStep (P : Program) (S : World → Prop) (ops : Array Oper) (a0 : Act) (vals : List Value) (reads : List (List (Nat × Option Nat))) (i : Nat) : Prop :=
  ∀ o, ops[i]? = some o →
    ((match o.guard with | none => True | some (g, b) => vals.getD g undef = .bool b) ∧ RunsTo P S o (vals.getD i undef) fun ev => ∀ p ∈ reads.getD i [], ev (.tmp p.1) = srcV a0 vals p) ∨
    (match o.guard with | none => False | some (g, b) => (vals.getD g undef = .bool (!b) ∨ vals.getD g undef = undef) ∧ vals.getD i undef = undef)
def curV (wr : List (Option Nat)) (vals : List Value) (a0 : Act) (L : Nat → Bool) (s : Nat) : Value :=
  match wr.getD s none with
  | none => a0.eval (.tmp s)
  | some i => if L i then vals.getD i undef else a0.eval (.tmp s)
structure InvV (S : World → Prop) (ops : Array Oper) (wr : List (Option Nat)) (vals : List Value) (a0 : Act) (L : Nat → Bool) (a : Act) (w : World) : Prop where
  s : S w
  size : a.tmps.size = a0.tmps.size
  defers : a.defers = a0.defers
  closed : ∀ i o, ops[i]? = some o → L i = true → ∀ e ∈ o.after, Region.binds .any e = true → L e.on = true
  slot : ∀ s, a.eval (.tmp s) = curV wr vals a0 L s
section
variable {P : Program} {ops : Array Oper} {Q : Exit → Act → World → Prop} {S : World → Prop} {wr : List (Option Nat)} {vals : List Value} {reads : List (List (Nat × Option Nat))} {a0 : Act}
theorem aft_spec {o : Oper} {j : Nat} (h : aft o j = true) : ∃ e ∈ o.after, Region.binds .any e = true ∧ e.on = j := by
  unfold aft at h
  rw [List.any_eq_true] at h
  obtain ⟨e, he, hb⟩ := h
  rw [Bool.and_eq_true] at hb
  exact ⟨e, by simpa using he, hb.1, by simpa using hb.2⟩
theorem okAll_one (h : okAll ops wr a0.tmps.size reads = true) {i : Nat} {o : Oper} (ho : ops[i]? = some o) : okOne ops wr a0.tmps.size i (reads.getD i []) = true := by
  unfold okAll at h
  rw [Bool.and_eq_true, List.all_eq_true] at h
  exact h.1 i (by rw [List.mem_range]; exact (Array.getElem?_eq_some_iff.1 ho).1)
theorem okAll_wr (h : okAll ops wr a0.tmps.size reads = true) {s i : Nat} (hs : wr.getD s none = some i) : ∃ o, ops[i]? = some o ∧ o.dst = some s := by
  unfold okAll at h
  rw [Bool.and_eq_true, Bool.and_eq_true] at h
  have hlen : wr.length = a0.tmps.size := by simpa using h.2.1
  have hlt : s < a0.tmps.size := by
    rw [← hlen]
    rcases Nat.lt_or_ge s wr.length with h' | h'
    · exact h'
    · rw [List.getD_eq_getElem?_getD, List.getElem?_eq_none h'] at hs; cases hs
  have := List.all_eq_true.1 h.2.2 s (by rw [List.mem_range]; exact hlt)
  rw [hs] at this
  dsimp only at this
  split at this
  · rename_i o ho
    exact ⟨o, ho, by simpa using this⟩
  · cases this
theorem okAll_up (hok : okAll ops wr a0.tmps.size reads = true) : ∀ (i : Nat) (o : Oper), ops[i]? = some o → ∀ e ∈ o.after, Region.binds .any e = true → e.on < i := by
  intro i o ho e he hb
  have h := okAll_one hok ho
  unfold okOne at h
  rw [ho] at h
  dsimp only at h
  rw [Bool.and_eq_true, Bool.and_eq_true, Bool.and_eq_true] at h
  have h1 := List.all_eq_true.1 h.1.1.1 e (by simpa using he)
  rw [hb] at h1
  simpa using h1
theorem vals_init {w : World} (hS : S w) : InvV S ops wr vals a0 (fun _ => false) a0 w := by
  refine ⟨hS, rfl, rfl, fun i o _ h => (by cases h), fun s => ?_⟩
  unfold curV
  split <;> simp
theorem vals_step {L : Nat → Bool} {a : Act} {w : World} {i : Nat} {o : Oper} {K : Act → World → Prop} (hok : okAll ops wr a0.tmps.size reads = true) (hI : InvV S ops wr vals a0 L a w) (ho : ops[i]? = some o) (hu : L i = false) (hdep : ∀ e ∈ o.after, Region.binds .any e = true → L e.on = true)
    (hstep : VStep P S ops a0 vals reads i) (hK : ∀ a' w', InvV S ops wr vals a0 (upd L i) a' w' → K a' w') : wpOp P ops Q i K a w := by
  have hlt : i < ops.size := (Array.getElem?_eq_some_iff.1 ho).1
  have h := okAll_one hok ho
  unfold okOne at h
  rw [ho] at h
  dsimp only at h
  rw [Bool.and_eq_true, Bool.and_eq_true, Bool.and_eq_true] at h
  obtain ⟨⟨⟨h1, h2⟩, h3⟩, h4⟩ := h
  have hafter : ∀ j, aft o j = true → L j = true := fun j hj => by
    obtain ⟨e, he, hb, rfl⟩ := aft_spec hj
    exact hdep e he hb
  -- what stands in the slots that are read
  have hread : ∀ p ∈ reads.getD i [], a.eval (.tmp p.1) = srcV a0 vals p := by
    rintro ⟨s, src⟩ hp
    have hp' := List.all_eq_true.1 h4 _ hp
    dsimp only at hp'
    rw [hI.slot s]
    unfold curV
    cases src with
    | some j =>
      rw [Bool.and_eq_true] at hp'
      have e1 : wr.getD s none = some j := by simpa using hp'.1
      rw [e1]
      simp only [hafter j hp'.2, if_true]
      rfl
    | none =>
      dsimp only at hp'
      split at hp'
      · rename_i e1
        first | rfl | (rw [e1]; rfl)
      · rename_i j e1
        split at hp'
        · rename_i oj hoj
          obtain ⟨e, he, hb, hon⟩ := aft_spec hp'
          have hj : L j = false := by
            cases hLj : L j with
            | false => rfl
            | true =>
              have := hI.closed j oj hoj hLj e he hb
              rw [hon, hu] at this
              cases this
          first | (simp [hj]; rfl) | (rw [e1]; simp [hj]; rfl)
        · cases hp'
  -- the invariant behind it
  have hnext : ∀ w', S w' → InvV S ops wr vals a0 (upd L i) (a.put o.dst (vals.getD i undef)) w' := fun w' hw' => by
    refine ⟨hw', by rw [size_put]; exact hI.size, ?_, ?_, ?_⟩
    · rw [← hI.defers]; unfold Act.put; split <;> rfl
    · intro j oj hoj hLj e he hb
      unfold upd at hLj ⊢
      rw [Bool.or_eq_true] at hLj
      rcases hLj with hLj | hLj
      · rw [hI.closed j oj hoj hLj e he hb]; rfl
      · have : j = i := by simpa using hLj
        subst this
        rw [ho] at hoj
        injection hoj with hoj
        subst hoj
        rw [hdep e he hb]; rfl
    · intro s
      cases hd : o.dst with
      | none =>
        show a.eval (.tmp s) = _
        rw [hI.slot s]
        unfold curV
        cases hws : wr.getD s none with
        | none => rfl
        | some j =>
          have hne : (j == i) = false := by
            rw [beq_eq_false_iff_ne]
            rintro rfl
            obtain ⟨oj, hoj, hdj⟩ := okAll_wr hok hws
            rw [ho] at hoj
            injection hoj with hoj
            subst hoj
            rw [hd] at hdj
            cases hdj
          simp only [upd, hne, Bool.or_false]
      | some d =>
        rw [hd] at h2
        dsimp only at h2
        rw [Bool.and_eq_true] at h2
        have hdN : d < a.tmps.size := by rw [hI.size]; exact of_decide_eq_true h2.1
        have hwd : wr.getD d none = some i := by simpa using h2.2
        by_cases hsd : d = s
        · subst hsd
          rw [eval_put_same a d _ hdN]
          unfold curV
          rw [hwd]
          simp [upd]
        · rw [eval_put_ne a d s _ hsd, hI.slot s]
          unfold curV
          cases hws : wr.getD s none with
          | none => rfl
          | some j =>
            have hne : (j == i) = false := by
              rw [beq_eq_false_iff_ne]
              rintro rfl
              obtain ⟨oj, hoj, hdj⟩ := okAll_wr hok hws
              rw [ho] at hoj
              injection hoj with hoj
              subst hoj
              rw [hd] at hdj
              injection hdj with hdj
              exact hsd hdj
            simp only [upd, hne, Bool.or_false]
  -- what the guard says
  have hguard : ∀ g b, o.guard = some (g, b) → ∀ c, vals.getD g undef = .bool c → yielded ops a.tmps g = some c := fun g b hg c hc => by
    rw [hg] at h3
    dsimp only at h3
    rw [Bool.and_eq_true] at h3
    split at h3
    · rename_i og hog
      obtain ⟨d, hd⟩ := Option.isSome_iff_exists.1 h3.2
      have hgo := okAll_one hok hog
      unfold okOne at hgo
      rw [hog] at hgo
      dsimp only at hgo
      rw [Bool.and_eq_true, Bool.and_eq_true, Bool.and_eq_true, hd] at hgo
      dsimp only at hgo
      rw [Bool.and_eq_true] at hgo
      have hdN : d < a.tmps.size := by rw [hI.size]; exact of_decide_eq_true hgo.1.1.2.1
      have hwd : wr.getD d none = some g := by simpa using hgo.1.1.2.2
      have he : a.eval (.tmp d) = .bool c := by
        rw [hI.slot d]
        unfold curV
        rw [hwd]
        simp only [hafter g h3.1, if_true, hc]
      have ht : a.tmps[d]? = some (.bool c) := by
        rw [Array.getElem?_eq_getElem hdN]
        congr 1
        rw [← he]
        simp [Act.eval, hdN]
      unfold yielded
      rw [hog]
      simp [hd, ht]
    · cases h3.2
  have hguardU : ∀ g b, o.guard = some (g, b) → vals.getD g undef = undef → yielded ops a.tmps g = none := fun g b hg hc => by
    rw [hg] at h3
    dsimp only at h3
    rw [Bool.and_eq_true] at h3
    split at h3
    · rename_i og hog
      obtain ⟨d, hd⟩ := Option.isSome_iff_exists.1 h3.2
      have hgo := okAll_one hok hog
      unfold okOne at hgo
      rw [hog] at hgo
      dsimp only at hgo
      rw [Bool.and_eq_true, Bool.and_eq_true, Bool.and_eq_true, hd] at hgo
      dsimp only at hgo
      rw [Bool.and_eq_true] at hgo
      have hdN : d < a.tmps.size := by rw [hI.size]; exact of_decide_eq_true hgo.1.1.2.1
      have hwd : wr.getD d none = some g := by simpa using hgo.1.1.2.2
      have he : a.eval (.tmp d) = undef := by
        rw [hI.slot d]
        unfold curV
        rw [hwd]
        simp only [hafter g h3.1, if_true, hc]
      have ht : a.tmps[d]? = some undef := by
        rw [Array.getElem?_eq_getElem hdN]
        congr 1
        rw [← he]
        simp [Act.eval, hdN]
      unfold yielded
      rw [hog]
      simp [hd, ht]
      rfl
    · cases h3.2
  rcases hstep o ho with ⟨hg, hrun⟩ | hskip
  · have hw : Region.wanted o (yielded ops a.tmps) = true := by
      unfold Region.wanted
      cases hgd : o.guard with
      | none => rfl
      | some gb =>
        obtain ⟨g, b⟩ := gb
        rw [hgd] at hg
        dsimp only at hg ⊢
        rw [hguard g b hgd b hg]
        simp
    unfold wpOp
    rw [ho]
    simp only [hw, if_true]
    refine .inl ?_
    rcases hrun a.eval w hI.s ⟨fun _ => rfl, fun _ => rfl⟩ hread with hr | ⟨f, args, hr, hc⟩
    · unfold Oper.wp
      rw [hr]
      exact hK _ _ (hnext w hI.s)
    · unfold Oper.wp
      rw [hr]
      exact hc.mono fun e w' ⟨he, hS'⟩ => by subst he; exact hK _ _ (hnext w' hS')
  · cases hgd : o.guard with
    | none => rw [hgd] at hskip; exact hskip.elim
    | some gb =>
      obtain ⟨g, b⟩ := gb
      rw [hgd] at hskip
      dsimp only at hskip
      have hw : Region.wanted o (yielded ops a.tmps) = false := by
        unfold Region.wanted
        rw [hgd]
        dsimp only
        rcases hskip.1 with h1 | h1
        · rw [hguard g b hgd _ h1]
          cases b <;> rfl
        · rw [hguardU g b hgd h1]
          rfl
      unfold wpOp
      rw [ho]
      simp only [hw, Bool.false_eq_true, if_false]
      have := hnext w hI.s
      rw [hskip.2] at this
      exact hK _ _ this
theorem vals_end {L : Nat → Bool} {a : Act} {w : World} (hI : InvV S ops wr vals a0 L a w) (hall : ∀ i s, wr.getD s none = some i → L i = true) (aF : Act) (hF : aF.tmps.toList = (List.range a0.tmps.size).map fun s => match wr.getD s none with | none => a0.eval (.tmp s) | some i => vals.getD i undef) (hD : aF.defers = a0.defers) : a = aF := by
  obtain ⟨t, d⟩ := a
  obtain ⟨tF, dF⟩ := aF
  have h1 : t = tF := by
    apply Array.toList_inj.1
    rw [hF]
    have hsz : t.toList.length = a0.tmps.size := hI.size
    apply List.ext_getElem?
    intro s
    rw [List.getElem?_map]
    rcases Nat.lt_or_ge s a0.tmps.size with hs | hs
    · rw [List.getElem?_range hs]
      have e := hI.slot s
      have hts : s < t.size := by rw [show t.size = a0.tmps.size from hI.size]; exact hs
      have e2 : t[s]? = some ((Act.mk t d).eval (.tmp s)) := by
        rw [Array.getElem?_eq_getElem hts]
        simp [Act.eval, hts]
      show t.toList[s]? = _
      rw [Array.getElem?_toList, e2, e]
      unfold curV
      cases hws : wr.getD s none with
      | none => simp only [Option.map_some, hws]
      | some i =>
        simp only [Option.map_some, hws, hall i s hws, if_true]
    · rw [List.getElem?_eq_none (by omega), List.getElem?_eq_none (by simpa using hs)]
      rfl
  have h2 : d = dF := by
    have := hI.defers
    simp only at this hD
    rw [this, hD]
  rw [h1, h2]
def putAll (dsts : List (Option Nat)) (vals : List Value) (a0 : Act) : Act := (dsts.zip vals).foldl (fun a p => a.put p.1 p.2) a0
theorem putAll_defers (dsts : List (Option Nat)) (vals : List Value) (a0 : Act) : (putAll dsts vals a0).defers = a0.defers := by
  unfold putAll
  generalize dsts.zip vals = l
  induction l generalizing a0 with
  | nil => rfl
  | cons p l ih =>
    rw [List.foldl_cons, ih]
    unfold Act.put
    split <;> rfl
theorem region_vals {rid : Nat} {w : World} (wr : List (Option Nat)) (reads : List (List (Nat × Option Nat))) (vals : List Value) (hm : P.follows .mixedOrders = true) (hok : okAll ops wr a0.tmps.size reads = true) (S : World → Prop) (hS : S w.drew)
    (hstep : ∀ i, i < ops.size → VStep P S ops a0 vals reads i) (aF : Act) (hF : aF.tmps.toList = (List.range a0.tmps.size).map fun s => match wr.getD s none with | none => a0.eval (.tmp s) | some i => vals.getD i undef) (hD : aF.defers = a0.defers)
    (hend : ∀ w, S w → Q .normal aF w) : (Code.region rid ops true).wp P Q a0 w := by
  refine region_inv0 hm (okAll_up hok) (InvV S ops wr vals a0) (vals_init hS) ?_ ?_
  · intro L a w i o hI ho hu hdep
    exact vals_step hok hI ho hu hdep (hstep i (Array.getElem?_eq_some_iff.1 ho).1) (fun _ _ h => h)
  · intro L a w hI hall
    have : a = aF := vals_end hI (fun i s hws => by
      obtain ⟨o, ho, _⟩ := okAll_wr hok hws
      exact hall i (Array.getElem?_eq_some_iff.1 ho).1) aF hF hD
    rw [this]
    exact hend w hI.s
theorem region_vals2 {rid : Nat} {w : World} (wr : List (Option Nat)) (reads : List (List (Nat × Option Nat))) (dsts : List (Option Nat)) (vals : List Value) (S : World → Prop) (hm : P.follows .mixedOrders = true) (hok : okAll ops wr a0.tmps.size reads = true)
    (hF : (putAll dsts vals a0).tmps.toList = (List.range a0.tmps.size).map fun s => match wr.getD s none with | none => a0.eval (.tmp s) | some i => vals.getD i undef) (hS : S w.drew)
    (hstep : ∀ i, i < ops.size → VStep P S ops a0 vals reads i) (hend : ∀ w, S w → Q .normal (putAll dsts vals a0) w) : (Code.region rid ops true).wp P Q a0 w :=
  region_vals wr reads vals hm hok S hS hstep _ hF (putAll_defers dsts vals a0) hend
theorem VStep.val {i : Nat} (o : Oper) (ho : ops[i]? = some o) (rd : List (Nat × Option Nat)) (hrd : reads.getD i [] = rd) (u : Value) (hu : vals.getD i undef = u) (hg : match o.guard with | none => True | some (g, b) => vals.getD g undef = .bool b)
    (h : ∀ (ev : Operand → Value) (w : World), S w → EvOk ev → (∀ p ∈ rd, ev (.tmp p.1) = srcV a0 vals p) → (execOp ev o).run P w = .ok (.value u) w) : VStep P S ops a0 vals reads i := by
  intro o' ho'
  rw [ho] at ho'
  injection ho' with ho'
  subst ho' hrd hu
  exact .inl ⟨hg, fun ev w hS he hr => .inl (h ev w hS he hr)⟩
theorem VStep.call {i : Nat} (o : Oper) (ho : ops[i]? = some o) (rd : List (Nat × Option Nat)) (hrd : reads.getD i [] = rd) (u : Value) (hu : vals.getD i undef = u) (hg : match o.guard with | none => True | some (g, b) => vals.getD g undef = .bool b) (f : FuncId) (args : Array Value)
    (h : ∀ (ev : Operand → Value) (w : World), S w → EvOk ev → (∀ p ∈ rd, ev (.tmp p.1) = srcV a0 vals p) → (execOp ev o).run P w = .ok (.enter f args) w)
    (hc : ∀ w, S w → Calls P f args w fun e w' => e = .returned u ∧ S w') : VStep P S ops a0 vals reads i := by
  intro o' ho'
  rw [ho] at ho'
  injection ho' with ho'
  subst ho' hrd hu
  exact .inl ⟨hg, fun ev w hS he hr => .inr ⟨f, args, h ev w hS he hr, hc w hS⟩⟩
theorem VStep.skip {i : Nat} (o : Oper) (ho : ops[i]? = some o) (hu : vals.getD i undef = undef) (hg : match o.guard with | none => False | some (g, b) => vals.getD g undef = .bool (!b)) : VStep P S ops a0 vals reads i := by
  intro o' ho'
  rw [ho] at ho'
  injection ho' with ho'
  subst ho'
  refine .inr ?_
  split at hg
  · exact hg.elim
  · exact ⟨.inl hg, hu⟩
def VFrom (P : Program) (S : World → Prop) (ops : Array Oper) (a0 : Act) (vals : List Value) (reads : List (List (Nat × Option Nat))) (k n : Nat) : Prop := ∀ i, k ≤ i → i < n → VStep P S ops a0 vals reads i
theorem VFrom.cons {k n : Nat} (h : VStep P S ops a0 vals reads k) (t : VFrom P S ops a0 vals reads (k + 1) n) : VFrom P S ops a0 vals reads k n := fun i h1 h2 => by
  by_cases e : i = k
  · subst e; exact h
  · exact t i (by omega) h2
theorem VFrom.nil {n : Nat} : VFrom P S ops a0 vals reads n n := fun i h1 h2 => by omega
theorem VFrom.start {n : Nat} (h : VFrom P S ops a0 vals reads 0 n) : ∀ i, i < n → VStep P S ops a0 vals reads i := fun i hi => h i (Nat.zero_le _) hi
theorem VFrom.all {n : Nat} (hn : ops.size = n) (h : VFrom P S ops a0 vals reads 0 n) : ∀ i, i < ops.size → VStep P S ops a0 vals reads i := fun i hi => h i (Nat.zero_le _) (by rw [← hn]; exact hi)
end
theorem exec_load {P : Program} {ev : Operand → Value} {o : Oper} {T : TypeId} {x : Operand} {a : Addr} {v : Value} {w : World} (ho : o.op = .load T x) (hx : ev x = .pointer (some a)) (hl : (Instr.loadAt T (.pointer (some a))).run P w = .ok v w) : (execOp ev o).run P w = .ok (.value v) w := by
  unfold execOp
  simp only [ho, hx, Sem.run_bind, Sem.run_pure, Result.andThen_ok, hl]
theorem exec_build {P : Program} {ev : Operand → Value} {o : Oper} {T : TypeId} {ps : Array (Nat × Operand)} {qs : Array (Nat × Value)} {v : Value} {w : World} (ho : o.op = .build T ps) (hq : (ps.map fun (i, x) => (i, ev x)) = qs) (hl : (Instr.build T qs).run P w = .ok v w) : (execOp ev o).run P w = .ok (.value v) w := by
  unfold execOp
  simp only [ho, hq, Sem.run_bind, Sem.run_pure, Result.andThen_ok, hl]
end V3
end
section
namespace V3
/-- A value, if it is wanted. -/
def gV : Bool → Value → Value
  | true, v => v
  | false, _ => undef
section
variable {P : Program} {ops : Array Oper} {S : World → Prop} {vals : List Value} {reads : List (List (Nat × Option Nat))} {a0 : Act}
theorem VStep.valG {i : Nat} (o : Oper) (ho : ops[i]? = some o) (rd : List (Nat × Option Nat)) (hrd : reads.getD i [] = rd) (y : Bool) (u : Value) (hu : vals.getD i undef = gV y u) (gi : Nat) (pol : Bool) (hgd : o.guard = some (gi, pol))
    (ht : y = true → vals.getD gi undef = .bool pol) (hf : y = false → vals.getD gi undef = .bool (!pol) ∨ vals.getD gi undef = undef)
    (h : y = true → ∀ (ev : Operand → Value) (w : World), S w → EvOk ev → (∀ p ∈ rd, ev (.tmp p.1) = srcV a0 vals p) → (execOp ev o).run P w = .ok (.value u) w) : VStep P S ops a0 vals reads i := by
  intro o' ho'
  rw [ho] at ho'
  injection ho' with ho'
  subst ho' hrd
  rw [hgd]
  cases y with
  | true => exact .inl ⟨ht rfl, fun ev w hS he hr => .inl (by rw [hu]; exact h rfl ev w hS he hr)⟩
  | false => exact .inr ⟨hf rfl, hu⟩
theorem VStep.callG {i : Nat} (o : Oper) (ho : ops[i]? = some o) (rd : List (Nat × Option Nat)) (hrd : reads.getD i [] = rd) (y : Bool) (u : Value) (hu : vals.getD i undef = gV y u) (gi : Nat) (pol : Bool) (hgd : o.guard = some (gi, pol))
    (ht : y = true → vals.getD gi undef = .bool pol) (hf : y = false → vals.getD gi undef = .bool (!pol) ∨ vals.getD gi undef = undef) (f : FuncId) (args : Array Value)
    (h : y = true → ∀ (ev : Operand → Value) (w : World), S w → EvOk ev → (∀ p ∈ rd, ev (.tmp p.1) = srcV a0 vals p) → (execOp ev o).run P w = .ok (.enter f args) w)
    (hc : y = true → ∀ w, S w → Calls P f args w fun e w' => e = .returned u ∧ S w') : VStep P S ops a0 vals reads i := by
  intro o' ho'
  rw [ho] at ho'
  injection ho' with ho'
  subst ho' hrd
  rw [hgd]
  cases y with
  | true => exact .inl ⟨ht rfl, fun ev w hS he hr => .inr ⟨f, args, h rfl ev w hS he hr, by rw [hu]; exact hc rfl w hS⟩⟩
  | false => exact .inr ⟨hf rfl, hu⟩
/-- A region whose order is the text's: the same steps serve. -/
theorem region_inv0F {Q : Exit → Act → World → Prop} {rid : Nat} {a : Act} {w : World} (hup : ∀ (i : Nat) (o : Oper), ops[i]? = some o → ∀ e ∈ o.after, Region.binds .any e = true → e.on < i)
    (Inv : (Nat → Bool) → Act → World → Prop) (h0 : Inv (fun _ => false) a w)
    (hstep : ∀ (L : Nat → Bool) (a : Act) (w : World) (i : Nat) (o : Oper), Inv L a w → ops[i]? = some o → L i = false → (∀ e ∈ o.after, Region.binds .any e = true → L e.on = true) → wpOp P ops Q i (Inv (upd L i)) a w)
    (hend : ∀ (L : Nat → Bool) (a : Act) (w : World), Inv L a w → (∀ i, i < ops.size → L i = true) → Q .normal a w) : (Code.region rid ops false).wp P Q a w := by
  apply wp_region
  have key : ∀ (m k : Nat) (a : Act) (w : World), k + m = ops.size → Inv (fun i => decide (i < k)) a w → wpOps P ops Q (List.range' k m) a w := by
    intro m
    induction m with
    | zero => intro k a w hk hI; exact hend _ a w hI (fun i hi => decide_eq_true (by omega))
    | succ m ih =>
      intro k a w hk hI
      rw [List.range'_succ, wpOps_cons]
      obtain ⟨o, ho⟩ : ∃ o, ops[k]? = some o := ⟨_, Array.getElem?_eq_getElem (by omega)⟩
      refine wpOp_mono (fun a' w' h => ih (k + 1) a' w' (by omega) ?_) (hstep _ a w k o hI ho (decide_eq_false (by omega)) (fun e he hb => decide_eq_true (hup k o ho e he hb)))
      have e : upd (fun i => decide (i < k)) k = fun i => decide (i < k + 1) := by
        funext i
        unfold upd
        rw [Bool.eq_iff_iff]
        simp only [Bool.or_eq_true, decide_eq_true_eq, beq_iff_eq]
        omega
      rw [← e]
      exact h
  rw [List.range_eq_range']
  exact key ops.size 0 a w (by omega) (by simpa using h0)
theorem region_valsF {Q : Exit → Act → World → Prop} {rid : Nat} {w : World} (wr : List (Option Nat)) (reads : List (List (Nat × Option Nat))) (dsts : List (Option Nat)) (vals : List Value) (S : World → Prop) (hok : okAll ops wr a0.tmps.size reads = true)
    (hF : (putAll dsts vals a0).tmps.toList = (List.range a0.tmps.size).map fun s => match wr.getD s none with | none => a0.eval (.tmp s) | some i => vals.getD i undef) (hS : S w)
    (hstep : ∀ i, i < ops.size → VStep P S ops a0 vals reads i) (hend : ∀ w, S w → Q .normal (putAll dsts vals a0) w) : (Code.region rid ops false).wp P Q a0 w := by
  refine region_inv0F (okAll_up hok) (InvV S ops wr vals a0) (vals_init hS) ?_ ?_
  · intro L a w i o hI ho hu hdep
    exact vals_step hok hI ho hu hdep (hstep i (Array.getElem?_eq_some_iff.1 ho).1) (fun _ _ h => h)
  · intro L a w hI hall
    have : a = putAll dsts vals a0 := vals_end hI (fun i s hws => by
      obtain ⟨o, ho, _⟩ := okAll_wr hok hws
      exact hall i (Array.getElem?_eq_some_iff.1 ho).1) _ hF (putAll_defers dsts vals a0)
    rw [this]
    exact hend w hI.s
end
end V3
end

end Go.Proofs.YtogoophofgkboaaGreatDoor
