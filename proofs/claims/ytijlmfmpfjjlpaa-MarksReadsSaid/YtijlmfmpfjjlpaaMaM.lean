/-
  Layer 9: Put, into a new pen. Conditions: marks of 16 bytes; at most 4,096; the list's block is not the pen's.
-/
import Derived.Test.YtijlmfmpfjjlpaaMaL
import Derived.Test.YtijlmfmpfjjlpaaMkp
namespace Go.Proofs.Ytijlmfmpfjjlpaa
open Go.RowKit Go.Shelf
attribute [local go_sem] Oper.semAt_some

def bytesM (ms : List (List Int)) : List Int := numBytes (ms.length : Int) ++ ms.flatten
theorem flat_snoc (ms : List (List Int)) (k : Nat) (hk : k < ms.length) : (ms.take (k + 1)).flatten = (ms.take k).flatten ++ markAt ms k := by
  unfold markAt
  rw [List.take_succ_eq_append_getElem hk, List.flatten_append, List.getElem?_eq_getElem hk]
  simp
theorem flat_len {ms : List (List Int)} (h : ∀ m ∈ ms, MarkOk m) : ms.flatten.length = ms.length * 16 := by
  induction ms with
  | nil => rfl
  | cons m ms ih => rw [List.flatten_cons, List.length_append, ih (fun q hq => h q (by simp [hq])), (h m (by simp)).len, List.length_cons]; omega
def PutR (w : World) (P : Nat) (ms : List (List Int)) (N : Nat) (i : Value) (wr : World) : Prop := ∃ k : Nat, k ≤ N ∧ i = .int .i64 k ∧ Hid (∃ v', PenAt wr P v' (numBytes (N : Int) ++ (ms.take k).flatten) ∧ PenTo w wr P (.slice none 0 0) v')
theorem PenTo.kpNb {a b c : World} {P : Nat} {v v' : Value} (h : PenTo a b P v v') (k : Kp Nb b c) : PenTo a c P v v' := ⟨h.kp.trans k (fun _ _ h => h.elim), h.at'⟩
theorem pen_sep {a b : World} {P : Nat} {v' vl : Value} {ms : List (List Int)} (h : PenTo a b P (.slice none 0 0) v') (hm : MkSl a vl ms) (hne : ∀ g, vl.ownBlock = some g → g ≠ P) : MkSl b vl ms :=
  hm.keptV h.kp (fun g hg hs => hs.elim (fun e => hne g hg e) (fun e => by simp [Value.ownBlock] at e))
set_option maxRecDepth 100000 in
set_option maxHeartbeats 4000000 in
theorem mput_any (P : Nat) (v : Value) (ms : List (List Int)) (w : World) (h : MkSl w v ms) (hp : PenAt w P (.slice none 0 0) []) (hne : ∀ g, v.ownBlock = some g → g ≠ P) (hl : ms.length ≤ 4096) :
    Calls Try.prog 27 #[.pointer (some ⟨P, 0, none⟩), v] w fun e w' => e = .returned (.bool (rightB ms)) ∧ ∃ v', PenAt w' P v' (if rightB ms then bytesM ms else []) ∧ PenTo w w' P (.slice none 0 0) v' := by
  have CR := hid (mright_any v ms w h (by omega))
  have HM := hid h
  have HP := hid hp
  have HNE := hid hne
  have HOK : Hid (∀ m ∈ ms, MarkOk m) := hid h.ok
  obtain ⟨N, hN⟩ : ∃ N, ms.length = N := ⟨_, rfl⟩
  have HN := hid hN
  obtain ⟨y, d, rfl⟩ := h.shape
  rw [hN] at CR HM HNE hl ⊢
  obtain ⟨b, hb⟩ : ∃ b, rightB ms = b := ⟨_, rfl⟩
  rw [hb] at CR ⊢
  clear h hp hne hN hb
  cases b with
  | false =>
    go_enter Try.func27, Try.ntmps27
    go_wp2_with (go_at_call 11; refine CR.out.mono ?_; rintro r w1 ⟨rfl, k1⟩; have K1 := hid k1; clear k1)
    go_ret
    exact ⟨rfl, _, HP.out.kept K1.out (fun h => h) (fun _ _ h => h), ⟨⟨K1.out.os, K1.out.tape, K1.out.output, K1.out.size, fun i hi _ => K1.out.block i hi (fun h => h)⟩, .inl rfl⟩⟩
  | true =>
    have hw : IntKind.u64.wrap (N : Int) = (N : Int) := IntWalk.u64_in _ ⟨Int.natCast_nonneg N, by omega⟩
    go_enter Try.func27, Try.ntmps27
    go_wp2_with (go_at_call 11; refine CR.out.mono ?_; rintro r w1 ⟨rfl, k1⟩; have K1 := hid k1; clear k1)
    have P1 : Hid (PenAt w1 P (.slice none 0 0) []) := hid (HP.out.kept K1.out (fun h => h) (fun _ _ h => h))
    have T1 : Hid (PenTo w w1 P (.slice none 0 0) (.slice none 0 0)) := hid ((PenTo.refl w P _).kpNb K1.out)
    refine (pen_number P _ _ (N : Int) w1 P1.out (Int.natCast_nonneg N) (by omega) (by simp)).mono ?_
    rintro e w2 ⟨rfl, v2, p2, t2⟩
    have HI0 : Hid (∃ v', PenAt w2 P v' (numBytes (N : Int) ++ (ms.take 0).flatten) ∧ PenTo w w2 P (.slice none 0 0) v') := hid ⟨v2, by simpa using p2, T1.out.trans t2⟩
    clear p2 t2 hw
    go_wp2
    go_loopw [22] (PutR w P ms N) (fun i _ => N - (intOf i).toNat)
    case atStart => exact ⟨0, Nat.zero_le _, rfl, HI0⟩
    case round =>
      clear HI0
      obtain ⟨k, hk, rfl, HPK⟩ := hrel
      by_cases hlt : k < N
      · have HLT := hid hlt
        obtain ⟨v', pk, tk⟩ := HPK.out
        have hm := pen_sep tk HM.out HNE.out
        obtain ⟨blk, off, cap, e, hc, hcm, hcell⟩ := mk_shape hm (by intro e; have := HN.out; rw [e] at this; simp at this; omega)
        rw [HN.out] at e
        cases e
        have h0 := hcell k (by rw [HN.out]; exact hlt)
        obtain ⟨m, hmk⟩ : ∃ m, markAt ms k = m := ⟨_, rfl⟩
        rw [hmk] at h0
        have HMK := hid hmk
        have LD := hid (load_mark h0.1 h0.2)
        obtain ⟨W5, s1, s2, s3⟩ := mk_fresh wr h0.1
        obtain ⟨V, hV⟩ : ∃ V, V = wr.alloc (.cells (markL (List.replicate 16 0)).toArray 24) := ⟨_, rfl⟩
        obtain ⟨M5, hM5⟩ : ∃ M5, wr.heap.size = M5 := ⟨_, rfl⟩
        have AL : Hid ((Instr.alloc 24 true (.tuple #[])).run Try.prog wr = .ok (.pointer (some ⟨M5, 0, none⟩)) V) := hid (by rw [hV, ← hM5]; exact mk_new wr)
        rw [← hV, hM5] at s1
        rw [hM5] at s2
        have ST := hid s1
        have BY := hid (by_mark s2 h0.1)
        have P5 : Hid (PenAt W5 P v' (numBytes (N : Int) ++ (ms.take k).flatten)) := hid (pk.kept s3 (fun h => h) (fun _ _ h => h))
        have T5 : Hid (PenTo w W5 P (.slice none 0 0) v') := hid (tk.kpNb s3)
        have HLEN : Hid ((numBytes (N : Int) ++ (ms.take k).flatten).length + m.length ≤ 140737488355328) := hid (by
          have h1 := numBytes_length (N : Int) (by omega)
          have h2 := flat_len (ms := ms.take k) (fun q hq => HOK.out q (List.mem_of_mem_take hq))
          have h3 : (ms.take k).length ≤ 4096 := by rw [List.length_take]; omega
          rw [List.length_append, h2, h0.1.len]
          omega)
        have CF := hid (pen_fixed P v' _ _ _ W5 P5.out BY.out HLEN.out)
        have HSN : Hid (numBytes (N : Int) ++ (ms.take k).flatten ++ m = numBytes (N : Int) ++ (ms.take (k + 1)).flatten) := hid (by rw [flat_snoc ms k (by rw [HN.out]; exact hlt), hmk, List.append_assoc])
        clear hm hcell h0 hmk s1 s2 s3 hV hM5 pk tk HPK
        go_wp2_with (first
          | (refine wpList_val (by rfl) _ _ (exec_loadM (a := ⟨blk, off + k * 16, none⟩) rfl (by rfl) LD.out) ?_)
          | (refine wpList_val (by rfl) _ _ (exec_allocM rfl AL.out) ?_)
          | (refine wpList_storeM rfl 24 (.tmp 6) (.tmp 25) rfl (p := ⟨M5, 0, none⟩) (by rfl) (v := markV m) (by rfl) ST.out ?_)
          | (go_at_call 45; refine CF.out.mono ?_; rintro r w6 ⟨rfl, v6, p6, t6⟩; have HPN : Hid (∃ v', PenAt w6 P v' (numBytes (N : Int) ++ (ms.take (k + 1)).flatten) ∧ PenTo w w6 P (.slice none 0 0) v') := hid ⟨v6, by rw [← HSN.out]; exact p6, T5.out.trans t6⟩; clear p6 t6))
        go_roundw
        case rel => exact ⟨k + 1, HLT.out, by go_num, HPN⟩
        case measure => have := HLT.out; simp [intOf]; omega
      · obtain rfl : k = N := by omega
        go_wp2
        go_ret
        obtain ⟨v', pk, tk⟩ := HPK.out
        rw [← HN.out, List.take_length] at pk
        exact ⟨rfl, v', pk, tk⟩

end Go.Proofs.Ytijlmfmpfjjlpaa
