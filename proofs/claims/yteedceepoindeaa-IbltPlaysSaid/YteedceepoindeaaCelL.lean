/-
  Layers 9 and 10: walks of the reference's Fold (marks laid one over another) and Add. Conditions: cells and marks are what their kinds hold. (Printed by gen_tells10.py.)
-/
import Derived.Test.YteedceepoindeaaCelK
import Derived.Test.YteedceepoindeaaGhostL
namespace Go.Proofs.Yteedceepoindeaa
open Go.RowKit

def foldAt (ms : List (List Int)) (i : Nat) : Int := ms.foldl (fun x m => bits .xor .u8 x (m[i]?.getD 0)) 0
def foldM (ms : List (List Int)) : List Int := (List.range 16).map (foldAt ms)
def fcell (ms : List (List Int)) (i k : Nat) : List Int := (List.range 16).map fun j => if j < i then foldAt ms j else if j = i then foldAt (ms.take k) i else 0
theorem fcell_length (ms : List (List Int)) (i k : Nat) : (fcell ms i k).length = 16 := by simp [fcell]
theorem fcell_get (ms : List (List Int)) (i k j : Nat) (hj : j < 16) : (fcell ms i k)[j]?.getD 0 = if j < i then foldAt ms j else if j = i then foldAt (ms.take k) i else 0 := by
  unfold fcell; rw [List.getElem?_map, List.getElem?_range hj]; rfl
theorem fcell_zero (ms : List (List Int)) : fcell ms 0 0 = List.replicate 16 0 := by
  apply List.ext_getElem (by simp [fcell])
  intro j h1 h2
  have hj : j < 16 := by simpa [fcell] using h1
  have e := fcell_get ms 0 0 j hj
  rw [List.getElem?_eq_getElem h1] at e
  rw [List.getElem_replicate]
  refine Eq.trans e ?_
  rw [if_neg (by omega)]
  split <;> rfl
theorem fcell_next (ms : List (List Int)) (i : Nat) : fcell ms i ms.length = fcell ms (i + 1) 0 := by
  unfold fcell
  apply List.map_congr_left
  intro j _
  rw [List.take_length]
  by_cases h : j < i
  · rw [if_pos h, if_pos (by omega)]
  · by_cases e : j = i
    · subst e; rw [if_neg h, if_pos rfl, if_pos (by omega)]
    · rw [if_neg h, if_neg e, if_neg (by omega)]
      split
      · rfl
      · rfl
theorem fcell_end (ms : List (List Int)) (k : Nat) : fcell ms 16 k = foldM ms := by
  unfold fcell foldM
  apply List.map_congr_left
  intro j hj
  rw [if_pos (List.mem_range.1 hj)]
theorem foldAt_snoc (ms : List (List Int)) (i k : Nat) (hk : k < ms.length) : foldAt (ms.take (k + 1)) i = bits .xor .u8 (foldAt (ms.take k) i) ((markAt ms k)[i]?.getD 0) := by
  unfold foldAt markAt
  rw [List.take_succ_eq_append_getElem hk, List.foldl_append, List.getElem?_eq_getElem hk]
  rfl
theorem fcell_set (ms : List (List Int)) (i k : Nat) (hi : i < 16) (hk : k < ms.length) : (markL (fcell ms i k)).set i (.int .u8 (bits .xor .u8 ((fcell ms i k)[i]?.getD 0) ((markAt ms k)[i]?.getD 0))) = markL (fcell ms i (k + 1)) := by
  rw [fcell_get ms i k i hi, if_neg (Nat.lt_irrefl i), if_pos rfl, ← foldAt_snoc ms i k hk]
  unfold markL fcell
  apply List.ext_getElem?
  intro j
  by_cases hij : i = j
  · subst hij
    rw [List.getElem?_set_self (by simp; omega)]
    simp [hi]
  · rw [List.getElem?_set_ne hij]
    simp only [List.map_map, List.getElem?_map]
    rcases Nat.lt_or_ge j 16 with h | h
    · rw [List.getElem?_range h]
      simp only [Option.map_some, Function.comp]
      by_cases h1 : j < i
      · rw [if_pos h1, if_pos h1]
      · rw [if_neg h1, if_neg h1, if_neg (by omega), if_neg (by omega)]
    · rw [List.getElem?_eq_none (by simpa using h)]
      rfl
theorem fold_two {a b : List Int} (ha : MarkOk a) : foldM [a, b] = layL a b := by
  refine mark_ext (by simp [foldM]) (layL_length _ _) fun i h => ?_
  rw [layL_get _ _ i h]
  unfold foldM
  rw [List.getElem?_map, List.getElem?_range h]
  show bits .xor .u8 (bits .xor .u8 0 (a[i]?.getD 0)) (b[i]?.getD 0) = _
  rw [x8_comm 0 _ (by decide) (by decide) (ha.at i).1 (ha.at i).2, x8_zero _ (ha.at i).1 (ha.at i).2]
theorem store_u8 {w : World} {B i : Nat} {vs : List Value} {t : Nat} (h : Blk w B t vs) (hi : i < vs.length) (x : Int) : (Instr.storeAt 5 (.pointer (some ⟨B, i, none⟩)) (.int .u8 x)).run Try.prog w = .ok () (w.setCell ⟨B, i, none⟩ (.int .u8 x)) := by
  have hc := h.cell i
  rw [List.getElem?_eq_getElem hi] at hc
  have hf := h.frozen i
  go_simp

def FoldR (w : World) (ms : List (List Int)) (v : Value) (wr : World) : Prop := ∃ i : Nat, i ≤ 16 ∧ v = .int .i64 i ∧ Hid (Blk wr (w.heap.size + 1) 23 (markL (fcell ms i 0))) ∧ Hid (Blk wr w.heap.size 23 (markL (List.replicate 16 0))) ∧ Hid (Kp Nb w wr)
def FoldI (w : World) (ms : List (List Int)) (i : Nat) (v : Value) (wr : World) : Prop := ∃ k : Nat, k ≤ ms.length ∧ v = .int .i64 k ∧ Hid (Blk wr (w.heap.size + 1) 23 (markL (fcell ms i k))) ∧ Hid (Blk wr w.heap.size 23 (markL (List.replicate 16 0))) ∧ Hid (Kp Nb w wr)

set_option maxRecDepth 100000 in
set_option maxHeartbeats 4000000 in
theorem rfold_any (v : Value) (ms : List (List Int)) (w : World) (h : MkSl w v ms) :
    Calls Try.prog 66 #[v] w fun e w' => e = .returned (markV (foldM ms)) ∧ Kp Nb w w' := by
  obtain ⟨y, d, rfl⟩ := h.shape
  have H := hid h
  clear h
  obtain ⟨zs, hz⟩ : ∃ zs, zs = markL (List.replicate 16 0) := ⟨_, rfl⟩
  obtain ⟨W, hW⟩ : ∃ W, W = (w.alloc (.cells zs.toArray 23)).alloc (.cells zs.toArray 23) := ⟨_, rfl⟩
  have H0 : Hid (Blk W w.heap.size 23 zs) := hid (by rw [hW]; exact (Blk.new w _ _).alloc _)
  have H1 : Hid (Blk W (w.heap.size + 1) 23 zs) := hid (by
    have h := Blk.new (w.alloc (.cells zs.toArray 23)) 23 zs
    simp only [World.size_alloc] at h
    rw [hW]
    exact h)
  have KW : Hid (Kp Nb w W) := hid (by rw [hW]; exact ((Kp.refl Nb w).alloc _).alloc _)
  rw [hz] at hW H0 H1
  clear hz
  go_enter Try.func66, Try.ntmps66
  go_wp2_with fail
  rw [show (w.alloc (.cells #[.int .u8 0, .int .u8 0, .int .u8 0, .int .u8 0, .int .u8 0, .int .u8 0, .int .u8 0, .int .u8 0, .int .u8 0, .int .u8 0, .int .u8 0, .int .u8 0, .int .u8 0, .int .u8 0, .int .u8 0, .int .u8 0] 23)).alloc (.cells #[.int .u8 0, .int .u8 0, .int .u8 0, .int .u8 0, .int .u8 0, .int .u8 0, .int .u8 0, .int .u8 0, .int .u8 0, .int .u8 0, .int .u8 0, .int .u8 0, .int .u8 0, .int .u8 0, .int .u8 0, .int .u8 0] 23) = W from hW.symm]
  clear hW
  go_loopw [4] (FoldR w ms) (fun i _ => 16 - (intOf i).toNat)
  case atStart => exact ⟨0, by omega, rfl, hid (by rw [fcell_zero]; exact H1.out), H0, KW⟩
  case round =>
    clear H0 H1 KW
    obtain ⟨i, hi, rfl, HA, HR, HK⟩ := hrel
    by_cases hlt : i < 16
    · go_wp2
      go_loopw [13] (FoldI w ms i) (fun v _ => ms.length - (intOf v).toNat)
      case atStart => exact ⟨0, by omega, rfl, HA, HR, HK⟩
      case round =>
        clear HA HR HK
        obtain ⟨k, hk, rfl, HA, HR, HK⟩ := hrel
        by_cases hkn : k < ms.length
        · rcases (H.out.kept HK.out).2 with ⟨_, e0⟩ | ⟨blk, off, cap, e1, hc, hm, hcell⟩
          · rw [e0] at hkn
            exact absurd hkn (Nat.not_lt_zero _)
          · injection e1 with e1 _ e2
            subst e1 e2
            have HX := hid (hcell k hkn)
            have M1 := hid (H.out.1 k)
            have HQ := hid (fcell_set ms i k hlt hkn)
            have CA : Hid ((markL (fcell ms i k))[i]? = some (.int .u8 ((fcell ms i k)[i]?.getD 0))) := hid (markL_get _ i (by rw [fcell_length]; exact hlt))
            have CZ : Hid ((markL (markAt ms k))[i]? = some (.int .u8 ((markAt ms k)[i]?.getD 0))) := hid (markL_get _ i (by rw [M1.out.len]; exact hlt))
            have FL : Hid ((markL (fcell ms i k)).length = 16) := hid (by rw [markL_length, fcell_length])
            unfold maxLen at hm
            generalize (fcell ms i k)[i]?.getD 0 = x at CA HQ
            generalize (markAt ms k)[i]?.getD 0 = yb at CZ HQ
            generalize markAt ms k = z at HX M1 CZ
            obtain ⟨N, hN⟩ : ∃ N, N = wr.heap.size := ⟨_, rfl⟩
            have hz := Blk.new wr 23 (markL (List.replicate 16 0))
            obtain ⟨W, hW⟩ : ∃ W, W = (wr.alloc (.cells (markL (List.replicate 16 0)).toArray 23)).setCells wr.heap.size 0 (markL z) := ⟨_, rfl⟩
            have kW : Kp Nb wr W := by rw [hW]; exact Kp.setCells (fun h => absurd h (Nat.lt_irrefl _)) _ 0 _ ((Kp.refl Nb wr).alloc _)
            have TH := hid (mark_there hz (by rw [markL_length]; rfl) M1.out)
            have SI := hid (mark_sized M1.out)
            have ON := hid (all_oneCell_toArray (markL_one z))
            have HZ : Hid (Blk W N 23 (markL z)) := hid (by rw [hW, hN]; exact row_set hz (by rw [markL_length, markL_length, M1.out.len]; rfl))
            have HA1 := hid (HA.out.kept kW (fun h => h))
            have HR1 := hid (HR.out.kept kW (fun h => h))
            have HK1 := hid (HK.out.trans kW (fun _ _ h => h))
            clear hz kW hcell
            go_upto_region 8 with (first
              | (refine wpList_load_mid (by rfl) 23 (.tmp 15) (by rfl) blk (off + k * 16) (by rfl) (markL z) _ HX.out under_mark rfl (mark_infoL z M1.out.len) ?_)
              | (refine wpList_store_mid (by rfl) 23 (.tmp 6) (.tmp 16) (by rfl) wr.heap.size 0 (markL z).toArray (by rfl) (by rfl) TH.out SI.out ON.out ?_))
            rw [show (wr.alloc (.cells #[.int .u8 0, .int .u8 0, .int .u8 0, .int .u8 0, .int .u8 0, .int .u8 0, .int .u8 0, .int .u8 0, .int .u8 0, .int .u8 0, .int .u8 0, .int .u8 0, .int .u8 0, .int .u8 0, .int .u8 0, .int .u8 0] 23)).setCells wr.heap.size 0 (markL z) = W from hW.symm, ← hN]
            clear hW hN TH SI ON
            have PZ : Hid ((0 : Int) ≤ (i : Int)) := hid (by omega)
            have PL : Hid ((i : Int) < 16) := hid (by omega)
            have PT : Hid (((i : Nat) : Int).toNat = i) := hid (by omega)
            refine region_vals_last (n := 9) [none, none, none, none, none, none, none, none, none, none, none, none, none, none, none, none, none, some 0, some 1, some 2, some 3, some 4, some 5, some 6, some 7, some 8, none, none] [[(4, none)], [(4, none)], [(3, none), (18, some 1)], [(19, some 2)], [(4, none)], [(6, none), (21, some 4)], [(22, some 5)], [(20, some 3), (23, some 6)], [(3, none), (17, some 0)], [(25, some 8), (24, some 7)]] [some 17, some 18, some 19, some 20, some 21, some 22, some 23, some 24, some 25] [.int .i64 (i : Int), .int .i64 (i : Int), .pointer (some ⟨(w.heap.size + 1), i, none⟩), .int .u8 x, .int .i64 (i : Int), .pointer (some ⟨N, i, none⟩), .int .u8 yb, .int .u8 (bits .xor .u8 x yb), .pointer (some ⟨(w.heap.size + 1), i, none⟩)] (fun w' => Hid (Kp Nb W w')) (by kernel_rfl) (by kernel_rfl) (by kernel_rfl) (by kernel_rfl) ({ dst := none, op := Op.store 5 (Operand.tmp 25) (Operand.tmp 24), type := 0, pos := "ref.go:67", after := #[{ on := 8, ground := Ground.data }, { on := 7, ground := Ground.data }, { on := 0, ground := Ground.phase }, { on := 1, ground := Ground.phase }, { on := 2, ground := Ground.phase }, { on := 3, ground := Ground.phase }, { on := 4, ground := Ground.phase }, { on := 5, ground := Ground.phase }, { on := 6, ground := Ground.phase }, { on := 7, ground := Ground.phase }], guard := none }) rfl rfl (by kernel_rfl) (by kernel_rfl) ?hS (?hstep : VFrom _ _ _ _ _ _ 0 9).start ?hend
            case hstep =>
              refine VFrom.cons (VStep.val _ rfl _ rfl (.int .i64 (i : Int)) rfl trivial (fun ev wq hS he hr => ?_)) ?_
              · have r0 : ev (.tmp 4) = .int .i64 (i : Int) := hr (4, none) (by simp); have hk := he.1; clear hr he
                go_simp
              refine VFrom.cons (VStep.val _ rfl _ rfl (.int .i64 (i : Int)) rfl trivial (fun ev wq hS he hr => ?_)) ?_
              · have r0 : ev (.tmp 4) = .int .i64 (i : Int) := hr (4, none) (by simp); have hk := he.1; clear hr he
                go_simp
              refine VFrom.cons (VStep.val _ rfl _ rfl (.pointer (some ⟨(w.heap.size + 1), i, none⟩)) rfl trivial (fun ev wq hS he hr => ?_)) ?_
              · have r0 : ev (.tmp 3) = .pointer (some ⟨(w.heap.size + 1), 0, none⟩) := hr (3, none) (by simp); have r1 : ev (.tmp 18) = .int .i64 (i : Int) := hr (18, some 1) (by simp); have hk := he.1; clear hr he
                have e1 := PZ.out; have e2 := PL.out; have e3 := PT.out
                go_simp
              refine VFrom.cons (VStep.val _ rfl _ rfl (.int .u8 x) rfl trivial (fun ev wq hS he hr => ?_)) ?_
              · have r0 : ev (.tmp 19) = .pointer (some ⟨(w.heap.size + 1), i, none⟩) := hr (19, some 2) (by simp); have hk := he.1; clear hr he
                have c0 := ((HA1.out.kept hS.out (fun h => h)).cell i).trans CA.out
                go_simp
              refine VFrom.cons (VStep.val _ rfl _ rfl (.int .i64 (i : Int)) rfl trivial (fun ev wq hS he hr => ?_)) ?_
              · have r0 : ev (.tmp 4) = .int .i64 (i : Int) := hr (4, none) (by simp); have hk := he.1; clear hr he
                go_simp
              refine VFrom.cons (VStep.val _ rfl _ rfl (.pointer (some ⟨N, i, none⟩)) rfl trivial (fun ev wq hS he hr => ?_)) ?_
              · have r0 : ev (.tmp 6) = .pointer (some ⟨N, 0, none⟩) := hr (6, none) (by simp); have r1 : ev (.tmp 21) = .int .i64 (i : Int) := hr (21, some 4) (by simp); have hk := he.1; clear hr he
                have e1 := PZ.out; have e2 := PL.out; have e3 := PT.out
                go_simp
              refine VFrom.cons (VStep.val _ rfl _ rfl (.int .u8 yb) rfl trivial (fun ev wq hS he hr => ?_)) ?_
              · have r0 : ev (.tmp 22) = .pointer (some ⟨N, i, none⟩) := hr (22, some 5) (by simp); have hk := he.1; clear hr he
                have c0 := ((HZ.out.kept hS.out (fun h => h)).cell i).trans CZ.out
                go_simp
              refine VFrom.cons (VStep.val _ rfl _ rfl (.int .u8 (bits .xor .u8 x yb)) rfl trivial (fun ev wq hS he hr => ?_)) ?_
              · have r0 : ev (.tmp 20) = .int .u8 x := hr (20, some 3) (by simp); have r1 : ev (.tmp 23) = .int .u8 yb := hr (23, some 6) (by simp); have hk := he.1; clear hr he
                go_simp
              refine VFrom.cons (VStep.val _ rfl _ rfl (.pointer (some ⟨(w.heap.size + 1), i, none⟩)) rfl trivial (fun ev wq hS he hr => ?_)) ?_
              · have r0 : ev (.tmp 3) = .pointer (some ⟨(w.heap.size + 1), 0, none⟩) := hr (3, none) (by simp); have r1 : ev (.tmp 17) = .int .i64 (i : Int) := hr (17, some 0) (by simp); have hk := he.1; clear hr he
                have e1 := PZ.out; have e2 := PL.out; have e3 := PT.out
                go_simp
              exact VFrom.nil
            case hS => exact hid ((Kp.refl Nb W).drew)
            case hend =>
              intro af wy haf kh
              have HE := HA1.out.kept kh.out (fun h => h)
              have HA3 : Hid (Blk (wy.setCell ⟨w.heap.size + 1, i, none⟩ (.int .u8 (bits .xor .u8 x yb))) (w.heap.size + 1) 23 (markL (fcell ms i (k + 1)))) := hid (by rw [← HQ.out]; exact HE.set i _)
              have HR3 : Hid (Blk (wy.setCell ⟨w.heap.size + 1, i, none⟩ (.int .u8 (bits .xor .u8 x yb))) w.heap.size 23 (markL (List.replicate 16 0))) := hid ((HR1.out.kept kh.out (fun h => h)).other _ (by dsimp only; omega) _)
              have HK3 := hid ((HK1.out.trans kh.out (fun _ _ h => h)).new (B := w.heap.size + 1) (by omega) i (.int .u8 (bits .xor .u8 x yb)))
              refine wp_store_at 5 (.tmp 25) (.tmp 24) rfl (p := ⟨w.heap.size + 1, i, none⟩) (v := .int .u8 (bits .xor .u8 x yb)) (by rw [haf.out]; kernel_rfl) (by rw [haf.out]; kernel_rfl) (store_u8 HE (by rw [FL.out]; exact hlt) _) ?_
              rw [haf.out]
              clear haf kh HE
              simp only [putAll, List.zip_cons_cons, List.zip_nil_right, List.foldl_cons, List.foldl_nil, Act.put, List.setIfInBounds_toArray, List.set_cons_zero, List.set_cons_succ]
              go_wp2
              go_roundw
              case rel => exact ⟨k + 1, by omega, by go_num, HA3, HR3, HK3⟩
              case measure => simp [intOf]; omega
        · obtain rfl : k = ms.length := by omega
          have HA3 : Hid (Blk wr (w.heap.size + 1) 23 (markL (fcell ms (i + 1) 0))) := hid (by rw [← fcell_next]; exact HA.out)
          clear HA
          go_wp2
          go_roundw
          case rel => exact ⟨i + 1, by omega, by go_num, HA3, HR, HK⟩
          case measure => simp [intOf]; omega
    · obtain rfl : i = 16 := by omega
      rw [fcell_end] at HA
      have HL : Hid ((foldM ms).length = 16) := hid (by simp [foldM])
      obtain ⟨m, hm⟩ : ∃ m, foldM ms = m := ⟨_, rfl⟩
      rw [hm] at HA HL
      have HM := hid hm
      clear hm
      have hsz : (markL m).toArray.size = 16 := by rw [List.size_toArray, markL_length, HL.out]
      have TH : Hid (wr.there w.heap.size 0 (markL m).toArray.size) := hid (by rw [hsz]; exact HR.out.there 0 16 (by simp [markL_length]))
      clear hsz
      have SI : Hid ((Try.prog.info? 23).map (·.size) = some (markL m).toArray.size) := hid (by rw [List.size_toArray, markL_length, HL.out]; exact mark_info)
      have ON := hid (all_oneCell_toArray (markL_one m))
      have HF : Hid (Blk (wr.setCells w.heap.size 0 (markL m)) w.heap.size 23 (markL m)) := hid (row_set HR.out (by simp [markL_length, HL.out]))
      have HKF : Hid (Kp Nb w (wr.setCells w.heap.size 0 (markL m))) := hid (Kp.setCells (fun h => by omega) _ 0 wr HK.out)
      go_wp2_with (first
        | (refine wpList_load_mid (by rfl) 23 (.tmp 3) (by rfl) (w.heap.size + 1) 0 (by rfl) (markL m) _ (range_of HA.out) under_mark rfl (mark_infoL m HL.out) ?_)
        | (refine wpList_store_mid (by rfl) 23 (.tmp 2) (.tmp 27) (by rfl) w.heap.size 0 (markL m).toArray (by rfl) (by rfl) TH.out SI.out ON.out ?_))
      refine bodyPost_ret (v := markV m) (results_cell rfl _ w.heap.size (by rfl) _ (row_loadVar under_mark rfl (mark_infoL m HL.out) HF.out 0 (fun j _ => by rw [Nat.zero_add]))) rfl ⟨by rw [HM.out], HKF.out⟩

theorem make_two (a b : List Int) (ha : a.length = 16) (hb : b.length = 16) (w : World) : (Instr.buildSlice 56 2 #[(0, markV a), (1, markV b)]).run Try.prog w = .ok (.slice (some ⟨w.heap.size, 0, none⟩) 2 2) (w.alloc (.cells (markL a ++ markL b).toArray 23 (0, 0))) := by
  obtain ⟨a0, a1, a2, a3, a4, a5, a6, a7, a8, a9, a10, a11, a12, a13, a14, a15, rfl⟩ := sixteen a ha
  obtain ⟨b0, b1, b2, b3, b4, b5, b6, b7, b8, b9, b10, b11, b12, b13, b14, b15, rfl⟩ := sixteen b hb
  kernel_rfl
theorem mkSl_two {W : World} {B : Nat} {a b : List Int} (ha : MarkOk a) (hb : MarkOk b) (h : Blk W B 23 (markL a ++ markL b)) : MkSl W (.slice (some ⟨B, 0, none⟩) 2 2) [a, b] := by
  refine ⟨fun i => ?_, .inr ⟨B, 0, 2, rfl, Nat.le_refl 2, by decide, fun i hi => ?_⟩⟩
  · rcases i with _ | _ | i
    · exact ha
    · exact hb
    · exact zero_ok
  · have la : (markL a).length = 16 := by rw [markL_length, ha.len]
    have hi' : i < 2 := hi
    rcases i with _ | _ | i
    · exact h.range _ _ (fun j hj => by
        rw [Nat.zero_mul, Nat.zero_add]; exact List.getElem?_append_left hj)
    · exact h.range _ _ (fun j hj => by
        rw [List.getElem?_append_right (by omega), show 0 + (0 + 1) * 16 + j - (markL a).length = j from by omega]; rfl)
    · omega
def signC (s : Int) (x y : Cel) : Cel := (IntKind.i64.wrap (x.1 + IntKind.i64.wrap (s * y.1)), layL x.2.1 y.2.1, bits .xor .u64 x.2.2 y.2.2)
theorem signC_one (x y : Cel) : signC 1 x y = addC x y := by
  unfold signC addC
  rw [show IntKind.i64.wrap (x.1 + IntKind.i64.wrap (1 * y.1)) = IntKind.i64.wrap (x.1 + y.1) from by simp only [IntKind.wrap_i64]; omega]
theorem signC_neg (x y : Cel) : signC (-1) x y = subC x y := by
  unfold signC subC
  rw [show IntKind.i64.wrap (x.1 + IntKind.i64.wrap (-1 * y.1)) = IntKind.i64.wrap (x.1 - y.1) from by simp only [IntKind.wrap_i64]; omega]
theorem signC_ok {s : Int} {x y : Cel} : CelOk (signC s x y) := ⟨(wrap64_range _).1, (wrap64_range _).2, layL_ok _ _, (x64_rng _ _).1, (x64_rng _ _).2⟩

/-- The region of Add: the made slice is the ghost. -/
structure RaddS (W : World) (a b : List Int) (bs : List Bool) (g : Nat) (w : World) : Prop where
  kp : Kp Nb W w
  sl : bs[0]?.getD false = true → MkSl w (.slice (some ⟨g, 0, none⟩) 2 2) [a, b]
theorem RaddS.keptN {W : World} {a b : List Int} {bs : List Bool} {g : Nat} {w w' : World} (h : RaddS W a b bs g w) (k : Kp Nb w w') : RaddS W a b bs g w' := ⟨h.kp.trans k (fun _ _ h => h), fun e => (h.sl e).kept k⟩

set_option maxRecDepth 100000 in
set_option maxHeartbeats 4000000 in
theorem radd_any (s : Int) (x y : Cel) (w : World) (hx : CelOk x) (hy : CelOk y) :
    Calls Try.prog 47 #[cv x, cv y, .int .i64 s] w fun e w' => e = .returned (cv (signC s x y)) ∧ Kp Nb w w' := by
  obtain ⟨zs, hz⟩ : ∃ zs, zs = cl c0 := ⟨_, rfl⟩
  have ZL : Hid (zs.length = 18) := hid (by rw [hz]; exact cl_length c0_ok)
  obtain ⟨N, hN⟩ : ∃ N, N = w.heap.size := ⟨_, rfl⟩
  obtain ⟨W, hW⟩ : ∃ W, W = ((w.alloc (.cells (cl x).toArray 41)).alloc (.cells (cl y).toArray 41)).alloc (.cells zs.toArray 41) := ⟨_, rfl⟩
  have H1 : Hid (Blk W N 41 (cl x)) := hid (by rw [hW, hN]; exact ((Blk.new w _ _).alloc _).alloc _)
  have H2 : Hid (Blk W (N + 1) 41 (cl y)) := hid (by
    have h := (Blk.new (w.alloc (.cells (cl x).toArray 41)) 41 (cl y)).alloc (.cells zs.toArray 41)
    simp only [World.size_alloc] at h
    rw [hW, hN]
    exact h)
  have H3 : Hid (Blk W (N + 1 + 1) 41 zs) := hid (by
    have h := Blk.new ((w.alloc (.cells (cl x).toArray 41)).alloc (.cells (cl y).toArray 41)) 41 zs
    simp only [World.size_alloc] at h
    rw [hW, hN]
    exact h)
  have KW : Hid (Kp Nb w W) := hid (by rw [hW]; exact (((Kp.refl Nb w).alloc _).alloc _).alloc _)
  have LN : Hid (w.heap.size ≤ N) := hid (by rw [hN]; exact Nat.le_refl _)
  have OO : Hid (CelOk (signC s x y)) := hid signC_ok
  obtain ⟨r, hr⟩ : ∃ r, signC s x y = r := ⟨_, rfl⟩
  rw [hr] at OO ⊢
  have HR := hid hr
  clear hr
  obtain ⟨xc, xm, xk⟩ := x
  obtain ⟨yc, ym, yk⟩ := y
  have MX := hid hx.mark
  have MY := hid hy.mark
  dsimp only at MX MY
  obtain ⟨p, hp⟩ : ∃ p, IntKind.i64.wrap (s * yc) = p := ⟨_, rfl⟩
  obtain ⟨c, hc⟩ : ∃ c, IntKind.i64.wrap (xc + p) = c := ⟨_, rfl⟩
  obtain ⟨k, hk⟩ : ∃ k, bits .xor .u64 xk yk = k := ⟨_, rfl⟩
  obtain ⟨m, hm⟩ : ∃ m, layL xm ym = m := ⟨_, rfl⟩
  have CF : Hid (∀ v w, MkSl w v [xm, ym] → Calls Try.prog 66 #[v] w fun e w' => e = .returned (markV m) ∧ Kp Nb w w') := hid (fun v w h => by have h2 := rfold_any v _ w h; rw [fold_two MX.out, hm] at h2; exact h2)
  have HV : Hid (r = (c, m, k)) := hid (by rw [← HR.out, ← hc, ← hp, ← hm, ← hk]; rfl)
  have OM : Hid (m.length = 16) := hid (by rw [← hm]; exact layL_length _ _)
  have E1 := hid hp
  have E2 := hid hc
  have E3 := hid hk
  rw [hz] at hW
  clear hp hc hk hm hx hy HR hz
  go_enter Try.func47, Try.ntmps47
  go_wp2_with fail
  rw [show ((w.alloc (.cells (cl (xc, xm, xk)).toArray 41)).alloc (.cells (cl (yc, ym, yk)).toArray 41)).alloc (.cells #[.int .i64 0, .int .u8 0, .int .u8 0, .int .u8 0, .int .u8 0, .int .u8 0, .int .u8 0, .int .u8 0, .int .u8 0, .int .u8 0, .int .u8 0, .int .u8 0, .int .u8 0, .int .u8 0, .int .u8 0, .int .u8 0, .int .u8 0, .int .u64 0] 41) = W from hW.symm, ← hN]
  clear hW hN
  refine region_ghost_last (n := 19) (g0 := (0 : Nat)) [none, none, none, none, none, none, none, some 0, some 1, some 2, some 3, some 4, some 5, some 6, some 7, some 8, some 9, some 10, some 11, some 12, some 13, some 14, some 15, some 16, some 17, some 18] [[(3, none)], [(7, some 0)], [(2, none)], [(4, none)], [(10, some 3)], [(9, some 2), (11, some 4)], [(8, some 1), (12, some 5)], [(3, none)], [(14, some 7)], [(4, none)], [(16, some 9)], [(15, some 8), (17, some 10)], [(18, some 11)], [(3, none)], [(20, some 13)], [(4, none)], [(22, some 15)], [(21, some 14), (23, some 16)], [(13, some 6), (19, some 12), (24, some 17)], [(6, none), (25, some 18)]] [some 7, some 8, some 9, some 10, some 11, some 12, some 13, some 14, some 15, some 16, some 17, some 18, some 19, some 20, some 21, some 22, some 23, some 24, some 25] (fun g => [.pointer (some ⟨N, 0, none⟩), .int .i64 xc, .int .i64 s, .pointer (some ⟨(N + 1), 0, none⟩), .int .i64 yc, .int .i64 p, .int .i64 c, .pointer (some ⟨N, 1, none⟩), markV xm, .pointer (some ⟨(N + 1), 1, none⟩), markV ym, .slice (some ⟨g, 0, none⟩) 2 2, markV m, .pointer (some ⟨N, 17, none⟩), .int .u64 xk, .pointer (some ⟨(N + 1), 17, none⟩), .int .u64 yk, .int .u64 k, cv (c, m, k)]) [11] (RaddS W xm ym) (by kernel_rfl) (by kernel_rfl) (fun g => by kernel_rfl) (by kernel_rfl) (by kernel_rfl) ({ dst := none, op := Op.store 41 (Operand.tmp 6) (Operand.tmp 25), type := 0, pos := "ref.go:19", after := #[{ on := 18, ground := Ground.data }, { on := 12, ground := Ground.chain }, { on := 0, ground := Ground.phase }, { on := 1, ground := Ground.phase }, { on := 2, ground := Ground.phase }, { on := 3, ground := Ground.phase }, { on := 4, ground := Ground.phase }, { on := 5, ground := Ground.phase }, { on := 6, ground := Ground.phase }, { on := 7, ground := Ground.phase }, { on := 8, ground := Ground.phase }, { on := 9, ground := Ground.phase }, { on := 10, ground := Ground.phase }, { on := 11, ground := Ground.phase }, { on := 12, ground := Ground.phase }, { on := 13, ground := Ground.phase }, { on := 14, ground := Ground.phase }, { on := 15, ground := Ground.phase }, { on := 16, ground := Ground.phase }, { on := 17, ground := Ground.phase }, { on := 18, ground := Ground.phase }], guard := none }) rfl rfl (by kernel_rfl) (by kernel_rfl) ?hS (?hstep : GFrom _ _ _ _ _ _ _ 0 19).start ?hend
  case hstep =>
    refine GFrom.cons (GStep.val _ rfl rfl _ rfl (fun g => .pointer (some ⟨N, 0, none⟩)) (fun _ => rfl) (fun _ => trivial) (fun bs g ev wq hS he hr => ?_)) ?_
    · have r0 : ev (.tmp 3) = .pointer (some ⟨N, 0, none⟩) := hr (3, none) (by simp); have hk := he.1; clear hr he
      go_simp
    refine GFrom.cons (GStep.val _ rfl rfl _ rfl (fun g => .int .i64 xc) (fun _ => rfl) (fun _ => trivial) (fun bs g ev wq hS he hr => ?_)) ?_
    · have r0 : ev (.tmp 7) = .pointer (some ⟨N, 0, none⟩) := hr (7, some 0) (by simp); have hk := he.1; clear hr he
      have c0 := cell_c (H1.out.kept hS.kp (fun h => h))
      go_simp
    refine GFrom.cons (GStep.val _ rfl rfl _ rfl (fun g => .int .i64 s) (fun _ => rfl) (fun _ => trivial) (fun bs g ev wq hS he hr => ?_)) ?_
    · have r0 : ev (.tmp 2) = .int .i64 s := hr (2, none) (by simp); have hk := he.1; clear hr he
      go_simp
    refine GFrom.cons (GStep.val _ rfl rfl _ rfl (fun g => .pointer (some ⟨(N + 1), 0, none⟩)) (fun _ => rfl) (fun _ => trivial) (fun bs g ev wq hS he hr => ?_)) ?_
    · have r0 : ev (.tmp 4) = .pointer (some ⟨(N + 1), 0, none⟩) := hr (4, none) (by simp); have hk := he.1; clear hr he
      go_simp
    refine GFrom.cons (GStep.val _ rfl rfl _ rfl (fun g => .int .i64 yc) (fun _ => rfl) (fun _ => trivial) (fun bs g ev wq hS he hr => ?_)) ?_
    · have r0 : ev (.tmp 10) = .pointer (some ⟨(N + 1), 0, none⟩) := hr (10, some 3) (by simp); have hk := he.1; clear hr he
      have c0 := cell_c (H2.out.kept hS.kp (fun h => h))
      go_simp
    refine GFrom.cons (GStep.val _ rfl rfl _ rfl (fun g => .int .i64 p) (fun _ => rfl) (fun _ => trivial) (fun bs g ev wq hS he hr => ?_)) ?_
    · have r0 : ev (.tmp 9) = .int .i64 s := hr (9, some 2) (by simp); have r1 : ev (.tmp 11) = .int .i64 yc := hr (11, some 4) (by simp); have hk := he.1; clear hr he
      have e1 := E1.out
      go_simp
    refine GFrom.cons (GStep.val _ rfl rfl _ rfl (fun g => .int .i64 c) (fun _ => rfl) (fun _ => trivial) (fun bs g ev wq hS he hr => ?_)) ?_
    · have r0 : ev (.tmp 8) = .int .i64 xc := hr (8, some 1) (by simp); have r1 : ev (.tmp 12) = .int .i64 p := hr (12, some 5) (by simp); have hk := he.1; clear hr he
      have e1 := E2.out
      go_simp
    refine GFrom.cons (GStep.val _ rfl rfl _ rfl (fun g => .pointer (some ⟨N, 1, none⟩)) (fun _ => rfl) (fun _ => trivial) (fun bs g ev wq hS he hr => ?_)) ?_
    · have r0 : ev (.tmp 3) = .pointer (some ⟨N, 0, none⟩) := hr (3, none) (by simp); have hk := he.1; clear hr he
      go_simp
    refine GFrom.cons (GStep.val _ rfl rfl _ rfl (fun g => markV xm) (fun _ => rfl) (fun _ => trivial) (fun bs g ev wq hS he hr => ?_)) ?_
    · have r0 : ev (.tmp 14) = .pointer (some ⟨N, 1, none⟩) := hr (14, some 7) (by simp); have hk := he.1; clear hr he
      exact exec_load rfl r0 (mark_part (hid MX.out.len) (H1.out.kept hS.kp (fun h => h)))
    refine GFrom.cons (GStep.val _ rfl rfl _ rfl (fun g => .pointer (some ⟨(N + 1), 1, none⟩)) (fun _ => rfl) (fun _ => trivial) (fun bs g ev wq hS he hr => ?_)) ?_
    · have r0 : ev (.tmp 4) = .pointer (some ⟨(N + 1), 0, none⟩) := hr (4, none) (by simp); have hk := he.1; clear hr he
      go_simp
    refine GFrom.cons (GStep.val _ rfl rfl _ rfl (fun g => markV ym) (fun _ => rfl) (fun _ => trivial) (fun bs g ev wq hS he hr => ?_)) ?_
    · have r0 : ev (.tmp 16) = .pointer (some ⟨(N + 1), 1, none⟩) := hr (16, some 9) (by simp); have hk := he.1; clear hr he
      exact exec_load rfl r0 (mark_part (hid MY.out.len) (H2.out.kept hS.kp (fun h => h)))
    refine GFrom.cons (GStep.make _ rfl _ rfl (fun _ => trivial) (fun L g ev wq hL hd hcl hS he hr => ?_)) ?_
    · have r0 : ev (.tmp 15) = markV xm := hr (15, some 8) (by simp); have r1 : ev (.tmp 17) = markV ym := hr (17, some 10) (by simp); clear hr he
      have hc := mkSl_two MX.out MY.out (Blk.new wq 23 (markL xm ++ markL ym))
      have hn := hS.kp.trans ((Kp.refl Nb wq).alloc (.cells (markL xm ++ markL ym).toArray 23)) (fun _ _ h => h)
      exact ⟨.slice (some ⟨wq.heap.size, 0, none⟩) 2 2, wq.heap.size, _, exec_buildSlice rfl (by simp [r0, r1]) (make_two xm ym MX.out.len MY.out.len wq), rfl, old_set _ hL rfl, hn, fun _ => hc⟩
    refine GFrom.cons (GStep.call _ rfl rfl _ rfl (fun g => markV m) (fun _ => rfl) (fun _ => trivial) 66 (fun g => #[.slice (some ⟨g, 0, none⟩) 2 2]) (fun bs g ev wq hS he hr => ?_) (fun L g wq hd hL hS => ?_)) ?_
    · have r0 : ev (.tmp 18) = .slice (some ⟨g, 0, none⟩) 2 2 := hr (18, some 11) (by simp); have hk := he.1; have hf := he.2; clear hr he
      go_simp
    · exact (CF.out _ wq (hS.sl (by simp [bitsAt, hd 11 (by kernel_rfl)]))).mono fun e w' ⟨h1, h2⟩ => ⟨h1, hS.keptN h2⟩
    refine GFrom.cons (GStep.val _ rfl rfl _ rfl (fun g => .pointer (some ⟨N, 17, none⟩)) (fun _ => rfl) (fun _ => trivial) (fun bs g ev wq hS he hr => ?_)) ?_
    · have r0 : ev (.tmp 3) = .pointer (some ⟨N, 0, none⟩) := hr (3, none) (by simp); have hk := he.1; clear hr he
      go_simp
    refine GFrom.cons (GStep.val _ rfl rfl _ rfl (fun g => .int .u64 xk) (fun _ => rfl) (fun _ => trivial) (fun bs g ev wq hS he hr => ?_)) ?_
    · have r0 : ev (.tmp 20) = .pointer (some ⟨N, 17, none⟩) := hr (20, some 13) (by simp); have hk := he.1; clear hr he
      have c0 := cell_k MX.out.len (H1.out.kept hS.kp (fun h => h))
      go_simp
    refine GFrom.cons (GStep.val _ rfl rfl _ rfl (fun g => .pointer (some ⟨(N + 1), 17, none⟩)) (fun _ => rfl) (fun _ => trivial) (fun bs g ev wq hS he hr => ?_)) ?_
    · have r0 : ev (.tmp 4) = .pointer (some ⟨(N + 1), 0, none⟩) := hr (4, none) (by simp); have hk := he.1; clear hr he
      go_simp
    refine GFrom.cons (GStep.val _ rfl rfl _ rfl (fun g => .int .u64 yk) (fun _ => rfl) (fun _ => trivial) (fun bs g ev wq hS he hr => ?_)) ?_
    · have r0 : ev (.tmp 22) = .pointer (some ⟨(N + 1), 17, none⟩) := hr (22, some 15) (by simp); have hk := he.1; clear hr he
      have c0 := cell_k MY.out.len (H2.out.kept hS.kp (fun h => h))
      go_simp
    refine GFrom.cons (GStep.val _ rfl rfl _ rfl (fun g => .int .u64 k) (fun _ => rfl) (fun _ => trivial) (fun bs g ev wq hS he hr => ?_)) ?_
    · have r0 : ev (.tmp 21) = .int .u64 xk := hr (21, some 14) (by simp); have r1 : ev (.tmp 23) = .int .u64 yk := hr (23, some 16) (by simp); have hk := he.1; clear hr he
      have e1 := E3.out
      go_simp
    refine GFrom.cons (GStep.val _ rfl rfl _ rfl (fun g => cv (c, m, k)) (fun _ => rfl) (fun _ => trivial) (fun bs g ev wq hS he hr => ?_)) ?_
    · have r0 : ev (.tmp 13) = .int .i64 c := hr (13, some 6) (by simp); have r1 : ev (.tmp 19) = markV m := hr (19, some 12) (by simp); have r2 : ev (.tmp 24) = .int .u64 k := hr (24, some 17) (by simp); have hk := he.1; clear hr he
      exact exec_build rfl (by simp [r0, r1, r2]) (build_cell c m k OM.out wq)
    exact GFrom.nil
  case hS => exact ⟨(Kp.refl Nb W).drew, fun h => by simp at h⟩
  case hend =>
    intro g af wy haf kh
    have HE := H3.out.kept kh.kp (fun h => h)
    have HF : Hid (Blk (wy.setCells (N + 1 + 1) 0 (cl r)) (N + 1 + 1) 41 (cl r)) := hid (row_set HE (by rw [cl_length OO.out, ZL.out]))
    have K9 : Hid (Kp Nb w (wy.setCells (N + 1 + 1) 0 (cl r))) := hid (Kp.setCells (fun h => by have := LN.out; omega) _ 0 _ (KW.out.trans kh.kp (fun _ _ h => h)))
    refine cv_end (x := r) (ad := .tmp 6) (v := .tmp 25) OO.out HE ZL.out rfl (by rw [haf.out]; kernel_rfl) (by rw [haf.out, HV.out]; kernel_rfl) ?_
    rw [haf.out]
    clear haf kh HE
    simp only [putAll, List.zip_cons_cons, List.zip_nil_right, List.foldl_cons, List.foldl_nil, Act.put, List.setIfInBounds_toArray, List.set_cons_zero, List.set_cons_succ]
    go_wp2
    refine bodyPost_ret (v := cv r) (results_cell rfl _ (N + 1 + 1) (by rfl) _ (cell_loadVar (hid OO.out.mark.len) HF)) rfl ⟨rfl, K9.out⟩

end Go.Proofs.Yteedceepoindeaa
