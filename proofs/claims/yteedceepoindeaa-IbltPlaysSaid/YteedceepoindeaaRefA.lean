/-
  Walks of the document's own answer for layer 1: up (a number moved round), for the five distances that it is asked for. No condition.
-/
import Derived.Test.YteedceepoindeaaSipA
import Derived.Deep.RegionHeld3
import Derived.Deep.DeepCutAuto
namespace Go.Proofs.Yteedceepoindeaa
open Go.RowKit

set_option maxHeartbeats 400000 in
theorem up_any (x : Int) (k : Int) (w : World) (hk : k = 13 ∨ k = 16 ∨ k = 17 ∨ k = 21 ∨ k = 32) : Calls Try.prog 75 #[.int .u64 x, .int .i64 k] w fun e w' => e = .returned (.int .u64 (rotl x k.toNat)) ∧ ∃ nq, w' = w.drewN nq := by
  rcases hk with rfl | rfl | rfl | rfl | rfl
  all_goals
    go_enter Try.func75, Try.ntmps75
    go_wp2
    go_quiet (fail)
    go_wp2
    go_ret
    exact ⟨rfl, ⟨nq, rfl⟩⟩

set_option maxRecDepth 100000 in
set_option maxHeartbeats 2000000 in
theorem ref_round (v : V4) (w : World) : Calls Try.prog 62 #[.agg #[.int .u64 v.a, .int .u64 v.b, .int .u64 v.c, .int .u64 v.d]] w fun e w' => e = .returned (.agg #[.int .u64 (rnd v).a, .int .u64 (rnd v).b, .int .u64 (rnd v).c, .int .u64 (rnd v).d]) ∧ Kp Nb w w' := by
  go_enter Try.func62, Try.ntmps62
  go_wp2_with fail
  obtain ⟨a1, ea1⟩ : ∃ a1, IntKind.u64.wrap (v.a + v.b) = a1 := ⟨_, rfl⟩
  have HB1 := hid ((Blk.new w 104 [.int .u64 (IntKind.u64.wrap (v.a + v.b)), .int .u64 v.b, .int .u64 v.c, .int .u64 v.d]).alloc (.cells #[.int .u64 0, .int .u64 0, .int .u64 0, .int .u64 0] 104))
  have HK1 := hid (((Kp.refl Nb w).alloc (.cells #[.int .u64 (IntKind.u64.wrap (v.a + v.b)), .int .u64 v.b, .int .u64 v.c, .int .u64 v.d] 104)).alloc (.cells #[.int .u64 0, .int .u64 0, .int .u64 0, .int .u64 0] 104))
  obtain ⟨w1, hW⟩ : ∃ w1, w1 = (World.alloc (World.alloc w (.cells #[.int .u64 (IntKind.u64.wrap (v.a + v.b)), .int .u64 v.b, .int .u64 v.c, .int .u64 v.d] 104)) (.cells #[.int .u64 0, .int .u64 0, .int .u64 0, .int .u64 0] 104)) := ⟨_, rfl⟩
  have HB1 : Hid (Blk w1 w.heap.size 104 [.int .u64 (IntKind.u64.wrap (v.a + v.b)), .int .u64 v.b, .int .u64 v.c, .int .u64 v.d]) := by rw [hW]; exact HB1
  have HK1 : Hid (Kp Nb w w1) := by rw [hW]; exact HK1
  have HZ1 : Hid (Blk w1 (w.heap.size + 1) 104 [.int .u64 0, .int .u64 0, .int .u64 0, .int .u64 0]) := by rw [hW]; have := Blk.new (World.alloc w (.cells #[.int .u64 (IntKind.u64.wrap (v.a + v.b)), .int .u64 v.b, .int .u64 v.c, .int .u64 v.d] 104)) 104 [.int .u64 0, .int .u64 0, .int .u64 0, .int .u64 0]; rw [World.size_alloc] at this; exact this
  rw [← hW]
  clear hW
  rw [ea1] at HB1
  go_upto_region 2 with fail
  go_cut [11] (fun _ wx => Hid (Blk wx w.heap.size 104 [.int .u64 a1, .int .u64 (bits .xor .u64 (rotl v.b 13) a1), .int .u64 v.c, .int .u64 v.d]) ∧ Hid (Kp Nb w wx) ∧ Hid (Blk wx (w.heap.size + 1) 104 [.int .u64 0, .int .u64 0, .int .u64 0, .int .u64 0]))
  case first =>
    have q1 : w1.cell? ⟨w.heap.size, 1, none⟩ = some (.int .u64 v.b) := HB1.out.cell 1
    have q0 : w1.cell? ⟨w.heap.size, 0, none⟩ = some (.int .u64 a1) := HB1.out.cell 0
    have f1 : w1.frozen? ⟨w.heap.size, 1, none⟩ = false := HB1.out.frozen 1
    go_region_with (go_at_call 75; refine (up_any _ _ _ (by decide)).mono ?_; rintro e wy ⟨rfl, nq, rfl⟩)
    all_goals (go_wp2_with fail; go_meet; exact ⟨hid (Blk.set (Blk.drewN HB1.out (1 + nq)) 1 (.int .u64 _)), hid ((HK1.out.drewN (1 + nq)).setCell (p := ⟨w.heap.size, 1, none⟩) (fun h => absurd h (Nat.lt_irrefl _)) (.int .u64 _)), hid (Blk.other (Blk.drewN HZ1.out (1 + nq)) ⟨w.heap.size, 1, none⟩ (by show w.heap.size + 1 ≠ w.heap.size; omega) (.int .u64 _))⟩)
  case rest =>
    obtain ⟨HB2, HK2, HZ2⟩ := hcut
    obtain ⟨x2, ex2⟩ : ∃ y, (bits .xor .u64 (rotl v.b 13) a1) = y := ⟨_, rfl⟩
    rw [ex2] at HB2
    have ex2 := hid ex2
    clear HB1 HK1 HZ1
    have q0 : wc.cell? ⟨w.heap.size, 0, none⟩ = some (.int .u64 a1) := HB2.out.cell 0
    have f0 : wc.frozen? ⟨w.heap.size, 0, none⟩ = false := HB2.out.frozen 0
    go_wp2_with fail
    refine (up_any _ _ _ (by decide)).mono ?_
    rintro e wy ⟨rfl, nq, rfl⟩
    have q0' : (wc.drewN nq).cell? ⟨w.heap.size, 0, none⟩ = some (.int .u64 a1) := q0
    have f0' : (wc.drewN nq).frozen? ⟨w.heap.size, 0, none⟩ = false := f0
    go_upto_region 4 with fail
    obtain ⟨x3, ex3⟩ : ∃ y, (rotl a1 32) = y := ⟨_, rfl⟩
    obtain ⟨w3, hW⟩ : ∃ y, y = ((wc.drewN nq).setCell ⟨w.heap.size, 0, none⟩ (.int .u64 (rotl a1 32))) := ⟨_, rfl⟩
    have HB3 : Hid (Blk w3 w.heap.size 104 [.int .u64 x3, .int .u64 x2, .int .u64 v.c, .int .u64 v.d]) := by rw [hW, ← ex3]; exact Blk.set (Blk.drewN HB2.out nq) 0 (.int .u64 (rotl a1 32))
    have HK3 : Hid (Kp Nb w w3) := by rw [hW]; exact Kp.setCell (HK2.out.drewN nq) (p := ⟨w.heap.size, 0, none⟩) (fun h => absurd h (Nat.lt_irrefl _)) (.int .u64 (rotl a1 32))
    have HZ3 : Hid (Blk w3 (w.heap.size + 1) 104 [.int .u64 0, .int .u64 0, .int .u64 0, .int .u64 0]) := by rw [hW]; exact Blk.other (Blk.drewN HZ2.out nq) ⟨w.heap.size, 0, none⟩ (by show w.heap.size + 1 ≠ w.heap.size; omega) (.int .u64 (rotl a1 32))
    rw [← hW]
    clear hW q0 f0 q0' f0' HB2 HK2 HZ2
    have ex3 := hid ex3
    have q2 : w3.cell? ⟨w.heap.size, 2, none⟩ = some (.int .u64 v.c) := HB3.out.cell 2
    have q3 : w3.cell? ⟨w.heap.size, 3, none⟩ = some (.int .u64 v.d) := HB3.out.cell 3
    have f2 : w3.frozen? ⟨w.heap.size, 2, none⟩ = false := HB3.out.frozen 2
    go_upto_region 5 with fail
    obtain ⟨x4, ex4⟩ : ∃ y, (IntKind.u64.wrap (v.c + v.d)) = y := ⟨_, rfl⟩
    obtain ⟨w4, hW⟩ : ∃ y, y = (w3.setCell ⟨w.heap.size, 2, none⟩ (.int .u64 (IntKind.u64.wrap (v.c + v.d)))) := ⟨_, rfl⟩
    have HB4 : Hid (Blk w4 w.heap.size 104 [.int .u64 x3, .int .u64 x2, .int .u64 x4, .int .u64 v.d]) := by rw [hW, ← ex4]; exact Blk.set HB3.out 2 (.int .u64 (IntKind.u64.wrap (v.c + v.d)))
    have HK4 : Hid (Kp Nb w w4) := by rw [hW]; exact Kp.setCell HK3.out (p := ⟨w.heap.size, 2, none⟩) (fun h => absurd h (Nat.lt_irrefl _)) (.int .u64 (IntKind.u64.wrap (v.c + v.d)))
    have HZ4 : Hid (Blk w4 (w.heap.size + 1) 104 [.int .u64 0, .int .u64 0, .int .u64 0, .int .u64 0]) := by rw [hW]; exact Blk.other HZ3.out ⟨w.heap.size, 2, none⟩ (by show w.heap.size + 1 ≠ w.heap.size; omega) (.int .u64 (IntKind.u64.wrap (v.c + v.d)))
    rw [← hW]
    clear hW q2 q3 f2 HB3 HK3 HZ3
    have ex4 := hid ex4
    go_upto_region 5 with fail
    go_cut [11] (fun _ wx => Hid (Blk wx w.heap.size 104 [.int .u64 x3, .int .u64 x2, .int .u64 x4, .int .u64 (bits .xor .u64 (rotl v.d 16) x4)]) ∧ Hid (Kp Nb w wx) ∧ Hid (Blk wx (w.heap.size + 1) 104 [.int .u64 0, .int .u64 0, .int .u64 0, .int .u64 0]))
    case first =>
      have q3 : w4.cell? ⟨w.heap.size, 3, none⟩ = some (.int .u64 v.d) := HB4.out.cell 3
      have q2 : w4.cell? ⟨w.heap.size, 2, none⟩ = some (.int .u64 x4) := HB4.out.cell 2
      have f3 : w4.frozen? ⟨w.heap.size, 3, none⟩ = false := HB4.out.frozen 3
      go_region_with (go_at_call 75; refine (up_any _ _ _ (by decide)).mono ?_; rintro e wy ⟨rfl, nq, rfl⟩)
      all_goals (go_wp2_with fail; go_meet; exact ⟨hid (Blk.set (Blk.drewN HB4.out (1 + nq)) 3 (.int .u64 _)), hid ((HK4.out.drewN (1 + nq)).setCell (p := ⟨w.heap.size, 3, none⟩) (fun h => absurd h (Nat.lt_irrefl _)) (.int .u64 _)), hid (Blk.other (Blk.drewN HZ4.out (1 + nq)) ⟨w.heap.size, 3, none⟩ (by show w.heap.size + 1 ≠ w.heap.size; omega) (.int .u64 _))⟩)
    case rest =>
      obtain ⟨HB5, HK5, HZ5⟩ := hcut
      obtain ⟨x5, ex5⟩ : ∃ y, (bits .xor .u64 (rotl v.d 16) x4) = y := ⟨_, rfl⟩
      rw [ex5] at HB5
      have ex5 := hid ex5
      clear HB4 HK4 HZ4
      have q0 : wc.cell? ⟨w.heap.size, 0, none⟩ = some (.int .u64 x3) := HB5.out.cell 0
      have q3 : wc.cell? ⟨w.heap.size, 3, none⟩ = some (.int .u64 x5) := HB5.out.cell 3
      have f0 : wc.frozen? ⟨w.heap.size, 0, none⟩ = false := HB5.out.frozen 0
      go_upto_region 7 with fail
      obtain ⟨x6, ex6⟩ : ∃ y, (IntKind.u64.wrap (x3 + x5)) = y := ⟨_, rfl⟩
      obtain ⟨w6, hW⟩ : ∃ y, y = (wc.setCell ⟨w.heap.size, 0, none⟩ (.int .u64 (IntKind.u64.wrap (x3 + x5)))) := ⟨_, rfl⟩
      have HB6 : Hid (Blk w6 w.heap.size 104 [.int .u64 x6, .int .u64 x2, .int .u64 x4, .int .u64 x5]) := by rw [hW, ← ex6]; exact Blk.set HB5.out 0 (.int .u64 (IntKind.u64.wrap (x3 + x5)))
      have HK6 : Hid (Kp Nb w w6) := by rw [hW]; exact Kp.setCell HK5.out (p := ⟨w.heap.size, 0, none⟩) (fun h => absurd h (Nat.lt_irrefl _)) (.int .u64 (IntKind.u64.wrap (x3 + x5)))
      have HZ6 : Hid (Blk w6 (w.heap.size + 1) 104 [.int .u64 0, .int .u64 0, .int .u64 0, .int .u64 0]) := by rw [hW]; exact Blk.other HZ5.out ⟨w.heap.size, 0, none⟩ (by show w.heap.size + 1 ≠ w.heap.size; omega) (.int .u64 (IntKind.u64.wrap (x3 + x5)))
      rw [← hW]
      clear hW q0 q3 f0 HB5 HK5 HZ5
      have ex6 := hid ex6
      go_upto_region 7 with fail
      go_cut [11] (fun _ wx => Hid (Blk wx w.heap.size 104 [.int .u64 x6, .int .u64 x2, .int .u64 x4, .int .u64 (bits .xor .u64 (rotl x5 21) x6)]) ∧ Hid (Kp Nb w wx) ∧ Hid (Blk wx (w.heap.size + 1) 104 [.int .u64 0, .int .u64 0, .int .u64 0, .int .u64 0]))
      case first =>
        have q3 : w6.cell? ⟨w.heap.size, 3, none⟩ = some (.int .u64 x5) := HB6.out.cell 3
        have q0 : w6.cell? ⟨w.heap.size, 0, none⟩ = some (.int .u64 x6) := HB6.out.cell 0
        have f3 : w6.frozen? ⟨w.heap.size, 3, none⟩ = false := HB6.out.frozen 3
        go_region_with (go_at_call 75; refine (up_any _ _ _ (by decide)).mono ?_; rintro e wy ⟨rfl, nq, rfl⟩)
        all_goals (go_wp2_with fail; go_meet; exact ⟨hid (Blk.set (Blk.drewN HB6.out (1 + nq)) 3 (.int .u64 _)), hid ((HK6.out.drewN (1 + nq)).setCell (p := ⟨w.heap.size, 3, none⟩) (fun h => absurd h (Nat.lt_irrefl _)) (.int .u64 _)), hid (Blk.other (Blk.drewN HZ6.out (1 + nq)) ⟨w.heap.size, 3, none⟩ (by show w.heap.size + 1 ≠ w.heap.size; omega) (.int .u64 _))⟩)
      case rest =>
        obtain ⟨HB7, HK7, HZ7⟩ := hcut
        obtain ⟨x7, ex7⟩ : ∃ y, (bits .xor .u64 (rotl x5 21) x6) = y := ⟨_, rfl⟩
        rw [ex7] at HB7
        have ex7 := hid ex7
        clear HB6 HK6 HZ6
        have q2 : wc.cell? ⟨w.heap.size, 2, none⟩ = some (.int .u64 x4) := HB7.out.cell 2
        have q1 : wc.cell? ⟨w.heap.size, 1, none⟩ = some (.int .u64 x2) := HB7.out.cell 1
        have f2 : wc.frozen? ⟨w.heap.size, 2, none⟩ = false := HB7.out.frozen 2
        go_upto_region 9 with fail
        obtain ⟨x8, ex8⟩ : ∃ y, (IntKind.u64.wrap (x4 + x2)) = y := ⟨_, rfl⟩
        obtain ⟨w8, hW⟩ : ∃ y, y = (wc.setCell ⟨w.heap.size, 2, none⟩ (.int .u64 (IntKind.u64.wrap (x4 + x2)))) := ⟨_, rfl⟩
        have HB8 : Hid (Blk w8 w.heap.size 104 [.int .u64 x6, .int .u64 x2, .int .u64 x8, .int .u64 x7]) := by rw [hW, ← ex8]; exact Blk.set HB7.out 2 (.int .u64 (IntKind.u64.wrap (x4 + x2)))
        have HK8 : Hid (Kp Nb w w8) := by rw [hW]; exact Kp.setCell HK7.out (p := ⟨w.heap.size, 2, none⟩) (fun h => absurd h (Nat.lt_irrefl _)) (.int .u64 (IntKind.u64.wrap (x4 + x2)))
        have HZ8 : Hid (Blk w8 (w.heap.size + 1) 104 [.int .u64 0, .int .u64 0, .int .u64 0, .int .u64 0]) := by rw [hW]; exact Blk.other HZ7.out ⟨w.heap.size, 2, none⟩ (by show w.heap.size + 1 ≠ w.heap.size; omega) (.int .u64 (IntKind.u64.wrap (x4 + x2)))
        rw [← hW]
        clear hW q2 q1 f2 HB7 HK7 HZ7
        have ex8 := hid ex8
        go_upto_region 9 with fail
        go_cut [11] (fun _ wx => Hid (Blk wx w.heap.size 104 [.int .u64 x6, .int .u64 (bits .xor .u64 (rotl x2 17) x8), .int .u64 x8, .int .u64 x7]) ∧ Hid (Kp Nb w wx) ∧ Hid (Blk wx (w.heap.size + 1) 104 [.int .u64 0, .int .u64 0, .int .u64 0, .int .u64 0]))
        case first =>
          have q1 : w8.cell? ⟨w.heap.size, 1, none⟩ = some (.int .u64 x2) := HB8.out.cell 1
          have q2 : w8.cell? ⟨w.heap.size, 2, none⟩ = some (.int .u64 x8) := HB8.out.cell 2
          have f1 : w8.frozen? ⟨w.heap.size, 1, none⟩ = false := HB8.out.frozen 1
          go_region_with (go_at_call 75; refine (up_any _ _ _ (by decide)).mono ?_; rintro e wy ⟨rfl, nq, rfl⟩)
          all_goals (go_wp2_with fail; go_meet; exact ⟨hid (Blk.set (Blk.drewN HB8.out (1 + nq)) 1 (.int .u64 _)), hid ((HK8.out.drewN (1 + nq)).setCell (p := ⟨w.heap.size, 1, none⟩) (fun h => absurd h (Nat.lt_irrefl _)) (.int .u64 _)), hid (Blk.other (Blk.drewN HZ8.out (1 + nq)) ⟨w.heap.size, 1, none⟩ (by show w.heap.size + 1 ≠ w.heap.size; omega) (.int .u64 _))⟩)
        case rest =>
          obtain ⟨HB9, HK9, HZ9⟩ := hcut
          obtain ⟨x9, ex9⟩ : ∃ y, (bits .xor .u64 (rotl x2 17) x8) = y := ⟨_, rfl⟩
          rw [ex9] at HB9
          have ex9 := hid ex9
          clear HB8 HK8 HZ8
          have q2 : wc.cell? ⟨w.heap.size, 2, none⟩ = some (.int .u64 x8) := HB9.out.cell 2
          have f2 : wc.frozen? ⟨w.heap.size, 2, none⟩ = false := HB9.out.frozen 2
          go_wp2_with fail
          refine (up_any _ _ _ (by decide)).mono ?_
          rintro e wy ⟨rfl, nq, rfl⟩
          have q2' : (wc.drewN nq).cell? ⟨w.heap.size, 2, none⟩ = some (.int .u64 x8) := q2
          have f2' : (wc.drewN nq).frozen? ⟨w.heap.size, 2, none⟩ = false := f2
          go_upto_region 11 with fail
          obtain ⟨x10, ex10⟩ : ∃ y, (rotl x8 32) = y := ⟨_, rfl⟩
          obtain ⟨w10, hW⟩ : ∃ y, y = ((wc.drewN nq).setCell ⟨w.heap.size, 2, none⟩ (.int .u64 (rotl x8 32))) := ⟨_, rfl⟩
          have HB10 : Hid (Blk w10 w.heap.size 104 [.int .u64 x6, .int .u64 x9, .int .u64 x10, .int .u64 x7]) := by rw [hW, ← ex10]; exact Blk.set (Blk.drewN HB9.out nq) 2 (.int .u64 (rotl x8 32))
          have HK10 : Hid (Kp Nb w w10) := by rw [hW]; exact Kp.setCell (HK9.out.drewN nq) (p := ⟨w.heap.size, 2, none⟩) (fun h => absurd h (Nat.lt_irrefl _)) (.int .u64 (rotl x8 32))
          have HZ10 : Hid (Blk w10 (w.heap.size + 1) 104 [.int .u64 0, .int .u64 0, .int .u64 0, .int .u64 0]) := by rw [hW]; exact Blk.other (Blk.drewN HZ9.out nq) ⟨w.heap.size, 2, none⟩ (by show w.heap.size + 1 ≠ w.heap.size; omega) (.int .u64 (rotl x8 32))
          rw [← hW]
          clear hW q2 f2 q2' f2' HB9 HK9 HZ9
          have ex10 := hid ex10
          have q0 : w10.cell? ⟨w.heap.size, 0, none⟩ = some (.int .u64 x6) := HB10.out.cell 0
          have q1 : w10.cell? ⟨w.heap.size, 1, none⟩ = some (.int .u64 x9) := HB10.out.cell 1
          have q2 : w10.cell? ⟨w.heap.size, 2, none⟩ = some (.int .u64 x10) := HB10.out.cell 2
          have q3 : w10.cell? ⟨w.heap.size, 3, none⟩ = some (.int .u64 x7) := HB10.out.cell 3
          have z0 : w10.cell? ⟨w.heap.size + 1, 0, none⟩ = some (.int .u64 0) := HZ10.out.cell 0
          have fz0 : w10.frozen? ⟨w.heap.size + 1, 0, none⟩ = false := HZ10.out.frozen 0
          have z1 : w10.cell? ⟨w.heap.size + 1, 1, none⟩ = some (.int .u64 0) := HZ10.out.cell 1
          have fz1 : w10.frozen? ⟨w.heap.size + 1, 1, none⟩ = false := HZ10.out.frozen 1
          have z2 : w10.cell? ⟨w.heap.size + 1, 2, none⟩ = some (.int .u64 0) := HZ10.out.cell 2
          have fz2 : w10.frozen? ⟨w.heap.size + 1, 2, none⟩ = false := HZ10.out.frozen 2
          have z3 : w10.cell? ⟨w.heap.size + 1, 3, none⟩ = some (.int .u64 0) := HZ10.out.cell 3
          have fz3 : w10.frozen? ⟨w.heap.size + 1, 3, none⟩ = false := HZ10.out.frozen 3
          go_wp2
          obtain ⟨wf, hwf⟩ : ∃ y, y = ((((w10.setCell ⟨w.heap.size + 1, 0, none⟩ (.int .u64 x6)).setCell ⟨w.heap.size + 1, 1, none⟩ (.int .u64 x9)).setCell ⟨w.heap.size + 1, 2, none⟩ (.int .u64 x10)).setCell ⟨w.heap.size + 1, 3, none⟩ (.int .u64 x7)) := ⟨_, rfl⟩
          have HF : Hid (Blk wf (w.heap.size + 1) 104 [.int .u64 x6, .int .u64 x9, .int .u64 x10, .int .u64 x7]) := by rw [hwf]; exact Blk.set (Blk.set (Blk.set (Blk.set HZ10.out 0 (.int .u64 x6)) 1 (.int .u64 x9)) 2 (.int .u64 x10)) 3 (.int .u64 x7)
          have HKF : Hid (Kp Nb w wf) := by rw [hwf]; exact (Kp.setCell (Kp.setCell (Kp.setCell (Kp.setCell HK10.out (p := ⟨w.heap.size + 1, 0, none⟩) (fun h => absurd h (show ¬ w.heap.size + 1 < w.heap.size by omega)) (.int .u64 x6)) (p := ⟨w.heap.size + 1, 1, none⟩) (fun h => absurd h (show ¬ w.heap.size + 1 < w.heap.size by omega)) (.int .u64 x9)) (p := ⟨w.heap.size + 1, 2, none⟩) (fun h => absurd h (show ¬ w.heap.size + 1 < w.heap.size by omega)) (.int .u64 x10)) (p := ⟨w.heap.size + 1, 3, none⟩) (fun h => absurd h (show ¬ w.heap.size + 1 < w.heap.size by omega)) (.int .u64 x7))
          rw [← hwf]
          clear hwf
          have y0 : wf.cell? ⟨w.heap.size + 1, 0, none⟩ = some (.int .u64 x6) := HF.out.cell 0
          have y1 : wf.cell? ⟨w.heap.size + 1, 1, none⟩ = some (.int .u64 x9) := HF.out.cell 1
          have y2 : wf.cell? ⟨w.heap.size + 1, 2, none⟩ = some (.int .u64 x10) := HF.out.cell 2
          have y3 : wf.cell? ⟨w.heap.size + 1, 3, none⟩ = some (.int .u64 x7) := HF.out.cell 3
          refine bodyPost_ret (v := .agg #[.int .u64 x6, .int .u64 x9, .int .u64 x10, .int .u64 x7]) (by simp [results, Try.results62, go_sem, y0, y1, y2, y3]) rfl ⟨?_, HKF.out⟩
          rw [← ex10.out, ← ex9.out, ← ex8.out, ← ex7.out, ← ex6.out, ← ex5.out, ← ex4.out, ← ex3.out, ← ex2.out, ← ea1]
          rfl

end Go.Proofs.Yteedceepoindeaa
