/- The laws' helpers 'step' and 'same': what each call answers. -/
import Derived.Test.YtchibjdhdbkdhaaEStep
namespace Go.Proofs.Ytchibjdhdbkdhaa
open Go.RowKit
set_option linter.unusedVariables false
set_option maxRecDepth 100000
set_option linter.unusedSimpArgs false

theorem box_cells {w : World} {p : Nat} {x0 x1 x2 x3 : Value} {t : TypeId} {fz : Nat × Nat} (h : w.heap[p]? = some (.cells #[x0, x1, x2, x3] t fz)) : w.cell? ⟨p, 0, none⟩ = some x0 ∧ w.cell? ⟨p, 1, none⟩ = some x1 ∧ w.cell? ⟨p, 2, none⟩ = some x2 ∧ w.cell? ⟨p, 3, none⟩ = some x3 := by
  refine ⟨?_, ?_, ?_, ?_⟩ <;> simp [World.cell?, h]
set_option maxHeartbeats 8000000 in
theorem step_any (w : World) (B b c : Nat) (D : Dsk) (v : Stp) (hv : StepFits v) (ho : D.ops < 4611686018427387904) (hB : B ≤ b) (hC : B ≤ c) (h : Both w b c D) :
    Calls Try.prog 18 #[.pointer (some ⟨b, 0, none⟩), .pointer (some ⟨c, 0, none⟩), .agg #[.int .i64 v.kind, .int .i64 v.i, .string v.s, .int .u64 (v.keep : Int)]] w fun e w' => e = .returned (.bool true) ∧ Both w' b c (D.step v) ∧ Below B w w' := by
  obtain ⟨hinv, sl, vw, vi, vc, cl, fk, keep, h⟩ := h
  obtain ⟨kd, i, s, kp⟩ := v
  obtain ⟨v1, v2, v3, v4⟩ := hv
  simp only at v1 v2 v3 v4 ⊢
  have hbw := lt_of_block h.d.blk
  have t0 := h.below (w' := w.alloc (.cells #[.int .i64 kd, .int .i64 i, .string s, .int .u64 (kp : Int)] 31)) ((Below.refl _ _).alloc (Nat.le_refl _) _)
  have P0 : (w.alloc (.cells #[.int .i64 kd, .int .i64 i, .string s, .int .u64 (kp : Int)] 31)).heap[w.heap.size]? = some (.cells #[.int .i64 kd, .int .i64 i, .string s, .int .u64 (kp : Int)] 31 (0, 0)) := heap_alloc_last w _
  have B0 : Below B w (w.alloc (.cells #[.int .i64 kd, .int .i64 i, .string s, .int .u64 (kp : Int)] 31)) := (Below.refl _ _).alloc (by omega) _
  have hgood := h.d.good
  have HIV := hid (hinv.step hgood ⟨kd, i, s, kp⟩)
  have HV := hid hinv
  clear h hinv
  have hcs : kd = 0 ∨ kd = 1 ∨ kd = 2 ∨ kd = 3 ∨ kd = 4 ∨ kd = 5 ∨ (kd ≠ 0 ∧ kd ≠ 1 ∧ kd ≠ 2 ∧ kd ≠ 3 ∧ kd ≠ 4 ∧ kd ≠ 5) := by omega
  rcases hcs with rfl | rfl | rfl | rfl | rfl | rfl | ⟨n0, n1, n2, n3, n4, n5⟩
  · have HE := hid (show D.step ⟨0, i, s, kp⟩ = (D.write i s).1 by simp [Dsk.step])
    have tt := t0.drew
    have Q0 : (w.alloc (.cells #[.int .i64 0, .int .i64 i, .string s, .int .u64 (kp : Int)] 31)).drew.heap[w.heap.size]? = some (.cells #[.int .i64 0, .int .i64 i, .string s, .int .u64 (kp : Int)] 31 (0, 0)) := P0
    have BB := B0.drew
    go_enter Try.func18, Try.ntmps18
    go_wp2
    go_region_held3 (fun w' => w'.cell? ⟨w.heap.size, 1, none⟩ = some (.int .i64 i) ∧ w'.cell? ⟨w.heap.size, 2, none⟩ = some (.string s)) (first | exact ⟨(box_cells Q0).2.1, (box_cells Q0).2.2.1⟩ | exact ⟨(box_cells Q1).2.1, (box_cells Q1).2.2.1⟩ | exact ⟨(box_cells Q2).2.1, (box_cells Q2).2.2.1⟩) (first
      | (have gk := t1; go_at_call 26; refine (ewrite_any _ B c D vw vi vc cl fk keep i s ho hC t1.r HV.out).mono ?_; rintro e W2 ⟨rfl, k2⟩; have Q2 := t1.rbox k2 Q1 (by decide) (by decide) (by decide); obtain ⟨vc2, cl2, fk2, kp2, t2⟩ := t1.rcall k2; have BC := BA.trans k2.bel)
      | (go_at_call 9; refine (write_at _ B b D sl i s ho hB tt.d).mono ?_; rintro e W1 ⟨rfl, k1⟩; have Q1 := tt.dbox k1 Q0 (by decide) (by decide); obtain ⟨sl1, t1⟩ := tt.dcall k1; have BA := BB.trans k1.bel))
    all_goals
      generalize (D.write i s).2 = E2 at *
      go_wp2
      go_ret
      exact ⟨rfl, ⟨HIV.out, by rw [HE.out]; exact ⟨_, _, _, _, _, _, _, t2⟩⟩, BC⟩
  · have HE := hid (show D.step ⟨1, i, s, kp⟩ = D.sync.1 by simp [Dsk.step])
    go_enter Try.func18, Try.ntmps18
    go_wp2_with fail
    refine (sync_at _ B b D sl ho hB t0.d).mono ?_
    rintro e W1 ⟨rfl, k1⟩
    obtain ⟨sl1, t1⟩ := t0.dcall k1
    have BA := B0.trans k1.bel
    clear t0 P0 B0 k1
    go_wp2_with fail
    refine (esync_any _ B c D vw vi vc cl fk keep ho hC t1.r HV.out).mono ?_
    rintro e W2 ⟨rfl, k2⟩
    obtain ⟨vc2, cl2, fk2, kp2, t2⟩ := t1.rcall k2
    have BC := BA.trans k2.bel
    generalize D.sync.2 = E2 at *
    go_wp2
    go_ret
    exact ⟨rfl, ⟨HIV.out, by rw [HE.out]; exact ⟨_, _, _, _, _, _, _, t2⟩⟩, BC⟩
  · have HE := hid (show D.step ⟨2, i, s, kp⟩ = D.cut i kp by simp [Dsk.step])
    go_enter Try.func18, Try.ntmps18
    go_wp2_with fail
    refine (cut_at _ B b D sl i kp v2 v4 hB t0.d).mono ?_
    rintro e W1 ⟨rfl, k1⟩
    have P1 := t0.dbox k1 P0 (by decide) (by decide)
    obtain ⟨sl1, t1⟩ := t0.dcall k1
    have BA := B0.trans k1.bel
    clear t0 P0 B0 k1
    have q1 := (box_cells P1).2.1
    have q3 := (box_cells P1).2.2.2
    go_wp2_with fail
    refine (ecut_any _ B c D vw vi vc cl fk keep i kp v2 v4 hC t1.r).mono ?_
    rintro e W2 ⟨rfl, k2⟩
    have P2 := t1.rbox k2 P1 (by decide) (by decide) (by decide)
    obtain ⟨vc2, cl2, fk2, kp2, t2⟩ := t1.rcall k2
    have BC := BA.trans k2.bel
    clear t1 P1 BA k2 q1 q3
    have q1 := (box_cells P2).2.1
    go_wp2_with fail
    refine (read_any _ b (D.cut i kp) i ⟨_, t2.d⟩).mono ?_
    rintro e W3 ⟨rfl, rfl⟩
    go_wp2_with fail
    refine (eread_any _ c (D.cut i kp) vw vi _ _ _ _ i t2.r).mono ?_
    rintro e W4 ⟨rfl, rfl⟩
    generalize Dsk.read (D.cut i kp) i = sr at *
    generalize readE i = er at *
    go_wp2
    go_ret
    exact ⟨rfl, ⟨HIV.out, by rw [HE.out]; exact ⟨_, _, _, _, _, _, _, t2⟩⟩, BC⟩
  · have HE := hid (show D.step ⟨3, i, s, kp⟩ = D.fail i by simp [Dsk.step])
    go_enter Try.func18, Try.ntmps18
    go_wp2_with fail
    refine (fail_at _ B b D sl i v2 hB t0.d).mono ?_
    rintro e W1 ⟨rfl, k1⟩
    have P1 := t0.dbox k1 P0 (by decide) (by decide)
    obtain ⟨sl1, t1⟩ := t0.dcall k1
    have BA := B0.trans k1.bel
    clear t0 P0 B0 k1
    have q1 := (box_cells P1).2.1
    have q3 := (box_cells P1).2.2.2
    go_wp2_with fail
    refine (efail_any _ B c D vw vi vc cl fk keep i v2 hC t1.r).mono ?_
    rintro e W2 ⟨rfl, k2⟩
    have P2 := t1.rbox k2 P1 (by decide) (by decide) (by decide)
    obtain ⟨vc2, cl2, fk2, kp2, t2⟩ := t1.rcall k2
    have BC := BA.trans k2.bel
    clear t1 P1 BA k2 q1 q3
    have q1 := (box_cells P2).2.1
    go_wp2_with fail
    refine (read_any _ b (D.fail i) i ⟨_, t2.d⟩).mono ?_
    rintro e W3 ⟨rfl, rfl⟩
    go_wp2_with fail
    refine (eread_any _ c (D.fail i) vw vi _ _ _ _ i t2.r).mono ?_
    rintro e W4 ⟨rfl, rfl⟩
    generalize Dsk.read (D.fail i) i = sr at *
    generalize readE i = er at *
    go_wp2
    go_ret
    exact ⟨rfl, ⟨HIV.out, by rw [HE.out]; exact ⟨_, _, _, _, _, _, _, t2⟩⟩, BC⟩
  · have HE := hid (show D.step ⟨4, i, s, kp⟩ = D.crash kp by simp [Dsk.step])
    go_enter Try.func18, Try.ntmps18
    go_wp2_with fail
    refine (crash_at _ B b D sl kp v4 hB t0.d).mono ?_
    rintro e W1 ⟨rfl, k1⟩
    have P1 := t0.dbox k1 P0 (by decide) (by decide)
    obtain ⟨sl1, t1⟩ := t0.dcall k1
    have BA := B0.trans k1.bel
    clear t0 P0 B0 k1
    have q1 := (box_cells P1).2.1
    have q3 := (box_cells P1).2.2.2
    go_wp2_with fail
    refine (ecrash_any _ B c D vw vi vc cl fk keep kp v4 hC t1.r HV.out).mono ?_
    rintro e W2 ⟨rfl, k2⟩
    have P2 := t1.rbox k2 P1 (by decide) (by decide) (by decide)
    obtain ⟨vc2, cl2, fk2, kp2, t2⟩ := t1.rcall k2
    have BC := BA.trans k2.bel
    clear t1 P1 BA k2 q1 q3
    have q1 := (box_cells P2).2.1
    go_wp2_with fail
    refine (read_any _ b (D.crash kp) i ⟨_, t2.d⟩).mono ?_
    rintro e W3 ⟨rfl, rfl⟩
    go_wp2_with fail
    refine (eread_any _ c (D.crash kp) vw vi _ _ _ _ i t2.r).mono ?_
    rintro e W4 ⟨rfl, rfl⟩
    generalize Dsk.read (D.crash kp) i = sr at *
    generalize readE i = er at *
    go_wp2
    go_ret
    exact ⟨rfl, ⟨HIV.out, by rw [HE.out]; exact ⟨_, _, _, _, _, _, _, t2⟩⟩, BC⟩
  · have HE := hid (show D.step ⟨5, i, s, kp⟩ = D.power by simp [Dsk.step])
    go_enter Try.func18, Try.ntmps18
    go_wp2_with fail
    refine (power_at _ B b D sl hB t0.d).mono ?_
    rintro e W1 ⟨rfl, k1⟩
    have P1 := t0.dbox k1 P0 (by decide) (by decide)
    obtain ⟨sl1, t1⟩ := t0.dcall k1
    have BA := B0.trans k1.bel
    clear t0 P0 B0 k1
    have q1 := (box_cells P1).2.1
    have q3 := (box_cells P1).2.2.2
    go_wp2_with fail
    refine (epower_any _ B c D vw vi vc cl fk keep hC t1.r).mono ?_
    rintro e W2 ⟨rfl, k2⟩
    have P2 := t1.rbox k2 P1 (by decide) (by decide) (by decide)
    obtain ⟨vc2, cl2, fk2, kp2, t2⟩ := t1.rcall k2
    have BC := BA.trans k2.bel
    clear t1 P1 BA k2 q1 q3
    have q1 := (box_cells P2).2.1
    go_wp2_with fail
    refine (read_any _ b (D.power) i ⟨_, t2.d⟩).mono ?_
    rintro e W3 ⟨rfl, rfl⟩
    go_wp2_with fail
    refine (eread_any _ c (D.power) vw vi _ _ _ _ i t2.r).mono ?_
    rintro e W4 ⟨rfl, rfl⟩
    generalize Dsk.read (D.power) i = sr at *
    generalize readE i = er at *
    go_wp2
    go_ret
    exact ⟨rfl, ⟨HIV.out, by rw [HE.out]; exact ⟨_, _, _, _, _, _, _, t2⟩⟩, BC⟩
  · have HE := hid (show D.step ⟨kd, i, s, kp⟩ = D by simp [Dsk.step, n0, n1, n2, n3, n4, n5])
    have m0 : (kd == 0) = false := beq_eq_false_iff_ne.2 n0
    have m1 : (kd == 1) = false := beq_eq_false_iff_ne.2 n1
    have m2 : (kd == 2) = false := beq_eq_false_iff_ne.2 n2
    have m3 : (kd == 3) = false := beq_eq_false_iff_ne.2 n3
    have m4 : (kd == 4) = false := beq_eq_false_iff_ne.2 n4
    have m5 : (kd == 5) = false := beq_eq_false_iff_ne.2 n5
    clear n0 n1 n2 n3 n4 n5
    go_enter Try.func18, Try.ntmps18
    have q1 := (box_cells P0).2.1
    go_wp2_with fail
    refine (read_any _ b (D) i ⟨_, t0.d⟩).mono ?_
    rintro e W3 ⟨rfl, rfl⟩
    go_wp2_with fail
    refine (eread_any _ c (D) vw vi _ _ _ _ i t0.r).mono ?_
    rintro e W4 ⟨rfl, rfl⟩
    generalize Dsk.read (D) i = sr at *
    generalize readE i = er at *
    go_wp2
    go_ret
    exact ⟨rfl, ⟨HIV.out, by rw [HE.out]; exact ⟨_, _, _, _, _, _, _, t0⟩⟩, B0⟩
set_option maxHeartbeats 4000000 in
theorem same_any (w : World) (b c : Nat) (D : Dsk) (h : Both w b c D) :
    Calls Try.prog 19 #[.pointer (some ⟨b, 0, none⟩), .pointer (some ⟨c, 0, none⟩)] w fun e w' => e = .returned (.bool true) ∧ Below w.heap.size w w' := by
  obtain ⟨hinv, sl, vw, vi, vc, cl, fk, keep, h⟩ := h
  go_enter Try.func19, Try.ntmps19
  go_wp2
  go_loop [5] (fun j => ∃ k : Nat, k ≤ 258 ∧ j = .int .i64 ((k : Int) - 1)) (fun j => (257 - intOf j).toNat)
  case atStart => exact ⟨0, by omega, rfl⟩
  case round =>
    obtain ⟨k, hk, rfl⟩ := hrel
    by_cases hlt : k < 258
    · have hlt' : (k : Int) - 1 ≤ 256 := by omega
      go_wp2_with fail
      refine (read_any _ b D ((k : Int) - 1) ⟨_, h.d⟩).mono ?_
      rintro e W3 ⟨rfl, rfl⟩
      go_wp2_with fail
      refine (eread_any _ c D vw vi _ _ _ _ ((k : Int) - 1) h.r).mono ?_
      rintro e W4 ⟨rfl, rfl⟩
      generalize Dsk.read D ((k : Int) - 1) = sr at *
      generalize readE ((k : Int) - 1) = er at *
      go_wp2
      go_round
      case rel => exact ⟨k + 1, by omega, by go_num⟩
      case measure => simp [intOf]; omega
    · have hlt' : ¬ (k : Int) - 1 ≤ 256 := by omega
      have c9 := h.r.cell 9 _ rfl
      have c3 := h.r.cell 3 _ rfl
      have hdd : DiskIs w.drew b D := ⟨_, h.d.drew⟩
      have e9 : w.drew.cell? ⟨c, 9, none⟩ = some (.bool D.dead) := c9
      have e3 : w.drew.cell? ⟨c, 3, none⟩ = some (.int .i64 (D.ops : Int)) := c3
      have HD := hid (dead_any w.drew b D hdd)
      have HO := hid (ops_any w.drew b D hdd)
      generalize D.ops = N at *
      clear c9 c3
      generalize D.dead = XX at *
      cases XX
      · go_wp2
        go_region_held3 (fun w' => w'.cell? ⟨c, 9, none⟩ = some (.bool false) ∧ w'.cell? ⟨c, 3, none⟩ = some (.int .i64 (N : Int))) (exact ⟨e9, e3⟩) (first | (go_at_call 13; refine HD.out.mono ?_; rintro e W2 ⟨rfl, rfl⟩) | (go_at_call 16; refine HO.out.mono ?_; rintro e W2 ⟨rfl, rfl⟩))
        all_goals
          go_wp2
          go_ret
          exact ⟨rfl, (Below.refl _ _).drew⟩
      · go_wp2
        go_region_held3 (fun w' => w'.cell? ⟨c, 9, none⟩ = some (.bool true) ∧ w'.cell? ⟨c, 3, none⟩ = some (.int .i64 (N : Int))) (exact ⟨e9, e3⟩) (first | (go_at_call 13; refine HD.out.mono ?_; rintro e W2 ⟨rfl, rfl⟩) | (go_at_call 16; refine HO.out.mono ?_; rintro e W2 ⟨rfl, rfl⟩))
        all_goals
          go_wp2
          go_ret
          exact ⟨rfl, (Below.refl _ _).drew⟩
end Go.Proofs.Ytchibjdhdbkdhaa
