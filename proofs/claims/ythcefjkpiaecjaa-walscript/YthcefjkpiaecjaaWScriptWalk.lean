/- The law WalScript. -/
import Derived.Test.YthcefjkpiaecjaaFHelp
import Derived.Test.YthcefjkpiaecjaaFLaw
namespace Go.Proofs.Ythcefjkpiaecjaa
open Go.RowKit
set_option linter.unusedVariables false
set_option maxRecDepth 100000
set_option linter.unusedSimpArgs false

theorem f_len {B : Nat} {w0 w : World} {b l c r : Nat} {D : Dsk} {t : ByteArray} {n a : Nat} {er : Int} (h : Pb B w0 w b l c r D t n a er) : Calls Try.prog 23 #[.pointer (some ⟨l, 0, none⟩)] w fun e w' => e = .returned (.int .i64 (t.size : Int)) ∧ w' = w := len_any w l b (VL t n a er) h.pr.log
theorem f_err {B : Nat} {w0 w : World} {b l c r : Nat} {D : Dsk} {t : ByteArray} {n a : Nat} {er : Int} (h : Pb B w0 w b l c r D t n a er) : Calls Try.prog 24 #[.pointer (some ⟨l, 0, none⟩)] w fun e w' => e = .returned (.int .i64 er) ∧ w' = w := err_any w l b (VL t n a er) h.pr.log
theorem f_disks {B : Nat} {w0 w : World} {b l c r : Nat} {D : Dsk} {t : ByteArray} {n a : Nat} {er : Int} (h : Pb B w0 w b l c r D t n a er) : Calls Try.prog 25 #[.pointer (some ⟨b, 0, none⟩), .pointer (some ⟨c, 0, none⟩)] w fun e w' => e = .returned (.bool true) ∧ ∃ n, w' = w.drewN n := by
  obtain ⟨sl, vw, vi, vc, cl, fk, keep, h2⟩ := h.pr.two
  exact disks5_any w b c D sl vw vi vc cl fk keep h2
theorem stp_cells {w : World} {p : Nat} {v0 v1 v2 v3 : Value} (h : w.heap[p]? = some (.cells #[v0, v1, v2, v3] 37 (0, 0))) : w.cell? ⟨p, 0, none⟩ = some v0 ∧ w.cell? ⟨p, 1, none⟩ = some v1 ∧ w.cell? ⟨p, 2, none⟩ = some v2 ∧ w.cell? ⟨p, 3, none⟩ = some v3 :=
  ⟨cell_at (L := [_, _, _, _]) h 0 _ rfl, cell_at (L := [_, _, _, _]) h 1 _ rfl, cell_at (L := [_, _, _, _]) h 2 _ rfl, cell_at (L := [_, _, _, _]) h 3 _ rfl⟩
theorem Kt.stp {w w' : World} {p : Nat} {x : Array Value} (k : Kt w w') (h : w.heap[p]? = some (.cells x 37 (0, 0))) : w'.heap[p]? = some (.cells x 37 (0, 0)) :=
  (k p x 37 (0, 0) h (by decide) (by decide) (by decide) (by decide) (by decide) (by decide)).trans h
theorem Dsk.cut_ops (D : Dsk) (i : Int) (keep : Nat) : (D.cut i keep).ops = D.ops := rfl
theorem Dsk.fail_ops (D : Dsk) (i : Int) : (D.fail i).ops = D.ops := rfl
theorem Dsk.power_ops (D : Dsk) : D.power.ops = D.ops := rfl
theorem Dsk.crash_ops (D : Dsk) (keep : Nat) : (D.crash keep).ops = D.ops := by
  unfold Dsk.crash
  split
  · rfl
  · simp [Dsk.lose, Dsk.forget]
theorem vl0 : (⟨com0, tailT ByteArray.empty, 0⟩ : Lg) = VL ByteArray.empty 0 0 0 := rfl
set_option maxHeartbeats 16000000 in
theorem wscript_walk (a : Option Addr) (len cap : Nat) (z : Nat → Stp) (w : World) (h : IsSteps w a len cap z) :
    Calls Try.prog 3 #[.slice a len cap] w fun e w' => e = .returned (.bool true) ∧ Below w.heap.size w w' := by
  have hlen := h.len
  go_enter Try.func3, Try.ntmps3
  go_wp2_with fail
  refine (heavy5_any w a len cap z (len ≤ 128 ∧ ∀ k, k < len → (z k).s.size ≤ 262144) (fun h1 h2 => ⟨h1, h2⟩) h).mono ?_
  rintro e w' ⟨rfl | ⟨rfl, hR⟩, rfl⟩
  · go_wp2
    go_ret
    exact ⟨rfl, Below.refl _ _⟩
  have hl128 := hR.1
  have HSz := hid hR.2
  clear hR
  go_wp2_with fail
  refine (new_any w').mono ?_
  rintro e w1 ⟨rfl, hd1, b1⟩
  go_wp2_with fail
  refine (enew_any w1).mono ?_
  rintro e w2 ⟨rfl, ⟨vw, vi, hr2⟩, b2⟩
  have hd2 := hd1.below b2
  have s1 := b1.size
  have b12 := b1.trans (b2.mono s1)
  clear hd1
  go_wp2_with fail
  refine (open_any w2 w'.heap.size Dsk.new (sz_new.now Dsk.good_new) hd2).mono ?_
  rintro e w3 ⟨⟨l, c0, t0, rfl, hT, hLg, hl⟩, b3⟩
  obtain ⟨rfl, rfl, _⟩ := open_hl ok_new Dsk.good_new sz_new hT
  have hT0 := hid hT
  clear hT
  have hr3 := hr2.below b3
  have hd3 := hd2.below b3
  go_wp2_with fail
  refine (vopen_any w3 w1.heap.size Dsk.new (sz_new.now Dsk.good_new) ⟨_, _, _, _, _, _, hr3⟩).mono ?_
  rintro e w4 ⟨⟨r, c1, t1, rfl, hT1, hv, hr⟩, b4⟩
  obtain ⟨rfl, rfl⟩ := Tells.unique hT1 hT0.out
  have s2 := b2.size
  have s3 := b3.size
  have pb0 : Pb w'.heap.size w' w4 w'.heap.size l w1.heap.size r Dsk.new ByteArray.empty 0 0 0 := by
    obtain ⟨sl, hd4⟩ := hd3.below b4
    refine ⟨⟨⟨sl, vw, vi, .slice none 0 0, 0, 0, 0, hd4, hr3.below b4, fun g _ e => by simp [Value.ownBlock] at e⟩, ?_, hv, b12.trans ((b3.trans (b4.mono s3)).mono (by omega)), Nat.le_refl _, by omega, by omega, by omega⟩, Fine.new, ⟨by show (0 : Nat) ≤ _; omega, by omega, by omega⟩⟩
    exact LogAt.below hLg b4 (lt_of_block (LogAt.blk hLg))
  clear hT1 hT0 hv hLg hr2 hr3 hd2 hd3 b3 b4 b12 b1 b2
  rw [show ByteArray.empty = (⟨#[]⟩ : ByteArray) from rfl]
  go_wp2_with fail
  go_loopw [5, 8, 11] (fun vl vr vi wr => ∃ (k l r : Nat) (D : Dsk) (t : ByteArray) (n a : Nat) (er : Int), k ≤ len ∧ vi = .int .i64 (k : Int) ∧ vl = .pointer (some ⟨l, 0, none⟩) ∧ vr = .pointer (some ⟨r, 0, none⟩) ∧ Pb w'.heap.size w' wr w'.heap.size l w1.heap.size r D t n a er ∧ D.ops ≤ 300 * k) (fun _ _ i _ => len - (intOf i).toNat)
  case atStart => exact ⟨0, l, r, _, _, _, _, _, Nat.zero_le _, rfl, rfl, rfl, pb0, Nat.le_refl _⟩
  case round =>
    clear pb0 hl hr
    obtain ⟨k, l, r, D, t, n, a, er, hk, rfl, rfl, rfl, pb, hops⟩ := hrel
    by_cases hlt : k < len
    · obtain ⟨sb, off, rfl, hst, hfit, hlc, hcc, hsb⟩ := h.at k hlt
      have hst2 := hst.below (pb.pr.bel)
      have hs := HSz.out k hlt
      generalize z k = v at *
      obtain ⟨kd, i, s, kp⟩ := v
      obtain ⟨f1, f2, f3, f4⟩ := hfit
      obtain ⟨q0, q1, q2, q3⟩ := hst2
      simp only at f1 f2 f3 f4 hs q0 q1 q2 q3
      have P0 : (wr.alloc (Obj.cells #[.int .i64 kd, .int .i64 i, .string s, .int .u64 (kp : Int)] 37)).heap[wr.heap.size]? = some (.cells #[.int .i64 kd, .int .i64 i, .string s, .int .u64 (kp : Int)] 37 (0, 0)) := heap_alloc_last wr _
      have pb1 := pb.below ((Below.refl wr.heap.size wr).alloc (Nat.le_refl _) (Obj.cells #[.int .i64 kd, .int .i64 i, .string s, .int .u64 (kp : Int)] 37))
      clear hst pb
      have hops2 : D.ops + 1000 < 4611686018427387904 := by omega
      have hcs : kd = 0 ∨ kd = 1 ∨ kd = 3 ∨ kd = 4 ∨ kd = 5 ∨ kd = 7 ∨ kd = 2 ∨ kd = 6 ∨ (kd ≠ 0 ∧ kd ≠ 1 ∧ kd ≠ 3 ∧ kd ≠ 4 ∧ kd ≠ 5 ∧ kd ≠ 7 ∧ kd ≠ 2 ∧ kd ≠ 6) := by omega
      have HP := hid P0
      obtain ⟨o0, o1, o2, o3⟩ := stp_cells P0
      clear P0
      rcases hcs with rfl | rfl | rfl | rfl | rfl | rfl | rfl | rfl | ⟨n0, n1, n2, n3, n4, n5, n6, n7⟩
      · have pbd := pb1.below (below_dn (Below.refl _ _) 1)
        have hS0 := (stp_cells (show ((wr.alloc (Obj.cells #[.int .i64 0, .int .i64 i, .string s, .int .u64 (kp : Int)] 37)).drew).heap[wr.heap.size]? = _ from HP.out)).2.2.1
        have HPD := hid (show ((wr.alloc (Obj.cells #[.int .i64 0, .int .i64 i, .string s, .int .u64 (kp : Int)] 37)).drew).heap[wr.heap.size]? = _ from HP.out)
        have HF := hid pb1.fine
        have HV := hid pb1.fit
        have HPB := hid (fun W' (k : Pr w'.heap.size w' W' w'.heap.size l w1.heap.size r _ _ _ _ _ _ _) => Pb.app (s := s) pb1 (w' := W') k)
        have c1 := f_append1 pbd s (by omega) hops2
        have HC2 := hid (fun W' D1 L1 (h : Pr w'.heap.size w' W' w'.heap.size l w1.heap.size r D1 L1 D t n a er) => f_append2 h HF.out HV.out s (by omega) hops2)
        generalize vapp D t n a er s = R at *
        obtain ⟨D2, t2, n2, a2, er2, E2⟩ := R
        simp only at c1 HPB HC2
        clear pb1
        go_wp2_with fail
        go_region_held3 (fun X => X.cell? ⟨wr.heap.size, 2, none⟩ = some (.string s)) (first | exact hS2 | exact hS1 | exact hS0) (first
          | (go_at_call 10; have gk := pr1; refine (HC2.out _ _ _ pr1).mono ?_; rintro e W3 ⟨rfl, pr2, kt2⟩; have hS2 := (stp_cells (kt2.stp hP1)).2.2.1)
          | (go_at_call 9; refine c1.mono ?_; rintro e W2 ⟨rfl, pr1, kt1⟩; have hP1 := kt1.stp HPD.out; have hS1 := (stp_cells hP1).2.2.1))
        have hpb := HPB.out _ pr2
        have pb2 := hpb.1
        have hops3 := hpb.2
        clear hpb pr1 pr2 kt1 kt2 hS0 hS1 hS2 hP1 c1 HPB HC2 o0 o1 o2 o3 q0 q1 q2 q3 gk
        have hvc := pb2.pr.vat.cells
        obtain ⟨x0, x1, x2, x3, x4, xf⟩ := hvc
        have HQ := hid (fun m => pb2.below (below_dn (Below.refl _ _) m))
        have HU := hid (fun (m : Nat) (W : World) (e : W = W3.drewN m) => show Pb w'.heap.size w' W w'.heap.size l w1.heap.size r D2 t2 n2 a2 er2 by rw [e]; exact HQ.out m)
        go_wp2_with fail
        go_quiet (first | (go_at_call 23; exact Calls.quiet_of_same (f_len (HQ.out _))) | (go_at_call 24; exact Calls.quiet_of_same (f_err (HQ.out _))) | (go_at_call 25; exact Calls.quiet_of (f_disks (HQ.out _))))
        have pbq := HQ.out nq
        generalize W3.drewN nq = WQ at *
        go_wp2
        go_roundw
        case rel => exact ⟨k + 1, l, r, D2, t2, n2, a2, er2, by omega, by go_num, rfl, rfl, pbq, by omega⟩
        case measure => simp [intOf]; omega
      · have pbd := pb1.below (below_dn (Below.refl _ _) 1)
        have hS0 := (stp_cells (show ((wr.alloc (Obj.cells #[.int .i64 1, .int .i64 i, .string s, .int .u64 (kp : Int)] 37)).drew).heap[wr.heap.size]? = _ from HP.out)).2.2.1
        have HPD := hid (show ((wr.alloc (Obj.cells #[.int .i64 1, .int .i64 i, .string s, .int .u64 (kp : Int)] 37)).drew).heap[wr.heap.size]? = _ from HP.out)
        have HF := hid pb1.fine
        have HV := hid pb1.fit
        have HPB := hid (fun W' (k : Pr w'.heap.size w' W' w'.heap.size l w1.heap.size r _ _ _ _ _ _ _) => Pb.chk (s := s) pb1 (w' := W') k)
        have c1 := f_check1 pbd s (by omega) hops2
        have HC2 := hid (fun W' D1 L1 (h : Pr w'.heap.size w' W' w'.heap.size l w1.heap.size r D1 L1 D t n a er) => f_check2 h HF.out HV.out s (by omega) hops2)
        generalize vchk D t n a er s = R at *
        obtain ⟨D2, t2, n2, a2, er2, E2⟩ := R
        simp only at c1 HPB HC2
        clear pb1
        go_wp2_with fail
        go_region_held3 (fun X => X.cell? ⟨wr.heap.size, 2, none⟩ = some (.string s)) (first | exact hS2 | exact hS1 | exact hS0) (first
          | (go_at_call 12; have gk := pr1; refine (HC2.out _ _ _ pr1).mono ?_; rintro e W3 ⟨rfl, pr2, kt2⟩; have hS2 := (stp_cells (kt2.stp hP1)).2.2.1)
          | (go_at_call 11; refine c1.mono ?_; rintro e W2 ⟨rfl, pr1, kt1⟩; have hP1 := kt1.stp HPD.out; have hS1 := (stp_cells hP1).2.2.1))
        have hpb := HPB.out _ pr2
        have pb2 := hpb.1
        have hops3 := hpb.2
        clear hpb pr1 pr2 kt1 kt2 hS0 hS1 hS2 hP1 c1 HPB HC2 o0 o1 o2 o3 q0 q1 q2 q3 gk
        have hvc := pb2.pr.vat.cells
        obtain ⟨x0, x1, x2, x3, x4, xf⟩ := hvc
        have HQ := hid (fun m => pb2.below (below_dn (Below.refl _ _) m))
        have HU := hid (fun (m : Nat) (W : World) (e : W = W3.drewN m) => show Pb w'.heap.size w' W w'.heap.size l w1.heap.size r D2 t2 n2 a2 er2 by rw [e]; exact HQ.out m)
        go_wp2_with fail
        go_quiet (first | (go_at_call 23; exact Calls.quiet_of_same (f_len (HQ.out _))) | (go_at_call 24; exact Calls.quiet_of_same (f_err (HQ.out _))) | (go_at_call 25; exact Calls.quiet_of (f_disks (HQ.out _))))
        have pbq := HQ.out nq
        generalize W3.drewN nq = WQ at *
        go_wp2
        go_roundw
        case rel => exact ⟨k + 1, l, r, D2, t2, n2, a2, er2, by omega, by go_num, rfl, rfl, pbq, by omega⟩
        case measure => simp [intOf]; omega
      · go_wp2_with fail
        refine (f_cut1 pb1.pr i kp f2 f4).mono ?_
        rintro e W2 ⟨rfl, pr1, kt1⟩
        have hP1 := kt1.stp HP.out
        clear o0 o1 o2 o3 q0 q1 q2 q3
        obtain ⟨o0, o1, o2, o3⟩ := stp_cells hP1
        go_wp2_with fail
        refine (f_cut2 pr1 i kp f2 f4).mono ?_
        rintro e W3 ⟨rfl, pr2, kt2⟩
        have pb2 : Pb w'.heap.size w' W3 w'.heap.size l w1.heap.size r (D.cut i kp) t n a er := ⟨pr2, pb1.fine.cut i kp f2.2 f4, pb1.fit⟩
        have hops3 : (D.cut i kp).ops ≤ D.ops + 200 := by rw [Dsk.cut_ops]; omega
        clear pr1 pr2 kt1 kt2 hP1 o0 o1 o2 o3 pb1
        generalize D.cut i kp = D2 at *
        have hvc := pb2.pr.vat.cells
        obtain ⟨x0, x1, x2, x3, x4, xf⟩ := hvc
        have HQ := hid (fun m => pb2.below (below_dn (Below.refl _ _) m))
        have HU := hid (fun (m : Nat) (W : World) (e : W = W3.drewN m) => show Pb w'.heap.size w' W w'.heap.size l w1.heap.size r D2 t n a er by rw [e]; exact HQ.out m)
        go_wp2_with fail
        go_quiet (first | (go_at_call 23; exact Calls.quiet_of_same (f_len (HQ.out _))) | (go_at_call 24; exact Calls.quiet_of_same (f_err (HQ.out _))) | (go_at_call 25; exact Calls.quiet_of (f_disks (HQ.out _))))
        have pbq := HQ.out nq
        generalize W3.drewN nq = WQ at *
        go_wp2
        go_roundw
        case rel => exact ⟨k + 1, l, r, D2, t, n, a, er, by omega, by go_num, rfl, rfl, pbq, by omega⟩
        case measure => simp [intOf]; omega
      · go_wp2_with fail
        refine (f_fail1 pb1.pr i f2).mono ?_
        rintro e W2 ⟨rfl, pr1, kt1⟩
        have hP1 := kt1.stp HP.out
        clear o0 o1 o2 o3 q0 q1 q2 q3
        obtain ⟨o0, o1, o2, o3⟩ := stp_cells hP1
        go_wp2_with fail
        refine (f_fail2 pr1 i f2).mono ?_
        rintro e W3 ⟨rfl, pr2, kt2⟩
        have pb2 : Pb w'.heap.size w' W3 w'.heap.size l w1.heap.size r (D.fail i) t n a er := ⟨pr2, pb1.fine.fail i f2.2, pb1.fit⟩
        have hops3 : (D.fail i).ops ≤ D.ops + 200 := by rw [Dsk.fail_ops]; omega
        clear pr1 pr2 kt1 kt2 hP1 o0 o1 o2 o3 pb1
        generalize D.fail i = D2 at *
        have hvc := pb2.pr.vat.cells
        obtain ⟨x0, x1, x2, x3, x4, xf⟩ := hvc
        have HQ := hid (fun m => pb2.below (below_dn (Below.refl _ _) m))
        have HU := hid (fun (m : Nat) (W : World) (e : W = W3.drewN m) => show Pb w'.heap.size w' W w'.heap.size l w1.heap.size r D2 t n a er by rw [e]; exact HQ.out m)
        go_wp2_with fail
        go_quiet (first | (go_at_call 23; exact Calls.quiet_of_same (f_len (HQ.out _))) | (go_at_call 24; exact Calls.quiet_of_same (f_err (HQ.out _))) | (go_at_call 25; exact Calls.quiet_of (f_disks (HQ.out _))))
        have pbq := HQ.out nq
        generalize W3.drewN nq = WQ at *
        go_wp2
        go_roundw
        case rel => exact ⟨k + 1, l, r, D2, t, n, a, er, by omega, by go_num, rfl, rfl, pbq, by omega⟩
        case measure => simp [intOf]; omega
      · go_wp2_with fail
        refine (f_crash1 pb1.pr kp f4).mono ?_
        rintro e W2 ⟨rfl, pr1, kt1⟩
        have hP1 := kt1.stp HP.out
        clear o0 o1 o2 o3 q0 q1 q2 q3
        obtain ⟨o0, o1, o2, o3⟩ := stp_cells hP1
        go_wp2_with fail
        refine (f_crash2 pr1 pb1.fine.inv kp f4).mono ?_
        rintro e W3 ⟨rfl, pr2, kt2⟩
        have pb2 : Pb w'.heap.size w' W3 w'.heap.size l w1.heap.size r (D.crash kp) t n a er := ⟨pr2, pb1.fine.crash kp, pb1.fit⟩
        have hops3 : (D.crash kp).ops ≤ D.ops + 200 := by rw [Dsk.crash_ops]; omega
        clear pr1 pr2 kt1 kt2 hP1 o0 o1 o2 o3 pb1
        generalize D.crash kp = D2 at *
        have hvc := pb2.pr.vat.cells
        obtain ⟨x0, x1, x2, x3, x4, xf⟩ := hvc
        have HQ := hid (fun m => pb2.below (below_dn (Below.refl _ _) m))
        have HU := hid (fun (m : Nat) (W : World) (e : W = W3.drewN m) => show Pb w'.heap.size w' W w'.heap.size l w1.heap.size r D2 t n a er by rw [e]; exact HQ.out m)
        go_wp2_with fail
        go_quiet (first | (go_at_call 23; exact Calls.quiet_of_same (f_len (HQ.out _))) | (go_at_call 24; exact Calls.quiet_of_same (f_err (HQ.out _))) | (go_at_call 25; exact Calls.quiet_of (f_disks (HQ.out _))))
        have pbq := HQ.out nq
        generalize W3.drewN nq = WQ at *
        go_wp2
        go_roundw
        case rel => exact ⟨k + 1, l, r, D2, t, n, a, er, by omega, by go_num, rfl, rfl, pbq, by omega⟩
        case measure => simp [intOf]; omega
      · go_wp2_with fail
        refine (f_write1 pb1.pr i s (by omega)).mono ?_
        rintro e W2 ⟨rfl, pr1, kt1⟩
        have hP1 := kt1.stp HP.out
        clear o0 o1 o2 o3 q0 q1 q2 q3
        obtain ⟨o0, o1, o2, o3⟩ := stp_cells hP1
        go_wp2_with fail
        refine (f_write2 pr1 pb1.fine.inv i s (by omega)).mono ?_
        rintro e W3 ⟨rfl, pr2, kt2⟩
        have pb2 : Pb w'.heap.size w' W3 w'.heap.size l w1.heap.size r ((D.write i s).1) t n a er := ⟨pr2, pb1.fine.write i s, pb1.fit⟩
        have hops3 : ((D.write i s).1).ops ≤ D.ops + 200 := by have := D.write_ops i s; omega
        clear pr1 pr2 kt1 kt2 hP1 o0 o1 o2 o3 pb1
        generalize (D.write i s).1 = D2 at *
        have hvc := pb2.pr.vat.cells
        obtain ⟨x0, x1, x2, x3, x4, xf⟩ := hvc
        have HQ := hid (fun m => pb2.below (below_dn (Below.refl _ _) m))
        have HU := hid (fun (m : Nat) (W : World) (e : W = W3.drewN m) => show Pb w'.heap.size w' W w'.heap.size l w1.heap.size r D2 t n a er by rw [e]; exact HQ.out m)
        go_wp2_with fail
        go_quiet (first | (go_at_call 23; exact Calls.quiet_of_same (f_len (HQ.out _))) | (go_at_call 24; exact Calls.quiet_of_same (f_err (HQ.out _))) | (go_at_call 25; exact Calls.quiet_of (f_disks (HQ.out _))))
        have pbq := HQ.out nq
        generalize W3.drewN nq = WQ at *
        go_wp2
        go_roundw
        case rel => exact ⟨k + 1, l, r, D2, t, n, a, er, by omega, by go_num, rfl, rfl, pbq, by omega⟩
        case measure => simp [intOf]; omega
      · go_wp2_with fail
        refine (f_open1 pb1).mono ?_
        rintro e W4 ⟨l2, k2, u2, rfl, hT2, pr4, kt4⟩
        have HF := hid pb1.fine
        go_wp2_with fail
        refine (f_open2 pr4 HF.out).mono ?_
        rintro e W5 ⟨r2, k3, u3, rfl, hT3, pr5, kt5⟩
        obtain ⟨rfl, rfl⟩ := Tells.unique hT3 hT2
        have pb5 : Pb w'.heap.size w' W5 w'.heap.size l2 w1.heap.size r2 (D) u3 k3.num k3.area 0 := ⟨pr5, HF.out, (tells_vl hT2).2⟩
        have hops3 : (D).ops ≤ D.ops + 200 := by first | omega | (rw [Dsk.power_ops]; omega)
        clear hT2 hT3 pr4 pr5 kt4 kt5 pb1
        have hops4 : ∃ D2, D2 = D ∧ D2.ops ≤ 300 * k := ⟨D, rfl, hops⟩
        obtain ⟨D2, hD2, hops5⟩ := hops4
        rw [← hD2] at pb5
        clear hD2 hops3
        generalize k3.num = kn at *
        generalize k3.area = ka at *
        have hvc := pb5.pr.vat.cells
        obtain ⟨x0, x1, x2, x3, x4, xf⟩ := hvc
        have HQ := hid (fun m => pb5.below (below_dn (Below.refl _ _) m))
        have HU := hid (fun (m : Nat) (W : World) (e : W = W5.drewN m) => show Pb w'.heap.size w' W w'.heap.size l2 w1.heap.size r2 D2 u3 kn ka 0 by rw [e]; exact HQ.out m)
        go_wp2_with fail
        go_quiet (first | (go_at_call 23; exact Calls.quiet_of_same (f_len (HQ.out _))) | (go_at_call 24; exact Calls.quiet_of_same (f_err (HQ.out _))) | (go_at_call 25; exact Calls.quiet_of (f_disks (HQ.out _))))
        have pbq := HQ.out nq
        generalize W5.drewN nq = WQ at *
        go_wp2
        go_roundw
        case rel => exact ⟨k + 1, l2, r2, D2, u3, kn, ka, 0, by omega, by go_num, rfl, rfl, pbq, by omega⟩
        case measure => simp [intOf]; omega
      · go_wp2_with fail
        refine (f_power1 pb1.pr).mono ?_
        rintro e W2 ⟨rfl, pr1, kt1⟩
        clear o0 o1 o2 o3 q0 q1 q2 q3
        go_wp2_with fail
        refine (f_power2 pr1).mono ?_
        rintro e W3 ⟨rfl, pr2, kt2⟩
        have pb2 : Pb w'.heap.size w' W3 w'.heap.size l w1.heap.size r D.power t n a er := ⟨pr2, pb1.fine.power, pb1.fit⟩
        clear pr1 pr2 kt1 kt2 pb1
        go_wp2_with fail
        refine (f_open1 pb2).mono ?_
        rintro e W4 ⟨l2, k2, u2, rfl, hT2, pr4, kt4⟩
        have HF := hid pb2.fine
        go_wp2_with fail
        refine (f_open2 pr4 HF.out).mono ?_
        rintro e W5 ⟨r2, k3, u3, rfl, hT3, pr5, kt5⟩
        obtain ⟨rfl, rfl⟩ := Tells.unique hT3 hT2
        have pb5 : Pb w'.heap.size w' W5 w'.heap.size l2 w1.heap.size r2 (D.power) u3 k3.num k3.area 0 := ⟨pr5, HF.out, (tells_vl hT2).2⟩
        have hops3 : (D.power).ops ≤ D.ops + 200 := by first | omega | (rw [Dsk.power_ops]; omega)
        clear hT2 hT3 pr4 pr5 kt4 kt5 pb2
        generalize D.power = D2 at *
        generalize k3.num = kn at *
        generalize k3.area = ka at *
        have hvc := pb5.pr.vat.cells
        obtain ⟨x0, x1, x2, x3, x4, xf⟩ := hvc
        have HQ := hid (fun m => pb5.below (below_dn (Below.refl _ _) m))
        have HU := hid (fun (m : Nat) (W : World) (e : W = W5.drewN m) => show Pb w'.heap.size w' W w'.heap.size l2 w1.heap.size r2 D2 u3 kn ka 0 by rw [e]; exact HQ.out m)
        go_wp2_with fail
        go_quiet (first | (go_at_call 23; exact Calls.quiet_of_same (f_len (HQ.out _))) | (go_at_call 24; exact Calls.quiet_of_same (f_err (HQ.out _))) | (go_at_call 25; exact Calls.quiet_of (f_disks (HQ.out _))))
        have pbq := HQ.out nq
        generalize W5.drewN nq = WQ at *
        go_wp2
        go_roundw
        case rel => exact ⟨k + 1, l2, r2, D2, u3, kn, ka, 0, by omega, by go_num, rfl, rfl, pbq, by omega⟩
        case measure => simp [intOf]; omega
      · go_wp2_with fail
        generalize wr.alloc (Obj.cells #[.int .i64 kd, .int .i64 i, .string s, .int .u64 (kp : Int)] 37) = W3 at *
        clear o0 o1 o2 o3 q0 q1 q2 q3 HP
        have hvc := pb1.pr.vat.cells
        obtain ⟨x0, x1, x2, x3, x4, xf⟩ := hvc
        have HQ := hid (fun m => pb1.below (below_dn (Below.refl _ _) m))
        have HU := hid (fun (m : Nat) (W : World) (e : W = W3.drewN m) => show Pb w'.heap.size w' W w'.heap.size l w1.heap.size r D t n a er by rw [e]; exact HQ.out m)
        go_wp2_with fail
        go_quiet (first | (go_at_call 23; exact Calls.quiet_of_same (f_len (HQ.out _))) | (go_at_call 24; exact Calls.quiet_of_same (f_err (HQ.out _))) | (go_at_call 25; exact Calls.quiet_of (f_disks (HQ.out _))))
        have pbq := HQ.out nq
        generalize W3.drewN nq = WQ at *
        go_wp2
        go_roundw
        case rel => exact ⟨k + 1, l, r, D, t, n, a, er, by omega, by go_num, rfl, rfl, pbq, by omega⟩
        case measure => simp [intOf]; omega
    · have hbel := pb.pr.bel
      go_wp2
      go_ret
      exact ⟨rfl, hbel⟩
end Go.Proofs.Ythcefjkpiaecjaa
