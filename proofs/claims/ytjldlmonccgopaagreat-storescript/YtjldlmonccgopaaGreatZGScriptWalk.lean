/- The law StoreScript. -/
import Derived.Test.YtjldlmonccgopaaGreatPk34
namespace Go.Proofs.YtjldlmonccgopaaGreat.Rc
open Go.RowKit Go.Deep
set_option linter.unusedVariables false
set_option maxRecDepth 100000
set_option linter.unusedSimpArgs false

set_option maxHeartbeats 16000000 in
theorem gscript_walk (a : Option Addr) (len cap : Nat) (z : Nat → Stq) (w : World) (h : IsStqs w a len cap z) :
    Calls Tryz.prog 3 #[.slice a len cap] w fun e w' => e = .returned (.bool true) ∧ Below w.heap.size w w' := by
  have hlen := h.len
  go_enter Tryz.func3, Tryz.ntmps3
  go_wp2_with fail
  refine (heavy7_any w a len cap z h).mono ?_
  rintro e w2 ⟨rfl | ⟨rfl, hl64, hSz⟩, b2⟩
  · go_wp2
    go_ret
    exact ⟨rfl, b2⟩
  have HSz := hid hSz
  clear hSz
  have s2 := b2.size
  go_wp2_with fail
  refine (new_any w2).mono ?_
  rintro e w3 ⟨rfl, hd3, b3'⟩
  have b3 := chain2 b2 b3'
  have t3 := b3'.size
  go_wp2_with fail
  refine (enew_any w3).mono ?_
  rintro e w4 ⟨rfl, ⟨vw, vi, hr4⟩, b4'⟩
  have b4 := chain2 b3 b4'
  have hd4 := hd3.below b4'
  have t4 := b4'.size
  go_wp2_with fail
  refine (o_first w w4 w.heap.size w2.heap.size s2 hd4 b4).mono ?_
  rintro e w5 ⟨⟨s, l, v5, rfl, hv5, so5⟩, b5'⟩
  have b5 := chain2 b4 b5'
  have hr5 := hr4.below b5'
  have t5 := b5'.size
  obtain ⟨q1, q2, rfl, _⟩ := hv5.slice
  rw [show ([] : List Rec).length = 0 from rfl]
  go_wp2_with fail
  refine (yopen_any w5 w3.heap.size Dsk.new (sz_new.now Dsk.good_new) ⟨_, _, _, _, _, _, hr5⟩).mono ?_
  rintro e w6 ⟨⟨c6, t6, hT6, L6, n6, hD6, h6⟩, b6'⟩
  obtain ⟨rfl, rfl, -⟩ := open_hl ok_new Dsk.good_new sz_new hT6
  have hn6 : n6 = 0 := by have := hD6.le; simpa [of_len] using this
  have hL6 : L6 = [] := by have := hD6.few; rw [hn6] at this; exact List.eq_nil_of_length_eq_zero (by omega)
  subst hn6 hL6
  rcases h6 with ⟨h61, _⟩ | ⟨-, y, r, v6, rfl, hyb, hrb, hV6, hY6, hR6⟩
  · simp at h61
  have so6 := so5.below b6'
  have hr6 := hr5.below b6'
  have b6 := chain2 b5 b6'
  obtain ⟨sl6, hd6⟩ := so6.st.disk
  have sb0 : Sb w w6 w2.heap.size l w3.heap.size r s y Dsk.new ByteArray.empty 0 0 0 0 :=
    ⟨⟨⟨⟨sl6, vw, vi, .slice none 0 0, 0, 0, 0, hd6, hr6, fun g _ e => by simp [Value.ownBlock] at e⟩, so6.st.log, hV6, b6, so6.st.hb, so6.st.hl, by omega, by omega⟩, Fine.new, ⟨by show (0 : Nat) ≤ _; omega, by omega, by omega⟩⟩, so6.sat, ⟨v6, hY6, hR6.yw (by omega)⟩, so6.hs, by omega⟩
  obtain ⟨q3, q4, rfl, _⟩ := hR6.recs.slice
  clear hT6 hD6 hR6 hV6 hY6 so5 so6 hr4 hr5 hr6 hd3 hd4 hd6 b3' b4' b5' b6' hv5 b3 b4 b5 b6
  go_wp2_with fail
  go_loopw [5, 8, 11] (fun vs vy vi wr => ∃ (k l r s y : Nat) (D : Dsk) (t : ByteArray) (n a : Nat) (er : Int) (m : Nat), k ≤ len ∧ vi = .int .i64 (k : Int) ∧ vs = .pointer (some ⟨s, 0, none⟩) ∧ vy = .pointer (some ⟨y, 0, none⟩) ∧ Sb w wr w2.heap.size l w3.heap.size r s y D t n a er m ∧ D.ops ≤ 300 * k ∧ m ≤ 131072 * k) (fun _ _ i _ => len - (intOf i).toNat)
  case atStart => exact ⟨0, l, r, s, y, _, _, _, _, _, 0, Nat.zero_le _, rfl, rfl, rfl, sb0, Nat.le_refl _, Nat.le_refl _⟩
  case round =>
    clear sb0
    obtain ⟨k, l, r, s, y, D, t, n, a', er, m, hk, rfl, rfl, rfl, sb, hops, hmm⟩ := hrel
    by_cases hlt : k < len
    · obtain ⟨sbk, off, rfl, hst, hfit, hlc, hcc, hsb⟩ := h.at k hlt
      have hst2 := hst.below (sb.pb.pr.bel)
      have hs := HSz.out k hlt
      generalize z k = v at *
      obtain ⟨kd, i, ss, kp, rv, R⟩ := v
      obtain ⟨f1, f2, f3, f4, f5, f6⟩ := hfit
      obtain ⟨q0, q1, q2, q3, q4⟩ := hst2
      simp only at f1 f2 f3 f4 f5 f6 hs q0 q1 q2 q3 q4
      have HF5 := hid f5
      have HF6 := hid f6
      obtain ⟨ra, rc, rfl, _⟩ := f5.slice
      clear f5 f6
      have hss := hs.1
      have hRl := hs.2
      clear hs
      have P0 : (wr.alloc (Obj.cells #[.int .i64 kd, .int .i64 i, .string ss, .int .u64 (kp : Int), .slice ra R.length rc] 38)).heap[wr.heap.size]? = some (.cells #[.int .i64 kd, .int .i64 i, .string ss, .int .u64 (kp : Int), .slice ra R.length rc] 38 (0, 0)) := heap_alloc_last wr _
      have sb1 := sb.below ((Below.refl wr.heap.size wr).alloc (Nat.le_refl _) (Obj.cells #[.int .i64 kd, .int .i64 i, .string ss, .int .u64 (kp : Int), .slice ra R.length rc] 38))
      clear hst sb
      have hops2 : D.ops + 1000 < 4611686018427387904 := by omega
      have hcs : kd = 0 ∨ kd = 1 ∨ kd = 3 ∨ kd = 4 ∨ kd = 5 ∨ kd = 7 ∨ kd = 2 ∨ kd = 6 ∨ (kd ≠ 0 ∧ kd ≠ 1 ∧ kd ≠ 3 ∧ kd ≠ 4 ∧ kd ≠ 5 ∧ kd ≠ 7 ∧ kd ≠ 2 ∧ kd ≠ 6) := by omega
      have HP := hid P0
      obtain ⟨o0, o1, o2, o3, o4⟩ := stq_box P0
      clear P0
      rcases hcs with rfl | rfl | rfl | rfl | rfl | rfl | rfl | rfl | ⟨n0, n1, n2, n3, n4, n5, n6, n7⟩
      · have sbd := sb1.below (below_dn (Below.refl _ _) 1)
        have HPD := hid (show ((wr.alloc (Obj.cells #[.int .i64 0, .int .i64 i, .string ss, .int .u64 (kp : Int), .slice ra R.length rc] 38)).drew).heap[wr.heap.size]? = _ from HP.out)
        have hS0 := (stq_box HPD.out).2.2.2.2
        obtain ⟨vL, ya0, yw0⟩ := sbd.ya
        obtain ⟨X, hX⟩ : ∃ X, X = yst D t n a' er R (vapp D t n a' er (allT R)) := ⟨_, rfl⟩
        have c1 := p_add_y sbd.pb.pr sbd.st sbd.hs sbd.pb.fit hops2 (by omega) _ R (by omega) (HF5.out.below sbd.pb.pr.bel) hX
        have XF := yst_fine (R := R) (er := er) (vapp_fine (er := er) sb1.pb.fine sb1.pb.fit (allT R)) sb1.pb.fine sb1.pb.fit
        have HC2 := hid (fun W' D1 L1 (p : Pr w.heap.size w W' w2.heap.size l w3.heap.size r D1 L1 D t n a' er) (q : YAt W' y r vL) (u : Yw w W' vL m) => y_addw p sb1.pb.fine sb1.pb.fit hops2 q sb1.hy u (by omega) _ R HF5.out HF6.out (by omega))
        rw [← hX] at HC2 XF
        have HST := hid sbd.st
        have HYA := hid ya0
        have HYW := hid yw0
        have HXF := hid XF
        have HSB := hid (And.intro sb1.hs sb1.hy)
        clear hX XF ya0 yw0
        obtain ⟨D2, t2, n2, a2, er2, E2⟩ := X
        simp only at c1 HC2 HXF
        clear sb1 sbd
        go_wp2_with fail
        go_region_held3 (fun X => X.cell? ⟨wr.heap.size, 4, none⟩ = some (.slice ra R.length rc)) (first | exact hS2 | exact hS1 | exact hS0) (first
          | (go_at_call 10; have gk := pr1; refine (HC2.out _ _ _ pr1 ya1 yw1).mono ?_; rintro e W3 ⟨rfl, pr2, ky2, vL2, ya2, yw2⟩; have hS2 := (stq_box (ky_stqy ky2 ya1 hP1)).2.2.2.2)
          | (go_at_call 9; refine c1.mono ?_; rintro e W2 ⟨rfl, pr1, st1, ky1⟩; have hP1 := ky_stqs ky1 HST.out HPD.out; have hS1 := (stq_box hP1).2.2.2.2; have ya1 := HYA.out.kys ky1 HST.out; have yw1 := HYW.out.kys ky1 HST.out))
        have st2 := st1.ky ky2 ya1

        (try simp only at yw2)
        (try simp only at pr2)
        obtain ⟨m2, hm2, hm2'⟩ : ∃ m2, m2 = (if E2 = 0 then m + R.length else m) ∧ m2 ≤ 131072 * (k + 1) := ⟨_, rfl, by split <;> omega⟩
        rw [← hm2] at st2 yw2
        have sb3 : Sb w W3 w2.heap.size l w3.heap.size r s y D2 t2 n2 a2 er2 m2 := ⟨⟨pr2, HXF.out.1, HXF.out.2.1⟩, st2, ⟨vL2, ya2, yw2⟩, HSB.out.1, HSB.out.2⟩
        have hops3 := HXF.out.2.2
        clear pr1 pr2 ky1 ky2 hS0 hS1 hS2 hP1 c1 HC2 o0 o1 o2 o3 o4 q0 q1 q2 q3 q4 gk st1 st2 ya1 ya2 yw1 yw2 HXF HSB hm2
        obtain ⟨vL0, ya0, yw0⟩ := sb3.ya
        obtain ⟨sa0, sc0, rfl⟩ := yw0.form
        obtain ⟨x0, x1, xf⟩ := ya0.cells
        clear ya0 yw0
        have HQ := hid (fun m => sb3.below (below_dn (Below.refl _ _) m))
        go_wp2_with fail
        go_quiet (first | (go_at_call 24; exact Calls.quiet_of_same (s_len (HQ.out _))) | (go_at_call 25; exact Calls.quiet_of_same (s_room (HQ.out _))) | (go_at_call 26; exact Calls.quiet_of_same (s_yroom (HQ.out _))) | (go_at_call 27; exact Calls.quiet_of (s_disks (HQ.out _))))
        have sbq := HQ.out nq
        generalize W3.drewN nq = WQ at *
        go_wp2
        go_roundw
        case rel => exact ⟨k + 1, l, r, s, y, D2, t2, n2, a2, er2, m2, by omega, by go_num, rfl, rfl, sbq, by omega, by omega⟩
        case measure => simp [intOf]; omega
      · have sbd := sb1.below (below_dn (Below.refl _ _) 1)
        have HPD := hid (show ((wr.alloc (Obj.cells #[.int .i64 1, .int .i64 i, .string ss, .int .u64 (kp : Int), .slice ra R.length rc] 38)).drew).heap[wr.heap.size]? = _ from HP.out)
        have hS0 := (stq_box HPD.out).2.2.2.2
        obtain ⟨vL, ya0, yw0⟩ := sbd.ya
        obtain ⟨X, hX⟩ : ∃ X, X = yst D t n a' er R (vchk D t n a' er (allT R)) := ⟨_, rfl⟩
        have c1 := p_rep_y sbd.pb.pr sbd.st sbd.hs sbd.pb.fit hops2 (by omega) _ R (by omega) (HF5.out.below sbd.pb.pr.bel) hX
        have XF := yst_fine (R := R) (er := er) (vchk_fine (er := er) sb1.pb.fine sb1.pb.fit (allT R)) sb1.pb.fine sb1.pb.fit
        have HC2 := hid (fun W' D1 L1 (p : Pr w.heap.size w W' w2.heap.size l w3.heap.size r D1 L1 D t n a' er) (q : YAt W' y r vL) (u : Yw w W' vL m) => y_replacew p sb1.pb.fine sb1.pb.fit hops2 q sb1.hy u (by omega) _ R HF5.out HF6.out (by omega))
        rw [← hX] at HC2 XF
        have HST := hid sbd.st
        have HYA := hid ya0
        have HYW := hid yw0
        have HXF := hid XF
        have HSB := hid (And.intro sb1.hs sb1.hy)
        clear hX XF ya0 yw0
        obtain ⟨D2, t2, n2, a2, er2, E2⟩ := X
        simp only at c1 HC2 HXF
        clear sb1 sbd
        go_wp2_with fail
        go_region_held3 (fun X => X.cell? ⟨wr.heap.size, 4, none⟩ = some (.slice ra R.length rc)) (first | exact hS2 | exact hS1 | exact hS0) (first
          | (go_at_call 12; have gk := pr1; refine (HC2.out _ _ _ pr1 ya1 yw1).mono ?_; rintro e W3 ⟨rfl, pr2, ky2, vL2, ya2, yw2⟩; have hS2 := (stq_box (ky_stqy ky2 ya1 hP1)).2.2.2.2)
          | (go_at_call 11; refine c1.mono ?_; rintro e W2 ⟨rfl, pr1, st1, ky1⟩; have hP1 := ky_stqs ky1 HST.out HPD.out; have hS1 := (stq_box hP1).2.2.2.2; have ya1 := HYA.out.kys ky1 HST.out; have yw1 := HYW.out.kys ky1 HST.out))
        have st2 := st1.ky ky2 ya1
        rw [Nat.zero_add] at st2
        (try simp only at yw2)
        (try simp only at pr2)
        obtain ⟨m2, hm2, hm2'⟩ : ∃ m2, m2 = (if E2 = 0 then R.length else m) ∧ m2 ≤ 131072 * (k + 1) := ⟨_, rfl, by split <;> omega⟩
        rw [← hm2] at st2 yw2
        have sb3 : Sb w W3 w2.heap.size l w3.heap.size r s y D2 t2 n2 a2 er2 m2 := ⟨⟨pr2, HXF.out.1, HXF.out.2.1⟩, st2, ⟨vL2, ya2, yw2⟩, HSB.out.1, HSB.out.2⟩
        have hops3 := HXF.out.2.2
        clear pr1 pr2 ky1 ky2 hS0 hS1 hS2 hP1 c1 HC2 o0 o1 o2 o3 o4 q0 q1 q2 q3 q4 gk st1 st2 ya1 ya2 yw1 yw2 HXF HSB hm2
        obtain ⟨vL0, ya0, yw0⟩ := sb3.ya
        obtain ⟨sa0, sc0, rfl⟩ := yw0.form
        obtain ⟨x0, x1, xf⟩ := ya0.cells
        clear ya0 yw0
        have HQ := hid (fun m => sb3.below (below_dn (Below.refl _ _) m))
        go_wp2_with fail
        go_quiet (first | (go_at_call 24; exact Calls.quiet_of_same (s_len (HQ.out _))) | (go_at_call 25; exact Calls.quiet_of_same (s_room (HQ.out _))) | (go_at_call 26; exact Calls.quiet_of_same (s_yroom (HQ.out _))) | (go_at_call 27; exact Calls.quiet_of (s_disks (HQ.out _))))
        have sbq := HQ.out nq
        generalize W3.drewN nq = WQ at *
        go_wp2
        go_roundw
        case rel => exact ⟨k + 1, l, r, s, y, D2, t2, n2, a2, er2, m2, by omega, by go_num, rfl, rfl, sbq, by omega, by omega⟩
        case measure => simp [intOf]; omega
      · go_wp2_with fail
        refine (f_cut1 sb1.pb.pr i kp f2 f4).mono ?_
        rintro e W2 ⟨rfl, pr1, kt1⟩
        have hP1 := kt_stq kt1 HP.out
        clear o0 o1 o2 o3 o4 q0 q1 q2 q3 q4
        obtain ⟨o0, o1, o2, o3, o4⟩ := stq_box hP1
        go_wp2_with fail
        refine (f_cut2 pr1 i kp f2 f4).mono ?_
        rintro e W3 ⟨rfl, pr2, kt2⟩
        obtain ⟨vL, ya1, yw1⟩ := sb1.ya
        have sb2 : Sb w W3 w2.heap.size l w3.heap.size r s y (D.cut i kp) t n a' er m := ⟨⟨pr2, sb1.pb.fine.cut i kp f2.2 f4, sb1.pb.fit⟩, (sb1.st.kt kt1).kt kt2, ⟨vL, (ya1.kt kt1).kt kt2, (yw1.kt kt1).kt kt2⟩, sb1.hs, sb1.hy⟩
        have hops3 : (D.cut i kp).ops ≤ D.ops + 200 := by rw [g_cut_ops]; omega
        clear pr1 pr2 kt1 kt2 hP1 o0 o1 o2 o3 o4 sb1 ya1 yw1
        generalize D.cut i kp = D2 at *
        obtain ⟨vL0, ya0, yw0⟩ := sb2.ya
        obtain ⟨sa0, sc0, rfl⟩ := yw0.form
        obtain ⟨x0, x1, xf⟩ := ya0.cells
        clear ya0 yw0
        have HQ := hid (fun m => sb2.below (below_dn (Below.refl _ _) m))
        go_wp2_with fail
        go_quiet (first | (go_at_call 24; exact Calls.quiet_of_same (s_len (HQ.out _))) | (go_at_call 25; exact Calls.quiet_of_same (s_room (HQ.out _))) | (go_at_call 26; exact Calls.quiet_of_same (s_yroom (HQ.out _))) | (go_at_call 27; exact Calls.quiet_of (s_disks (HQ.out _))))
        have sbq := HQ.out nq
        generalize W3.drewN nq = WQ at *
        go_wp2
        go_roundw
        case rel => exact ⟨k + 1, l, r, s, y, D2, t, n, a', er, m, by omega, by go_num, rfl, rfl, sbq, by omega, by omega⟩
        case measure => simp [intOf]; omega
      · go_wp2_with fail
        refine (f_fail1 sb1.pb.pr i f2).mono ?_
        rintro e W2 ⟨rfl, pr1, kt1⟩
        have hP1 := kt_stq kt1 HP.out
        clear o0 o1 o2 o3 o4 q0 q1 q2 q3 q4
        obtain ⟨o0, o1, o2, o3, o4⟩ := stq_box hP1
        go_wp2_with fail
        refine (f_fail2 pr1 i f2).mono ?_
        rintro e W3 ⟨rfl, pr2, kt2⟩
        obtain ⟨vL, ya1, yw1⟩ := sb1.ya
        have sb2 : Sb w W3 w2.heap.size l w3.heap.size r s y (D.fail i) t n a' er m := ⟨⟨pr2, sb1.pb.fine.fail i f2.2, sb1.pb.fit⟩, (sb1.st.kt kt1).kt kt2, ⟨vL, (ya1.kt kt1).kt kt2, (yw1.kt kt1).kt kt2⟩, sb1.hs, sb1.hy⟩
        have hops3 : (D.fail i).ops ≤ D.ops + 200 := by rw [g_fail_ops]; omega
        clear pr1 pr2 kt1 kt2 hP1 o0 o1 o2 o3 o4 sb1 ya1 yw1
        generalize D.fail i = D2 at *
        obtain ⟨vL0, ya0, yw0⟩ := sb2.ya
        obtain ⟨sa0, sc0, rfl⟩ := yw0.form
        obtain ⟨x0, x1, xf⟩ := ya0.cells
        clear ya0 yw0
        have HQ := hid (fun m => sb2.below (below_dn (Below.refl _ _) m))
        go_wp2_with fail
        go_quiet (first | (go_at_call 24; exact Calls.quiet_of_same (s_len (HQ.out _))) | (go_at_call 25; exact Calls.quiet_of_same (s_room (HQ.out _))) | (go_at_call 26; exact Calls.quiet_of_same (s_yroom (HQ.out _))) | (go_at_call 27; exact Calls.quiet_of (s_disks (HQ.out _))))
        have sbq := HQ.out nq
        generalize W3.drewN nq = WQ at *
        go_wp2
        go_roundw
        case rel => exact ⟨k + 1, l, r, s, y, D2, t, n, a', er, m, by omega, by go_num, rfl, rfl, sbq, by omega, by omega⟩
        case measure => simp [intOf]; omega
      · go_wp2_with fail
        refine (f_crash1 sb1.pb.pr kp f4).mono ?_
        rintro e W2 ⟨rfl, pr1, kt1⟩
        have hP1 := kt_stq kt1 HP.out
        clear o0 o1 o2 o3 o4 q0 q1 q2 q3 q4
        obtain ⟨o0, o1, o2, o3, o4⟩ := stq_box hP1
        go_wp2_with fail
        refine (f_crash2 pr1 sb1.pb.fine.inv kp f4).mono ?_
        rintro e W3 ⟨rfl, pr2, kt2⟩
        obtain ⟨vL, ya1, yw1⟩ := sb1.ya
        have sb2 : Sb w W3 w2.heap.size l w3.heap.size r s y (D.crash kp) t n a' er m := ⟨⟨pr2, sb1.pb.fine.crash kp, sb1.pb.fit⟩, (sb1.st.kt kt1).kt kt2, ⟨vL, (ya1.kt kt1).kt kt2, (yw1.kt kt1).kt kt2⟩, sb1.hs, sb1.hy⟩
        have hops3 : (D.crash kp).ops ≤ D.ops + 200 := by rw [g_crash_ops]; omega
        clear pr1 pr2 kt1 kt2 hP1 o0 o1 o2 o3 o4 sb1 ya1 yw1
        generalize D.crash kp = D2 at *
        obtain ⟨vL0, ya0, yw0⟩ := sb2.ya
        obtain ⟨sa0, sc0, rfl⟩ := yw0.form
        obtain ⟨x0, x1, xf⟩ := ya0.cells
        clear ya0 yw0
        have HQ := hid (fun m => sb2.below (below_dn (Below.refl _ _) m))
        go_wp2_with fail
        go_quiet (first | (go_at_call 24; exact Calls.quiet_of_same (s_len (HQ.out _))) | (go_at_call 25; exact Calls.quiet_of_same (s_room (HQ.out _))) | (go_at_call 26; exact Calls.quiet_of_same (s_yroom (HQ.out _))) | (go_at_call 27; exact Calls.quiet_of (s_disks (HQ.out _))))
        have sbq := HQ.out nq
        generalize W3.drewN nq = WQ at *
        go_wp2
        go_roundw
        case rel => exact ⟨k + 1, l, r, s, y, D2, t, n, a', er, m, by omega, by go_num, rfl, rfl, sbq, by omega, by omega⟩
        case measure => simp [intOf]; omega
      · go_wp2_with fail
        refine (f_write1 sb1.pb.pr i ss (by omega)).mono ?_
        rintro e W2 ⟨rfl, pr1, kt1⟩
        have hP1 := kt_stq kt1 HP.out
        clear o0 o1 o2 o3 o4 q0 q1 q2 q3 q4
        obtain ⟨o0, o1, o2, o3, o4⟩ := stq_box hP1
        go_wp2_with fail
        refine (f_write2 pr1 sb1.pb.fine.inv i ss (by omega)).mono ?_
        rintro e W3 ⟨rfl, pr2, kt2⟩
        obtain ⟨vL, ya1, yw1⟩ := sb1.ya
        have sb2 : Sb w W3 w2.heap.size l w3.heap.size r s y ((D.write i ss).1) t n a' er m := ⟨⟨pr2, sb1.pb.fine.write i ss, sb1.pb.fit⟩, (sb1.st.kt kt1).kt kt2, ⟨vL, (ya1.kt kt1).kt kt2, (yw1.kt kt1).kt kt2⟩, sb1.hs, sb1.hy⟩
        have hops3 : ((D.write i ss).1).ops ≤ D.ops + 200 := by have := D.write_ops i ss; omega
        clear pr1 pr2 kt1 kt2 hP1 o0 o1 o2 o3 o4 sb1 ya1 yw1
        generalize (D.write i ss).1 = D2 at *
        obtain ⟨vL0, ya0, yw0⟩ := sb2.ya
        obtain ⟨sa0, sc0, rfl⟩ := yw0.form
        obtain ⟨x0, x1, xf⟩ := ya0.cells
        clear ya0 yw0
        have HQ := hid (fun m => sb2.below (below_dn (Below.refl _ _) m))
        go_wp2_with fail
        go_quiet (first | (go_at_call 24; exact Calls.quiet_of_same (s_len (HQ.out _))) | (go_at_call 25; exact Calls.quiet_of_same (s_room (HQ.out _))) | (go_at_call 26; exact Calls.quiet_of_same (s_yroom (HQ.out _))) | (go_at_call 27; exact Calls.quiet_of (s_disks (HQ.out _))))
        have sbq := HQ.out nq
        generalize W3.drewN nq = WQ at *
        go_wp2
        go_roundw
        case rel => exact ⟨k + 1, l, r, s, y, D2, t, n, a', er, m, by omega, by go_num, rfl, rfl, sbq, by omega, by omega⟩
        case measure => simp [intOf]; omega
      · obtain ⟨hdi, hri, hsz⟩ := sb1.disk
        have HRI := hid hri
        have HZ := hid hsz
        go_wp2_with fail
        refine (oopen_any _ _ (D) HZ.out hdi).mono ?_
        rintro e W4 ⟨⟨k2, u2, hT2, L2, p2, hD2, g2⟩, b4⟩
        have hri4 := HRI.out.below b4
        have HS := hid sb1
        have HTT := hid hT2
        have HDD := hid hD2
        have hfew := hD2.few
        have hdle := hD2.le
        have htz := tells_size hT2
        clear hdi hri hsz HRI sb1 hT2 hD2
        rcases g2 with ⟨hn2, rfl⟩ | ⟨hn2, s2', l2', v2, rfl, hs2, hl2, hLg2, hSt2, hRow2⟩
        · go_wp2_with fail
          refine (yopen_any W4 _ (D) HZ.out hri4).mono ?_
          rintro e W5 ⟨⟨k3, u3, hT3, L3, p3, hD3, g3⟩, b5⟩
          obtain ⟨rfl, rfl⟩ := Tells.unique hT3 HTT.out
          obtain ⟨rfl, rfl⟩ := hD3.uniq HDD.out
          rcases g3 with ⟨hn3, rfl⟩ | ⟨hn3, _⟩
          · have hbel := chain2 (chain2 HS.out.pb.pr.bel b4) b5
            clear HS HTT HDD hT3 hD3 b4 b5
            go_wp2_with fail
            refine (same_true W5 _ _ [] (g_nil W5) (g_nil W5)).mono ?_
            rintro e W6 ⟨rfl, b6⟩
            have hbel := chain2 hbel b6
            clear b6
            go_wp2
            go_ret
            exact ⟨rfl, hbel⟩
          · omega
        · go_wp2_with fail
          refine (yopen_any W4 _ (D) HZ.out hri4).mono ?_
          rintro e W5 ⟨⟨k3, u3, hT3, L3, p3, hD3, g3⟩, b5⟩
          obtain ⟨rfl, rfl⟩ := Tells.unique hT3 HTT.out
          obtain ⟨rfl, rfl⟩ := hD3.uniq HDD.out
          rcases g3 with ⟨hn3, _⟩ | ⟨hn3, y2, r2, v3, rfl, hy2, hr2, hV2, hY2, hRow3⟩
          · omega
          have sb5 := HS.out.opened HTT.out b4 b5 hs2 hl2 hLg2 hSt2 hy2 hr2 hV2 hY2 hRow3
          have hsame := same_true W5 _ _ L3 (hRow2.below b5).recs hRow3.recs
          obtain ⟨ga, gc, rfl, _⟩ := hRow2.recs.slice
          obtain ⟨ha, hc, rfl, _⟩ := hRow3.recs.slice
          have hLl : L3.length ≤ 131072 * (k + 1) := by omega
          have hops3 : (D).ops ≤ 300 * k + 200 := by first | omega | (rw [g_power_ops]; omega)
          clear HS HTT HDD hT3 hD3 b4 b5 hLg2 hSt2 hV2 hY2 hRow2 hRow3 hs2 hl2 hy2 hr2 hri4 HZ
          go_wp2_with fail
          refine hsame.mono ?_
          rintro e W6 ⟨rfl, b6⟩
          have sb6 := sb5.below b6
          clear sb5 b6 hsame
          obtain ⟨DD, hDD⟩ : ∃ DD, DD = (D) := ⟨_, rfl⟩
          rw [← hDD] at sb6 hops3
          clear hDD
          obtain ⟨kn, hkn⟩ : ∃ x, x = k3.num := ⟨_, rfl⟩
          obtain ⟨ka, hka⟩ : ∃ x, x = k3.area := ⟨_, rfl⟩
          rw [← hkn, ← hka] at sb6
          clear hkn hka
          obtain ⟨ml, hml⟩ : ∃ x, x = L3.length := ⟨_, rfl⟩
          rw [← hml] at sb6 hLl
          clear hml hfew hn2 hn3
          obtain ⟨vL0, ya0, yw0⟩ := sb6.ya
          obtain ⟨sa0, sc0, rfl⟩ := yw0.form
          obtain ⟨x0, x1, xf⟩ := ya0.cells
          clear ya0 yw0
          have HQ := hid (fun m => sb6.below (below_dn (Below.refl _ _) m))
          go_wp2_with fail
          go_quiet (first | (go_at_call 24; exact Calls.quiet_of_same (s_len (HQ.out _))) | (go_at_call 25; exact Calls.quiet_of_same (s_room (HQ.out _))) | (go_at_call 26; exact Calls.quiet_of_same (s_yroom (HQ.out _))) | (go_at_call 27; exact Calls.quiet_of (s_disks (HQ.out _))))
          have sbq := HQ.out nq
          generalize W6.drewN nq = WQ at *
          go_wp2
          go_roundw
          case rel => exact ⟨k + 1, l2', r2, s2', y2, DD, u3, kn, ka, 0, ml, by omega, by go_num, rfl, rfl, sbq, by omega, by omega⟩
          case measure => simp [intOf]; omega
      · go_wp2_with fail
        refine (f_power1 sb1.pb.pr).mono ?_
        rintro e W2 ⟨rfl, pr1, kt1⟩
        clear o0 o1 o2 o3 o4 q0 q1 q2 q3 q4
        go_wp2_with fail
        refine (f_power2 pr1).mono ?_
        rintro e W3 ⟨rfl, pr2, kt2⟩
        obtain ⟨vL, ya1, yw1⟩ := sb1.ya
        have sb2 : Sb w W3 w2.heap.size l w3.heap.size r s y D.power t n a' er m := ⟨⟨pr2, sb1.pb.fine.power, sb1.pb.fit⟩, (sb1.st.kt kt1).kt kt2, ⟨vL, (ya1.kt kt1).kt kt2, (yw1.kt kt1).kt kt2⟩, sb1.hs, sb1.hy⟩
        clear pr1 pr2 kt1 kt2 sb1 ya1 yw1
        obtain ⟨hdi, hri, hsz⟩ := sb2.disk
        have HRI := hid hri
        have HZ := hid hsz
        go_wp2_with fail
        refine (oopen_any _ _ (D.power) HZ.out hdi).mono ?_
        rintro e W4 ⟨⟨k2, u2, hT2, L2, p2, hD2, g2⟩, b4⟩
        have hri4 := HRI.out.below b4
        have HS := hid sb2
        have HTT := hid hT2
        have HDD := hid hD2
        have hfew := hD2.few
        have hdle := hD2.le
        have htz := tells_size hT2
        clear hdi hri hsz HRI sb2 hT2 hD2
        rcases g2 with ⟨hn2, rfl⟩ | ⟨hn2, s2', l2', v2, rfl, hs2, hl2, hLg2, hSt2, hRow2⟩
        · go_wp2_with fail
          refine (yopen_any W4 _ (D.power) HZ.out hri4).mono ?_
          rintro e W5 ⟨⟨k3, u3, hT3, L3, p3, hD3, g3⟩, b5⟩
          obtain ⟨rfl, rfl⟩ := Tells.unique hT3 HTT.out
          obtain ⟨rfl, rfl⟩ := hD3.uniq HDD.out
          rcases g3 with ⟨hn3, rfl⟩ | ⟨hn3, _⟩
          · have hbel := chain2 (chain2 HS.out.pb.pr.bel b4) b5
            clear HS HTT HDD hT3 hD3 b4 b5
            go_wp2_with fail
            refine (same_true W5 _ _ [] (g_nil W5) (g_nil W5)).mono ?_
            rintro e W6 ⟨rfl, b6⟩
            have hbel := chain2 hbel b6
            clear b6
            go_wp2
            go_ret
            exact ⟨rfl, hbel⟩
          · omega
        · go_wp2_with fail
          refine (yopen_any W4 _ (D.power) HZ.out hri4).mono ?_
          rintro e W5 ⟨⟨k3, u3, hT3, L3, p3, hD3, g3⟩, b5⟩
          obtain ⟨rfl, rfl⟩ := Tells.unique hT3 HTT.out
          obtain ⟨rfl, rfl⟩ := hD3.uniq HDD.out
          rcases g3 with ⟨hn3, _⟩ | ⟨hn3, y2, r2, v3, rfl, hy2, hr2, hV2, hY2, hRow3⟩
          · omega
          have sb5 := HS.out.opened HTT.out b4 b5 hs2 hl2 hLg2 hSt2 hy2 hr2 hV2 hY2 hRow3
          have hsame := same_true W5 _ _ L3 (hRow2.below b5).recs hRow3.recs
          obtain ⟨ga, gc, rfl, _⟩ := hRow2.recs.slice
          obtain ⟨ha, hc, rfl, _⟩ := hRow3.recs.slice
          have hLl : L3.length ≤ 131072 * (k + 1) := by omega
          have hops3 : (D.power).ops ≤ 300 * k + 200 := by first | omega | (rw [g_power_ops]; omega)
          clear HS HTT HDD hT3 hD3 b4 b5 hLg2 hSt2 hV2 hY2 hRow2 hRow3 hs2 hl2 hy2 hr2 hri4 HZ
          go_wp2_with fail
          refine hsame.mono ?_
          rintro e W6 ⟨rfl, b6⟩
          have sb6 := sb5.below b6
          clear sb5 b6 hsame
          obtain ⟨DD, hDD⟩ : ∃ DD, DD = (D.power) := ⟨_, rfl⟩
          rw [← hDD] at sb6 hops3
          clear hDD
          obtain ⟨kn, hkn⟩ : ∃ x, x = k3.num := ⟨_, rfl⟩
          obtain ⟨ka, hka⟩ : ∃ x, x = k3.area := ⟨_, rfl⟩
          rw [← hkn, ← hka] at sb6
          clear hkn hka
          obtain ⟨ml, hml⟩ : ∃ x, x = L3.length := ⟨_, rfl⟩
          rw [← hml] at sb6 hLl
          clear hml hfew hn2 hn3
          obtain ⟨vL0, ya0, yw0⟩ := sb6.ya
          obtain ⟨sa0, sc0, rfl⟩ := yw0.form
          obtain ⟨x0, x1, xf⟩ := ya0.cells
          clear ya0 yw0
          have HQ := hid (fun m => sb6.below (below_dn (Below.refl _ _) m))
          go_wp2_with fail
          go_quiet (first | (go_at_call 24; exact Calls.quiet_of_same (s_len (HQ.out _))) | (go_at_call 25; exact Calls.quiet_of_same (s_room (HQ.out _))) | (go_at_call 26; exact Calls.quiet_of_same (s_yroom (HQ.out _))) | (go_at_call 27; exact Calls.quiet_of (s_disks (HQ.out _))))
          have sbq := HQ.out nq
          generalize W6.drewN nq = WQ at *
          go_wp2
          go_roundw
          case rel => exact ⟨k + 1, l2', r2, s2', y2, DD, u3, kn, ka, 0, ml, by omega, by go_num, rfl, rfl, sbq, by omega, by omega⟩
          case measure => simp [intOf]; omega
      · go_wp2_with fail
        generalize wr.alloc (Obj.cells #[.int .i64 kd, .int .i64 i, .string ss, .int .u64 (kp : Int), .slice ra R.length rc] 38) = W3 at *
        clear o0 o1 o2 o3 o4 q0 q1 q2 q3 q4 HP
        obtain ⟨vL0, ya0, yw0⟩ := sb1.ya
        obtain ⟨sa0, sc0, rfl⟩ := yw0.form
        obtain ⟨x0, x1, xf⟩ := ya0.cells
        clear ya0 yw0
        have HQ := hid (fun m => sb1.below (below_dn (Below.refl _ _) m))
        go_wp2_with fail
        go_quiet (first | (go_at_call 24; exact Calls.quiet_of_same (s_len (HQ.out _))) | (go_at_call 25; exact Calls.quiet_of_same (s_room (HQ.out _))) | (go_at_call 26; exact Calls.quiet_of_same (s_yroom (HQ.out _))) | (go_at_call 27; exact Calls.quiet_of (s_disks (HQ.out _))))
        have sbq := HQ.out nq
        generalize W3.drewN nq = WQ at *
        go_wp2
        go_roundw
        case rel => exact ⟨k + 1, l, r, s, y, D, t, n, a', er, m, by omega, by go_num, rfl, rfl, sbq, by omega, by omega⟩
        case measure => simp [intOf]; omega
    · have hbel := sb.pb.pr.bel
      go_wp2
      go_ret
      exact ⟨rfl, hbel⟩
end Go.Proofs.YtjldlmonccgopaaGreat.Rc
