/- DiskFails: what the call answers. -/
import Derived.Test.YtchibjdhdbkdhabDStr
namespace Go.Proofs.Ytchibjdhdbkdhab
open Go.RowKit
set_option linter.unusedVariables false
set_option maxRecDepth 100000
set_option linter.unusedSimpArgs false

/-- The disk when dn writes were taken, a failure being ordered behind the next N. -/
structure FailSt (N dn : Nat) (D : Dsk) : Prop where
  dead : D.dead = false
  cg : D.cg = false
  fg : D.fg = true
  ops : D.ops = dn
  le : dn ≤ N
  fk : (D.fl = false ∧ D.fk = N - dn) ∨ (D.fl = true ∧ dn = N)
theorem fails_start (n : Int) : FailSt n.toNat 0 (Dsk.new.fail n) := ⟨rfl, rfl, rfl, rfl, Nat.zero_le _, Or.inl ⟨rfl, rfl⟩⟩
theorem fails_ok {N dn : Nat} {D : Dsk} (h : FailSt N dn D) (hlt : dn < N) (i : Nat) (s : ByteArray) (hi : i < 256) (hs : s.size ≤ 256) (hw : D.wr.length = 256) : (D.write i s).2 = 0 ∧ FailSt N (dn + 1) (D.write i s).1 ∧ (D.write i s).1.read i = s := by
  obtain ⟨h1, h2, h3, h4, h5, h6⟩ := h
  rcases h6 with ⟨h6, h7⟩ | ⟨_, h7⟩
  · have hb : D.begin = ({ D with ops := D.ops + 1, cl := D.cl - 1, fk := D.fk - 1 }, 0) := by
      have e : (D.fk == 0) = false := beq_eq_false_iff_ne.2 (by omega)
      simp [Dsk.begin, h1, h2, h3, h6, e]
    rw [write_begin D i s hi hs, hb, if_pos rfl]
    refine ⟨rfl, ⟨h1, h2, h3, ?_, by omega, Or.inl ⟨h6, ?_⟩⟩, ?_⟩
    · show D.ops + 1 = _; omega
    · show D.fk - 1 = _; omega
    · rw [read_in _ _ hi]
      show (D.wr.set i s).getD i ByteArray.empty = s
      rw [List.getD_eq_getElem?_getD, List.getElem?_set_self (by omega)]; rfl
  · omega
theorem fails_no {N : Nat} {D : Dsk} (h : FailSt N N D) : D.begin.2 = 42 ∧ FailSt N N D.begin.1 := by
  obtain ⟨h1, h2, h3, h4, h5, h6⟩ := h
  rcases h6 with ⟨h6, h7⟩ | ⟨h6, _⟩
  · have hb : D.begin = ({ D with fl := true }, 42) := by simp [Dsk.begin, h1, h2, h3, h6, h7]
    rw [hb]
    exact ⟨rfl, h1, h2, h3, h4, h5, Or.inr ⟨rfl, rfl⟩⟩
  · have hb : D.begin = (D, 42) := by simp [Dsk.begin, h1, h6]
    rw [hb]
    exact ⟨rfl, h1, h2, h3, h4, h5, Or.inr ⟨h6, rfl⟩⟩
theorem fails_write {N : Nat} {D : Dsk} (h : FailSt N N D) (i : Nat) (s : ByteArray) (hi : i < 256) (hs : s.size ≤ 256) : (D.write i s).2 = 42 ∧ FailSt N N (D.write i s).1 := by
  have e := fails_no h
  rw [write_begin D i s hi hs, if_neg (by rw [e.1]; decide)]
  exact e
theorem fails_sync {N : Nat} {D : Dsk} (h : FailSt N N D) : D.sync.2 = 42 ∧ FailSt N N D.sync.1 := by
  have e := fails_no h
  unfold Dsk.sync
  rw [if_neg (by rw [e.1]; decide)]
  exact e
theorem fails_end {N dn : Nat} {D : Dsk} (h : FailSt N dn D) : D.power.ops = dn ∧ D.power.sync.2 = 0 ∧ D.power.sync.1.dead = false := by
  have hb : D.power.begin = ({ D.power with ops := D.power.ops + 1, cl := D.power.cl - 1, fk := D.power.fk - 1 }, 0) := by simp [Dsk.begin, Dsk.power, Dsk.forget]
  unfold Dsk.sync
  rw [hb, if_pos rfl]
  exact ⟨h.ops, rfl, rfl⟩
set_option maxHeartbeats 4000000 in
theorem fails_any (n : Int) (a0 : Option Addr) (len0 cap0 : Nat) (ss : List ByteArray) (w : World) (hn : -9223372036854775808 ≤ n ∧ n < 9223372036854775808) (w0 : IsStrs w a0 len0 cap0 ss) :
    Calls Try.prog 4 #[.int .i64 n, .slice a0 len0 cap0] w fun e w' => e = .returned (.bool true) ∧ Below w.heap.size w w' := by
  by_cases hl0 : 256 < len0
  · have hl0' : (256 : Int) < (len0 : Int) := by omega
    go_enter Try.func4, Try.ntmps4
    go_wp2
    go_ret
    exact ⟨rfl, Below.refl _ _⟩
  have hl0' : (len0 : Int) ≤ 256 := by omega
  go_enter Try.func4, Try.ntmps4
  go_wp2_with fail
  refine (new_any w).mono ?_
  rintro e W1 ⟨rfl, hd, hb⟩
  go_wp2_with fail
  refine (fail_any W1 w.heap.size w.heap.size Dsk.new n hn (Nat.le_refl _) hd).mono ?_
  rintro e W2 ⟨rfl, hd2, k2⟩
  have hb2 := below_kp hb k2
  clear hd hb k2
  go_wp2
  go_loopw [6, 7] (fun c i W => ∃ (k dn : Nat) (D : Dsk), k ≤ len0 ∧ i = .int .i64 k ∧ c = .int .i64 dn ∧ dn ≤ k ∧ FailSt n.toNat dn D ∧ DiskIs W w.heap.size D ∧ Below w.heap.size w W) (fun _ i _ => len0 - (intOf i).toNat)
  case atStart => exact ⟨0, 0, _, Nat.zero_le _, rfl, rfl, Nat.le_refl _, fails_start n, hd2, hb2⟩
  case round =>
    obtain ⟨k, dn, D, hk, rfl, rfl, hdn, hst, hd3, hb3⟩ := hrel
    clear hd2 hb2
    have hops : D.ops < 4611686018427387904 := by have := hst.ops; omega
    have hdN := hst.le
    have HST := hid hst
    clear hst
    by_cases hlt : k < len0
    · obtain ⟨b, off, rfl, hc, hsz, hl, hm⟩ := w0.at k hlt
      have hbl : b < w.heap.size := World.block_lt_of_cell? w _ hc
      have hc3 := (hb3.cell (p := ⟨b, off + k, none⟩) hbl).trans hc
      unfold maxLen at hm
      have hk2 : k < 256 := by omega
      have hkm : (k : Int) % 256 = (k : Int) := by omega
      generalize ss.getD k ByteArray.empty = s at *
      by_cases hs : 256 < s.size
      · have hs' : (256 : Int) < (s.size : Int) := by omega
        have HW := hid (write_big D k s hk2 hs)
        go_wp2_with fail
        refine (write_any _ w.heap.size w.heap.size D k s hops (Nat.le_refl _) hd3).mono ?_
        rintro e W4 ⟨rfl, hd4, k4⟩
        rw [HW.out] at hd4 ⊢
        have hb4 := below_kp hb3 k4
        have hc4 := (hb4.cell (p := ⟨b, off + k, none⟩) hbl).trans hc
        clear hc3 hb3 hd3 k4
        go_wp2
        go_roundw
        case rel => exact ⟨k + 1, dn, D, by omega, by go_num, rfl, by omega, HST.out, hd4, hb4⟩
        case measure => simp [intOf]; omega
      · have hs' : ¬ (256 : Int) < (s.size : Int) := by omega
        by_cases hdlt : dn < n.toNat
        · have hdl : (dn : Int) < n := by omega
          have HW := hid (fails_ok HST.out hdlt k s hk2 (by omega) (by obtain ⟨sl, h⟩ := hd3; exact h.good.wl))
          go_wp2_with fail
          refine (write_any _ w.heap.size w.heap.size D k s hops (Nat.le_refl _) hd3).mono ?_
          rintro e W4 ⟨rfl, hd4, k4⟩
          rw [HW.out.1]
          have hb4 := below_kp hb3 k4
          have hc4 := (hb4.cell (p := ⟨b, off + k, none⟩) hbl).trans hc
          have H2 := hid HW.out.2
          clear hc3 hb3 hd3 k4 HW
          generalize (D.write k s).1 = D4 at *
          go_wp2_with fail
          refine (read_any _ _ D4 k hd4).mono ?_
          rintro e W5 ⟨rfl, rfl⟩
          rw [H2.out.2]
          go_wp2
          go_roundw
          case rel => exact ⟨k + 1, dn + 1, D4, by omega, by go_num, by go_num, by omega, H2.out.1, hd4, hb4⟩
          case measure => simp [intOf]; omega
        · have hdl : ¬ (dn : Int) < n := by omega
          obtain rfl : dn = n.toNat := by omega
          have HW := hid (fails_write HST.out k s hk2 (by omega))
          go_wp2_with fail
          refine (write_any _ w.heap.size w.heap.size D k s hops (Nat.le_refl _) hd3).mono ?_
          rintro e W4 ⟨rfl, hd4, k4⟩
          rw [HW.out.1]
          have hb4 := below_kp hb3 k4
          have hc4 := (hb4.cell (p := ⟨b, off + k, none⟩) hbl).trans hc
          have H2 := hid HW.out.2
          have hops4 : (D.write k s).1.ops < 4611686018427387904 := by have := D.write_ops k s; have := HST.out.ops; omega
          clear hc3 hb3 hd3 k4 HW
          generalize (D.write k s).1 = D4 at *
          go_wp2_with fail
          refine (sync_any _ w.heap.size w.heap.size D4 hops4 (Nat.le_refl _) hd4).mono ?_
          rintro e W5 ⟨rfl, hd5, k5⟩
          have H3 := hid (fails_sync H2.out)
          rw [H3.out.1]
          have hb5 := below_kp hb4 k5
          go_wp2
          go_roundw
          case rel => exact ⟨k + 1, n.toNat, _, by omega, by go_num, by congr 1; omega, by omega, H3.out.2, hd5, hb5⟩
          case measure => simp [intOf]; omega
    · have HE := hid (fails_end HST.out)
      go_wp2_with fail
      refine (power_any _ w.heap.size w.heap.size D (Nat.le_refl _) hd3).mono ?_
      rintro e W4 ⟨rfl, hd4, k4⟩
      have hb4 := below_kp hb3 k4
      clear hb3 hd3 k4
      have hops4 : D.power.ops < 4611686018427387904 := hops
      generalize D.power = D4 at *
      go_wp2_with fail
      refine (ops_any _ _ D4 hd4).mono ?_
      rintro e W5 ⟨rfl, rfl⟩
      rw [HE.out.1]
      go_wp2_with fail
      refine (sync_any _ w.heap.size w.heap.size D4 hops4 (Nat.le_refl _) hd4).mono ?_
      rintro e W6 ⟨rfl, hd6, k6⟩
      rw [HE.out.2.1]
      have hb6 := below_kp hb4 k6
      have H7 := hid HE.out.2.2
      generalize D4.sync.1 = D6 at *
      clear hb4 hd4 k6 HE
      go_wp2_with fail
      refine (dead_any _ _ D6 hd6).mono ?_
      rintro e W7 ⟨rfl, rfl⟩
      rw [H7.out]
      go_wp2
      go_ret
      exact ⟨rfl, hb6⟩
theorem fails_fits (n : Int) (a0 : Option Addr) (len0 cap0 : Nat) (ss : List ByteArray) (w : World) (hn : (Lit.int .i64 n).wf = true) (w0 : IsStrs w a0 len0 cap0 ss) :
    Calls Try.prog 4 #[.int .i64 n, .slice a0 len0 cap0] w fun e w' => e = .returned (.bool true) ∧ Below w.heap.size w w' :=
  fails_any n a0 len0 cap0 ss w (by have := bounds_i64 hn; omega) w0
end Go.Proofs.Ytchibjdhdbkdhab
