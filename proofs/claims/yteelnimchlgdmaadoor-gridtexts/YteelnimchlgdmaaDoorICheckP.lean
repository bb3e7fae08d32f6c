/- grid: the program's Check. -/
import Derived.Test.YteelnimchlgdmaaDoorICheck
namespace Go.Proofs.YteelnimchlgdmaaDoor
open Go.RowKit
set_option linter.unusedVariables false
set_option maxRecDepth 100000
set_option linter.unusedSimpArgs false

set_option maxHeartbeats 3200000 in
theorem icheck_any (w : World) (g : Gr) (la : Option Addr) (lc : Nat) (h : Lns w (.slice la g.lines.length lc) g.lines) :
    Calls Tryd.prog 14 #[.agg #[.int .i64 g.zones, .int .i64 g.hours, .slice la g.lines.length lc, .int .i64 g.low, .int .i64 g.high]] w fun e w' => e = .returned (.int .i64 (errG g)) ∧ Below w.heap.size w w' := by
  have b0 := ibel w (Obj.cells #[.int .i64 g.zones, .int .i64 g.hours, .slice la g.lines.length lc, .int .i64 g.low, .int .i64 g.high] 24)
  have x0 := inew w (Obj.cells #[.int .i64 g.zones, .int .i64 g.hours, .slice la g.lines.length lc, .int .i64 g.low, .int .i64 g.high] 24)
  have z0 := ibx x0 0 _ rfl
  have z1 := ibx x0 1 _ rfl
  have z2 := ibx x0 2 _ rfl
  have z3 := ibx x0 3 _ rfl
  have z4 := ibx x0 4 _ rfl
  have HL := hid (h.below b0)
  obtain ⟨a', c', e', hl, hm⟩ := h.slice
  simp only [Value.slice.injEq] at e'
  obtain ⟨rfl, -, rfl⟩ := e'
  unfold maxLen at hm
  obtain ⟨R, HR⟩ : ∃ R, Hid (errG g = R) := ⟨_, hid rfl⟩
  rw [HR.out]
  have HNO := hid (fun (hh : gok g = false) => show R = 140 by rw [← HR.out]; unfold errG; rw [hh]; rfl)
  have HYES := hid (fun (hh : gok g = true) => show R = 0 by rw [← HR.out]; unfold errG; rw [hh]; rfl)
  have HG := hid (show gok g = (btw 1 g.zones 3 && btw 1 g.hours 3 && (btw (-100000) g.low g.high && decide (g.high ≤ 100000)) && decide (g.lines.length ≤ 3) && g.lines.all (lnok g.zones)) from rfl)
  clear h x0 HR
  cases h1 : btw 1 g.zones 3 with
  | false =>
    have HE := hid (HNO.out (by rw [HG.out, h1]; rfl))
    go_enter Tryd.func14, Tryd.ntmps14
    go_wp2_with fail
    refine (between_any 1 g.zones 3 _ h1 _).mono ?_
    rintro e X ⟨rfl, rfl⟩
    go_wp2_with fail
    go_ret
    exact ⟨by rw [HE.out]; rfl, b0⟩
  | true =>
  cases h2 : btw 1 g.hours 3 with
  | false =>
    have HE := hid (HNO.out (by rw [HG.out, h1, h2]; rfl))
    go_enter Tryd.func14, Tryd.ntmps14
    go_wp2_with fail
    refine (between_any 1 g.zones 3 _ h1 _).mono ?_
    rintro e X ⟨rfl, rfl⟩
    go_wp2_with fail
    refine (between_any 1 g.hours 3 _ h2 _).mono ?_
    rintro e X ⟨rfl, rfl⟩
    go_wp2_with fail
    go_ret
    exact ⟨by rw [HE.out]; rfl, b0⟩
  | true =>
  cases h3 : btw (-100000) g.low g.high with
  | false =>
    have HE := hid (HNO.out (by rw [HG.out, h1, h2, h3]; rfl))
    go_enter Tryd.func14, Tryd.ntmps14
    go_wp2_with fail
    refine (between_any 1 g.zones 3 _ h1 _).mono ?_
    rintro e X ⟨rfl, rfl⟩
    go_wp2_with fail
    refine (between_any 1 g.hours 3 _ h2 _).mono ?_
    rintro e X ⟨rfl, rfl⟩
    go_wp2_with fail
    refine (between_any (-100000) g.low g.high _ h3 _).mono ?_
    rintro e X ⟨rfl, rfl⟩
    go_wp2_with fail
    go_ret
    exact ⟨by rw [HE.out]; rfl, b0⟩
  | true =>
  by_cases h4 : g.high ≤ 100000
  case neg =>
    have HE := hid (HNO.out (by rw [HG.out, h1, h2, h3, decide_eq_false h4]; rfl))
    have h4' : decide (100000 < g.high) = true := decide_eq_true (by omega)
    clear h4
    go_enter Tryd.func14, Tryd.ntmps14
    go_wp2_with fail
    refine (between_any 1 g.zones 3 _ h1 _).mono ?_
    rintro e X ⟨rfl, rfl⟩
    go_wp2_with fail
    refine (between_any 1 g.hours 3 _ h2 _).mono ?_
    rintro e X ⟨rfl, rfl⟩
    go_wp2_with fail
    refine (between_any (-100000) g.low g.high _ h3 _).mono ?_
    rintro e X ⟨rfl, rfl⟩
    go_wp2_with fail
    go_ret
    exact ⟨by rw [HE.out]; rfl, b0⟩
  have h4' : decide (100000 < g.high) = false := decide_eq_false (by omega)
  by_cases h5 : g.lines.length ≤ 3
  case neg =>
    have HE := hid (HNO.out (by rw [HG.out, h1, h2, h3, decide_eq_true h4, decide_eq_false h5]; rfl))
    have h5' : decide ((3 : Int) < (g.lines.length : Int)) = true := decide_eq_true (by omega)
    clear h4 h5
    go_enter Tryd.func14, Tryd.ntmps14
    go_wp2_with fail
    refine (between_any 1 g.zones 3 _ h1 _).mono ?_
    rintro e X ⟨rfl, rfl⟩
    go_wp2_with fail
    refine (between_any 1 g.hours 3 _ h2 _).mono ?_
    rintro e X ⟨rfl, rfl⟩
    go_wp2_with fail
    refine (between_any (-100000) g.low g.high _ h3 _).mono ?_
    rintro e X ⟨rfl, rfl⟩
    go_wp2_with fail
    go_ret
    exact ⟨by rw [HE.out]; rfl, b0⟩
  have h5' : decide ((3 : Int) < (g.lines.length : Int)) = false := decide_eq_false (by omega)
  have HA := hid (show gok g = g.lines.all (lnok g.zones) by rw [HG.out, h1, h2, h3, decide_eq_true h4, decide_eq_true h5]; rfl)
  have hz := btw_true h1
  clear HG h4
  go_enter Tryd.func14, Tryd.ntmps14
  go_wp2_with fail
  refine (between_any 1 g.zones 3 _ h1 _).mono ?_
  rintro e X ⟨rfl, rfl⟩
  go_wp2_with fail
  refine (between_any 1 g.hours 3 _ h2 _).mono ?_
  rintro e X ⟨rfl, rfl⟩
  go_wp2_with fail
  refine (between_any (-100000) g.low g.high _ h3 _).mono ?_
  rintro e X ⟨rfl, rfl⟩
  go_wp2_with fail
  generalize hW0 : w.alloc (Obj.cells #[.int .i64 g.zones, .int .i64 g.hours, .slice la g.lines.length lc, .int .i64 g.low, .int .i64 g.high] 24) = W0 at *
  clear hW0
  have hbw : w.heap.size < W0.heap.size := World.block_lt_of_cell? W0 _ z0
  have HN := hid (rfl : g.lines = g.lines)
  generalize hS : g.lines = S at *
  have HS := hid hS
  generalize hZ : g.zones = Z at *
  clear hS hZ HN h2 h3
  go_loopw [33] (fun i wr => ∃ k : Nat, k ≤ S.length ∧ i = .int .i64 (k : Int) ∧ Hid ((S.take k).all (lnok Z) = true) ∧ Below W0.heap.size W0 wr) (fun i _ => S.length - (intOf i).toNat)
  case atStart => exact ⟨0, Nat.zero_le _, rfl, hid rfl, Below.refl _ _⟩
  case round =>
    obtain ⟨k, hk, rfl, HK, bW⟩ := hrel
    by_cases hlt : k < S.length
    · obtain ⟨b, off, c', e, _, _, q0, q1, q2⟩ := (HL.out.below bW).at k hlt
      simp only [Value.slice.injEq] at e
      obtain ⟨rfl, -, rfl⟩ := e
      have y0 := ikc bW z0
      have HT := hid (fun (hh : lnok Z S[k] = true) => show (S.take (k + 1)).all (lnok Z) = true by rw [List.take_add_one, List.getElem?_eq_getElem hlt, List.all_append, HK.out]; simp [hh])
      have HF := hid (fun (hh : lnok Z S[k] = false) => HNO.out (by rw [HA.out]; exact List.all_eq_false.2 ⟨_, List.getElem_mem hlt, by rw [hh]; simp⟩))
      clear HK HA HNO HYES
      have hli : (0 : Int) ≤ (k : Int) ∧ (k : Int) < (S.length : Int) := by omega
      generalize S[k] = l at *
      obtain ⟨lf, lt, lcap⟩ := l
      have bX := ibel wr (Obj.cells #[.int .i64 lf, .int .i64 lt, .int .i64 lcap] 41)
      have x1 := inew wr (Obj.cells #[.int .i64 lf, .int .i64 lt, .int .i64 lcap] 41)
      have u0 := ibx x1 0 _ rfl
      have u1 := ibx x1 1 _ rfl
      have u2 := ibx x1 2 _ rfl
      have v0 := ikc bX y0
      have bWX := bW.trans (bX.mono bW.size)
      cases j1 : (btw 0 lf (Z - 1) && btw 0 lt (Z - 1) && decide (lf ≠ lt)) with
      | false =>
        have HE := hid (HF.out (by unfold lnok; rw [j1]; rfl))
        go_wp2_with fail
        refine (joins_any ⟨lf, lt, lcap⟩ Z hz _ j1 _).mono ?_
        rintro e X ⟨rfl, bX1⟩
        have b1 := b0.trans ((bWX.trans (bX1.mono bWX.size)).mono (Nat.le_of_lt hbw))
        go_wp2_with fail
        go_ret
        exact ⟨by rw [HE.out]; rfl, b1⟩
      | true =>
        cases j2 : btw 0 lcap 1000 with
        | false =>
          have HE := hid (HF.out (by unfold lnok; rw [j1, j2]; rfl))
          go_wp2_with fail
          refine (joins_any ⟨lf, lt, lcap⟩ Z hz _ j1 _).mono ?_
          rintro e X ⟨rfl, bX1⟩
          have b1 := b0.trans ((bWX.trans (bX1.mono bWX.size)).mono (Nat.le_of_lt hbw))
          have u2 := ikc bX1 u2
          go_wp2_with fail
          refine (between_any 0 lcap 1000 _ j2 _).mono ?_
          rintro e X ⟨rfl, rfl⟩
          go_wp2_with fail
          go_ret
          exact ⟨by rw [HE.out]; rfl, b1⟩
        | true =>
          have HE := hid (HT.out (by unfold lnok; rw [j1, j2]; rfl))
          go_wp2_with fail
          refine (joins_any ⟨lf, lt, lcap⟩ Z hz _ j1 _).mono ?_
          rintro e X ⟨rfl, bX1⟩
          have bW1 := bWX.trans (bX1.mono bWX.size)
          have u2 := ikc bX1 u2
          go_wp2_with fail
          refine (between_any 0 lcap 1000 _ j2 _).mono ?_
          rintro e X ⟨rfl, rfl⟩
          go_wp2_with fail
          go_roundw
          case rel => exact ⟨k + 1, by omega, by go_num, HE, bW1⟩
          case measure => simp [intOf]; omega
    · have hkl : k = S.length := by omega
      have HE := hid (HYES.out (by rw [HA.out]; have := HK.out; rwa [hkl, List.take_length] at this))
      have b1 := b0.trans (bW.mono (Nat.le_of_lt hbw))
      clear hkl
      go_wp2_with fail
      go_ret
      exact ⟨by rw [HE.out]; rfl, b1⟩
end Go.Proofs.YteelnimchlgdmaaDoor
