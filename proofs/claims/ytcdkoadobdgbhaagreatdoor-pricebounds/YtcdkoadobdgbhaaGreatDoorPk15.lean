/- ICheck, ICheckP, ICheckM. -/
import Derived.Test.YtcdkoadobdgbhaaGreatDoorPk14
import Derived.Deep.RegionWith
/- grid: Check of both. -/
namespace Go.Proofs.YtcdkoadobdgbhaaGreatDoor
open Go.RowKit
set_option linter.unusedVariables false
set_option maxRecDepth 100000
set_option linter.unusedSimpArgs false

set_option maxHeartbeats 800000 in
theorem between_any (lo n hi : Int) (R : Bool) (h : btw lo n hi = R) (w : World) :
    Calls Tryz.prog 102 #[.int .i64 lo, .int .i64 n, .int .i64 hi] w fun e w' => e = .returned (.bool R) ∧ w' = w := by
  subst h
  by_cases h1 : lo ≤ n
  · have t1 : decide (lo ≤ n) = true := decide_eq_true h1
    by_cases h2 : n ≤ hi
    · have t2 : decide (n ≤ hi) = true := decide_eq_true h2
      have e : btw lo n hi = true := by simp [btw, t1, t2]
      rw [e]
      clear e
      go_enter Tryz.func102, Tryz.ntmps102
      go_wp2
      go_ret
      exact ⟨rfl, rfl⟩
    · have t2 : decide (n ≤ hi) = false := decide_eq_false h2
      have e : btw lo n hi = false := by simp [btw, t2]
      rw [e]
      clear e
      go_enter Tryz.func102, Tryz.ntmps102
      go_wp2
      go_ret
      exact ⟨rfl, rfl⟩
  · have t1 : decide (lo ≤ n) = false := decide_eq_false h1
    have e : btw lo n hi = false := by simp [btw, t1]
    rw [e]
    clear e
    go_enter Tryz.func102, Tryz.ntmps102
    go_wp2
    go_ret
    exact ⟨rfl, rfl⟩
set_option maxHeartbeats 800000 in
theorem mwithin_any (lo n hi : Int) (R : Bool) (h : btw lo n hi = R) (w : World) :
    Calls Tryz.prog 109 #[.int .i64 n, .int .i64 lo, .int .i64 hi] w fun e w' => e = .returned (.bool R) ∧ w' = w := by
  subst h
  by_cases h1 : lo ≤ n
  · have t1 : decide (lo ≤ n) = true := decide_eq_true h1
    by_cases h2 : n ≤ hi
    · have t2 : decide (n ≤ hi) = true := decide_eq_true h2
      have e : btw lo n hi = true := by simp [btw, t1, t2]
      rw [e]
      clear e
      go_enter Tryz.func109, Tryz.ntmps109
      go_wp2
      go_ret
      exact ⟨rfl, rfl⟩
    · have t2 : decide (n ≤ hi) = false := decide_eq_false h2
      have e : btw lo n hi = false := by simp [btw, t2]
      rw [e]
      clear e
      go_enter Tryz.func109, Tryz.ntmps109
      go_wp2
      go_ret
      exact ⟨rfl, rfl⟩
  · have t1 : decide (lo ≤ n) = false := decide_eq_false h1
    have e : btw lo n hi = false := by simp [btw, t1]
    rw [e]
    clear e
    go_enter Tryz.func109, Tryz.ntmps109
    go_wp2
    go_ret
    exact ⟨rfl, rfl⟩
set_option maxHeartbeats 800000 in
theorem joins_any (l : Ln) (z : Int) (hz : 1 ≤ z ∧ z ≤ 3) (R : Bool) (h : (btw 0 l.f (z - 1) && btw 0 l.t (z - 1) && decide (l.f ≠ l.t)) = R) (w : World) :
    Calls Tryz.prog 103 #[.agg #[.int .i64 l.f, .int .i64 l.t, .int .i64 l.c], .int .i64 z] w fun e w' => e = .returned (.bool R) ∧ Below w.heap.size w w' := by
  subst h
  have b0 := ibel w (Obj.cells #[.int .i64 l.f, .int .i64 l.t, .int .i64 l.c] 143)
  have x0 := inew w (Obj.cells #[.int .i64 l.f, .int .i64 l.t, .int .i64 l.c] 143)
  have z0 := ibx x0 0 _ rfl
  have z1 := ibx x0 1 _ rfl
  have hw : wrap64 (z - 1) = z - 1 := by simp only [wrap64]; omega
  clear x0
  cases h1 : btw 0 l.f (z - 1) with
  | false =>
    go_enter Tryz.func103, Tryz.ntmps103
    go_wp2_with fail
    refine (between_any 0 l.f (z - 1) _ h1 _).mono ?_
    rintro e X ⟨rfl, rfl⟩
    go_wp2_with fail
    go_ret
    exact ⟨by simp, b0⟩
  | true =>
    cases h2 : btw 0 l.t (z - 1) with
    | false =>
      go_enter Tryz.func103, Tryz.ntmps103
      go_wp2_with fail
      refine (between_any 0 l.f (z - 1) _ h1 _).mono ?_
      rintro e X ⟨rfl, rfl⟩
      go_wp2_with fail
      refine (between_any 0 l.t (z - 1) _ h2 _).mono ?_
      rintro e X ⟨rfl, rfl⟩
      go_wp2_with fail
      go_ret
      exact ⟨by simp, b0⟩
    | true =>
      go_enter Tryz.func103, Tryz.ntmps103
      go_wp2_with fail
      refine (between_any 0 l.f (z - 1) _ h1 _).mono ?_
      rintro e X ⟨rfl, rfl⟩
      go_wp2_with fail
      refine (between_any 0 l.t (z - 1) _ h2 _).mono ?_
      rintro e X ⟨rfl, rfl⟩
      go_wp2_with fail
      go_ret
      exact ⟨by by_cases q : l.f = l.t <;> simp [q], b0⟩
end Go.Proofs.YtcdkoadobdgbhaaGreatDoor
/- grid: the program's Check. -/
namespace Go.Proofs.YtcdkoadobdgbhaaGreatDoor
open Go.RowKit
set_option linter.unusedVariables false
set_option maxRecDepth 100000
set_option linter.unusedSimpArgs false

set_option maxHeartbeats 3200000 in
theorem icheck_any (w : World) (g : Gr) (la : Option Addr) (lc : Nat) (h : Lns w (.slice la g.lines.length lc) g.lines) :
    Calls Tryz.prog 46 #[.agg #[.int .i64 g.zones, .int .i64 g.hours, .slice la g.lines.length lc, .int .i64 g.low, .int .i64 g.high]] w fun e w' => e = .returned (.int .i64 (errG g)) ∧ Below w.heap.size w w' := by
  have b0 := ibel w (Obj.cells #[.int .i64 g.zones, .int .i64 g.hours, .slice la g.lines.length lc, .int .i64 g.low, .int .i64 g.high] 25)
  have x0 := inew w (Obj.cells #[.int .i64 g.zones, .int .i64 g.hours, .slice la g.lines.length lc, .int .i64 g.low, .int .i64 g.high] 25)
  have z0 := ibx x0 0 _ rfl
  have z1 := ibx x0 1 _ rfl
  have z2 := ibx x0 2 _ rfl
  have z3 := ibx x0 3 _ rfl
  have z4 := ibx x0 4 _ rfl
  have HL := hid (h.below b0)
  obtain ⟨a', c', e', hl, hm⟩ := h.slice
  simp only [Value.slice.injEq] at e'
  obtain ⟨rfl, -, rfl⟩ := e'
  unfold maxLen at hm
  obtain ⟨R, HR⟩ : ∃ R, Hid (errG g = R) := ⟨_, hid rfl⟩
  rw [HR.out]
  have HNO := hid (fun (hh : gok g = false) => show R = 140 by rw [← HR.out]; unfold errG; rw [hh]; rfl)
  have HYES := hid (fun (hh : gok g = true) => show R = 0 by rw [← HR.out]; unfold errG; rw [hh]; rfl)
  have HG := hid (show gok g = (btw 1 g.zones 3 && btw 1 g.hours 3 && (btw (-100000) g.low g.high && decide (g.high ≤ 100000)) && decide (g.lines.length ≤ 3) && g.lines.all (lnok g.zones)) from rfl)
  clear h x0 HR
  cases h1 : btw 1 g.zones 3 with
  | false =>
    have HE := hid (HNO.out (by rw [HG.out, h1]; rfl))
    go_enter Tryz.func46, Tryz.ntmps46
    go_wp2_with fail
    refine (between_any 1 g.zones 3 _ h1 _).mono ?_
    rintro e X ⟨rfl, rfl⟩
    go_wp2_with fail
    go_ret
    exact ⟨by rw [HE.out]; rfl, b0⟩
  | true =>
  cases h2 : btw 1 g.hours 3 with
  | false =>
    have HE := hid (HNO.out (by rw [HG.out, h1, h2]; rfl))
    go_enter Tryz.func46, Tryz.ntmps46
    go_wp2_with fail
    refine (between_any 1 g.zones 3 _ h1 _).mono ?_
    rintro e X ⟨rfl, rfl⟩
    go_wp2_with fail
    refine (between_any 1 g.hours 3 _ h2 _).mono ?_
    rintro e X ⟨rfl, rfl⟩
    go_wp2_with fail
    go_ret
    exact ⟨by rw [HE.out]; rfl, b0⟩
  | true =>
  cases h3 : btw (-100000) g.low g.high with
  | false =>
    have HE := hid (HNO.out (by rw [HG.out, h1, h2, h3]; rfl))
    go_enter Tryz.func46, Tryz.ntmps46
    go_wp2_with fail
    refine (between_any 1 g.zones 3 _ h1 _).mono ?_
    rintro e X ⟨rfl, rfl⟩
    go_wp2_with fail
    refine (between_any 1 g.hours 3 _ h2 _).mono ?_
    rintro e X ⟨rfl, rfl⟩
    go_wp2_with fail
    refine (between_any (-100000) g.low g.high _ h3 _).mono ?_
    rintro e X ⟨rfl, rfl⟩
    go_wp2_with fail
    go_ret
    exact ⟨by rw [HE.out]; rfl, b0⟩
  | true =>
  by_cases h4 : g.high ≤ 100000
  case neg =>
    have HE := hid (HNO.out (by rw [HG.out, h1, h2, h3, decide_eq_false h4]; rfl))
    have h4' : decide (100000 < g.high) = true := decide_eq_true (by omega)
    clear h4
    go_enter Tryz.func46, Tryz.ntmps46
    go_wp2_with fail
    refine (between_any 1 g.zones 3 _ h1 _).mono ?_
    rintro e X ⟨rfl, rfl⟩
    go_wp2_with fail
    refine (between_any 1 g.hours 3 _ h2 _).mono ?_
    rintro e X ⟨rfl, rfl⟩
    go_wp2_with fail
    refine (between_any (-100000) g.low g.high _ h3 _).mono ?_
    rintro e X ⟨rfl, rfl⟩
    go_wp2_with fail
    go_ret
    exact ⟨by rw [HE.out]; rfl, b0⟩
  have h4' : decide (100000 < g.high) = false := decide_eq_false (by omega)
  by_cases h5 : g.lines.length ≤ 3
  case neg =>
    have HE := hid (HNO.out (by rw [HG.out, h1, h2, h3, decide_eq_true h4, decide_eq_false h5]; rfl))
    have h5' : decide ((3 : Int) < (g.lines.length : Int)) = true := decide_eq_true (by omega)
    clear h4 h5
    go_enter Tryz.func46, Tryz.ntmps46
    go_wp2_with fail
    refine (between_any 1 g.zones 3 _ h1 _).mono ?_
    rintro e X ⟨rfl, rfl⟩
    go_wp2_with fail
    refine (between_any 1 g.hours 3 _ h2 _).mono ?_
    rintro e X ⟨rfl, rfl⟩
    go_wp2_with fail
    refine (between_any (-100000) g.low g.high _ h3 _).mono ?_
    rintro e X ⟨rfl, rfl⟩
    go_wp2_with fail
    go_ret
    exact ⟨by rw [HE.out]; rfl, b0⟩
  have h5' : decide ((3 : Int) < (g.lines.length : Int)) = false := decide_eq_false (by omega)
  have HA := hid (show gok g = g.lines.all (lnok g.zones) by rw [HG.out, h1, h2, h3, decide_eq_true h4, decide_eq_true h5]; rfl)
  have hz := btw_true h1
  clear HG h4
  go_enter Tryz.func46, Tryz.ntmps46
  go_wp2_with fail
  refine (between_any 1 g.zones 3 _ h1 _).mono ?_
  rintro e X ⟨rfl, rfl⟩
  go_wp2_with fail
  refine (between_any 1 g.hours 3 _ h2 _).mono ?_
  rintro e X ⟨rfl, rfl⟩
  go_wp2_with fail
  refine (between_any (-100000) g.low g.high _ h3 _).mono ?_
  rintro e X ⟨rfl, rfl⟩
  go_wp2_with fail
  generalize hW0 : w.alloc (Obj.cells #[.int .i64 g.zones, .int .i64 g.hours, .slice la g.lines.length lc, .int .i64 g.low, .int .i64 g.high] 25) = W0 at *
  clear hW0
  have hbw : w.heap.size < W0.heap.size := World.block_lt_of_cell? W0 _ z0
  have HN := hid (rfl : g.lines = g.lines)
  generalize hS : g.lines = S at *
  have HS := hid hS
  generalize hZ : g.zones = Z at *
  clear hS hZ HN h2 h3
  go_loopw [33] (fun i wr => ∃ k : Nat, k ≤ S.length ∧ i = .int .i64 (k : Int) ∧ Hid ((S.take k).all (lnok Z) = true) ∧ Below W0.heap.size W0 wr) (fun i _ => S.length - (intOf i).toNat)
  case atStart => exact ⟨0, Nat.zero_le _, rfl, hid rfl, Below.refl _ _⟩
  case round =>
    obtain ⟨k, hk, rfl, HK, bW⟩ := hrel
    by_cases hlt : k < S.length
    · obtain ⟨b, off, c', e, _, _, q0, q1, q2⟩ := (HL.out.below bW).at k hlt
      simp only [Value.slice.injEq] at e
      obtain ⟨rfl, -, rfl⟩ := e
      have y0 := ikc bW z0
      have HT := hid (fun (hh : lnok Z S[k] = true) => show (S.take (k + 1)).all (lnok Z) = true by rw [List.take_add_one, List.getElem?_eq_getElem hlt, List.all_append, HK.out]; simp [hh])
      have HF := hid (fun (hh : lnok Z S[k] = false) => HNO.out (by rw [HA.out]; exact List.all_eq_false.2 ⟨_, List.getElem_mem hlt, by rw [hh]; simp⟩))
      clear HK HA HNO HYES
      have hli : (0 : Int) ≤ (k : Int) ∧ (k : Int) < (S.length : Int) := by omega
      generalize S[k] = l at *
      obtain ⟨lf, lt, lcap⟩ := l
      have bX := ibel wr (Obj.cells #[.int .i64 lf, .int .i64 lt, .int .i64 lcap] 143)
      have x1 := inew wr (Obj.cells #[.int .i64 lf, .int .i64 lt, .int .i64 lcap] 143)
      have u0 := ibx x1 0 _ rfl
      have u1 := ibx x1 1 _ rfl
      have u2 := ibx x1 2 _ rfl
      have v0 := ikc bX y0
      have bWX := bW.trans (bX.mono bW.size)
      cases j1 : (btw 0 lf (Z - 1) && btw 0 lt (Z - 1) && decide (lf ≠ lt)) with
      | false =>
        have HE := hid (HF.out (by unfold lnok; rw [j1]; rfl))
        go_wp2_with fail
        refine (joins_any ⟨lf, lt, lcap⟩ Z hz _ j1 _).mono ?_
        rintro e X ⟨rfl, bX1⟩
        have b1 := b0.trans ((bWX.trans (bX1.mono bWX.size)).mono (Nat.le_of_lt hbw))
        go_wp2_with fail
        go_ret
        exact ⟨by rw [HE.out]; rfl, b1⟩
      | true =>
        cases j2 : btw 0 lcap 1000 with
        | false =>
          have HE := hid (HF.out (by unfold lnok; rw [j1, j2]; rfl))
          go_wp2_with fail
          refine (joins_any ⟨lf, lt, lcap⟩ Z hz _ j1 _).mono ?_
          rintro e X ⟨rfl, bX1⟩
          have b1 := b0.trans ((bWX.trans (bX1.mono bWX.size)).mono (Nat.le_of_lt hbw))
          have u2 := ikc bX1 u2
          go_wp2_with fail
          refine (between_any 0 lcap 1000 _ j2 _).mono ?_
          rintro e X ⟨rfl, rfl⟩
          go_wp2_with fail
          go_ret
          exact ⟨by rw [HE.out]; rfl, b1⟩
        | true =>
          have HE := hid (HT.out (by unfold lnok; rw [j1, j2]; rfl))
          go_wp2_with fail
          refine (joins_any ⟨lf, lt, lcap⟩ Z hz _ j1 _).mono ?_
          rintro e X ⟨rfl, bX1⟩
          have bW1 := bWX.trans (bX1.mono bWX.size)
          have u2 := ikc bX1 u2
          go_wp2_with fail
          refine (between_any 0 lcap 1000 _ j2 _).mono ?_
          rintro e X ⟨rfl, rfl⟩
          go_wp2_with fail
          go_roundw
          case rel => exact ⟨k + 1, by omega, by go_num, HE, bW1⟩
          case measure => simp [intOf]; omega
    · have hkl : k = S.length := by omega
      have HE := hid (HYES.out (by rw [HA.out]; have := HK.out; rwa [hkl, List.take_length] at this))
      have b1 := b0.trans (bW.mono (Nat.le_of_lt hbw))
      clear hkl
      go_wp2_with fail
      go_ret
      exact ⟨by rw [HE.out]; rfl, b1⟩
end Go.Proofs.YtcdkoadobdgbhaaGreatDoor
/- grid: the document's Check. -/
namespace Go.Proofs.YtcdkoadobdgbhaaGreatDoor
open Go.RowKit
set_option linter.unusedVariables false
set_option maxRecDepth 100000
set_option linter.unusedSimpArgs false

set_option maxHeartbeats 3200000 in
theorem mcheck_any (w : World) (g : Gr) (la : Option Addr) (lc : Nat) (h : Lns w (.slice la g.lines.length lc) g.lines) :
    Calls Tryz.prog 54 #[.agg #[.int .i64 g.zones, .int .i64 g.hours, .slice la g.lines.length lc, .int .i64 g.low, .int .i64 g.high]] w fun e w' => e = .returned (.int .i64 (errG g)) ∧ Below w.heap.size w w' := by
  have b0 := ibel w (Obj.cells #[.int .i64 g.zones, .int .i64 g.hours, .slice la g.lines.length lc, .int .i64 g.low, .int .i64 g.high] 25)
  have x0 := inew w (Obj.cells #[.int .i64 g.zones, .int .i64 g.hours, .slice la g.lines.length lc, .int .i64 g.low, .int .i64 g.high] 25)
  have z0 := ibx x0 0 _ rfl
  have z1 := ibx x0 1 _ rfl
  have z2 := ibx x0 2 _ rfl
  have z3 := ibx x0 3 _ rfl
  have z4 := ibx x0 4 _ rfl
  have HL := hid (h.below b0)
  obtain ⟨a', c', e', hl, hm⟩ := h.slice
  simp only [Value.slice.injEq] at e'
  obtain ⟨rfl, -, rfl⟩ := e'
  unfold maxLen at hm
  obtain ⟨R, HR⟩ : ∃ R, Hid (errG g = R) := ⟨_, hid rfl⟩
  rw [HR.out]
  have HNO := hid (fun (hh : gok g = false) => show R = 140 by rw [← HR.out]; unfold errG; rw [hh]; rfl)
  have HYES := hid (fun (hh : gok g = true) => show R = 0 by rw [← HR.out]; unfold errG; rw [hh]; rfl)
  have HG := hid (show gok g = (btw 1 g.zones 3 && btw 1 g.hours 3 && (btw (-100000) g.low g.high && decide (g.high ≤ 100000)) && decide (g.lines.length ≤ 3) && g.lines.all (lnok g.zones)) from rfl)
  have HNG := hid (fun (hh : gok g = true → False) => HNO.out (by cases q : gok g with | false => rfl | true => exact (hh q).elim))
  clear h x0 HR HG
  cases h1 : btw 1 g.zones 3 with
  | false =>
    have HE := hid (HNG.out (fun q => by obtain ⟨k1, k2, k3, k4, k5⟩ := gok_iff.1 q; exact btw_false h1 k1))
    go_enter Tryz.func54, Tryz.ntmps54
    go_wp2_with fail
    refine (mwithin_any 1 g.zones 3 _ h1 _).mono ?_
    rintro e X ⟨rfl, rfl⟩
    go_wp2_with fail
    go_ret
    exact ⟨by rw [HE.out]; rfl, b0⟩
  | true =>
  cases h2 : btw 1 g.hours 3 with
  | false =>
    have HE := hid (HNG.out (fun q => by obtain ⟨k1, k2, k3, k4, k5⟩ := gok_iff.1 q; exact btw_false h2 k2))
    go_enter Tryz.func54, Tryz.ntmps54
    go_wp2_with fail
    refine (mwithin_any 1 g.zones 3 _ h1 _).mono ?_
    rintro e X ⟨rfl, rfl⟩
    go_wp2_with fail
    refine (mwithin_any 1 g.hours 3 _ h2 _).mono ?_
    rintro e X ⟨rfl, rfl⟩
    go_wp2_with fail
    go_ret
    exact ⟨by rw [HE.out]; rfl, b0⟩
  | true =>
  by_cases h5 : g.lines.length ≤ 3
  case neg =>
    have HE := hid (HNG.out (fun q => by obtain ⟨k1, k2, k3, k4, k5⟩ := gok_iff.1 q; omega))
    have h5' : decide ((3 : Int) < (g.lines.length : Int)) = true := decide_eq_true (by omega)
    clear h5
    go_enter Tryz.func54, Tryz.ntmps54
    go_wp2_with fail
    refine (mwithin_any 1 g.zones 3 _ h1 _).mono ?_
    rintro e X ⟨rfl, rfl⟩
    go_wp2_with fail
    refine (mwithin_any 1 g.hours 3 _ h2 _).mono ?_
    rintro e X ⟨rfl, rfl⟩
    go_wp2_with fail
    go_ret
    exact ⟨by rw [HE.out]; rfl, b0⟩
  have h5' : decide ((3 : Int) < (g.lines.length : Int)) = false := decide_eq_false (by omega)
  by_cases h3 : g.low < -100000
  case pos =>
    have HE := hid (HNG.out (fun q => by obtain ⟨k1, k2, k3, k4, k5⟩ := gok_iff.1 q; omega))
    have h3' : decide (g.low < -100000) = true := decide_eq_true h3
    clear h3
    go_enter Tryz.func54, Tryz.ntmps54
    go_wp2_with fail
    refine (mwithin_any 1 g.zones 3 _ h1 _).mono ?_
    rintro e X ⟨rfl, rfl⟩
    go_wp2_with fail
    refine (mwithin_any 1 g.hours 3 _ h2 _).mono ?_
    rintro e X ⟨rfl, rfl⟩
    go_wp2_with fail
    go_ret
    exact ⟨by rw [HE.out]; rfl, b0⟩
  have h3' : decide (g.low < -100000) = false := decide_eq_false h3
  by_cases h6 : g.high < g.low
  case pos =>
    have HE := hid (HNG.out (fun q => by obtain ⟨k1, k2, k3, k4, k5⟩ := gok_iff.1 q; omega))
    have h6' : decide (g.high < g.low) = true := decide_eq_true h6
    clear h6
    go_enter Tryz.func54, Tryz.ntmps54
    go_wp2_with fail
    refine (mwithin_any 1 g.zones 3 _ h1 _).mono ?_
    rintro e X ⟨rfl, rfl⟩
    go_wp2_with fail
    refine (mwithin_any 1 g.hours 3 _ h2 _).mono ?_
    rintro e X ⟨rfl, rfl⟩
    go_wp2_with fail
    go_ret
    exact ⟨by rw [HE.out]; rfl, b0⟩
  have h6' : decide (g.high < g.low) = false := decide_eq_false h6
  by_cases h4 : g.high ≤ 100000
  case neg =>
    have HE := hid (HNG.out (fun q => by obtain ⟨k1, k2, k3, k4, k5⟩ := gok_iff.1 q; omega))
    have h4' : decide (100000 < g.high) = true := decide_eq_true (by omega)
    clear h4
    go_enter Tryz.func54, Tryz.ntmps54
    go_wp2_with fail
    refine (mwithin_any 1 g.zones 3 _ h1 _).mono ?_
    rintro e X ⟨rfl, rfl⟩
    go_wp2_with fail
    refine (mwithin_any 1 g.hours 3 _ h2 _).mono ?_
    rintro e X ⟨rfl, rfl⟩
    go_wp2_with fail
    go_ret
    exact ⟨by rw [HE.out]; rfl, b0⟩
  have h4' : decide (100000 < g.high) = false := decide_eq_false (by omega)
  have hz := btw_true h1
  have HAY := hid (fun (hh : g.lines.all (lnok g.zones) = true) => HYES.out (gok_iff.2 ⟨btw_true h1, btw_true h2, ⟨by omega, by omega, h4⟩, h5, List.all_eq_true.1 hh⟩))
  have HAN := hid (fun (l : Ln) (hl : l ∈ g.lines) (hh : lnok g.zones l = false) => HNG.out (fun q => by obtain ⟨k1, k2, k3, k4, k5⟩ := gok_iff.1 q; have := k5 l hl; rw [hh] at this; cases this))
  clear h3 h4 h6 HNG HYES HNO
  go_enter Tryz.func54, Tryz.ntmps54
  go_wp2_with fail
  refine (mwithin_any 1 g.zones 3 _ h1 _).mono ?_
  rintro e X ⟨rfl, rfl⟩
  go_wp2_with fail
  refine (mwithin_any 1 g.hours 3 _ h2 _).mono ?_
  rintro e X ⟨rfl, rfl⟩
  go_wp2_with fail
  generalize hW0 : w.alloc (Obj.cells #[.int .i64 g.zones, .int .i64 g.hours, .slice la g.lines.length lc, .int .i64 g.low, .int .i64 g.high] 25) = W0 at *
  clear hW0
  have hbw : w.heap.size < W0.heap.size := World.block_lt_of_cell? W0 _ z0
  generalize hS : g.lines = S at *
  have HS := hid hS
  generalize hZ : g.zones = Z at *
  have hwz : wrap64 (Z - 1) = Z - 1 := by simp only [wrap64]; omega
  clear hS hZ h2
  go_loopw [3] (fun i wr => ∃ k : Nat, k ≤ S.length ∧ i = .int .i64 (k : Int) ∧ Hid ((S.take k).all (lnok Z) = true) ∧ Below W0.heap.size W0 wr) (fun i _ => S.length - (intOf i).toNat)
  case atStart => exact ⟨0, Nat.zero_le _, rfl, hid rfl, Below.refl _ _⟩
  case round =>
    obtain ⟨k, hk, rfl, HK, bW⟩ := hrel
    have y0 := ikc bW z0
    have y2 := ikc bW z2
    by_cases hlt : k < S.length
    · obtain ⟨b, off, c', e, _, _, q0, q1, q2⟩ := (HL.out.below bW).at k hlt
      simp only [Value.slice.injEq] at e
      obtain ⟨rfl, -, rfl⟩ := e
      have HT := hid (fun (hh : lnok Z S[k] = true) => show (S.take (k + 1)).all (lnok Z) = true by rw [List.take_add_one, List.getElem?_eq_getElem hlt, List.all_append, HK.out]; simp [hh])
      have HF := hid (fun (hh : lnok Z S[k] = false) => HAN.out _ (List.getElem_mem hlt) hh)
      clear HK HAN HAY
      have hli : (0 : Int) ≤ (k : Int) ∧ (k : Int) < (S.length : Int) := by omega
      generalize S[k] = l at *
      obtain ⟨lf, lt, lcap⟩ := l
      have bX := ibel wr (Obj.cells #[.int .i64 lf, .int .i64 lt, .int .i64 lcap] 143)
      have x1 := inew wr (Obj.cells #[.int .i64 lf, .int .i64 lt, .int .i64 lcap] 143)
      have u0 := ibx x1 0 _ rfl
      have u1 := ibx x1 1 _ rfl
      have u2 := ibx x1 2 _ rfl
      have v0 := ikc bX y0
      have bWX := bW.trans (bX.mono bW.size)
      have b1 := b0.trans (bWX.mono (Nat.le_of_lt hbw))
      cases j1 : btw 0 lf (Z - 1) with
      | false =>
        have HE := hid (HF.out (by unfold lnok; rw [j1]; rfl))
        go_wp2_with fail
        refine (mwithin_any 0 lf (Z - 1) _ j1 _).mono ?_
        rintro e X ⟨rfl, rfl⟩
        go_wp2_with fail
        go_ret
        exact ⟨by rw [HE.out]; rfl, b1⟩
      | true =>
      cases j2 : btw 0 lt (Z - 1) with
      | false =>
        have HE := hid (HF.out (by unfold lnok; rw [j1, j2]; rfl))
        go_wp2_with fail
        refine (mwithin_any 0 lf (Z - 1) _ j1 _).mono ?_
        rintro e X ⟨rfl, rfl⟩
        go_wp2_with fail
        refine (mwithin_any 0 lt (Z - 1) _ j2 _).mono ?_
        rintro e X ⟨rfl, rfl⟩
        go_wp2_with fail
        go_ret
        exact ⟨by rw [HE.out]; rfl, b1⟩
      | true =>
      by_cases j3 : lf = lt
      · have HE := hid (HF.out (by unfold lnok; rw [j1, j2, decide_eq_false (fun h => h j3)]; rfl))
        have j3' : (lf == lt) = true := by simpa using j3
        clear j3
        go_wp2_with fail
        refine (mwithin_any 0 lf (Z - 1) _ j1 _).mono ?_
        rintro e X ⟨rfl, rfl⟩
        go_wp2_with fail
        refine (mwithin_any 0 lt (Z - 1) _ j2 _).mono ?_
        rintro e X ⟨rfl, rfl⟩
        go_wp2_with fail
        go_ret
        exact ⟨by rw [HE.out]; rfl, b1⟩
      have j3' : (lf == lt) = false := by simpa using j3
      have j3'' : decide (lf ≠ lt) = true := decide_eq_true j3
      cases j4 : btw 0 lcap 1000 with
      | false =>
        have HE := hid (HF.out (by unfold lnok; rw [j1, j2, j3'', j4]; rfl))
        go_wp2_with fail
        refine (mwithin_any 0 lf (Z - 1) _ j1 _).mono ?_
        rintro e X ⟨rfl, rfl⟩
        go_wp2_with fail
        refine (mwithin_any 0 lt (Z - 1) _ j2 _).mono ?_
        rintro e X ⟨rfl, rfl⟩
        go_wp2_with fail
        refine (mwithin_any 0 lcap 1000 _ j4 _).mono ?_
        rintro e X ⟨rfl, rfl⟩
        go_wp2_with fail
        go_ret
        exact ⟨by rw [HE.out]; rfl, b1⟩
      | true =>
        have HE := hid (HT.out (by unfold lnok; rw [j1, j2, j3'', j4]; rfl))
        go_wp2_with fail
        refine (mwithin_any 0 lf (Z - 1) _ j1 _).mono ?_
        rintro e X ⟨rfl, rfl⟩
        go_wp2_with fail
        refine (mwithin_any 0 lt (Z - 1) _ j2 _).mono ?_
        rintro e X ⟨rfl, rfl⟩
        go_wp2_with fail
        refine (mwithin_any 0 lcap 1000 _ j4 _).mono ?_
        rintro e X ⟨rfl, rfl⟩
        go_wp2_with fail
        go_roundw
        case rel => exact ⟨k + 1, by omega, by go_num, HE, bWX⟩
        case measure => simp [intOf]; omega
    · have hkl : k = S.length := by omega
      have HE := hid (HAY.out (by have := HK.out; rwa [hkl, List.take_length] at this))
      have b1 := b0.trans (bW.mono (Nat.le_of_lt hbw))
      clear hkl
      go_wp2_with fail
      go_ret
      exact ⟨by rw [HE.out]; rfl, b1⟩
end Go.Proofs.YtcdkoadobdgbhaaGreatDoor
