/- price: Bounds. -/
import Derived.Test.YtcdkoadobdgbhaaGreatDoorZP17B
import Derived.Test.YtcdkoadobdgbhaaGreatDoorPk46
import Derived.Test.YtcdkoadobdgbhaaGreatDoorZP17S
namespace Go.Proofs.YtcdkoadobdgbhaaGreatDoor
open Go.RowKit
set_option linter.unusedVariables false
set_option maxRecDepth 100000
set_option linter.unusedSimpArgs false

set_option maxHeartbeats 1600000 in
theorem parentsEnd0_any (w : World) :
    Calls Tryz.prog 53 #[.slice none 0 0] w fun e w' => e = .returned (.bool true) ∧ Below w.heap.size w w' := by
  have hmm := @run_makeMap Tryz.prog
  go_enter Tryz.func53, Tryz.ntmps53
  go_wp2_with fail
  go_loopw [14] (fun i wr => i = .int .i64 0 ∧ Hid (Below w.heap.size w wr)) (fun i _ => 0)
  case atStart => exact ⟨rfl, hid ((Below.refl _ _).alloc (Nat.le_refl _) _)⟩
  case round =>
    obtain ⟨rfl, HB⟩ := hrel
    go_wp2_with fail
    go_loopw [25] (fun i wq => i = .int .i64 0 ∧ Hid (Below w.heap.size w wq)) (fun i _ => 0)
    case atStart => exact ⟨rfl, HB⟩
    case round =>
      obtain ⟨rfl, HB⟩ := hrel
      go_wp2_with fail
      go_ret
      exact ⟨rfl, HB.out⟩
theorem wAmong_any (w : World) (n m : Int) :
    Calls Tryz.prog 60 #[.int .i64 n, .int .i64 m] w fun e w' => e = .returned (.bool (decide (0 ≤ n) && decide (n < m))) ∧ w' = w := by
  obtain ⟨a, ha⟩ : ∃ a, decide (0 ≤ n) = a := ⟨_, rfl⟩
  obtain ⟨b, hb⟩ : ∃ b, decide (n < m) = b := ⟨_, rfl⟩
  rw [ha, hb]
  cases a with
  | false =>
    go_enter Tryz.func60, Tryz.ntmps60
    go_wp2_with fail
    go_ret
    exact ⟨rfl, rfl⟩
  | true =>
    go_enter Tryz.func60, Tryz.ntmps60
    go_wp2_with fail
    go_ret
    exact ⟨rfl, rfl⟩
set_option maxHeartbeats 6400000 in
theorem pBounds_any (w : World) (g : Gr) (la : Option Addr) (lc : Nat) (sv xv : Value) (S : List Sp) (X : List ByteArray) (h z : Int) (hl : Lns w (.slice la g.lines.length lc) g.lines) (hs : Sps w sv S) (hx : Strs w xv X) (hsz : ∀ s ∈ X, s.size ≤ 256) (hS : S.length ≤ 1000) (hmx : Mx w) (htab : Tab w) :
    Calls Tryz.prog 19 #[.agg #[.int .i64 g.zones, .int .i64 g.hours, .slice la g.lines.length lc, .int .i64 g.low, .int .i64 g.high], sv, xv, .int .i64 h, .int .i64 z] w fun e w' => (∃ r, e = retB r ∧ PBnd g S X h z r) ∧ Below w.heap.size w w' := by
  have b0 := ibel w (Obj.cells #[.int .i64 g.zones, .int .i64 g.hours, .slice la g.lines.length lc, .int .i64 g.low, .int .i64 g.high] 25)
  have x0 := inew w (Obj.cells #[.int .i64 g.zones, .int .i64 g.hours, .slice la g.lines.length lc, .int .i64 g.low, .int .i64 g.high] 25)
  have z0 := ibx x0 0 _ rfl
  have z1 := ibx x0 1 _ rfl
  have z2 := ibx x0 2 _ rfl
  have z3 := ibx x0 3 _ rfl
  have z4 := ibx x0 4 _ rfl
  have HB0 := hid b0
  have HOR := hid (orders16_any (w.alloc (Obj.cells #[.int .i64 g.zones, .int .i64 g.hours, .slice la g.lines.length lc, .int .i64 g.low, .int .i64 g.high] 25)) g la lc sv (.slice none 0 0) S [] (hl.below b0) (hs.below b0) ⟨none, 0, rfl, Nat.le_refl _, by decide, Or.inl rfl⟩ true (fun Y _ => parentsEnd0_any Y))
  have HSHR := hid (fun (Y : World) (b : Below w.heap.size w Y) (hq : ∀ s ∈ S, In64 s.qty) => shares_any Y sv xv S X (hs.below b) (hx.below b) hsz hq hS (hmx.below b) (htab.below b))
  have HS1000 := hid hS
  obtain ⟨sa, sc, rfl, -, -⟩ := hs.slice
  obtain ⟨xa, xc, rfl, -, -⟩ := hx.slice
  clear b0 x0 hl hs hx hsz hS hmx htab
  go_enter Tryz.func19, Tryz.ntmps19
  go_wp2_with fail
  refine HOR.out.mono ?_
  rintro e X1 ⟨⟨R, rfl, hR⟩, hb1⟩
  replace z0 := ikc hb1 z0
  replace z1 := ikc hb1 z1
  replace z2 := ikc hb1 z2
  replace z3 := ikc hb1 z3
  replace z4 := ikc hb1 z4
  have HB1 := hid (chain2 HB0.out hb1)
  have HR := hid hR
  clear hb1 HOR HB0 hR
  cases R with
  | false =>
    have HNF := hid (show PBnd g S X h z (0, 0, false) from Or.inr ⟨fun ⟨Q, hq⟩ => (by have := HR.out.2 ⟨hq.2.1, OkB.nil g, by trivial⟩; cases this), rfl⟩)
    have HBF := HB1
    go_wp2_with fail
    go_ret3
    exact ⟨⟨_, rfl, HNF.out⟩, HBF.out⟩

  | true =>
  have HOK := hid (HR.out.1 rfl).1
  have HNO := hid (fun (hh : ¬ ((0 ≤ h ∧ h < g.hours) ∧ (0 ≤ z ∧ z < g.zones))) => show PBnd g S X h z (0, 0, false) from Or.inr ⟨fun ⟨Q, hq⟩ => hh hq.2.2.2, rfl⟩)
  have HA1 := hid (wAmong_any X1 h g.hours)
  have HA2 := hid (wAmong_any X1 z g.zones)
  by_cases c1 : 0 ≤ h ∧ h < g.hours
  case neg =>
    have HNF := hid (HNO.out (fun hh => c1 hh.1))
    have HBF := HB1
    have hh : (decide (0 ≤ h) && decide (h < g.hours)) = false := by
      cases q : (decide (0 ≤ h) && decide (h < g.hours)) with
      | false => rfl
      | true => simp at q; exact absurd q c1
    rw [hh] at HA1
    clear hh c1
    go_wp2_with fail
    refine HA1.out.mono ?_
    rintro e Y ⟨rfl, rfl⟩
    go_wp2_with fail
    go_ret3
    exact ⟨⟨_, rfl, HNF.out⟩, HBF.out⟩

  rw [show (decide (0 ≤ h) && decide (h < g.hours)) = true by simp [c1]] at HA1
  by_cases c2 : 0 ≤ z ∧ z < g.zones
  case neg =>
    have HNF := hid (HNO.out (fun hh => c2 hh.2))
    have HBF := HB1
    have hh : (decide (0 ≤ z) && decide (z < g.zones)) = false := by
      cases q : (decide (0 ≤ z) && decide (z < g.zones)) with
      | false => rfl
      | true => simp at q; exact absurd q c2
    rw [hh] at HA2
    clear hh c1 c2
    go_wp2_with fail
    refine HA1.out.mono ?_
    rintro e Y ⟨rfl, rfl⟩
    go_wp2_with fail
    refine HA2.out.mono ?_
    rintro e Y ⟨rfl, rfl⟩
    go_wp2_with fail
    go_ret3
    exact ⟨⟨_, rfl, HNF.out⟩, HBF.out⟩

  rw [show (decide (0 ≤ z) && decide (z < g.zones)) = true by simp [c2]] at HA2
  have HC12 := hid (And.intro c1 c2)
  have HQ64 := hid (show ∀ s ∈ S, In64 s.qty from fun s hs => by
    obtain ⟨i, hi, rfl⟩ := List.mem_iff_getElem.1 hs
    have := stAll_at HOK.out.all hi
    simp only [stOk, btw, Bool.and_eq_true, decide_eq_true_eq] at this
    exact ⟨by omega, by omega⟩)
  have HSR := hid (HSHR.out X1 HB1.out HQ64.out)
  clear c1 c2 HSHR HNO
  go_wp2_with fail
  refine HA1.out.mono ?_
  rintro e Y ⟨rfl, rfl⟩
  go_wp2_with fail
  refine HA2.out.mono ?_
  rintro e Y ⟨rfl, rfl⟩
  go_wp2_with fail
  refine HSR.out.mono ?_
  rintro e X2 ⟨hr, hb2⟩
  replace z0 := ikc hb2 z0
  replace z1 := ikc hb2 z1
  replace z2 := ikc hb2 z2
  replace z3 := ikc hb2 z3
  replace z4 := ikc hb2 z4
  have HB2 := hid (HB1.out.trans (hb2.mono HB1.out.size))
  clear HSR HA1 HA2 hb2
  rcases hr with ⟨Q, v, D, hnu, htk, rfl, hsh, hD⟩ | ⟨hno, rfl⟩
  case inr =>
    have HNF := hid (show PBnd g S X h z (0, 0, false) from Or.inr ⟨fun ⟨Q, hq⟩ => hno ⟨Q, hq.1, hq.2.2.1⟩, rfl⟩)
    have HBF := HB2
    clear hno
    go_wp2_with fail
    go_ret3
    exact ⟨⟨_, rfl, HNF.out⟩, HBF.out⟩

  case inl =>
  have HAS := hid (show Asked g S X h z Q from ⟨hnu, HOK.out, htk, HC12.out.1, HC12.out.2⟩)
  have hDl : D.length = S.length := by rw [← hD, List.length_map]
  have HBN := hid (bounds17_any X2 g la lc _ v D Q h z hsh (by rw [hD]; exact htk) (by rw [hD]; exact HQ64.out) (by rw [hDl]; exact HS1000.out))
  rw [hD, hDl] at HBN
  have HFI := hid (show PBnd g S X h z (bndE (bndN h z g.low g.high S Q S.length)) from Or.inl ⟨Q, HAS.out, rfl⟩)
  obtain ⟨va, vc, rfl, -, -⟩ := hsh.row.slice
  generalize bndE (bndN h z g.low g.high S Q S.length) = r at *
  clear hnu htk hsh hD hDl
  obtain ⟨r1, r2, r3⟩ := r
  go_wp2_with fail
  refine HBN.out.mono ?_
  rintro e X3 ⟨rfl, hb3⟩
  have HBF := hid (HB2.out.trans (hb3.mono HB2.out.size))
  have HNF := HFI
  clear hb3 HBN
  unfold retB
  dsimp only
  go_wp2_with fail
  go_ret3
  exact ⟨⟨_, rfl, HNF.out⟩, HBF.out⟩

end Go.Proofs.YtcdkoadobdgbhaaGreatDoor
