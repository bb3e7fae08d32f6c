/- PriceBounds: the walk. -/
import Derived.Test.YtcdkoadobdgbhaaGreatDoorZP17F
import Derived.Test.YtcdkoadobdgbhaaGreatDoorZP17E
import Derived.Test.YtcdkoadobdgbhaaGreatDoorZP17H
namespace Go.Proofs.YtcdkoadobdgbhaaGreatDoor
open Go.RowKit
set_option linter.unusedVariables false
set_option maxRecDepth 100000
set_option linter.unusedSimpArgs false

set_option maxHeartbeats 6400000 in
theorem priceBounds_any (w : World) (g : Gr) (la : Option Addr) (lc : Nat) (sa : Option Addr) (sc : Nat) (S : List Sp) (ba : Option Addr) (bc : Nat) (B : List Bl) (aa : Option Addr) (ac : Nat) (A : List Bool) (xa : Option Addr) (xc : Nat) (X : List ByteArray) (fa : Option Addr) (fc : Nat) (F : List (List ByteArray)) (h z : Int)
    (hl : Lns w (.slice la g.lines.length lc) g.lines) (hs : Sps w (.slice sa S.length sc) S) (hb : Bks w (.slice ba B.length bc) B) (hx : Strs w (.slice xa X.length xc) X) (hf : Sss w (.slice fa F.length fc) F) (hla : g.lines.length ≤ 140737488351232) (haa : A.length ≤ 140737488351232) (hmx : Mx w) (htab : Tab w) :
    Calls Tryz.prog 7 #[.agg #[.int .i64 g.zones, .int .i64 g.hours, .slice la g.lines.length lc, .int .i64 g.low, .int .i64 g.high, .slice sa S.length sc, .slice ba B.length bc, .slice aa A.length ac, .slice xa X.length xc, .slice fa F.length fc], .int .i64 h, .int .i64 z] w fun e w' => e = .returned (.bool true) ∧ Below w.heap.size w w' := by
  have b0 := ibel w (Obj.cells #[.int .i64 g.zones, .int .i64 g.hours, .slice la g.lines.length lc, .int .i64 g.low, .int .i64 g.high, .slice sa S.length sc, .slice ba B.length bc, .slice aa A.length ac, .slice xa X.length xc, .slice fa F.length fc] 55)
  have x0 := inew w (Obj.cells #[.int .i64 g.zones, .int .i64 g.hours, .slice la g.lines.length lc, .int .i64 g.low, .int .i64 g.high, .slice sa S.length sc, .slice ba B.length bc, .slice aa A.length ac, .slice xa X.length xc, .slice fa F.length fc] 55)
  have HZ := hid (fun (Y : World) (b : Below (w.alloc (Obj.cells #[.int .i64 g.zones, .int .i64 g.hours, .slice la g.lines.length lc, .int .i64 g.low, .int .i64 g.high, .slice sa S.length sc, .slice ba B.length bc, .slice aa A.length ac, .slice xa X.length xc, .slice fa F.length fc] 55)).heap.size (w.alloc (Obj.cells #[.int .i64 g.zones, .int .i64 g.hours, .slice la g.lines.length lc, .int .i64 g.low, .int .i64 g.high, .slice sa S.length sc, .slice ba B.length bc, .slice aa A.length ac, .slice xa X.length xc, .slice fa F.length fc] 55)) Y) => (⟨ikc b (ibx x0 0 _ rfl), ikc b (ibx x0 1 _ rfl), ikc b (ibx x0 2 _ rfl), ikc b (ibx x0 3 _ rfl), ikc b (ibx x0 4 _ rfl), ikc b (ibx x0 5 _ rfl), ikc b (ibx x0 6 _ rfl), ikc b (ibx x0 7 _ rfl), ikc b (ibx x0 8 _ rfl), ikc b (ibx x0 9 _ rfl)⟩ : Y.cell? ⟨w.heap.size, 0, none⟩ = some (.int .i64 g.zones) ∧ Y.cell? ⟨w.heap.size, 1, none⟩ = some (.int .i64 g.hours) ∧ Y.cell? ⟨w.heap.size, 2, none⟩ = some (.slice la g.lines.length lc) ∧ Y.cell? ⟨w.heap.size, 3, none⟩ = some (.int .i64 g.low) ∧ Y.cell? ⟨w.heap.size, 4, none⟩ = some (.int .i64 g.high) ∧ Y.cell? ⟨w.heap.size, 5, none⟩ = some (.slice sa S.length sc) ∧ Y.cell? ⟨w.heap.size, 6, none⟩ = some (.slice ba B.length bc) ∧ Y.cell? ⟨w.heap.size, 7, none⟩ = some (.slice aa A.length ac) ∧ Y.cell? ⟨w.heap.size, 8, none⟩ = some (.slice xa X.length xc) ∧ Y.cell? ⟨w.heap.size, 9, none⟩ = some (.slice fa F.length fc)))
  obtain ⟨z0, z1, z2, z3, z4, z5, z6, z7, z8, z9⟩ := HZ.out _ (Below.refl _ _)
  have HB0 := hid b0
  have HH := hid (heavy17_any (w.alloc (Obj.cells #[.int .i64 g.zones, .int .i64 g.hours, .slice la g.lines.length lc, .int .i64 g.low, .int .i64 g.high, .slice sa S.length sc, .slice ba B.length bc, .slice aa A.length ac, .slice xa X.length xc, .slice fa F.length fc] 55)) g la lc sa sc S ba bc B aa ac A xa xc X fa fc F (hs.below b0) (hb.below b0) (hx.below b0) (hf.below b0) (fun k hk => by obtain ⟨a', c', e, _, q⟩ := (hb.ints k hk).slice; simp only [Value.slice.injEq] at e; obtain ⟨-, -, rfl⟩ := e; unfold maxLen at q; omega) hla haa)
  have HPB := hid (fun (Y : World) (b : Below w.heap.size w Y) (hv : Hvy17 S B X F) => pBounds_any Y g la lc _ _ S X h z (hl.below b) (hs.below b) (hx.below b) hv.2.2.1.2 (Nat.le_trans hv.1 (by decide)) (hmx.below b) (htab.below b))
  have HDB := hid (fun (Y : World) (b : Below w.heap.size w Y) (hv : Hvy17 S B X F) => hBounds_any Y g la lc _ _ S X h z (hl.below b) (hs.below b) (hx.below b) hv.2.2.1.2 hv.2.2.1.1)
  clear hl hs hb hx hf hla haa hmx htab b0 x0
  go_enter Tryz.func7, Tryz.ntmps7
  go_wp2_with fail
  refine HH.out.mono ?_
  rintro e X1 ⟨⟨R, rfl, hR⟩, hb1⟩
  obtain ⟨z0, z1, z2, z3, z4, z5, z6, z7, z8, z9⟩ := HZ.out _ hb1
  have HB1 := hid (chain2 HB0.out hb1)
  have HC1 := hid hb1
  have HR := hid hR
  clear hb1 HH HB0 hR
  cases R with
  | true =>
    go_wp2_with fail
    go_ret
    exact ⟨rfl, HB1.out⟩
  | false =>
  have HV := hid (HR.out rfl)
  have HP1 := hid (HPB.out X1 HB1.out HV.out)
  go_wp2_with fail
  refine HP1.out.mono ?_
  rintro e X2 ⟨⟨⟨r1, r2, r3⟩, rfl, hr⟩, hb2⟩
  have HB2 := hid (HB1.out.trans (hb2.mono HB1.out.size))
  have HC2 := hid (chain2 HC1.out hb2)
  have HR1 := hid hr
  obtain ⟨z0, z1, z2, z3, z4, z5, z6, z7, z8, z9⟩ := HZ.out _ HC2.out
  have HP2 := hid (HDB.out X2 HB2.out HV.out)
  clear hr hb2 HP1
  unfold retB
  dsimp only
  go_wp2_with fail
  refine HP2.out.mono ?_
  rintro e X3 ⟨⟨⟨t1, t2, t3⟩, rfl, ht⟩, hb3⟩
  have HE := HR1.out.uniq ht
  simp only [Prod.mk.injEq] at HE
  obtain ⟨rfl, rfl, rfl⟩ := HE
  have HB3 := hid (HB2.out.trans (hb3.mono HB2.out.size))
  clear ht hb3 HP2 z0 z1 z2 z3 z4 z5 z6 z7 z8 z9
  unfold retB
  dsimp only
  have e1 : (r1 == r1) = true := beq_self_eq_true _
  have e2 : (r2 == r2) = true := beq_self_eq_true _
  have e3 : (r3 == r3) = true := beq_self_eq_true _
  go_wp2_with fail
  go_ret
  exact ⟨by first | rfl | simp, HB3.out⟩
end Go.Proofs.YtcdkoadobdgbhaaGreatDoor
