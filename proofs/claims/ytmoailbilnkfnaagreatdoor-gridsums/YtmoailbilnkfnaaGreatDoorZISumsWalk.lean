/- GridSums: the walk. -/
import Derived.Test.YtmoailbilnkfnaaGreatDoorZISumsM
import Derived.Test.YtmoailbilnkfnaaGreatDoorZIExp
import Derived.Test.YtmoailbilnkfnaaGreatDoorZMExport
import Derived.Test.YtmoailbilnkfnaaGreatDoorZIWith
import Derived.Test.YtmoailbilnkfnaaGreatDoorZIIsl
import Derived.Test.YtmoailbilnkfnaaGreatDoorPk43
import Derived.Test.YtmoailbilnkfnaaGreatDoorPk15
import Derived.Test.YtmoailbilnkfnaaGreatDoorPk16
import Derived.Deep.RegionHeld3
import Derived.Deep.RegionWith
namespace Go.Proofs.YtmoailbilnkfnaaGreatDoor
open Go.RowKit
set_option linter.unusedVariables false
set_option maxRecDepth 100000
set_option linter.unusedSimpArgs false

set_option maxHeartbeats 25600000 in
theorem gridSums_any (w : World) (g : Gr) (la : Option Addr) (lc : Nat) (h : Lns w (.slice la g.lines.length lc) g.lines) (fv : Value) (F : List ByteArray) (hf : Strs w fv F) (hmx : Mx w) (htab : Tab w) :
    Calls Tryz.prog 5 #[.agg #[.int .i64 g.zones, .int .i64 g.hours, .slice la g.lines.length lc, .int .i64 g.low, .int .i64 g.high], fv] w fun e w' => e = .returned (.bool true) ∧ Below w.heap.size w w' := by
  obtain ⟨er, HER⟩ : ∃ er, Hid (errG g = er) := ⟨_, hid rfl⟩
  have HOK := hid (show er = 0 → gok g = true from fun e => by rw [← HER.out] at e; unfold errG at e; split at e; assumption; cases e)
  have HGI := hid (fun (hh : gok g = true) => (gok_iff.1 hh).1)
  have HFT := hid (fun (hh : gok g = true) => gok_fit hh)
  have HIC0 := hid (fun (Y : World) (b : Below w.heap.size w Y) => icheck_any Y g la lc (h.below b))
  have HMC0 := hid (fun (Y : World) (b : Below w.heap.size w Y) => mcheck_any Y g la lc (h.below b))
  rw [HER.out] at HIC0 HMC0
  have HHF0 := hid (fun (Y : World) (b : Below w.heap.size w Y) => heavy14_any Y g la lc (h.below b) fv F (hf.below b))
  have HEX0 := hid (fun (ok : gok g = true) (n : Nat) (hn : g.zones = n) (k : Hvy14 g F) (Y : World) (b : Below w.heap.size w Y) => iexport_any Y g la lc (h.below b) ok n hn fv F (hf.below b) 256 36 (by decide) (by decide) (by decide) k.2.1 (hmx.below b) (htab.below b))
  have HME0 := hid (fun (ok : gok g = true) (n : Nat) (hn : g.zones = n) (k : Hvy14 g F) (Y : World) (b : Below w.heap.size w Y) => mexport_any Y g la lc (h.below b) ok n hn fv F (hf.below b) 256 36 (by decide) (by decide) (by decide) k.2.1)
  have HIS0 := hid (fun (ok : gok g = true) (n : Nat) (hn : g.zones = n) (Y : World) (b : Below w.heap.size w Y) => iislands_any Y g la lc (h.below b) ok n hn)
  have HWI0 := hid (fun (ok : gok g = true) (k : Hvy14 g F) (Y : World) (b : Below w.heap.size w Y) => iwithin_any Y g la lc (h.below b) ok fv F (hf.below b) 256 36 (by decide) (by decide) (by decide) k.2.1 (hmx.below b) (htab.below b))
  obtain ⟨fa, fc, hfe, fl, fm⟩ := hf.slice
  obtain ⟨Z, H, lo, hi, S⟩ := g
  simp only at h HGI HFT HIC0 HMC0 HHF0 HEX0 HME0 HIS0 HWI0 ⊢
  subst hfe
  have b0 := ibel w (Obj.cells #[.int .i64 Z, .int .i64 H, .slice la S.length lc, .int .i64 lo, .int .i64 hi] 24)
  have x0 := inew w (Obj.cells #[.int .i64 Z, .int .i64 H, .slice la S.length lc, .int .i64 lo, .int .i64 hi] 24)
  have z0 := ibx x0 0 (.int .i64 Z) rfl
  have z1 := ibx x0 1 (.int .i64 H) rfl
  have z2 := ibx x0 2 (.slice la S.length lc) rfl
  have z3 := ibx x0 3 (.int .i64 lo) rfl
  have z4 := ibx x0 4 (.int .i64 hi) rfl
  obtain ⟨a', c', e', hl, hm⟩ := h.slice
  simp only [Value.slice.injEq] at e'
  obtain ⟨rfl, -, rfl⟩ := e'
  unfold maxLen at hm fm
  have HB0 := hid b0
  clear h x0 b0 HER hf hmx htab
  go_enter Tryz.func5, Tryz.ntmps5
  go_wp2_with fail
  generalize hW : w.alloc (Obj.cells #[.int .i64 Z, .int .i64 H, .slice la S.length lc, .int .i64 lo, .int .i64 hi] 24) = W at *
  clear hW
  have HKx := hid (fun (Y : World) (k : Below W.heap.size W Y) => show (Y.cell? ⟨w.heap.size, 0, none⟩ = some (.int .i64 Z) ∧ Y.cell? ⟨w.heap.size, 1, none⟩ = some (.int .i64 H) ∧ Y.cell? ⟨w.heap.size, 2, none⟩ = some (.slice la S.length lc) ∧ Y.cell? ⟨w.heap.size, 3, none⟩ = some (.int .i64 lo) ∧ Y.cell? ⟨w.heap.size, 4, none⟩ = some (.int .i64 hi)) from ⟨ikc k z0, ikc k z1, ikc k z2, ikc k z3, ikc k z4⟩)
  have HWw := hid (fun (Y : World) (k : Below W.heap.size W Y) => HB0.out.trans (k.mono HB0.out.size))
  have HIC := hid (fun (Y : World) (k : Below W.heap.size W Y) => HIC0.out Y (HWw.out Y k))
  have HMC := hid (fun (Y : World) (k : Below W.heap.size W Y) => HMC0.out Y (HWw.out Y k))
  refine (HHF0.out W HB0.out).mono ?_
  rintro e X ⟨r1, rfl, hv1, bX⟩
  obtain ⟨z0, z1, z2, z3, z4⟩ := HKx.out _ bX
  have HV1 := hid hv1
  clear HIC0 HMC0 HHF0 hv1
  cases r1 with
  | true =>
      have F0 : Below X.heap.size X X.drew := (Below.refl _ _).drew
      go_wp2_with fail
      first
      | (go_region_with (first
          | (have gk := F1; go_at_call 7; refine (HMC.out _ (by first | exact bX.trans (F1.mono bX.size) | exact (bX.trans (F1.mono bX.size)).drew | exact below_dn (bX.trans (F1.mono bX.size)) _)).mono ?_; rintro e Y2 ⟨rfl, bb⟩; have F2 : Below X.heap.size X Y2 := (by first | exact F1.trans (bb.mono F1.size) | exact F1.trans (Below.mono ⟨bb.os, bb.tape, bb.output, bb.size, bb.block⟩ F1.size)))
          | (go_at_call 8; refine (HIC.out _ (by first | exact bX | exact bX.drew | exact below_dn bX _)).mono ?_; rintro e Y1 ⟨rfl, bb⟩; have F1 : Below X.heap.size X Y1 := (by first | exact bb | exact ⟨bb.os, bb.tape, bb.output, bb.size, bb.block⟩); obtain ⟨a0, a1, a2, a3, a4⟩ := HKx.out _ (bX.trans (F1.mono bX.size)))))
      | fail
      all_goals
        have BF := HB0.out.trans ((bX.trans (F2.mono bX.size)).mono HB0.out.size)
        (try simp only [List.getElem_toArray, List.getElem_cons_zero, List.getElem_cons_succ, Act.put, List.setIfInBounds_toArray, List.set_cons_succ, List.set_cons_zero])
        go_wp2_with fail
        go_ret
        exact ⟨by simp, by first | exact BF | exact BF.drew | exact below_dn BF _⟩
  | false =>
    go_wp2_with fail
    refine (HMC.out X bX).mono ?_
    rintro e X2 ⟨rfl, bX2⟩
    have bX := bX.trans (bX2.mono bX.size)
    clear bX2
    generalize X2 = X at *
    obtain ⟨z0, z1, z2, z3, z4⟩ := HKx.out _ bX
    by_cases he : er = 0
    case neg =>
      have he' : (er == 0) = false := by simpa using he
      have he'' : (er != 0) = true := by simpa using he
      have F0 : Below X.heap.size X X.drew := (Below.refl _ _).drew
      go_wp2_with fail
      first
      | (go_region_with (first
          | (have gk := F1; go_at_call 7; refine (HMC.out _ (by first | exact bX.trans (F1.mono bX.size) | exact (bX.trans (F1.mono bX.size)).drew | exact below_dn (bX.trans (F1.mono bX.size)) _)).mono ?_; rintro e Y2 ⟨rfl, bb⟩; have F2 : Below X.heap.size X Y2 := (by first | exact F1.trans (bb.mono F1.size) | exact F1.trans (Below.mono ⟨bb.os, bb.tape, bb.output, bb.size, bb.block⟩ F1.size)))
          | (go_at_call 8; refine (HIC.out _ (by first | exact bX | exact bX.drew | exact below_dn bX _)).mono ?_; rintro e Y1 ⟨rfl, bb⟩; have F1 : Below X.heap.size X Y1 := (by first | exact bb | exact ⟨bb.os, bb.tape, bb.output, bb.size, bb.block⟩); obtain ⟨a0, a1, a2, a3, a4⟩ := HKx.out _ (bX.trans (F1.mono bX.size)))))
      | fail
      all_goals
        have BF := HB0.out.trans ((bX.trans (F2.mono bX.size)).mono HB0.out.size)
        (try simp only [List.getElem_toArray, List.getElem_cons_zero, List.getElem_cons_succ, Act.put, List.setIfInBounds_toArray, List.set_cons_succ, List.set_cons_zero])
        go_wp2_with fail
        go_ret
        exact ⟨by simp, by first | exact BF | exact BF.drew | exact below_dn BF _⟩
    have ok := HOK.out he
    subst he
    have hz := HGI.out ok
    have HFIT0 := hid (HFT.out ok)
    obtain ⟨n, rfl⟩ : ∃ n : Nat, Z = n := ⟨Z.toNat, by omega⟩
    have HFIT := hid (show Fit S n from HFIT0.out)
    have HVY := hid (HV1.out (by first | rfl | trivial))
    have HEX := hid (HEX0.out ok n rfl HVY.out X (HWw.out X bX))
    have HME := hid (HME0.out ok n rfl HVY.out)
    have HIS := hid (HIS0.out ok n rfl)
    have HWI := hid (HWI0.out ok HVY.out)
    clear HOK HGI HFT HEX0 HME0 HIS0 HWI0 HV1 HIC HMC ok HFIT0 HVY
    go_wp2_with fail
    refine HEX.out.mono ?_
    rintro e V1 ⟨hr1, bV1⟩
    have bV := bX.trans (bV1.mono bX.size)
    obtain ⟨z0, z1, z2, z3, z4⟩ := HKx.out _ bV
    have HME := hid (HME.out V1 (HWw.out V1 bV))
    clear HEX bV1
    by_cases hFS : F.length = S.length
    case neg =>
      obtain rfl := hr1.short hFS
      clear hr1
      go_wp2_with fail
      refine HME.out.mono ?_
      rintro e V2 ⟨hr2, bV2⟩
      have BF := HWw.out _ (bV.trans (bV2.mono bV.size))
      obtain rfl := hr2.short hFS
      clear hr2 bV2 hFS
      go_wp2_with fail
      go_ret
      exact ⟨by simp, BF⟩
    have HSE := hid hFS
    clear hFS
    by_cases hNU : ∃ X, Nums F X
    case neg =>
      obtain rfl := hr1.none HSE.out hNU
      clear hr1
      go_wp2_with fail
      refine HME.out.mono ?_
      rintro e V2 ⟨hr2, bV2⟩
      have BF := HWw.out _ (bV.trans (bV2.mono bV.size))
      obtain rfl := hr2.none HSE.out hNU
      clear hr2 bV2 hNU
      go_wp2_with fail
      go_ret
      exact ⟨by simp, BF⟩
    obtain ⟨XF, hXF⟩ := hNU
    have HXF := hid hXF
    obtain ⟨pv, PZ, rfl, hps, hpt, hpz⟩ := hr1.full HSE.out hXF
    have HPS := hid hps
    have HPT := hid hpt
    have HPZ := hid hpz
    clear hr1 hps hpt hpz hXF
    go_wp2_with fail
    refine HME.out.mono ?_
    rintro e V2 ⟨hr2, bV2⟩
    have HPS := hid (HPS.out.below bV2)
    have bV := bV.trans (bV2.mono bV.size)
    obtain ⟨z0, z1, z2, z3, z4⟩ := HKx.out _ bV
    obtain ⟨pv2, PZ2, rfl, -, -, -⟩ := hr2.full HSE.out HXF.out
    have HNP := hid (hNumbersT_any V2 pv PZ _ HPS.out HPT.out 61215 6810 (by decide) (by decide) HPZ.out (by rw [HPT.out.len, exps_len]; omega))
    clear hr2 bV2 HME HPT HPZ
    go_wp2_with fail
    refine HNP.out.mono ?_
    rintro e V3 ⟨⟨uv, CU, rfl, hlu⟩, bV3⟩
    have bV := bV.trans (bV3.mono bV.size)
    have HLU := hid hlu
    obtain ⟨ua, uc, hue, ul, um⟩ := hlu.slice
    rw [exps_len] at hue ul
    subst hue
    obtain ⟨z0, z1, z2, z3, z4⟩ := HKx.out _ bV
    have HIS := hid (HIS.out V3 (HWw.out V3 bV))
    clear hlu HNP bV3 HPS
    go_wp2_with fail
    refine HIS.out.mono ?_
    rintro e V4 ⟨R, mv, rfl, hI, hIs, hClo, bV4⟩
    have HLU := hid (Ls.below (fun h b => h.below b) HLU.out bV4)
    have bV := bV.trans (bV4.mono bV.size)
    have HIN := hid hI
    have HRL := hid (show R.length = n from hIs.len)
    have HCLO := hid hClo
    obtain ⟨z0, z1, z2, z3, z4⟩ := HKx.out _ bV
    have HWI := hid (HWI.out V4 (HWw.out V4 bV))
    obtain ⟨ia, ic, hie, il, im⟩ := hI.slice
    rw [List.length_map, HRL.out] at hie il
    subst hie
    clear hI hIs hClo HIS bV4
    go_wp2_with fail
    refine HWI.out.mono ?_
    rintro e V5 ⟨⟨rw5, rfl, hwi⟩, bV5⟩
    have HLU := hid (Ls.below (fun h b => h.below b) HLU.out bV5)
    have HIN := hid (HIN.out.below bV5)
    have bV := bV.trans (bV5.mono bV.size)
    obtain ⟨z0, z1, z2, z3, z4⟩ := HKx.out _ bV
    have HOW := hid (show rw5 = true → ∀ z, sumZ (fun i => decide (at' R i = z)) (fun z => expo S XF z S.length) n = 0 from fun hh z => by
      obtain ⟨_, Y, hY, hw⟩ := hwi.1 hh
      obtain rfl := Nums.uniq hY HXF.out
      exact own_zero HFIT.out HCLO.out hw z)
    have HAL := hid (all_zero (X := XF) HFIT.out)
    generalize hff : (fun z => expo S XF z S.length) = ff at *
    have HFF := hid (show ∀ z, expo S XF z S.length = ff z from fun z => by rw [← hff])
    clear hwi HWI bV5 hff HCLO HXF HFIT
    have HBV := hid bV
    clear bV
    go_wp2_with fail
    refine (t_of V5 0 (by decide) (by decide)).mono ?_
    rintro e Y1 ⟨v, rfl, hv, bY1⟩
    obtain ⟨s1, s2, s3, s4, s5, s6, s7, s8, rfl⟩ := hv.form
    have bA1 := ibel Y1 (Obj.cells #[.bool s1, .slice s2 s3 s4, .bool s5, .slice s6 s7 s8] 38)
    have HB0x := hid (box_new Y1 (Obj.cells #[.bool s1, .slice s2 s3 s4, .bool s5, .slice s6 s7 s8] 38))
    have HT0 := hid (show TIs _ _ (sumZ (fun _ => true) ff 0) (KS 6810 0) from (hv.mono (show 3 ≤ 6810 by decide)).below bA1)
    have HV5 := hid (chain2 bY1 bA1)
    have hab : V5.heap.size ≤ Y1.heap.size := bY1.size
    clear bA1 bY1 hv z0 z1 z2 z3 z4
    go_wp2_with (first | (refine wpList_store_fresh rfl 38 _ _ rfl _ _ _ rfl (by simp) rfl 4 info_refRat (by rfl) (by rfl) (by simp [Value.oneCell']) ?_) | fail)
    generalize Y1.alloc (Obj.cells #[.bool s1, .slice s2 s3 s4, .bool s5, .slice s6 s7 s8] 38) = W1 at *
    generalize Y1.heap.size = ab at *
    have hab1 : ab < W1.heap.size := lt_of_block HB0x.out
    go_loopw [14] (fun iv wr => ∃ (z : Nat) (x0 x1 x2 x3 : Value), z ≤ n ∧ iv = .int .i64 (z : Int) ∧ Hid (wr.heap[ab]? = some (.cells #[x0, x1, x2, x3] 38 (0, 0))) ∧ Hid (TIs wr (.agg #[x0, x1, x2, x3]) (sumZ (fun _ => true) ff z) (KS 6810 z)) ∧ Below ab W1 wr) (fun i _ => n - (intOf i).toNat)
    case atStart => exact ⟨0, _, _, _, _, Nat.zero_le _, rfl, HB0x, HT0, Below.refl _ _⟩
    case round =>
    obtain ⟨z, t0', t1', t2', t3', hzn, rfl, HBX, HTX, bW⟩ := hrel
    obtain ⟨t0, t1, t2, t3⟩ := four_cell HBX.out
    have hbx : ab ≤ wr.heap.size := Nat.le_trans (Nat.le_of_lt hab1) bW.size
    have BV5 := HV5.out.trans (bW.mono hab)
    by_cases hlz : z < n
    case neg =>
      obtain rfl : z = n := by omega
      rw [HAL.out] at HTX
      obtain ⟨z0, z1, z2, z3, z4⟩ := HKx.out _ (HBV.out.trans (BV5.mono HBV.out.size))
      have HSG := hid (t_sign wr _ _ (KS 6810 z) (by have := ks_le 6810 z (by omega); omega) HTX.out)
      rw [sgn_nought] at HSG
      have BW := HBV.out.trans (BV5.mono HBV.out.size)
      clear hlz
      go_wp2_with fail
      refine HSG.out.mono ?_
      rintro e U ⟨rfl, bU⟩
      have BU := BW.trans (bU.mono BW.size)
      obtain ⟨z0, z1, z2, z3, z4⟩ := HKx.out _ BU
      have BF := HWw.out _ BU
      clear bU
      go_wp2_with fail
      go_ret
      exact ⟨by simp, BF⟩
    have hlzI : (z : Int) < (n : Int) := by omega
    have hli : (0 : Int) ≤ (z : Int) ∧ (z : Int) < (n : Int) := by omega
    obtain ⟨gx, xc, p0', p1', p2', p3', e, _, p0, p1, p2, p3, hxi⟩ := (Ls.below (fun h b => h.below b) HLU.out BV5).at z (by rw [exps_len]; exact hlz)
    rw [exps_len] at e
    simp only [Value.slice.injEq] at e
    obtain ⟨rfl, -, rfl⟩ := e
    rw [exps_at, HFF.out] at hxi
    have HXI := hid hxi
    have HKL := hid (ks_le 6810 z (by omega))
    have HKM := hid (ks_ge 6810 z)
    have HNE := hid (sumZ_yes (p := fun _ => true) (f := ff) (k := z) rfl)
    have HKS := hid (show KS 6810 (z + 1) = 2 * KS 6810 z + 6 from rfl)
    clear hxi
    have HOP := hid (fun (Y : World) (bY : Below wr.heap.size wr Y) => t_add Y _ _ (sumZ (fun _ => true) ff z) (ff z) (KS 6810 z) (by have := HKL.out; omega) (HTX.out.below bY) ((HXI.out.mono HKM.out).below bY))
    have F0 : Below wr.heap.size wr wr.drew := (Below.refl _ _).drew
    go_wp2_with fail
    first
    | (go_region_with (first
        | (go_at_call 10; refine (HOP.out _ (by first | exact Below.refl _ _ | exact (Below.refl _ _).drew | exact below_dn (Below.refl _ _) _)).mono ?_; rintro e X4 ⟨v4, rfl, n4, b4⟩; obtain ⟨g1, g2, g3, g4, g5, g6, g7, g8, rfl⟩ := n4.form; have bX4 : Below wr.heap.size wr X4 := ⟨b4.os, b4.tape, b4.output, b4.size, b4.block⟩; have hy4 := box_below bX4 HBX.out (lt_of_block HBX.out); obtain ⟨y0, y1, y2, y3⟩ := four_cell hy4; have fr := fun j => blk_free hy4 j; clear b4)))
    | fail
    all_goals
      have HG := hid (set4g hy4 (.bool g1) (.slice g2 g3 g4) (.bool g5) (.slice g6 g7 g8))
      have NV := hid (n4.kty (set4_kty (o := 0) (t1 := 38) (t2 := 38) hy4 (Or.inl rfl) (.bool g1) (.slice g2 g3 g4) (.bool g5) (.slice g6 g7 g8)) (by decide) (by decide))
      have bV := bW.trans (set4_below (o := 0) (bX4.mono hbx) (Nat.le_refl _) (.bool g1) (.slice g2 g3 g4) (.bool g5) (.slice g6 g7 g8))
      clear bX4 hy4 n4 y0 y1 y2 y3 fr F0 HOP HBX HTX t0 t1 t2 t3 p0 p1 p2 p3
      generalize (((X4.setCell ⟨ab, 0, none⟩ (.bool g1)).setCell ⟨ab, 1, none⟩ (.slice g2 g3 g4)).setCell ⟨ab, 2, none⟩ (.bool g5)).setCell ⟨ab, 3, none⟩ (.slice g6 g7 g8) = V at *
      have HNW := hid (show TIs V (.agg #[.bool g1, .slice g2 g3 g4, .bool g5, .slice g6 g7 g8]) (sumZ (fun _ => true) ff (z + 1)) (KS 6810 (z + 1)) by rw [HNE.out, HKS.out]; exact NV.out)
      clear NV HNE HKS HKL HKM HXI BV5 hbx bW
      have hVb : ab < V.heap.size := lt_of_block HG.out
      go_wp2_with fail
      refine (t_of V 0 (by decide) (by decide)).mono ?_
      rintro e Y2 ⟨v2, rfl, hv2, bY2⟩
      obtain ⟨o1, o2, o3, o4, o5, o6, o7, o8, rfl⟩ := hv2.form
      have bA2 := ibel Y2 (Obj.cells #[.bool o1, .slice o2 o3 o4, .bool o5, .slice o6 o7 o8] 38)
      have HB2x := hid (box_new Y2 (Obj.cells #[.bool o1, .slice o2 o3 o4, .bool o5, .slice o6 o7 o8] 38))
      have HT2 := hid (show TIs _ _ (sumZ (fun i => decide (at' R i = z)) ff 0) (KS 6810 0) from (hv2.mono (show 3 ≤ 6810 by decide)).below bA2)
      have hOB := rfl (a := Y2.heap.size)
      have HGY := hid (box_below bY2 HG.out hVb)
      have HNY := hid (HNW.out.below bY2)
      have HYW := bA2
      have BW2 := bV.trans ((chain2 bY2 bA2).mono (Nat.le_of_lt hVb))
      have hob : ab < Y2.heap.size := Nat.lt_of_lt_of_le hVb bY2.size
      clear bA2 bY2 hv2 HG HNW hOB
      go_wp2_with (first | (refine wpList_store_fresh rfl 38 _ _ rfl _ _ _ rfl (by simp) rfl 4 info_refRat (by rfl) (by rfl) (by simp [Value.oneCell']) ?_) | fail)
      generalize Y2.alloc (Obj.cells #[.bool o1, .slice o2 o3 o4, .bool o5, .slice o6 o7 o8] 38) = W2 at *
      generalize hOB : Y2.heap.size = ob at *
      have HOB := hid hOB
      clear hOB
      have hob1 : ob < W2.heap.size := lt_of_block HB2x.out
      go_loopw [16] (fun iv wr => ∃ (k : Nat) (x0 x1 x2 x3 : Value), k ≤ n ∧ iv = .int .i64 (k : Int) ∧ Hid (wr.heap[ob]? = some (.cells #[x0, x1, x2, x3] 38 (0, 0))) ∧ Hid (TIs wr (.agg #[x0, x1, x2, x3]) (sumZ (fun i => decide (at' R i = z)) ff k) (KS 6810 k)) ∧ Below ob W2 wr) (fun i _ => n - (intOf i).toNat)
      case atStart => exact ⟨0, _, _, _, _, Nat.zero_le _, rfl, HB2x, HT2, Below.refl _ _⟩
      case round =>
      obtain ⟨k, t0', t1', t2', t3', hkn, rfl, HBX, HTX, bW⟩ := hrel
      obtain ⟨t0, t1, t2, t3⟩ := four_cell HBX.out
      have hbx : ob ≤ wr.heap.size := Nat.le_trans (Nat.le_of_lt hob1) bW.size
      have BV5 := HV5.out.trans ((BW2.trans (bW.mono (Nat.le_of_lt hob))).mono hab)
      by_cases hlk : k < n
      case neg =>
        obtain rfl : k = n := by omega
        have BYw : Below Y2.heap.size Y2 wr := by rw [HOB.out]; exact HYW.trans bW
        have HG3 := hid (box_below BYw HGY.out (by rw [HOB.out]; exact hob))
        have HN3 := hid (HNY.out.below BYw)
        have BN := BW2.trans (bW.mono (Nat.le_of_lt hob))
        have hgsz := lt_of_block HG3.out
        clear BYw HGY HNY HYW hlk
        cases rw5 with
        | false =>
          go_wp2_with fail
          go_roundw
          case rel => exact ⟨z + 1, _, _, _, _, by omega, by go_num, HG3, HN3, BN⟩
          case measure => simp [intOf]; omega
        | true =>
          rw [HOW.out (by first | rfl | trivial) z] at HTX
          have HSG := hid (t_sign wr _ _ (KS 6810 k) (by have := ks_le 6810 k (by omega); omega) HTX.out)
          rw [sgn_nought] at HSG
          go_wp2_with fail
          refine HSG.out.mono ?_
          rintro e U ⟨rfl, bU⟩
          have HG4 := hid (box_below bU HG3.out hgsz)
          have HN4 := hid (HN3.out.below bU)
          have BN2 := BN.trans (bU.mono (Nat.le_of_lt hgsz))
          clear bU HSG HTX t0 t1 t2 t3
          go_wp2_with fail
          go_roundw
          case rel => exact ⟨z + 1, _, _, _, _, by omega, by go_num, HG4, HN4, BN2⟩
          case measure => simp [intOf]; omega
      have hlkI : (k : Int) < (n : Int) := by omega
      have hlik : (0 : Int) ≤ (k : Int) ∧ (k : Int) < (n : Int) := by omega
      obtain ⟨mb, mo, mc, me, _, _, hmc⟩ := ints_at14 (HIN.out.below BV5) (by rw [HRL.out]; omega)
      rw [HRL.out] at me
      simp only [Value.slice.injEq] at me
      obtain ⟨rfl, -, rfl⟩ := me
      have mk := hmc k (by rw [HRL.out]; exact hlk)
      obtain ⟨gx, xc, p0', p1', p2', p3', e, _, p0, p1, p2, p3, hxi⟩ := (Ls.below (fun h b => h.below b) HLU.out BV5).at k (by rw [exps_len]; exact hlk)
      rw [exps_len] at e
      simp only [Value.slice.injEq, Option.some.injEq, Addr.mk.injEq, and_true, true_and] at e
      obtain ⟨rfl, rfl⟩ := e
      rw [exps_at, HFF.out] at hxi
      have HXI := hid hxi
      have HKL := hid (ks_le 6810 k (by omega))
      have HKM := hid (ks_ge 6810 k)
      have HKS := hid (show KS 6810 (k + 1) = 2 * KS 6810 k + 6 from rfl)
      have HY := hid (fun (hh : at' R k = z) => sumZ_yes (p := fun i => decide (at' R i = z)) (f := ff) (k := k) (decide_eq_true hh))
      have HN := hid (fun (hh : ¬ at' R k = z) => sumZ_no (p := fun i => decide (at' R i = z)) (f := ff) (k := k) (decide_eq_false hh))
      clear hxi hmc BV5
      by_cases hrz : at' R k = z
      · have hz1 : (((at' R k : Nat) : Int) == (z : Int)) = true := by simp; omega
        have HNE := hid (HY.out hrz)
        generalize at' R k = rk at *
        clear hrz HY HN
        have HOP := hid (fun (Y : World) (bY : Below wr.heap.size wr Y) => t_add Y _ _ (sumZ (fun i => decide (at' R i = z)) ff k) (ff k) (KS 6810 k) (by have := HKL.out; omega) (HTX.out.below bY) ((HXI.out.mono HKM.out).below bY))
        have F0 : Below wr.heap.size wr wr.drew := (Below.refl _ _).drew
        go_wp2_with fail
        first
        | (go_region_with (first
            | (go_at_call 10; refine (HOP.out _ (by first | exact Below.refl _ _ | exact (Below.refl _ _).drew | exact below_dn (Below.refl _ _) _)).mono ?_; rintro e X4 ⟨v4, rfl, n4, b4⟩; obtain ⟨g1, g2, g3, g4, g5, g6, g7, g8, rfl⟩ := n4.form; have bX4 : Below wr.heap.size wr X4 := ⟨b4.os, b4.tape, b4.output, b4.size, b4.block⟩; have hy4 := box_below bX4 HBX.out (lt_of_block HBX.out); obtain ⟨y0, y1, y2, y3⟩ := four_cell hy4; have fr := fun j => blk_free hy4 j; clear b4)))
        | fail
        all_goals
          have HG := hid (set4g hy4 (.bool g1) (.slice g2 g3 g4) (.bool g5) (.slice g6 g7 g8))
          have NV := hid (n4.kty (set4_kty (o := 0) (t1 := 38) (t2 := 38) hy4 (Or.inl rfl) (.bool g1) (.slice g2 g3 g4) (.bool g5) (.slice g6 g7 g8)) (by decide) (by decide))
          have bV := bW.trans (set4_below (o := 0) (bX4.mono hbx) (Nat.le_refl _) (.bool g1) (.slice g2 g3 g4) (.bool g5) (.slice g6 g7 g8))
          clear bX4 hy4 n4 y0 y1 y2 y3 fr F0 HOP HBX HTX t0 t1 t2 t3 p0 p1 p2 p3
          generalize (((X4.setCell ⟨ob, 0, none⟩ (.bool g1)).setCell ⟨ob, 1, none⟩ (.slice g2 g3 g4)).setCell ⟨ob, 2, none⟩ (.bool g5)).setCell ⟨ob, 3, none⟩ (.slice g6 g7 g8) = V at *
          have HNW := hid (show TIs V (.agg #[.bool g1, .slice g2 g3 g4, .bool g5, .slice g6 g7 g8]) (sumZ (fun i => decide (at' R i = z)) ff (k + 1)) (KS 6810 (k + 1)) by rw [HNE.out, HKS.out]; exact NV.out)
          go_wp2_with fail
          go_roundw
          case rel => exact ⟨k + 1, _, _, _, _, by omega, by go_num, HG, HNW, bV⟩
          case measure => simp [intOf]; omega
      · have hz1 : (((at' R k : Nat) : Int) == (z : Int)) = false := by simp; omega
        have HNE := hid (HN.out hrz)
        have HNW := hid (show TIs wr (.agg #[t0', t1', t2', t3']) (sumZ (fun i => decide (at' R i = z)) ff (k + 1)) (KS 6810 (k + 1)) by rw [HNE.out, HKS.out]; exact HTX.out.mono (by omega))
        generalize at' R k = rk at *
        clear hrz HY HN
        go_wp2_with fail
        go_roundw
        case rel => exact ⟨k + 1, _, _, _, _, by omega, by go_num, HBX, HNW, bW⟩
        case measure => simp [intOf]; omega
end Go.Proofs.YtmoailbilnkfnaaGreatDoor
