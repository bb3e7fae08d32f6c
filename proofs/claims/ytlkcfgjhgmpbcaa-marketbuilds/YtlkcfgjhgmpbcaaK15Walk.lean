/- MarketBuilds: the walk. -/
import Derived.Test.YtlkcfgjhgmpbcaaK15D
import Derived.Test.YtlkcfgjhgmpbcaaK15B
import Derived.Test.YtlkcfgjhgmpbcaaK15R
import Derived.Test.YtlkcfgjhgmpbcaaICheckM
import Derived.Test.YtlkcfgjhgmpbcaaCHCheck
import Derived.Deep.RegionHeld3
namespace Go.Proofs.Ytlkcfgjhgmpbcaa
open Go.RowKit
set_option linter.unusedVariables false
set_option maxRecDepth 100000
set_option linter.unusedSimpArgs false

set_option maxHeartbeats 25600000 in
theorem marketBuilds_any (w : World) (g : Gr) (la : Option Addr) (lc : Nat) (sa : Option Addr) (sn sc : Nat) (S : List Sp) (H : Int) (nv : Value) (net : List Int) (hl : Lns w (.slice la g.lines.length lc) g.lines) (hs0 : S.length = sn ∧ Sps w (.slice sa sn sc) S) (hH : (Lit.int .i64 H).wf = true) (hn : Ints w nv net) :
    Calls Try.prog 3 #[.agg #[.int .i64 g.zones, .int .i64 g.hours, .slice la g.lines.length lc, .int .i64 g.low, .int .i64 g.high], .slice sa sn sc, .int .i64 H, nv] w fun e w' => e = .returned (.bool true) ∧ Below w.heap.size w w' := by
  obtain ⟨rfl, hs⟩ := hs0
  obtain ⟨na, nc, rfl, nl, nm⟩ := hn.slice
  obtain ⟨sa', sc', se, sl, sm⟩ := hs.slice
  simp only [Value.slice.injEq] at se
  obtain ⟨rfl, -, rfl⟩ := se
  have HMC := hid (fun (Y : World) (b : Below w.heap.size w Y) => mcheck_any Y g la lc (hl.below b))
  have HRT := hid (fun (Y : World) (b : Below w.heap.size w Y) => right_any Y _ _ S net (hs.below b) (hn.below b))
  have HOK : Hid (gok g = true → errG g = 0) := hid (fun h => by unfold errG; rw [if_pos h])
  have HNO : Hid (¬ gok g = true → errG g = 140) := hid (fun h => by unfold errG; rw [if_neg h])
  obtain ⟨Z, Hs, lo, hi, L⟩ := g
  simp only at hl HMC HOK HNO ⊢
  have HL := hid hl
  have HS := hid hs
  have HN := hid hn
  unfold maxLen at nm sm
  have b0 := ibel w (Obj.cells #[.int .i64 Z, .int .i64 Hs, .slice la L.length lc, .int .i64 lo, .int .i64 hi] 24)
  have x0 := inew w (Obj.cells #[.int .i64 Z, .int .i64 Hs, .slice la L.length lc, .int .i64 lo, .int .i64 hi] 24)
  have z0 := ibx x0 0 (.int .i64 Z) rfl
  have z1 := ibx x0 1 (.int .i64 Hs) rfl
  have z2 := ibx x0 2 (.slice la L.length lc) rfl
  have z3 := ibx x0 3 (.int .i64 lo) rfl
  have z4 := ibx x0 4 (.int .i64 hi) rfl
  have HB0 := hid b0
  clear hl hs hn x0 b0 hH
  go_enter Try.func3, Try.ntmps3
  by_cases h64 : 64 < S.length
  · go_wp2_with fail
    go_ret
    exact ⟨rfl, HB0.out⟩
  go_wp2_with fail
  generalize hW : w.alloc (Obj.cells #[.int .i64 Z, .int .i64 Hs, .slice la L.length lc, .int .i64 lo, .int .i64 hi] 24) = W at *
  clear hW
  have HKx := hid (fun (Y : World) (k : Below W.heap.size W Y) => show (Y.cell? ⟨w.heap.size, 0, none⟩ = some (.int .i64 Z) ∧ Y.cell? ⟨w.heap.size, 1, none⟩ = some (.int .i64 Hs) ∧ Y.cell? ⟨w.heap.size, 2, none⟩ = some (.slice la L.length lc) ∧ Y.cell? ⟨w.heap.size, 3, none⟩ = some (.int .i64 lo) ∧ Y.cell? ⟨w.heap.size, 4, none⟩ = some (.int .i64 hi)) from ⟨ikc k z0, ikc k z1, ikc k z2, ikc k z3, ikc k z4⟩)
  have HWw := hid (fun (Y : World) (k : Below W.heap.size W Y) => HB0.out.trans (k.mono HB0.out.size))
  refine (HMC.out W HB0.out).mono ?_
  rintro e X ⟨rfl, bX⟩
  by_cases hg : gok ⟨Z, Hs, lo, hi, L⟩ = true
  case neg =>
    rw [HNO.out hg]
    have BF := HWw.out _ bX
    clear hg z0 z1 z2 z3 z4
    obtain ⟨z0, z1, z2, z3, z4⟩ := HKx.out _ bX
    go_wp2_with fail
    go_ret
    exact ⟨rfl, BF⟩
  rw [HOK.out hg]
  have HG := hid hg
  clear hg z0 z1 z2 z3 z4 HNO HOK HMC
  obtain ⟨z0, z1, z2, z3, z4⟩ := HKx.out _ bX
  by_cases hz : Z = (net.length : Int)
  case neg =>
    have hz' : ((net.length : Int) == Z) = false := by simpa using fun e => hz e.symm
    have hz2 : ¬ (net.length : Int) = Z := fun e => hz e.symm
    have BF := HWw.out _ bX
    clear hz
    go_wp2_with fail
    go_ret
    exact ⟨rfl, BF⟩
  subst hz
  go_wp2_with fail
  refine (HRT.out X (HWw.out _ bX)).mono ?_
  rintro e X2 ⟨⟨R, rfl, hR⟩, b2⟩
  have F := chain2 bX b2
  clear z0 z1 z2 z3 z4
  obtain ⟨z0, z1, z2, z3, z4⟩ := HKx.out _ F
  cases R with
  | false =>
    have BF := HWw.out _ F
    clear hR
    go_wp2_with fail
    go_ret
    exact ⟨rfl, BF⟩
  | true =>
    have HR := hid (hR rfl)
    clear hR bX b2 HRT
    obtain ⟨P, hPE⟩ : ∃ P, P = bldP (vrs (net.length : Int) H S L) net := ⟨_, rfl⟩
    have HPE := hid hPE.symm
    clear hPE
    have HPB := hid (fun (Y : World) (k : Below W.heap.size W Y) => build_any Y (net.length : Int) Hs lo hi H la lc L (HL.out.below (HWw.out _ k)) sa sc S (HS.out.below (HWw.out _ k)) na nc net (HN.out.below (HWw.out _ k)) HG.out rfl (by omega) HR.out)
    have HPR := hid (fun (Y : World) (k : Below W.heap.size W Y) => rbuild_any Y Hs lo hi H la lc L (HL.out.below (HWw.out _ k)) sa sc S (HS.out.below (HWw.out _ k)) na nc net (HN.out.below (HWw.out _ k)) HG.out (by omega) HR.out)
    go_wp2_with fail
    refine (HPB.out X2 F).mono ?_
    rintro e Y3 ⟨rv, ev, bv, cv, rfl, hp, b3⟩
    rw [HPE.out] at hp
    obtain ⟨ra, rc, rfl, rl, rm⟩ := hp.rows.slice
    obtain ⟨ea, ec, rfl, el, em⟩ := hp.rel.slice
    obtain ⟨ba, bc, rfl, bl, bm⟩ := hp.b.slice
    obtain ⟨ca, cc, rfl, cl, cm⟩ := hp.c.slice
    unfold maxLen at rm em bm cm
    have bA3 := ibel Y3 (Obj.cells #[.slice ra P.rows.length rc, .slice ea P.rel.length ec, .slice ba P.b.length bc, .slice ca P.c.length cc] 32)
    have xA3 := inew Y3 (Obj.cells #[.slice ra P.rows.length rc, .slice ea P.rel.length ec, .slice ba P.b.length bc, .slice ca P.c.length cc] 32)
    have F3 := chain2 (chain2 F b3) bA3
    have HXA := hid xA3
    have HP0 := hid (hp.below bA3)
    have hpb3 := lt_of_block xA3
    clear hp b3 bA3 xA3 z0 z1 z2 z3 z4
    obtain ⟨z0, z1, z2, z3, z4⟩ := HKx.out _ F3
    go_wp2_with fail
    generalize hY : Y3.alloc (Obj.cells #[.slice ra P.rows.length rc, .slice ea P.rel.length ec, .slice ba P.b.length bc, .slice ca P.c.length cc] 32) = Y4 at *
    clear hY
    generalize hpe : Y3.heap.size = pb at *
    clear hpe
    refine (HPR.out Y4 F3).mono ?_
    rintro e Y5 ⟨rv2, ev2, bv2, cv2, rfl, hp2, b5⟩
    rw [HPE.out] at hp2
    obtain ⟨ra2, rc2, rfl, rl2, rm2⟩ := hp2.rows.slice
    obtain ⟨ea2, ec2, rfl, el2, em2⟩ := hp2.rel.slice
    obtain ⟨ba2, bc2, rfl, bl2, bm2⟩ := hp2.b.slice
    obtain ⟨ca2, cc2, rfl, cl2, cm2⟩ := hp2.c.slice
    unfold maxLen at rm2 em2 bm2 cm2
    have bA5 := ibel Y5 (Obj.cells #[.slice ra2 P.rows.length rc2, .slice ea2 P.rel.length ec2, .slice ba2 P.b.length bc2, .slice ca2 P.c.length cc2] 34)
    have xA5 := inew Y5 (Obj.cells #[.slice ra2 P.rows.length rc2, .slice ea2 P.rel.length ec2, .slice ba2 P.b.length bc2, .slice ca2 P.c.length cc2] 34)
    have F5 := chain2 (chain2 F3 b5) bA5
    have bq := chain2 b5 bA5
    have HXB := hid xA5
    have HQ0 := hid (hp2.below bA5)
    have HXA5 := hid ((bq.block _ (lt_of_block HXA.out)).trans HXA.out)
    have HP5 := hid (HP0.out.below bq)
    clear hp2 b5 bA5 xA5 z0 z1 z2 z3 z4 HXA HP0 bq hpb3
    have p0 := ibx HXA5.out 0 _ rfl
    have q0 := ibx HXB.out 0 _ rfl
    have p1 := ibx HXA5.out 1 _ rfl
    have q1 := ibx HXB.out 1 _ rfl
    have p2 := ibx HXA5.out 2 _ rfl
    have q2 := ibx HXB.out 2 _ rfl
    have p3 := ibx HXA5.out 3 _ rfl
    have q3 := ibx HXB.out 3 _ rfl
    go_wp2_with fail
    generalize hY : Y5.alloc (Obj.cells #[.slice ra2 P.rows.length rc2, .slice ea2 P.rel.length ec2, .slice ba2 P.b.length bc2, .slice ca2 P.c.length cc2] 34) = Y6 at *
    clear hY
    generalize hqe : Y5.heap.size = qb at *
    clear hqe
    have HP1 := hid (fun (Y : World) (k : Below Y6.heap.size Y6 Y) => HP5.out.below k)
    have HP2 := hid (fun (Y : World) (k : Below Y6.heap.size Y6 Y) => HQ0.out.below k)
    have HKP := hid (fun (Y : World) (k : Below Y6.heap.size Y6 Y) => show (Y.cell? ⟨pb, 0, none⟩ = some (.slice ra P.rows.length rc) ∧ Y.cell? ⟨pb, 1, none⟩ = some (.slice ea P.rel.length ec) ∧ Y.cell? ⟨pb, 2, none⟩ = some (.slice ba P.b.length bc) ∧ Y.cell? ⟨pb, 3, none⟩ = some (.slice ca P.c.length cc)) ∧ (Y.cell? ⟨qb, 0, none⟩ = some (.slice ra2 P.rows.length rc2) ∧ Y.cell? ⟨qb, 1, none⟩ = some (.slice ea2 P.rel.length ec2) ∧ Y.cell? ⟨qb, 2, none⟩ = some (.slice ba2 P.b.length bc2) ∧ Y.cell? ⟨qb, 3, none⟩ = some (.slice ca2 P.c.length cc2)) from by
      have c1 := (k.block _ (lt_of_block HXA5.out)).trans HXA5.out
      have c2 := (k.block _ (lt_of_block HXB.out)).trans HXB.out
      exact ⟨⟨ibx c1 0 _ rfl, ibx c1 1 _ rfl, ibx c1 2 _ rfl, ibx c1 3 _ rfl⟩, ⟨ibx c2 0 _ rfl, ibx c2 1 _ rfl, ibx c2 2 _ rfl, ibx c2 3 _ rfl⟩⟩)
    have HWY := hid (fun (Y : World) (k : Below Y6.heap.size Y6 Y) => HWw.out _ (F5.trans (k.mono F5.size)))
    clear p0 p1 p2 p3 q0 q1 q2 q3 HXA5 HXB HP5 HQ0 HPB HPR HPE HR HG F F3
    have F0 : Below Y6.heap.size Y6 Y6 := Below.refl _ _
    obtain ⟨⟨p0, p1, p2, p3⟩, ⟨q0, q1, q2, q3⟩⟩ := HKP.out _ F0
    refine (sameInts_any _ _ _ _ _ ((HP1.out _ F0).rel) ((HP2.out _ F0).rel)).mono ?_
    rintro e V1 ⟨⟨R, rfl, hR⟩, bb⟩
    obtain rfl := hR rfl
    clear hR
    have F1 := F0.trans (bb.mono F0.size)
    clear bb
    clear p0 p1 p2 p3 q0 q1 q2 q3
    obtain ⟨⟨p0, p1, p2, p3⟩, ⟨q0, q1, q2, q3⟩⟩ := HKP.out _ F1
    go_wp2_with fail
    refine (sameInts_any _ _ _ _ _ ((HP1.out _ F1).b) ((HP2.out _ F1).b)).mono ?_
    rintro e V2 ⟨⟨R, rfl, hR⟩, bb⟩
    obtain rfl := hR rfl
    clear hR
    have F2 := F1.trans (bb.mono F1.size)
    clear bb
    clear p0 p1 p2 p3 q0 q1 q2 q3
    obtain ⟨⟨p0, p1, p2, p3⟩, ⟨q0, q1, q2, q3⟩⟩ := HKP.out _ F2
    go_wp2_with fail
    refine (sameInts_any _ _ _ _ _ ((HP1.out _ F2).c) ((HP2.out _ F2).c)).mono ?_
    rintro e V3 ⟨⟨R, rfl, hR⟩, bb⟩
    obtain rfl := hR rfl
    clear hR
    have F3 := F2.trans (bb.mono F2.size)
    clear bb
    clear p0 p1 p2 p3 q0 q1 q2 q3
    obtain ⟨⟨p0, p1, p2, p3⟩, ⟨q0, q1, q2, q3⟩⟩ := HKP.out _ F3
    clear F0 F1 F2
    have HF3 := hid F3
    clear F3
    go_wp2_with fail
    go_loopw [11] (fun iv wr => ∃ k : Nat, k ≤ P.rows.length ∧ iv = .int .i64 (k : Int) ∧ Hid (Below Y6.heap.size Y6 wr)) (fun iv _ => P.rows.length - (intOf iv).toNat)
    case atStart => exact ⟨0, Nat.zero_le _, rfl, HF3⟩
    case round =>
      clear p0 p1 p2 p3 q0 q1 q2 q3 HF3
      obtain ⟨k, hk, rfl, HF⟩ := hrel
      obtain ⟨⟨p0, p1, p2, p3⟩, ⟨q0, q1, q2, q3⟩⟩ := HKP.out _ HF.out
      by_cases hlt : k < P.rows.length
      · obtain ⟨xb, xo, xc, u1, ex, hu1, hi1⟩ := (HP1.out _ HF.out).rows.at k hlt
        obtain ⟨yb, yo, yc, u2, ey, hu2, hi2⟩ := (HP2.out _ HF.out).rows.at k hlt
        simp only [Value.slice.injEq] at ex ey
        obtain ⟨rfl, -, rfl⟩ := ex
        obtain ⟨rfl, -, rfl⟩ := ey
        have HKR := hid (fun (Y : World) (k' : Below wr.heap.size wr Y) => show Y.cell? ⟨pb, 0, none⟩ = some (.slice (some ⟨xb, xo, none⟩) P.rows.length rc) ∧ Y.cell? ⟨qb, 0, none⟩ = some (.slice (some ⟨yb, yo, none⟩) P.rows.length rc2) ∧ Y.cell? ⟨xb, xo + k, none⟩ = some u1 ∧ Y.cell? ⟨yb, yo + k, none⟩ = some u2 from ⟨ikc k' p0, ikc k' q0, ikc k' hu1, ikc k' hu2⟩)
        have HR1 := hid (fun (Y : World) (k' : Below wr.heap.size wr Y) => hi1.below k')
        have HR2 := hid (fun (Y : World) (k' : Below wr.heap.size wr Y) => hi2.below k')
        generalize P.rows[k] = row at *
        clear hi1 hi2
        go_wp2_with fail
        clear p0 p1 p2 p3 q0 q1 q2 q3 hu1 hu2
        have F0 : Below wr.heap.size wr wr.drew := (Below.refl _ _).drew
        refine wp_region_noPanic ?_
        refine wp_region_held_drew (S := fun Y => Y.cell? ⟨pb, 0, none⟩ = some (.slice (some ⟨xb, xo, none⟩) P.rows.length rc) ∧ Y.cell? ⟨qb, 0, none⟩ = some (.slice (some ⟨yb, yo, none⟩) P.rows.length rc2) ∧ Y.cell? ⟨xb, xo + k, none⟩ = some u1 ∧ Y.cell? ⟨yb, yo + k, none⟩ = some u2) (by kernel_rfl) (HKR.out _ F0) (fun hHeld => ?_)
        refine wpAnyH_take (i := 0) (v := ?_) rfl (by kernel_rfl) (by kernel_rfl) (by kernel_rfl) (fun _ _ _ h => h) (Or.inl ⟨by rfl, ?_⟩) (by assumption) ?_
        rotate_left
        · intro w hSw
          (try dsimp only at hSw)
          go_simp
          (try with_reducible rfl)
        (try simp only [List.getElem_toArray, List.getElem_cons_zero, List.getElem_cons_succ, Act.put, List.setIfInBounds_toArray, List.set_cons_zero, List.set_cons_succ])
        refine wpAnyH_take (i := 1) (v := ?_) rfl (by kernel_rfl) (by kernel_rfl) (by kernel_rfl) (fun _ _ _ h => h) (Or.inl ⟨by rfl, ?_⟩) (by assumption) ?_
        rotate_left
        · intro w hSw
          (try dsimp only at hSw)
          go_simp
          (try with_reducible rfl)
        (try simp only [List.getElem_toArray, List.getElem_cons_zero, List.getElem_cons_succ, Act.put, List.setIfInBounds_toArray, List.set_cons_zero, List.set_cons_succ])
        refine wpAnyH_take (i := 2) (v := ?_) rfl (by kernel_rfl) (by kernel_rfl) (by kernel_rfl) (fun _ _ _ h => h) (Or.inl ⟨by rfl, ?_⟩) (by assumption) ?_
        rotate_left
        · intro w hSw
          (try dsimp only at hSw)
          go_simp
          (try with_reducible rfl)
        (try simp only [List.getElem_toArray, List.getElem_cons_zero, List.getElem_cons_succ, Act.put, List.setIfInBounds_toArray, List.set_cons_zero, List.set_cons_succ])
        refine wpAnyH_take (i := 3) (v := ?_) rfl (by kernel_rfl) (by kernel_rfl) (by kernel_rfl) (fun _ _ _ h => h) (Or.inl ⟨by rfl, ?_⟩) (by assumption) ?_
        rotate_left
        · intro w hSw
          (try dsimp only at hSw)
          go_simp
          (try with_reducible rfl)
        (try simp only [List.getElem_toArray, List.getElem_cons_zero, List.getElem_cons_succ, Act.put, List.setIfInBounds_toArray, List.set_cons_zero, List.set_cons_succ])
        refine wpAnyH_take (i := 4) (v := ?_) rfl (by kernel_rfl) (by kernel_rfl) (by kernel_rfl) (fun _ _ _ h => h) (Or.inl ⟨by rfl, ?_⟩) (by assumption) ?_
        rotate_left
        · intro w hSw
          (try dsimp only at hSw)
          go_simp
          (try with_reducible rfl)
        (try simp only [List.getElem_toArray, List.getElem_cons_zero, List.getElem_cons_succ, Act.put, List.setIfInBounds_toArray, List.set_cons_zero, List.set_cons_succ])
        refine wpAnyH_take (i := 5) (v := ?_) rfl (by kernel_rfl) (by kernel_rfl) (by kernel_rfl) (fun _ _ _ h => h) (Or.inl ⟨by rfl, ?_⟩) (by assumption) ?_
        rotate_left
        · intro w hSw
          (try dsimp only at hSw)
          go_simp
          (try with_reducible rfl)
        (try simp only [List.getElem_toArray, List.getElem_cons_zero, List.getElem_cons_succ, Act.put, List.setIfInBounds_toArray, List.set_cons_zero, List.set_cons_succ])
        refine wpAnyH_take (i := 6) (v := ?_) rfl (by kernel_rfl) (by kernel_rfl) (by kernel_rfl) (fun _ _ _ h => h) (Or.inl ⟨by rfl, ?_⟩) (by assumption) ?_
        rotate_left
        · intro w hSw
          (try dsimp only at hSw)
          go_simp
          (try with_reducible rfl)
        (try simp only [List.getElem_toArray, List.getElem_cons_zero, List.getElem_cons_succ, Act.put, List.setIfInBounds_toArray, List.set_cons_zero, List.set_cons_succ])
        refine wpAnyH_take (i := 7) (v := ?_) rfl (by kernel_rfl) (by kernel_rfl) (by kernel_rfl) (fun _ _ _ h => h) (Or.inl ⟨by rfl, ?_⟩) (by assumption) ?_
        rotate_left
        · intro w hSw
          (try dsimp only at hSw)
          go_simp
          (try with_reducible rfl)
        (try simp only [List.getElem_toArray, List.getElem_cons_zero, List.getElem_cons_succ, Act.put, List.setIfInBounds_toArray, List.set_cons_zero, List.set_cons_succ])
        refine wpAnyH_take (i := 8) (v := ?_) rfl (by kernel_rfl) (by kernel_rfl) (by kernel_rfl) (fun _ _ _ h => h) (Or.inl ⟨by rfl, ?_⟩) (by assumption) ?_
        rotate_left
        · intro w hSw
          (try dsimp only at hSw)
          go_simp
          (try with_reducible rfl)
        (try simp only [List.getElem_toArray, List.getElem_cons_zero, List.getElem_cons_succ, Act.put, List.setIfInBounds_toArray, List.set_cons_zero, List.set_cons_succ])
        refine wpAnyH_take (i := 9) (v := ?_) rfl (by kernel_rfl) (by kernel_rfl) (by kernel_rfl) (fun _ _ _ h => h) (Or.inl ⟨by rfl, ?_⟩) (by assumption) ?_
        rotate_left
        · intro w hSw
          (try dsimp only at hSw)
          go_simp
          (try with_reducible rfl)
        (try simp only [List.getElem_toArray, List.getElem_cons_zero, List.getElem_cons_succ, Act.put, List.setIfInBounds_toArray, List.set_cons_zero, List.set_cons_succ])
        refine wpAnyH_ready (rs := [10]) (by kernel_rfl) (by simp) ?_
        refine AllReadyH.cons (o := _) rfl (fun Kc hKc => ?_) AllReadyH.nil
        go_simp
        (go_at_call 8; refine (sameInts_any _ _ _ _ _ (HR1.out _ F0) (HR2.out _ F0)).mono ?_; rintro e Y1 ⟨⟨R, rfl, hR⟩, bb⟩; obtain rfl := hR rfl; have F1 := chain2 F0 bb)
        dsimp only
        refine hKc.out _ _ (HKR.out _ F1) (fun hHeld => ?_)
        clear hKc Kc
        (try simp only [List.getElem_toArray, List.getElem_cons_zero, List.getElem_cons_succ, Act.put, List.setIfInBounds_toArray, List.set_cons_zero, List.set_cons_succ])
        refine wpAnyH_take (i := 11) (v := ?_) rfl (by kernel_rfl) (by kernel_rfl) (by kernel_rfl) (fun _ _ _ h => h) (Or.inl ⟨by rfl, ?_⟩) (by assumption) ?_
        rotate_left
        · intro w hSw
          (try dsimp only at hSw)
          go_simp
          (try with_reducible rfl)
        (try simp only [List.getElem_toArray, List.getElem_cons_zero, List.getElem_cons_succ, Act.put, List.setIfInBounds_toArray, List.set_cons_zero, List.set_cons_succ])
        refine wpAnyH_done (by kernel_rfl) ?_ _
        refine NoPanic.normal ?_
        have HF9 := hid (chain2 HF.out F1)
        clear HKR HR1 HR2 HF F0 F1 hHeld
        go_wp2_with fail
        go_roundw
        case rel => exact ⟨k + 1, by omega, by go_num, HF9⟩
        case measure => simp [intOf]; omega
      · obtain rfl : k = P.rows.length := by omega
        clear hk hlt
        go_wp2_with fail
        clear p0 p1 p2 p3 q0 q1 q2 q3
        have F0 : Below Y6.heap.size Y6 wr.drew := HF.out.drew
        refine wp_region_noPanic ?_
        refine wp_region_held_drew (S := fun Y => (Y.cell? ⟨pb, 0, none⟩ = some (.slice ra P.rows.length rc) ∧ Y.cell? ⟨pb, 1, none⟩ = some (.slice ea P.rel.length ec) ∧ Y.cell? ⟨pb, 2, none⟩ = some (.slice ba P.b.length bc) ∧ Y.cell? ⟨pb, 3, none⟩ = some (.slice ca P.c.length cc)) ∧ (Y.cell? ⟨qb, 0, none⟩ = some (.slice ra2 P.rows.length rc2) ∧ Y.cell? ⟨qb, 1, none⟩ = some (.slice ea2 P.rel.length ec2) ∧ Y.cell? ⟨qb, 2, none⟩ = some (.slice ba2 P.b.length bc2) ∧ Y.cell? ⟨qb, 3, none⟩ = some (.slice ca2 P.c.length cc2))) (by kernel_rfl) (HKP.out _ F0) (fun hHeld => ?_)
        refine wpAnyH_take (i := 0) (v := ?_) rfl (by kernel_rfl) (by kernel_rfl) (by kernel_rfl) (fun _ _ _ h => h) (Or.inl ⟨by rfl, ?_⟩) (by assumption) ?_
        rotate_left
        · intro w hSw
          (try dsimp only at hSw)
          go_simp
          (try with_reducible rfl)
        (try simp only [List.getElem_toArray, List.getElem_cons_zero, List.getElem_cons_succ, Act.put, List.setIfInBounds_toArray, List.set_cons_zero, List.set_cons_succ])
        refine wpAnyH_take (i := 2) (v := ?_) rfl (by kernel_rfl) (by kernel_rfl) (by kernel_rfl) (fun _ _ _ h => h) (Or.inl ⟨by rfl, ?_⟩) (by assumption) ?_
        rotate_left
        · intro w hSw
          (try dsimp only at hSw)
          go_simp
          (try with_reducible rfl)
        (try simp only [List.getElem_toArray, List.getElem_cons_zero, List.getElem_cons_succ, Act.put, List.setIfInBounds_toArray, List.set_cons_zero, List.set_cons_succ])
        refine wpAnyH_ready (rs := [1]) (by kernel_rfl) (by simp) ?_
        refine AllReadyH.cons (o := _) rfl (fun Kc hKc => ?_) AllReadyH.nil
        go_simp
        (go_at_call 9; refine (cCheck_any _ _ _ _ _ P (HP1.out _ F0)).mono ?_; rintro e Y1 ⟨rfl, bb⟩; have F1 := chain2 F0 bb)
        dsimp only
        refine hKc.out _ _ (HKP.out _ F1) (fun hHeld => ?_)
        clear hKc Kc
        (try simp only [List.getElem_toArray, List.getElem_cons_zero, List.getElem_cons_succ, Act.put, List.setIfInBounds_toArray, List.set_cons_zero, List.set_cons_succ])
        refine wpAnyH_ready (rs := [3]) (by kernel_rfl) (by simp) ?_
        refine AllReadyH.cons (o := _) rfl (fun Kc hKc => ?_) AllReadyH.nil
        go_simp
        (go_at_call 10; refine (hCheck_any _ _ _ _ _ P (HP2.out _ F1)).mono ?_; rintro e Y2 ⟨rfl, bb⟩; have F2 := chain2 F1 bb)
        dsimp only
        refine hKc.out _ _ (HKP.out _ F2) (fun hHeld => ?_)
        clear hKc Kc
        (try simp only [List.getElem_toArray, List.getElem_cons_zero, List.getElem_cons_succ, Act.put, List.setIfInBounds_toArray, List.set_cons_zero, List.set_cons_succ])
        refine wpAnyH_take (i := 4) (v := ?_) rfl (by kernel_rfl) (by kernel_rfl) (by kernel_rfl) (fun _ _ _ h => h) (Or.inl ⟨by rfl, ?_⟩) (by assumption) ?_
        rotate_left
        · intro w hSw
          (try dsimp only at hSw)
          go_simp
          (try with_reducible rfl)
        (try simp only [List.getElem_toArray, List.getElem_cons_zero, List.getElem_cons_succ, Act.put, List.setIfInBounds_toArray, List.set_cons_zero, List.set_cons_succ])
        refine wpAnyH_take (i := 5) (v := ?_) rfl (by kernel_rfl) (by kernel_rfl) (by kernel_rfl) (fun _ _ _ h => h) (Or.inl ⟨by rfl, ?_⟩) (by assumption) ?_
        rotate_left
        · intro w hSw
          (try dsimp only at hSw)
          go_simp
          (try with_reducible rfl)
        (try simp only [List.getElem_toArray, List.getElem_cons_zero, List.getElem_cons_succ, Act.put, List.setIfInBounds_toArray, List.set_cons_zero, List.set_cons_succ])
        refine wpAnyH_done (by kernel_rfl) ?_ _
        refine NoPanic.normal ?_
        have BF := HWY.out _ F2
        clear F0 F1 F2 HF hHeld
        go_wp2_with fail
        go_ret
        exact ⟨by first | rfl | simp, BF⟩
end Go.Proofs.Ytlkcfgjhgmpbcaa
