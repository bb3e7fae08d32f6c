/- cert: the document: Dual, Farkas. -/
import Derived.Test.YtbdhanlenekdhaaGreatDoorPk42
import Derived.Test.YtbdhanlenekdhaaGreatDoorZHSign
import Derived.Laws.MakeOwn
namespace Go.Proofs.YtbdhanlenekdhaaGreatDoor
open Go.RowKit
set_option linter.unusedVariables false
set_option maxRecDepth 100000
set_option linter.unusedSimpArgs false

set_option maxHeartbeats 6400000 in
theorem hDual_any (w : World) (rv ev bv cv sv : Value) (P : Prb) (S : List ByteArray) (hp : IsPrb w rv ev bv cv P) (hs : Strs w sv S) (hsz : chk P = 0 → ∀ s ∈ S, s.size ≤ 600) (R : Bool) (hR : R = true ↔ DuaS P S) :
    Calls Tryz.prog 18 #[.agg #[rv, ev, bv, cv], sv] w fun e w' => e = .returned (.bool R) ∧ Below w.heap.size w w' := by
  obtain ⟨ra, rc, rfl, rl, rm⟩ := hp.rows.slice
  obtain ⟨ea, ec, rfl, el, em⟩ := hp.rel.slice
  obtain ⟨ba, bc, rfl, bl, bm⟩ := hp.b.slice
  obtain ⟨ca, cc, rfl, cl, cm⟩ := hp.c.slice
  obtain ⟨sa, sc, rfl, sl, sm⟩ := hs.slice
  unfold maxLen at rm em bm cm sm
  have b0 := (Below.refl w.heap.size w).alloc (Nat.le_refl _) (Obj.cells #[.slice ra P.rows.length rc, .slice ea P.rel.length ec, .slice ba P.b.length bc, .slice ca P.c.length cc] 32)
  have x0 := box_new w (Obj.cells #[.slice ra P.rows.length rc, .slice ea P.rel.length ec, .slice ba P.b.length bc, .slice ca P.c.length cc] 32)
  have y0 := bxc x0 0 (.slice ra P.rows.length rc) rfl
  have y1 := bxc x0 1 (.slice ea P.rel.length ec) rfl
  have y2 := bxc x0 2 (.slice ba P.b.length bc) rfl
  have y3 := bxc x0 3 (.slice ca P.c.length cc) rfl
  have HPB := hid x0
  have HP := hid (hp.below b0)
  have HB0 := hid b0
  have HS := hid (hs.below b0)
  have HSZ := hid hsz
  have HR0 := hid hR
  clear hp hs b0 x0 hsz hR
  go_enter Tryz.func18, Tryz.ntmps18
  go_wp2_with fail
  generalize w.alloc (Obj.cells #[.slice ra P.rows.length rc, .slice ea P.rel.length ec, .slice ba P.b.length bc, .slice ca P.c.length cc] 32) = W at *
  refine (hread_any W _ _ _ _ _ P S P.b.length HP.out HS.out HSZ.out (fun hh => by have := (chk_ok hh).b; have := (chk_ok hh).rl; have := (chk_ok hh).cl; omega) (by omega)).mono ?_
  rintro e X1 ⟨hr, bX1⟩
  clear y0 y1 y2 y3
  have B1 := chain2 HB0.out bX1
  have HPK := hid (box_below bX1 HPB.out (lt_of_block HPB.out))
  rcases hr with ⟨hck, hln, X, tv, base, C, hnu, rfl, hl⟩ | ⟨hno, rfl⟩
  · skip
    have ok := chk_ok hck
    obtain ⟨ta, tc, rfl, _, _⟩ := hl.slice
    have y0 := bxc HPK.out 0 (.slice ra P.rows.length rc) rfl
    have y1 := bxc HPK.out 1 (.slice ea P.rel.length ec) rfl
    have y2 := bxc HPK.out 2 (.slice ba P.b.length bc) rfl
    have y3 := bxc HPK.out 3 (.slice ca P.c.length cc) rfl
    have HCALL := hid (hsigned_any _ _ _ _ _ _ _ P X base C P.c (HP.out.below bX1) (hnu.lt (HSZ.out hck)) (Ls.below (fun h b => h.below b) hl (Below.refl _ _)) (HP.out.c.below bX1) (by rw [hnu.len, hln, ok.b]) ok.rel ok.c rfl ok.r9 ok.c9 ok.rl ok.cl R (HR0.out.trans ⟨fun ⟨h1, h2, Y, h3, h4⟩ => by rw [hnu.uniq h3]; exact h4, fun h4 => ⟨hck, hln, X, hnu, h4⟩⟩))
    clear hl hnu hck hln bX1 ok
    go_wp2_with fail
    refine HCALL.out.mono ?_
    rintro e X2 ⟨rfl, bX2⟩
    have B2 := chain2 B1 bX2
    clear bX2 y0 y1 y2 y3
    go_wp2
    go_ret
    exact ⟨rfl, B2⟩
  · have hne := rd_ne' P S P.b.length
    have HF := hid (bool_no HR0.out (fun ⟨h1, h2, X, h3, _⟩ => hno ⟨h1, h2, X, h3⟩))
    generalize rdE P S P.b.length = er at *
    have hne1 : (er == 0) = false := beq_eq_false_iff_ne.2 hne
    clear hno bX1
    go_wp2
    go_ret
    exact ⟨by rw [HF.out]; rfl, B1⟩

theorem made_ints (n : Nat) : madeCells (Value.cells (.int .i64 0)) (n * 1) = (intV (List.replicate n 0)).toArray := by
  apply Array.toList_inj.1
  have : (madeCells (Value.cells (.int .i64 0)) (n * 1)).toList = List.replicate (n * 1) (Value.int .i64 0) := toList_madeCells_one _ _
  rw [this]
  simp [intV]
theorem make_ints (n : Nat) (hn : n ≤ 1000) (V : World) : (Instr.makeSlice 23 (.int .i64 (n : Int)) (.int .i64 (n : Int))).run Tryz.prog V = .ok (.slice (some ⟨V.heap.size, 0, none⟩) n n) (V.alloc (.cells (intV (List.replicate n 0)).toArray 3)) := by
  obtain ⟨i0, hi0, hz0, hz1, hz2⟩ := info_parts info_int
  have := run_make (P := Tryz.prog) (w := V) 23 3 i0 (.int .i64 0) Tryz.underlying23 hi0 hz0 .i64 .i64 (n : Int) (n : Int) (by omega) (by omega) (by rw [hz2]; omega) (by omega)
  rw [hz1] at this
  simp only [Int.toNat_natCast] at this
  rw [made_ints] at this
  exact this
theorem noughts_ints {V : World} {g n : Nat} (h : V.heap[g]? = some (.cells (intV (List.replicate n 0)).toArray 3 (0, 0))) (hn : n ≤ 1000) : Ints V (.slice (some ⟨g, 0, none⟩) n n) (List.replicate n 0) := by
  have := Row1.of_block h (by rw [intV_len, List.length_replicate]; unfold maxLen; omega)
  rwa [intV_len, List.length_replicate] at this
theorem in9_rep (n : Nat) : In9 (List.replicate n 0) := fun a ha => by
  rw [List.mem_replicate] at ha
  omega
set_option maxHeartbeats 12800000 in
theorem hFarkas_any (w : World) (rv ev bv cv sv : Value) (P : Prb) (S : List ByteArray) (hp : IsPrb w rv ev bv cv P) (hs : Strs w sv S) (hsz : chk P = 0 → ∀ s ∈ S, s.size ≤ 600) (R : Bool) (hR : R = true ↔ FarS P S) :
    Calls Tryz.prog 27 #[.agg #[rv, ev, bv, cv], sv] w fun e w' => e = .returned (.bool R) ∧ Below w.heap.size w w' := by
  obtain ⟨ra, rc, rfl, rl, rm⟩ := hp.rows.slice
  obtain ⟨ea, ec, rfl, el, em⟩ := hp.rel.slice
  obtain ⟨ba, bc, rfl, bl, bm⟩ := hp.b.slice
  obtain ⟨ca, cc, rfl, cl, cm⟩ := hp.c.slice
  obtain ⟨sa, sc, rfl, sl, sm⟩ := hs.slice
  unfold maxLen at rm em bm cm sm
  have b0 := (Below.refl w.heap.size w).alloc (Nat.le_refl _) (Obj.cells #[.slice ra P.rows.length rc, .slice ea P.rel.length ec, .slice ba P.b.length bc, .slice ca P.c.length cc] 32)
  have x0 := box_new w (Obj.cells #[.slice ra P.rows.length rc, .slice ea P.rel.length ec, .slice ba P.b.length bc, .slice ca P.c.length cc] 32)
  have y0 := bxc x0 0 (.slice ra P.rows.length rc) rfl
  have y1 := bxc x0 1 (.slice ea P.rel.length ec) rfl
  have y2 := bxc x0 2 (.slice ba P.b.length bc) rfl
  have y3 := bxc x0 3 (.slice ca P.c.length cc) rfl
  have HPB := hid x0
  have HP := hid (hp.below b0)
  have HB0 := hid b0
  have HS := hid (hs.below b0)
  have HSZ := hid hsz
  have HR0 := hid hR
  clear hp hs b0 x0 hsz hR
  go_enter Tryz.func27, Tryz.ntmps27
  go_wp2_with fail
  generalize w.alloc (Obj.cells #[.slice ra P.rows.length rc, .slice ea P.rel.length ec, .slice ba P.b.length bc, .slice ca P.c.length cc] 32) = W at *
  refine (hread_any W _ _ _ _ _ P S P.b.length HP.out HS.out HSZ.out (fun hh => by have := (chk_ok hh).b; have := (chk_ok hh).rl; have := (chk_ok hh).cl; omega) (by omega)).mono ?_
  rintro e X1 ⟨hr, bX1⟩
  clear y0 y1 y2 y3
  have B1 := chain2 HB0.out bX1
  have HPK := hid (box_below bX1 HPB.out (lt_of_block HPB.out))
  rcases hr with ⟨hck, hln, X, tv, base, C, hnu, rfl, hl⟩ | ⟨hno, rfl⟩
  · skip
    have ok := chk_ok hck
    obtain ⟨ta, tc, rfl, _, _⟩ := hl.slice
    have y0 := bxc HPK.out 0 (.slice ra P.rows.length rc) rfl
    have y1 := bxc HPK.out 1 (.slice ea P.rel.length ec) rfl
    have y2 := bxc HPK.out 2 (.slice ba P.b.length bc) rfl
    have y3 := bxc HPK.out 3 (.slice ca P.c.length cc) rfl
    obtain ⟨R1, hR1⟩ := boolOf (sgs P.rel X ∧ cvs P.rows X (List.replicate P.c.length 0))
    have hRd : R = true ↔ R1 = true ∧ decide (sgnR (dot P.b X) < 0) = true := by
      rw [sgn_lt_iff, hR1]
      exact HR0.out.trans ⟨fun ⟨h1, h2, Y, h3, h4⟩ => by rw [hnu.uniq h3]; exact h4, fun h4 => ⟨hck, hln, X, hnu, h4⟩⟩
    have HMK := make_ints P.c.length (by have := ok.cl; omega)
    have HSGN := hid (fun (Y : World) (bY : Below X1.heap.size X1 Y) (u : Value) (hu : Ints Y u (List.replicate P.c.length 0)) => hsigned_any _ _ _ _ _ _ u P X base C (List.replicate P.c.length 0) (HP.out.below (chain2 bX1 bY)) (hnu.lt (HSZ.out hck)) (Ls.below (fun h b => h.below b) hl bY) hu (by rw [hnu.len, hln, ok.b]) ok.rel ok.c (by simp) ok.r9 (in9_rep _) ok.rl ok.cl R1 hR1)
    have HTIM := hid (fun (Y : World) (bY : Below X1.heap.size X1 Y) => hTimes_any Y _ X base C _ P.b (hnu.lt (HSZ.out hck)) (by rw [hnu.len, hln, ok.b]; exact ok.rl) (Ls.below (fun h b => h.below b) hl bY) ((HP.out.b.below bX1).below bY) ok.b9 (by rw [hnu.len, hln]; exact Nat.le_refl _))
    have HSIG := hid (fun (Y : World) (v : Value) (hv : TIs Y v (dot P.b X) 6000) => t_sign Y v _ _ (by omega) hv)
    have hcl := ok.cl
    have hpa := fun (o : Obj) => box_alloc HPK.out o
    have ya0 := fun (o : Obj) => bxc (hpa o) 0 (.slice ra P.rows.length rc) rfl
    have ya1 := fun (o : Obj) => bxc (hpa o) 1 (.slice ea P.rel.length ec) rfl
    have ya2 := fun (o : Obj) => bxc (hpa o) 2 (.slice ba P.b.length bc) rfl
    have ya3 := fun (o : Obj) => bxc (hpa o) 3 (.slice ca P.c.length cc) rfl
    clear hl hnu hck hln bX1 ok hpa hR1
    generalize sgnR (dot P.b X) = sg at *
    generalize dot P.b X = D at *
    have BZ := (Below.refl X1.heap.size X1).alloc (Nat.le_refl _) (Obj.cells (intV (List.replicate P.c.length 0)).toArray 3)
    have IZ := noughts_ints (box_new X1 (Obj.cells (intV (List.replicate P.c.length 0)).toArray 3)) (by omega)
    have HBZ := hid BZ
    have HIZ := hid IZ
    clear BZ IZ
    generalize (intV (List.replicate P.c.length 0)).toArray = ZA at *
    have HRD := hid hRd
    clear hRd
    cases R1 with
    | false =>
      have HF := hid (show R = false from bool_no HRD.out (fun ⟨h, _⟩ => by cases h))
      go_wp2_with fail
      first
      | (go_region_with (go_at_call 47; refine (HSGN.out _ (by first | exact HBZ.out | exact HBZ.out.drew | exact below_dn HBZ.out _) _ (by first | exact HIZ.out | exact HIZ.out.below (Below.refl _ _).drew | exact HIZ.out.below (below_dn (Below.refl _ _) _))).mono ?_; rintro e Y1 ⟨rfl, b1⟩; have bY1 : Below X1.heap.size X1 Y1 := (by first | exact ⟨b1.os, b1.tape, b1.output, b1.size, b1.block⟩ | exact chain2 HBZ.out b1 | exact chain2 HBZ.out ⟨b1.os, b1.tape, b1.output, b1.size, b1.block⟩ | exact chain2 HBZ.out.drew b1 | exact chain2 HBZ.out.drew ⟨b1.os, b1.tape, b1.output, b1.size, b1.block⟩); clear b1))
      | fail
      all_goals
        have BF := chain2 B1 bY1
        (try simp only [List.getElem_toArray, List.getElem_cons_zero, List.getElem_cons_succ, Act.put, List.setIfInBounds_toArray, List.set_cons_succ, List.set_cons_zero])
        go_wp2
        go_ret
        exact ⟨by rw [HF.out]; rfl, by first | exact BF | exact BF.drew | exact below_dn BF _⟩
    | true =>
      have HF := hid (show R = decide (sg < 0) by
        cases hb : decide (sg < 0) with
        | true => exact HRD.out.2 ⟨rfl, hb⟩
        | false => exact bool_no HRD.out (fun ⟨_, h⟩ => by rw [hb] at h; cases h))
      go_wp2_with fail
      go_region_with (first
        | (have gk := nT; go_at_call 51; refine (HSIG.out _ _ (by first | exact nT | exact nT.below (Below.refl _ _).drew | exact nT.below (below_dn (Below.refl _ _) _))).mono ?_; rintro e YG ⟨rfl, bg⟩; have bG' : Below X1.heap.size X1 YG := (by first | exact ⟨bg.os, bg.tape, bg.output, bg.size, bg.block⟩ | exact chain2 bT' bg | exact chain2 bT' ⟨bg.os, bg.tape, bg.output, bg.size, bg.block⟩); clear bg nT)
        | (have gk := bY1; go_at_call 49; refine (HTIM.out _ (by first | exact bY1 | exact bY1.drew | exact below_dn bY1 _)).mono ?_; rintro e YT ⟨vT, rfl, nT, bt⟩; have bT' : Below X1.heap.size X1 YT := (by first | exact ⟨bt.os, bt.tape, bt.output, bt.size, bt.block⟩ | exact chain2 bY1 bt | exact chain2 bY1 ⟨bt.os, bt.tape, bt.output, bt.size, bt.block⟩); clear bt)
        | (go_at_call 47; refine (HSGN.out _ (by first | exact HBZ.out | exact HBZ.out.drew | exact below_dn HBZ.out _) _ (by first | exact HIZ.out | exact HIZ.out.below (Below.refl _ _).drew | exact HIZ.out.below (below_dn (Below.refl _ _) _))).mono ?_; rintro e Y1 ⟨rfl, b1⟩; have bY1 : Below X1.heap.size X1 Y1 := (by first | exact ⟨b1.os, b1.tape, b1.output, b1.size, b1.block⟩ | exact chain2 HBZ.out b1 | exact chain2 HBZ.out ⟨b1.os, b1.tape, b1.output, b1.size, b1.block⟩ | exact chain2 HBZ.out.drew b1 | exact chain2 HBZ.out.drew ⟨b1.os, b1.tape, b1.output, b1.size, b1.block⟩); have pb1 := box_below bY1 HPK.out (lt_of_block HPK.out); have yb0 := bxc pb1 0 (.slice ra P.rows.length rc) rfl; have yb1 := bxc pb1 1 (.slice ea P.rel.length ec) rfl; have yb2 := bxc pb1 2 (.slice ba P.b.length bc) rfl; have yb3 := bxc pb1 3 (.slice ca P.c.length cc) rfl; clear b1 pb1))
      all_goals
        have BF := chain2 B1 bG'
        (try simp only [List.getElem_toArray, List.getElem_cons_zero, List.getElem_cons_succ, Act.put, List.setIfInBounds_toArray, List.set_cons_succ, List.set_cons_zero])
        go_wp2
        go_ret
        exact ⟨by rw [HF.out]; first | rfl | simp, by first | exact BF | exact BF.drew | exact below_dn BF _⟩
  · have hne := rd_ne' P S P.b.length
    have HF := hid (bool_no HR0.out (fun ⟨h1, h2, X, h3, _⟩ => hno ⟨h1, h2, X, h3⟩))
    generalize rdE P S P.b.length = er at *
    have hne1 : (er == 0) = false := beq_eq_false_iff_ne.2 hne
    clear hno bX1
    go_wp2_with fail
    go_quiet (fail)
    go_wp2
    go_ret
    exact ⟨by rw [HF.out]; rfl, by first | exact B1 | exact B1.drew | exact below_dn B1 _⟩
end Go.Proofs.YtbdhanlenekdhaaGreatDoor
