/- CertScales: the walk. -/
import Derived.Test.YtbdhanlenekdhaaGreatDoorZCScalM
import Derived.Test.YtbdhanlenekdhaaGreatDoorZCFark
import Derived.Test.YtbdhanlenekdhaaGreatDoorZHDual
import Derived.Deep.RegionHeld3
import Derived.Deep.RegionLaw
import Derived.OpenShut
namespace Go.Proofs.YtbdhanlenekdhaaGreatDoor
open Go.RowKit
set_option linter.unusedVariables false
set_option maxRecDepth 100000
set_option linter.unusedSimpArgs false

theorem own_formS {w : World} {base size : Nat} {e : TypeId} {v : Value} {n : Nat} {xs : List Value} (h : w.ownsRow base e size v n xs) : ∃ sa sc, v = .slice sa n sc := own_form4 h
theorem str_newS (X : World) (s : ByteArray) : ∀ j u, [Value.string s][j]? = some u → (X.alloc (.cells #[.string s] 9)).cell? ((⟨X.heap.size, 0, none⟩ : Addr).add j) = some u := by
  intro j u hu
  rw [add_off, Nat.zero_add]
  exact bxc (box_new X (.cells #[.string s] 9)) j u (by simpa using hu)
theorem int_newS (X : World) (s : Int) : ∀ j u, [Value.int .i64 s][j]? = some u → (X.alloc (.cells #[.int .i64 s] 3)).cell? ((⟨X.heap.size, 0, none⟩ : Addr).add j) = some u := by
  intro j u hu
  rw [add_off, Nat.zero_add]
  exact bxc (box_new X (.cells #[.int .i64 s] 3)) j u (by simpa using hu)
theorem info_prb : (Tryz.prog.info? 25).map (·.size) = some 4 := by kernel_rfl
theorem bool_self' (b : Bool) : (b == b) = true := by simp
set_option maxHeartbeats 25600000 in
theorem cscales_any (w : World) (rv ev bv cv sv : Value) (P : Prb) (S : List ByteArray) (hp : IsPrb w rv ev bv cv P) (hs : Strs w sv S) (hmx : Mx w) (htab : Tab w) (hrl : Rl w) (n : Int) (hnw : (Lit.int .u8 n).wf = true) :
    Calls Tryz.prog 3 #[.agg #[rv, ev, bv, cv], sv, .int .u8 n] w fun e w' => e = .returned (.bool true) ∧ Below w.heap.size w w' := by
  obtain ⟨i0, hi0, hz0, hz1, hz2⟩ := info_parts info_string
  obtain ⟨i1, hj0, hy0, hy1, hy2⟩ := info_parts info_int
  obtain ⟨hn0, hn255⟩ := bounds_u8 hnw
  clear hnw
  obtain ⟨ra, rc, rfl, rl, rm⟩ := hp.rows.slice
  obtain ⟨ea, ec, rfl, el, em⟩ := hp.rel.slice
  obtain ⟨ba, bc, rfl, bl, bm⟩ := hp.b.slice
  obtain ⟨ca, cc, rfl, cl, cm⟩ := hp.c.slice
  obtain ⟨sa, sc, rfl, sl, sm⟩ := hs.slice
  unfold maxLen at rm em bm cm sm
  have b0 := boxed2 (Below.refl w.heap.size w) (Obj.cells #[.slice ra P.rows.length rc, .slice ea P.rel.length ec, .slice ba P.b.length bc, .slice ca P.c.length cc] 25) (Obj.cells #[.slice sa S.length sc] 26)
  have x0 := boxed2_first w (Obj.cells #[.slice ra P.rows.length rc, .slice ea P.rel.length ec, .slice ba P.b.length bc, .slice ca P.c.length cc] 25) (Obj.cells #[.slice sa S.length sc] 26)
  have z0 := boxed2_second w (Obj.cells #[.slice ra P.rows.length rc, .slice ea P.rel.length ec, .slice ba P.b.length bc, .slice ca P.c.length cc] 25) (Obj.cells #[.slice sa S.length sc] 26)
  have y0 := bxc x0 0 (.slice ra P.rows.length rc) rfl
  have y1 := bxc x0 1 (.slice ea P.rel.length ec) rfl
  have y2 := bxc x0 2 (.slice ba P.b.length bc) rfl
  have y3 := bxc x0 3 (.slice ca P.c.length cc) rfl
  have HLI := hid (show StrRows _ (.slice (some ⟨w.heap.size + 1, 0, none⟩) 1 1) [S] from strRows1 z0 (hs.below b0))
  have HP0 := hid (hp.below b0)
  have HS0 := hid (hs.below b0)
  have HMX0 := hid (hmx.below b0)
  have HTB0 := hid (htab.below b0)
  have HRL0 := hid (hrl.below b0)
  have HB0 := hid b0
  have HPB0 := hid x0
  clear hp hmx htab hrl b0 x0 z0 hs
  go_enter Tryz.func3, Tryz.ntmps3
  go_wp2_with fail
  generalize (w.alloc (Obj.cells #[.slice ra P.rows.length rc, .slice ea P.rel.length ec, .slice ba P.b.length bc, .slice ca P.c.length cc] 25)).alloc (Obj.cells #[.slice sa S.length sc] 26) = W0 at *
  refine (heavy11n_any W0 _ _ _ _ _ P [S] HP0.out HLI.out).mono ?_
  rintro e W ⟨⟨RH, rfl, hRH⟩, b⟩
  have HP := hid (HP0.out.below b)
  have HS := hid (HS0.out.below b)
  have HMX := hid (HMX0.out.below b)
  have HTB := hid (HTB0.out.below b)
  have HRL := hid (HRL0.out.below b)
  have HPB := hid (box_below b HPB0.out (lt_of_block HPB0.out))
  have HB := hid (chain2 HB0.out b)
  clear y0 y1 y2 y3 b HP0 HMX0 HTB0 HRL0 HPB0 HB0 HLI HS0
  cases RH with
  | true =>
    go_wp2
    go_ret
    exact ⟨rfl, HB.out⟩
  | false =>
  have HSZ := hid (fun (hc : chk P = 0) => hRH rfl (chk_ok hc).rl (by have := (chk_ok hc).rel; have := (chk_ok hc).rl; omega) (by have := (chk_ok hc).b; have := (chk_ok hc).rl; omega) (chk_ok hc).cl)
  clear hRH
  have bL : Below W.heap.size W W := Below.refl _ _
  have yW0 := bxc HPB.out 0 (.slice ra P.rows.length rc) rfl
  have yW1 := bxc HPB.out 1 (.slice ea P.rel.length ec) rfl
  have yW2 := bxc HPB.out 2 (.slice ba P.b.length bc) rfl
  have yW3 := bxc HPB.out 3 (.slice ca P.c.length cc) rfl
  have pbL := box_below bL HPB.out (lt_of_block HPB.out)
  have yL0 := bxc pbL 0 (.slice ra P.rows.length rc) rfl
  have yL1 := bxc pbL 1 (.slice ea P.rel.length ec) rfl
  have yL2 := bxc pbL 2 (.slice ba P.b.length bc) rfl
  have yL3 := bxc pbL 3 (.slice ca P.c.length cc) rfl
  clear pbL
  have HTH := hid (fun (Y : World) (bY : Below W.heap.size W Y) => theirs11_any Y _ _ _ _ P (HP.out.below bY))
  obtain ⟨cp, HCP⟩ : ∃ cp, Hid (chk P = cp) := ⟨_, hid rfl⟩
  have HCK : Hid (∀ Y, Below W.heap.size W Y → Calls Tryz.prog 9 #[.agg #[.slice ra P.rows.length rc, .slice ea P.rel.length ec, .slice ba P.b.length bc, .slice ca P.c.length cc]] Y (fun e w' => e = .returned (.int .i64 cp) ∧ Below Y.heap.size Y w')) := hid (fun Y bY => by rw [← HCP.out]; exact cCheck_any Y _ _ _ _ P (HP.out.below bY))
  have HHC : Hid (∀ Y, Below W.heap.size W Y → Calls Tryz.prog 10 #[.agg #[.slice ra P.rows.length rc, .slice ea P.rel.length ec, .slice ba P.b.length bc, .slice ca P.c.length cc]] Y (fun e w' => e = .returned (.int .i64 cp) ∧ Below Y.heap.size Y w')) := hid (fun Y bY => by rw [← HCP.out]; exact hCheck_any Y _ _ _ _ P (HP.out.below bY))
  by_cases hne : n = 0
  · subst hne
    go_wp2
    go_ret
    exact ⟨rfl, HB.out⟩
  have hne1 : (n == 0) = false := beq_eq_false_iff_ne.2 hne
  have hwn : IntKind.i64.wrap n = n := by rw [IntKind.wrap_i64]; omega
  have HSS := hid (fun (hc : chk P = 0) => show ∀ s ∈ S, s.size ≤ 600 from fun s hs => by have a := HSZ.out hc; rw [szMN1] at a; have := szL_mem hs; omega)
  by_cases hcp : cp = 0
  case neg =>
    have hcp1 : (cp == 0) = false := beq_eq_false_iff_ne.2 hcp
    have F0 := bL.drew
    have HKx := hid (fun (Y : World) (k : Below W.heap.size W Y) => show (Y.cell? ⟨w.heap.size, 0, none⟩ = some (.slice ra P.rows.length rc) ∧ Y.cell? ⟨w.heap.size, 1, none⟩ = some (.slice ea P.rel.length ec) ∧ Y.cell? ⟨w.heap.size, 2, none⟩ = some (.slice ba P.b.length bc) ∧ Y.cell? ⟨w.heap.size, 3, none⟩ = some (.slice ca P.c.length cc)) from ⟨kc' k yW0, kc' k yW1, kc' k yW2, kc' k yW3⟩)
    go_wp2_with fail
    go_region_held3 (fun Z => Z.cell? ⟨w.heap.size, 0, none⟩ = some (.slice ra P.rows.length rc) ∧ Z.cell? ⟨w.heap.size, 1, none⟩ = some (.slice ea P.rel.length ec) ∧ Z.cell? ⟨w.heap.size, 2, none⟩ = some (.slice ba P.b.length bc) ∧ Z.cell? ⟨w.heap.size, 3, none⟩ = some (.slice ca P.c.length cc)) (first | exact HKx.out _ F4 | exact HKx.out _ F3 | exact HKx.out _ F2 | exact HKx.out _ F1 | exact HKx.out _ F0) (first
      | (go_at_call 9; have gk := F3; refine (HCK.out _ F3).mono ?_; rintro e Yx ⟨rfl, bb⟩; have F4 := chain2 F3 bb)
      | (go_at_call 10; have gk := F2; refine (HHC.out _ F2).mono ?_; rintro e Yx ⟨rfl, bb⟩; have F3 := chain2 F2 bb)
      | (go_at_call 11; have gk := F1; refine (HTH.out _ F1).mono ?_; rintro e Yx ⟨rfl, bb⟩; have F2 := chain2 F1 bb)
      | (go_at_call 9; have gk := F0; refine (HCK.out _ F0).mono ?_; rintro e Yx ⟨rfl, bb⟩; have F1 := chain2 F0 bb))
    have bL := F4
    clear HKx F0 F1 F2 F3 F4
    have pbL := box_below bL HPB.out (lt_of_block HPB.out); have yL0 := bxc pbL 0 (.slice ra P.rows.length rc) rfl; have yL1 := bxc pbL 1 (.slice ea P.rel.length ec) rfl; have yL2 := bxc pbL 2 (.slice ba P.b.length bc) rfl; have yL3 := bxc pbL 3 (.slice ca P.c.length cc) rfl; clear pbL
    have F0 := bL.drew
    have HKx := hid (fun (Y : World) (k : Below W.heap.size W Y) => show (Y.cell? ⟨w.heap.size, 0, none⟩ = some (.slice ra P.rows.length rc) ∧ Y.cell? ⟨w.heap.size, 1, none⟩ = some (.slice ea P.rel.length ec) ∧ Y.cell? ⟨w.heap.size, 2, none⟩ = some (.slice ba P.b.length bc) ∧ Y.cell? ⟨w.heap.size, 3, none⟩ = some (.slice ca P.c.length cc)) from ⟨kc' k yW0, kc' k yW1, kc' k yW2, kc' k yW3⟩)
    go_wp2_with fail
    go_region_held3 (fun Z => Z.cell? ⟨w.heap.size, 0, none⟩ = some (.slice ra P.rows.length rc) ∧ Z.cell? ⟨w.heap.size, 1, none⟩ = some (.slice ea P.rel.length ec) ∧ Z.cell? ⟨w.heap.size, 2, none⟩ = some (.slice ba P.b.length bc) ∧ Z.cell? ⟨w.heap.size, 3, none⟩ = some (.slice ca P.c.length cc)) (first | exact HKx.out _ F3 | exact HKx.out _ F2 | exact HKx.out _ F1 | exact HKx.out _ F0) (first
      | (go_at_call 10; have gk := F2; refine (HHC.out _ F2).mono ?_; rintro e Yx ⟨rfl, bb⟩; have F3 := chain2 F2 bb)
      | (go_at_call 11; have gk := F1; refine (HTH.out _ F1).mono ?_; rintro e Yx ⟨rfl, bb⟩; have F2 := chain2 F1 bb)
      | (go_at_call 9; have gk := F0; refine (HCK.out _ F0).mono ?_; rintro e Yx ⟨rfl, bb⟩; have F1 := chain2 F0 bb))
    have bL := F3
    clear HKx F0 F1 F2 F3
    have BF := chain2 HB.out bL
    go_wp2
    go_ret
    exact ⟨by first | rfl | simp, by first | exact BF | exact BF.drew | exact below_dn BF _⟩
  subst hcp
  have F0 := bL.drew
  have HKx := hid (fun (Y : World) (k : Below W.heap.size W Y) => show (Y.cell? ⟨w.heap.size, 0, none⟩ = some (.slice ra P.rows.length rc) ∧ Y.cell? ⟨w.heap.size, 1, none⟩ = some (.slice ea P.rel.length ec) ∧ Y.cell? ⟨w.heap.size, 2, none⟩ = some (.slice ba P.b.length bc) ∧ Y.cell? ⟨w.heap.size, 3, none⟩ = some (.slice ca P.c.length cc)) from ⟨kc' k yW0, kc' k yW1, kc' k yW2, kc' k yW3⟩)
  go_wp2_with fail
  go_region_held3 (fun Z => Z.cell? ⟨w.heap.size, 0, none⟩ = some (.slice ra P.rows.length rc) ∧ Z.cell? ⟨w.heap.size, 1, none⟩ = some (.slice ea P.rel.length ec) ∧ Z.cell? ⟨w.heap.size, 2, none⟩ = some (.slice ba P.b.length bc) ∧ Z.cell? ⟨w.heap.size, 3, none⟩ = some (.slice ca P.c.length cc)) (first | exact HKx.out _ F4 | exact HKx.out _ F3 | exact HKx.out _ F2 | exact HKx.out _ F1 | exact HKx.out _ F0) (first
    | (go_at_call 9; have gk := F3; refine (HCK.out _ F3).mono ?_; rintro e Yx ⟨rfl, bb⟩; have F4 := chain2 F3 bb)
    | (go_at_call 10; have gk := F2; refine (HHC.out _ F2).mono ?_; rintro e Yx ⟨rfl, bb⟩; have F3 := chain2 F2 bb)
    | (go_at_call 11; have gk := F1; refine (HTH.out _ F1).mono ?_; rintro e Yx ⟨rfl, bb⟩; have F2 := chain2 F1 bb)
    | (go_at_call 9; have gk := F0; refine (HCK.out _ F0).mono ?_; rintro e Yx ⟨rfl, bb⟩; have F1 := chain2 F0 bb))
  have bL := F4
  clear HKx F0 F1 F2 F3 F4
  have pbL := box_below bL HPB.out (lt_of_block HPB.out); have yL0 := bxc pbL 0 (.slice ra P.rows.length rc) rfl; have yL1 := bxc pbL 1 (.slice ea P.rel.length ec) rfl; have yL2 := bxc pbL 2 (.slice ba P.b.length bc) rfl; have yL3 := bxc pbL 3 (.slice ca P.c.length cc) rfl; clear pbL
  have HNU := hid (fun (Y : World) (bY : Below W.heap.size W Y) => hNumbers_any Y _ S (HS.out.below bY) (HSS.out HCP.out) (by have a := HSZ.out HCP.out; rw [szMN1] at a; omega))
  go_wp2_with fail
  refine (HNU.out _ (by first | exact bL | exact bL.drew | exact below_dn bL _)).mono ?_
  rintro e Yx ⟨hr, b⟩; have bL : Below W.heap.size W Yx := (by first | exact chain2 bL b | exact chain2 bL ⟨b.os, b.tape, b.output, b.size, b.block⟩); have pbL := box_below bL HPB.out (lt_of_block HPB.out); have yL0 := bxc pbL 0 (.slice ra P.rows.length rc) rfl; have yL1 := bxc pbL 1 (.slice ea P.rel.length ec) rfl; have yL2 := bxc pbL 2 (.slice ba P.b.length bc) rfl; have yL3 := bxc pbL 3 (.slice ca P.c.length cc) rfl; clear pbL; clear b
  rcases hr with ⟨Z, tv1, C1, hnu, rfl, hl1⟩ | ⟨hno, rfl⟩
  case inr =>
    have HDF := hid (fun (Y : World) (bY : Below W.heap.size W Y) => cDual_any Y _ _ _ _ _ P S (HP.out.below bY) (HS.out.below bY) HSS.out (HMX.out.below bY) (HTB.out.below bY) (HRL.out.below bY) false ⟨fun h => (by cases h), fun ⟨_, _, X, h3, _⟩ => absurd ⟨X, h3⟩ hno⟩)
    have HFF := hid (fun (Y : World) (bY : Below W.heap.size W Y) => cFarkas_any Y _ _ _ _ _ P S (HP.out.below bY) (HS.out.below bY) HSS.out (HMX.out.below bY) (HTB.out.below bY) (HRL.out.below bY) false ⟨fun h => (by cases h), fun ⟨_, _, X, h3, _⟩ => absurd ⟨X, h3⟩ hno⟩)
    clear hno
    go_wp2_with fail
    refine (HDF.out _ (by first | exact bL | exact bL.drew | exact below_dn bL _)).mono ?_
    rintro e Yx ⟨rfl, b⟩; have bL : Below W.heap.size W Yx := (by first | exact chain2 bL b | exact chain2 bL ⟨b.os, b.tape, b.output, b.size, b.block⟩); have pbL := box_below bL HPB.out (lt_of_block HPB.out); have yL0 := bxc pbL 0 (.slice ra P.rows.length rc) rfl; have yL1 := bxc pbL 1 (.slice ea P.rel.length ec) rfl; have yL2 := bxc pbL 2 (.slice ba P.b.length bc) rfl; have yL3 := bxc pbL 3 (.slice ca P.c.length cc) rfl; clear pbL; clear b
    go_wp2_with fail
    refine (HFF.out _ (by first | exact bL | exact bL.drew | exact below_dn bL _)).mono ?_
    rintro e Yx ⟨rfl, b⟩; have bL : Below W.heap.size W Yx := (by first | exact chain2 bL b | exact chain2 bL ⟨b.os, b.tape, b.output, b.size, b.block⟩); have pbL := box_below bL HPB.out (lt_of_block HPB.out); have yL0 := bxc pbL 0 (.slice ra P.rows.length rc) rfl; have yL1 := bxc pbL 1 (.slice ea P.rel.length ec) rfl; have yL2 := bxc pbL 2 (.slice ba P.b.length bc) rfl; have yL3 := bxc pbL 3 (.slice ca P.c.length cc) rfl; clear pbL; clear b
    have BF := chain2 HB.out bL
    go_wp2
    go_ret
    exact ⟨rfl, BF⟩
  case inl =>
    have hnp : 0 < n := by omega
    have HLZ := hid hl1
    obtain ⟨ta1, tc1, rfl, hl1a, hl1b⟩ := hl1.slice
    have HZ256 := hid (show Z.length ≤ 256 by rw [hnu.len]; have a := HSZ.out HCP.out; rw [szMN1] at a; omega)
    have HM10 := hid (show ∀ y ∈ Z.map (fun x => x * (n : Rat)), Lt10 298 y from fun y hy => by
      obtain ⟨x, hx, rfl⟩ := List.mem_map.1 hy
      obtain ⟨i, hi, rfl⟩ := List.getElem_of_mem hx
      have hiS : i < S.length := by rw [← hnu.len]; exact hi
      have a := nums_at hnu i hi hiS
      have b := szL_mem (List.getElem_mem hiS)
      have c := HSZ.out HCP.out
      rw [szMN1] at c
      exact (a.mul (Lt10.by' hn0 hn255)).mono (by omega))
    have HDS := hid (fun (Q : List ByteArray) (hQ : TxL Q (Z.map (fun x => x * (n : Rat)))) (hq : chk (scP P n) = 0) => dua_scale HCP.out hq hnp hnu hQ)
    have HFS := hid (fun (Q : List ByteArray) (hQ : TxL Q (Z.map (fun x => x * (n : Rat)))) => far_scale HCP.out hnp hnu hQ)
    clear hl1 hnu hnp HNU
    go_wp2_with fail
    refine (t_of _ n (by omega) (by omega)).mono ?_
    rintro e Y1 ⟨v1, rfl, n1, b⟩
    obtain ⟨h1, h2, h3, h4, h5, h6, h7, h8, rfl⟩ := n1.form
    have bA := (Below.refl Y1.heap.size Y1).alloc (Nat.le_refl _) (Obj.cells #[.bool h1, .slice h2 h3 h4, .bool h5, .slice h6 h7 h8] 43)
    have bA2 := chain2 b bA
    have bL := chain2 bL bA2
    have HH := hid ((n1.below bA).mono (show 3 ≤ 5100 by omega))
    have HHB := hid (box_new Y1 (Obj.cells #[.bool h1, .slice h2 h3 h4, .bool h5, .slice h6 h7 h8] 43))
    have HLZ := hid (Ls.below (fun h b => h.below b) HLZ.out bA2)
    have HP := hid (HP.out.below bL)
    have HS := hid (HS.out.below bL)
    have HMX := hid (HMX.out.below bL)
    have HTB := hid (HTB.out.below bL)
    have HRL := hid (HRL.out.below bL)
    have HPB := hid (box_below bL HPB.out (lt_of_block HPB.out))
    have HB := hid (chain2 HB.out bL)
    clear b bA bA2 n1 bL HCK HHC HTH
    go_wp2_with (first | (refine wpList_store_fresh rfl 43 _ _ rfl _ _ _ rfl (by simp) rfl 4 info_refRat (by rfl) (by rfl) (by simp [Value.oneCell']) ?_))
    have hWs : (Y1.alloc (Obj.cells #[.bool h1, .slice h2 h3 h4, .bool h5, .slice h6 h7 h8] 43)).heap.size = Y1.heap.size + 1 := by simp
    generalize Y1.alloc (Obj.cells #[.bool h1, .slice h2 h3 h4, .bool h5, .slice h6 h7 h8] 43) = W at *
    generalize Y1.heap.size = hb at *
    have o0 : Hid ((W.alloc (Obj.cells #[] 9)).ownsRow W.heap.size 9 1 (.slice (some ⟨hb + 1, 0, none⟩) 0 0) 0 []) := hid (by rw [← hWs]; exact World.ownsRow_made (base := W.heap.size) (e := 9) (size := 1) W #[] 0 (Nat.le_refl _) (Nat.zero_le _) (by simp))
    have HWS := hid hWs
    clear hWs
    have b0 := (Below.refl W.heap.size W).alloc (Nat.le_refl _) (Obj.cells #[] 9)
    generalize W.alloc (Obj.cells #[] 9) = W1 at *
    go_loopw [11, 12] (fun l i wr => ∃ (k : Nat) (Q : List ByteArray), k ≤ Z.length ∧ i = .int .i64 (k : Int) ∧ Hid (TxL Q ((Z.map (fun x => x * (n : Rat))).take k)) ∧ Hid (wr.ownsRow W.heap.size 9 1 l k (strV Q)) ∧ Below W.heap.size W wr) (fun _ i _ => Z.length - (intOf i).toNat)
    case atStart => exact ⟨0, [], Nat.zero_le _, rfl, TxL.nil, o0, b0⟩
    case round =>
      clear o0 b0
      obtain ⟨k, Q, hk, rfl, HQ, HO, bw⟩ := hrel
      obtain ⟨qa, qc, hqe⟩ := own_formS HO.out
      subst hqe
      have hX64 := HZ256.out
      by_cases hlt : k < Z.length
      · skip
        obtain ⟨ug, uc', u0, ux1, ux2, ux3, ue, _, uq0, uq1, uq2, uq3, uq⟩ := (Ls.below (fun h b => h.below b) HLZ.out bw).at k hlt
        simp only [Value.slice.injEq] at ue
        obtain ⟨rfl, -, rfl⟩ := ue
        obtain ⟨u1, u2, u3, u4, u5, u6, u7, u8, us⟩ := uq.form
        simp only [Value.agg.injEq, Array.mk.injEq, List.cons.injEq, and_true] at us
        obtain ⟨rfl, rfl, rfl, rfl⟩ := us
        have hkm : k < (Z.map (fun x => x * (n : Rat))).length := by rw [List.length_map]; exact hlt
        have HMA := hid (map_at Z (n : Rat) k hlt hkm)
        have HPUSH := hid (fun (s : ByteArray) (hs : TxR s (Z[k] * (n : Rat))) => HQ.out.push hkm (by rw [HMA.out]; exact hs))
        have HQU := hid uq
        have hhw := box_below bw HHB.out (lt_of_block HHB.out)
        obtain ⟨hh0, hh1, hh2, hh3⟩ := four_cell hhw
        have HHN := hid (HH.out.below bw)
        have hbs := bw.size
        clear uq hkm HMA hhw
        generalize Z[k] = zk at *
        go_wp2_with fail
        go_region_law (first
          | (refine step_append_at rfl _ _ 26 rfl W.heap.size 9 i0 (.string ByteArray.empty) 1 16 Tryz.underlying26 hi0 hz0 hz1 hz2 rfl (by decide) (.slice qa k qc) k _ rfl ((own_below HO.out F2).alloc (.cells #[.string st] 9)) ⟨Y2.heap.size, 0, none⟩ 1 1 [.string st] rfl rfl (str_newS _ _) (by intro u hu; simp at hu; subst hu; rfl) (by unfold maxLen; omega) (by omega) (by simp; have := F2.size; omega) ?_; intro v' Y5 o5 hg5 hat5; obtain ⟨qa', qc', rfl⟩ := own_formS o5)
          | (have gk := F1; go_simp; go_at_call 17; refine (t_text _ _ _ 12000 (by omega) ((by first | exact N1 | exact N1.below (Below.refl _ _).drew | exact N1.below (below_dn (Below.refl _ _) _)) : TIs _ _ _ _)).mono ?_; rintro e Y2 ⟨⟨st, rfl, hst⟩, bb⟩; have F2 : Below wr.heap.size wr Y2 := (by first | exact chain2 F1 bb | exact chain2 F1 ⟨bb.os, bb.tape, bb.output, bb.size, bb.block⟩); dsimp only)
          | (go_simp; go_at_call 16; refine (t_mul _ _ _ zk (n : Rat) 5100 (by omega) (HQU.out.below (by first | exact Below.refl _ _ | exact (Below.refl _ _).drew | exact below_dn (Below.refl _ _) _)) (HHN.out.below (by first | exact Below.refl _ _ | exact (Below.refl _ _).drew | exact below_dn (Below.refl _ _) _))).mono ?_; rintro e Y1 ⟨v1, rfl, n1, bb⟩; have F1 : Below wr.heap.size wr Y1 := ⟨bb.os, bb.tape, bb.output, bb.size, bb.block⟩; have N1 := n1.mono (show 2 * 5100 + 6 ≤ 12000 by omega); dsimp only))
        all_goals
          have bA := (Below.refl Y2.heap.size Y2).alloc (Nat.le_refl _) (Obj.cells #[.string st] 9)
          have F5 := chain2 F2 bA
          have B4 := bw.trans (F5.mono bw.size)
          have B5 := B4.grown hg5 B4.size (fun g hg => (HO.out.lt g hg).1)
          have HPU := hid (HPUSH.out st hst)
          have HO5 := hid (show Y5.ownsRow W.heap.size 9 1 (.slice qa' (k + 1) qc') (k + 1) (strV (Q ++ [st])) by rw [strV_app]; exact o5)
          clear o5 hg5 hat5 bA F5 B4
          go_wp2
          go_roundw
          case rel => exact ⟨k + 1, Q ++ [st], by omega, by go_num, HPU, HO5, B5⟩
          case measure => simp [intOf]; omega
      · obtain rfl : k = Z.length := by omega
        have hml : (Z.map (fun x => x * (n : Rat))).length = Z.length := List.length_map _
        rw [← hml, List.take_length] at HQ
        have hQ600 := HQ.out.small HM10.out
        have hQl : Q.length = Z.length := by rw [HQ.out.len, hml]
        have HQS := hid (strs_own HO.out hQl hQ600)
        have HQ6 := hid hQ600
        have bL := bw
        have HP := hid (HP.out.below bL)
        have HS := hid (HS.out.below bL)
        have HMX := hid (HMX.out.below bL)
        have HTB := hid (HTB.out.below bL)
        have HRL := hid (HRL.out.below bL)
        have HPB := hid (box_below bL HPB.out (lt_of_block HPB.out))
        have HB := hid (chain2 HB.out bL)
        clear bL bw hml hQl hQ600 HO hlt HLZ HM10 HH HHB HWS
        have bA := (Below.refl wr.heap.size wr).alloc (Nat.le_refl _) (Obj.cells #[.slice ra P.rows.length rc, .slice ea P.rel.length ec, .slice ba P.b.length bc, .slice none 0 0] 25)
        have xq := box_new wr (Obj.cells #[.slice ra P.rows.length rc, .slice ea P.rel.length ec, .slice ba P.b.length bc, .slice none 0 0] 25)
        have yW0 := bxc HPB.out 0 (.slice ra P.rows.length rc) rfl
        have yW1 := bxc HPB.out 1 (.slice ea P.rel.length ec) rfl
        have yW2 := bxc HPB.out 2 (.slice ba P.b.length bc) rfl
        have yW3 := bxc HPB.out 3 (.slice ca P.c.length cc) rfl
        have HXQ := hid xq
        have HBQ := hid bA
        have o1 := hid (World.ownsRow_nil (wr.alloc (Obj.cells #[.slice ra P.rows.length rc, .slice ea P.rel.length ec, .slice ba P.b.length bc, .slice none 0 0] 25)) wr.heap.size 3 1)
        clear xq bA
        go_wp2_with (first | (refine wpList_store_fresh rfl 25 _ _ rfl _ _ _ rfl (by simp) rfl 4 info_prb (by rfl) (by rfl) (by simp [Value.oneCell']) ?_))
        generalize hW2 : wr.alloc (Obj.cells #[.slice ra P.rows.length rc, .slice ea P.rel.length ec, .slice ba P.b.length bc, .slice none 0 0] 25) = W2 at *
        clear hW2
        generalize wr = W at *
        have HBW := HB
        go_loopw [14] (fun i wr => ∃ (k : Nat) (qca : Option Addr) (qcc : Nat), k ≤ P.c.length ∧ i = .int .i64 (k : Int) ∧ Hid (wr.heap[W.heap.size]? = some (.cells #[.slice ra P.rows.length rc, .slice ea P.rel.length ec, .slice ba P.b.length bc, .slice qca k qcc] 25 (0, 0))) ∧ Hid (wr.ownsRow W.heap.size 3 1 (.slice qca k qcc) k (intV ((P.c.take k).map (fun a => a * n)))) ∧ Hid (∀ a ∈ P.c.take k, -1000000 ≤ a ∧ a ≤ 1000000) ∧ Below W.heap.size W wr) (fun i _ => P.c.length - (intOf i).toNat)
        case atStart => exact ⟨0, none, 0, Nat.zero_le _, rfl, HXQ, o1, fun a ha => by simp at ha, HBQ⟩
        case round =>
          clear HXQ o1 HBQ
          obtain ⟨k, qca, qcc, hk, rfl, HQB, HO, HCB, bw⟩ := hrel
          have HPW := hid (box_below bw HPB.out (lt_of_block HPB.out))
          have pc3 := bxc HPW.out 3 (.slice ca P.c.length cc) rfl
          have BF := hid (chain2 HB.out bw)
          by_cases hlt : k < P.c.length
          · obtain ⟨cb, co, cd, ce, _, _, fc⟩ := (HP.out.c.below bw).at k hlt
            simp only [Value.slice.injEq] at ce
            obtain ⟨rfl, -, rfl⟩ := ce
            have HSU := hid (cmul_succ P.c n k hlt)
            have HCN := hid (fun (h : -1000000 ≤ P.c[k] ∧ P.c[k] ≤ 1000000) => show ∀ a ∈ P.c.take (k + 1), -1000000 ≤ a ∧ a ≤ 1000000 from fun a ha => by
              rw [List.take_succ_eq_append_getElem hlt, List.mem_append, List.mem_singleton] at ha
              rcases ha with ha | rfl
              · exact HCB.out a ha
              · exact h)
            have hc64 : P.c.length ≤ 64 := (chk_ok HCP.out).cl
            generalize P.c[k] = ck at *
            by_cases h1 : 1000000 < ck
            · have h1a : decide (1000000 < ck) = true := by simpa using h1
              have h1b : decide (ck > 1000000) = true := by simpa using h1
              go_wp2
              go_ret
              exact ⟨rfl, BF.out⟩
            have h1a : decide (1000000 < ck) = false := by simpa using h1
            have h1b : decide (ck > 1000000) = false := by simpa using h1
            by_cases h2 : ck < -1000000
            · have h2a : decide (ck < -1000000) = true := by simpa using h2
              go_wp2
              go_ret
              exact ⟨rfl, BF.out⟩
            have h2a : decide (ck < -1000000) = false := by simpa using h2
            have HCK2 := hid (HCN.out ⟨by omega, by omega⟩)
            have hwm : IntKind.i64.wrap (ck * n) = ck * n := mul_wrap (by omega) (by omega) hn0 hn255
            have q3 := bxc HQB.out 3 (.slice qca k qcc) rfl
            have qa3 := fun (o : Obj) => bxc (box_alloc HQB.out o) 3 (.slice qca k qcc) rfl
            have pa3 := fun (o : Obj) => bxc (box_alloc HPW.out o) 3 (.slice (some ⟨cb, co, none⟩) P.c.length cc) rfl
            have fca := fun (o : Obj) => kc' ((Below.refl wr.heap.size wr).alloc (Nat.le_refl _) o) fc
            have hbs := bw.size
            generalize hcn : ck * n = cn at *
            go_wp2_with fail
            go_region_law (first
              | (refine step_append_at rfl _ _ 23 rfl W.heap.size 3 i1 (.int .i64 0) 1 8 Tryz.underlying23 hj0 hy0 hy1 hy2 rfl (by decide) (.slice qca k qcc) k _ rfl (HO.out.alloc (.cells #[.int .i64 cn] 3)) ⟨wr.heap.size, 0, none⟩ 1 1 [.int .i64 cn] rfl rfl (int_newS _ _) (by intro u hu; simp at hu; subst hu; rfl) (by unfold maxLen; omega) (by omega) (by simp; omega) ?_; intro v' Y5 o5 hg5 hat5; obtain ⟨qa', qc', rfl⟩ := own_formS o5; have xa := box_alloc HQB.out (Obj.cells #[.int .i64 cn] 3); have y5 := (hg5.block W.heap.size (lt_of_block xa) (fun e => own_ne_ty (HO.out.alloc (.cells #[.int .i64 cn] 3)) xa (by decide) e.symm)).trans xa; have e3 := bxc y5 3 (.slice qca k qcc) rfl; have fr := blk_free y5 3))
            all_goals
              have bA := (Below.refl wr.heap.size wr).alloc (Nat.le_refl _) (Obj.cells #[.int .i64 cn] 3)
              have B4 := chain2 bw bA
              have B5 : Below W.heap.size W Y5 := (by first | exact B4.grown hg5 B4.size (fun g hg => (HO.out.lt g hg).1) | exact B4.drew.grown hg5 B4.drew.size (fun g hg => (HO.out.lt g hg).1) | exact (below_dn B4 _).grown hg5 (below_dn B4 _).size (fun g hg => (HO.out.lt g hg).1))
              have yS : (Y5.setCell ⟨W.heap.size, 3, none⟩ (.slice qa' (k + 1) qc')).heap[W.heap.size]? = some (.cells #[.slice ra P.rows.length rc, .slice ea P.rel.length ec, .slice ba P.b.length bc, .slice qa' (k + 1) qc'] 25 (0, 0)) := blk_set y5 3 (.slice qa' (k + 1) qc')
              have oS := ownsRow_setCell_other o5 (a := ⟨W.heap.size, 3, none⟩) (own_ne_ty o5 y5 (by decide)) (.slice qa' (k + 1) qc')
              have BS := B5.setCell (p := ⟨W.heap.size, 3, none⟩) (Nat.le_refl _) (.slice qa' (k + 1) qc')
              have HYS := hid yS
              have HOS := hid (show (Y5.setCell ⟨W.heap.size, 3, none⟩ (.slice qa' (k + 1) qc')).ownsRow W.heap.size 3 1 (.slice qa' (k + 1) qc') (k + 1) (intV ((P.c.take (k + 1)).map (fun a => a * n))) by rw [HSU.out, intV_app]; exact oS)
              clear yS oS o5 hg5 hat5 bA B4 B5 y5 e3 fr xa
              go_wp2
              go_roundw
              case rel => exact ⟨k + 1, qa', qc', by omega, by go_num, HYS, HOS, HCK2, BS⟩
              case measure => simp [intOf]; omega
          · obtain rfl : k = P.c.length := by omega
            rw [List.take_length] at HO HCB
            have hq0 := chk_scale HCP.out HCB.out hn0 hn255
            have HPQ := hid (show IsPrb wr (.slice ra P.rows.length rc) (.slice ea P.rel.length ec) (.slice ba P.b.length bc) (.slice qca P.c.length qcc) (scP P n) from ⟨(HP.out.below bw).rows, (HP.out.below bw).rel, (HP.out.below bw).b, Row1.of_own (base := W.heap.size) (e := 3) (by rw [intV_len]; show wr.ownsRow _ _ _ _ (P.c.map (fun a => a * n)).length _; rw [List.length_map]; exact HO.out)⟩)
            obtain ⟨RD, HRD⟩ : ∃ RD : Bool, Hid (RD = true ↔ DuaS P S) := by obtain ⟨R, h⟩ := boolOf (DuaS P S); exact ⟨R, hid h⟩
            obtain ⟨RK, HRK⟩ : ∃ RK : Bool, Hid (RK = true ↔ FarS P S) := by obtain ⟨R, h⟩ := boolOf (FarS P S); exact ⟨R, hid h⟩
            have HQS := hid (HQS.out.below bw)
            have bL := bw
            have HP := hid (HP.out.below bL)
            have HS := hid (HS.out.below bL)
            have HMX := hid (HMX.out.below bL)
            have HTB := hid (HTB.out.below bL)
            have HRL := hid (HRL.out.below bL)
            have HPB := hid (box_below bL HPB.out (lt_of_block HPB.out))
            have HB := hid (chain2 HB.out bL)
            clear bL bw
            have HQ0 := hid hq0
            clear hq0
            generalize hqb : W.heap.size = qb at *
            clear hqb
            generalize wr = W at *
            have yW0 := bxc HPB.out 0 (.slice ra P.rows.length rc) rfl
            have yW1 := bxc HPB.out 1 (.slice ea P.rel.length ec) rfl
            have yW2 := bxc HPB.out 2 (.slice ba P.b.length bc) rfl
            have yW3 := bxc HPB.out 3 (.slice ca P.c.length cc) rfl
            have qW0 := bxc HQB.out 0 (.slice ra P.rows.length rc) rfl
            have qW1 := bxc HQB.out 1 (.slice ea P.rel.length ec) rfl
            have qW2 := bxc HQB.out 2 (.slice ba P.b.length bc) rfl
            have qW3 := bxc HQB.out 3 (.slice qca P.c.length qcc) rfl
            have bL : Below W.heap.size W W := Below.refl _ _
            have HDU := hid (fun (Y : World) (bY : Below W.heap.size W Y) => cDual_any Y _ _ _ _ _ P S (HP.out.below bY) (HS.out.below bY) HSS.out (HMX.out.below bY) (HTB.out.below bY) (HRL.out.below bY) RD HRD.out)
            have HDQ := hid (fun (Y : World) (bY : Below W.heap.size W Y) => cDual_any Y _ _ _ _ _ (scP P n) Q (HPQ.out.below bY) (HQS.out.below bY) (fun _ => HQ6.out) (HMX.out.below bY) (HTB.out.below bY) (HRL.out.below bY) RD (HRD.out.trans (HDS.out Q HQ.out HQ0.out)))
            have HFA := hid (fun (Y : World) (bY : Below W.heap.size W Y) => cFarkas_any Y _ _ _ _ _ P S (HP.out.below bY) (HS.out.below bY) HSS.out (HMX.out.below bY) (HTB.out.below bY) (HRL.out.below bY) RK HRK.out)
            have HFQ := hid (fun (Y : World) (bY : Below W.heap.size W Y) => cFarkas_any Y _ _ _ _ _ P Q (HP.out.below bY) (HQS.out.below bY) (fun _ => HQ6.out) (HMX.out.below bY) (HTB.out.below bY) (HRL.out.below bY) RK (HRK.out.trans (HFS.out Q HQ.out)))
            have HTH := hid (fun (Y : World) (bY : Below W.heap.size W Y) => theirs11_any Y _ _ _ _ P (HP.out.below bY))
            have HHD := hid (fun (Y : World) (bY : Below W.heap.size W Y) => hDual_any Y _ _ _ _ _ P S (HP.out.below bY) (HS.out.below bY) HSS.out RD HRD.out)
            have e1 := bool_self' RD
            have e2 := bool_self' RK
            have F0 := bL.drew
            have HKx := hid (fun (Y : World) (k : Below W.heap.size W Y) => show (Y.cell? ⟨w.heap.size, 0, none⟩ = some (.slice ra P.rows.length rc) ∧ Y.cell? ⟨w.heap.size, 1, none⟩ = some (.slice ea P.rel.length ec) ∧ Y.cell? ⟨w.heap.size, 2, none⟩ = some (.slice ba P.b.length bc) ∧ Y.cell? ⟨w.heap.size, 3, none⟩ = some (.slice ca P.c.length cc) ∧ Y.cell? ⟨qb, 0, none⟩ = some (.slice ra P.rows.length rc) ∧ Y.cell? ⟨qb, 1, none⟩ = some (.slice ea P.rel.length ec) ∧ Y.cell? ⟨qb, 2, none⟩ = some (.slice ba P.b.length bc) ∧ Y.cell? ⟨qb, 3, none⟩ = some (.slice qca P.c.length qcc)) from ⟨kc' k yW0, kc' k yW1, kc' k yW2, kc' k yW3, kc' k qW0, kc' k qW1, kc' k qW2, kc' k qW3⟩)
            go_wp2_with fail
            go_region_held3 (fun Z => Z.cell? ⟨w.heap.size, 0, none⟩ = some (.slice ra P.rows.length rc) ∧ Z.cell? ⟨w.heap.size, 1, none⟩ = some (.slice ea P.rel.length ec) ∧ Z.cell? ⟨w.heap.size, 2, none⟩ = some (.slice ba P.b.length bc) ∧ Z.cell? ⟨w.heap.size, 3, none⟩ = some (.slice ca P.c.length cc) ∧ Z.cell? ⟨qb, 0, none⟩ = some (.slice ra P.rows.length rc) ∧ Z.cell? ⟨qb, 1, none⟩ = some (.slice ea P.rel.length ec) ∧ Z.cell? ⟨qb, 2, none⟩ = some (.slice ba P.b.length bc) ∧ Z.cell? ⟨qb, 3, none⟩ = some (.slice qca P.c.length qcc)) (first | exact HKx.out _ F7 | exact HKx.out _ F6 | exact HKx.out _ F5 | exact HKx.out _ F4 | exact HKx.out _ F3 | exact HKx.out _ F2 | exact HKx.out _ F1 | exact HKx.out _ F0) (first
              | (go_at_call 18; have gk := F6; refine (HHD.out _ F6).mono ?_; rintro e Yx ⟨rfl, bb⟩; have F7 := chain2 F6 bb)
              | (go_at_call 11; have gk := F5; refine (HTH.out _ F5).mono ?_; rintro e Yx ⟨rfl, bb⟩; have F6 := chain2 F5 bb)
              | (go_at_call 13; have gk := F4; refine (HDU.out _ F4).mono ?_; rintro e Yx ⟨rfl, bb⟩; have F5 := chain2 F4 bb)
              | (go_at_call 14; have gk := F3; refine (HFQ.out _ F3).mono ?_; rintro e Yx ⟨rfl, bb⟩; have F4 := chain2 F3 bb)
              | (go_at_call 14; have gk := F2; refine (HFA.out _ F2).mono ?_; rintro e Yx ⟨rfl, bb⟩; have F3 := chain2 F2 bb)
              | (go_at_call 13; have gk := F1; refine (HDQ.out _ F1).mono ?_; rintro e Yx ⟨rfl, bb⟩; have F2 := chain2 F1 bb)
              | (go_at_call 13; have gk := F0; refine (HDU.out _ F0).mono ?_; rintro e Yx ⟨rfl, bb⟩; have F1 := chain2 F0 bb))
            have bL := F7
            clear HKx F0 F1 F2 F3 F4 F5 F6 F7
            have BF := chain2 HB.out bL
            go_wp2
            go_ret
            exact ⟨by first | rfl | simp, by first | exact BF | exact BF.drew | exact below_dn BF _⟩
end Go.Proofs.YtbdhanlenekdhaaGreatDoor
