/- CertRays: the walk. -/
import Derived.Test.YtbdhanlenekdhaaGreatDoorZCMidM
import Derived.Test.YtbdhanlenekdhaaGreatDoorZCRay
import Derived.Test.YtbdhanlenekdhaaGreatDoorZHRay
import Derived.Deep.RegionHeld3
import Derived.Deep.RegionLaw
import Derived.OpenShut
namespace Go.Proofs.YtbdhanlenekdhaaGreatDoor
open Go.RowKit
set_option linter.unusedVariables false
set_option maxRecDepth 100000
set_option linter.unusedSimpArgs false

theorem own_formR {w : World} {base size : Nat} {e : TypeId} {v : Value} {n : Nat} {xs : List Value} (h : w.ownsRow base e size v n xs) : ∃ sa sc, v = .slice sa n sc := own_form4 h
theorem str_newR (X : World) (s : ByteArray) : ∀ j u, [Value.string s][j]? = some u → (X.alloc (.cells #[.string s] 9)).cell? ((⟨X.heap.size, 0, none⟩ : Addr).add j) = some u := by
  intro j u hu
  rw [add_off, Nat.zero_add]
  exact bxc (box_new X (.cells #[.string s] 9)) j u (by simpa using hu)
theorem cmp_ltR {p q : Rat} (h : p < q) : decide (cmpR p q < 0) = true := by unfold cmpR; simp [h]
theorem Lt10.by {n : Int} (h : 0 ≤ n) (k : n ≤ 255) : Lt10 3 (n : Rat) := ⟨by rw [Rat.num_intCast]; show n.natAbs < 1000; omega, by rw [Rat.den_intCast]; decide⟩
theorem lin_len {n : Rat} {X D : List Rat} (h : X.length = D.length) : (lin n X D).length = X.length := by simp [lin, h]
theorem lin_at {n : Rat} (X D : List Rat) (i : Nat) (h1 : i < X.length) (h2 : i < D.length) (h3 : i < (lin n X D).length) : (lin n X D)[i] = X[i] + D[i] * n := by simp [lin]
set_option maxHeartbeats 25600000 in
theorem crays_any (w : World) (rv ev bv cv sv dv : Value) (P : Prb) (S D : List ByteArray) (hp : IsPrb w rv ev bv cv P) (hs : Strs w sv S) (hd : Strs w dv D) (hmx : Mx w) (htab : Tab w) (hrl : Rl w) (n : Int) (hnw : (Lit.int .u8 n).wf = true) :
    Calls Tryz.prog 6 #[.agg #[rv, ev, bv, cv], sv, dv, .int .u8 n] w fun e w' => e = .returned (.bool true) ∧ Below w.heap.size w w' := by
  obtain ⟨i0, hi0, hz0, hz1, hz2⟩ := info_parts info_string
  obtain ⟨hn0, hn255⟩ := bounds_u8 hnw
  clear hnw
  obtain ⟨ra, rc, rfl, rl, rm⟩ := hp.rows.slice
  obtain ⟨ea, ec, rfl, el, em⟩ := hp.rel.slice
  obtain ⟨ba, bc, rfl, bl, bm⟩ := hp.b.slice
  obtain ⟨ca, cc, rfl, cl, cm⟩ := hp.c.slice
  obtain ⟨sa, sc, rfl, sl, sm⟩ := hs.slice
  obtain ⟨da, dc, rfl, dl, dm⟩ := hd.slice
  unfold maxLen at rm em bm cm sm dm
  have b0 := boxed2 (Below.refl w.heap.size w) (Obj.cells #[.slice ra P.rows.length rc, .slice ea P.rel.length ec, .slice ba P.b.length bc, .slice ca P.c.length cc] 25) (Obj.cells #[.slice sa S.length sc, .slice da D.length dc] 26)
  have x0 := boxed2_first w (Obj.cells #[.slice ra P.rows.length rc, .slice ea P.rel.length ec, .slice ba P.b.length bc, .slice ca P.c.length cc] 25) (Obj.cells #[.slice sa S.length sc, .slice da D.length dc] 26)
  have z0 := boxed2_second w (Obj.cells #[.slice ra P.rows.length rc, .slice ea P.rel.length ec, .slice ba P.b.length bc, .slice ca P.c.length cc] 25) (Obj.cells #[.slice sa S.length sc, .slice da D.length dc] 26)
  have y0 := bxc x0 0 (.slice ra P.rows.length rc) rfl
  have y1 := bxc x0 1 (.slice ea P.rel.length ec) rfl
  have y2 := bxc x0 2 (.slice ba P.b.length bc) rfl
  have y3 := bxc x0 3 (.slice ca P.c.length cc) rfl
  have HLI := hid (show StrRows _ (.slice (some ⟨w.heap.size + 1, 0, none⟩) 2 2) [S, D] from strRows2 z0 (hs.below b0) (hd.below b0))
  have HP0 := hid (hp.below b0)
  have HS0 := hid (hs.below b0)
  have HD0 := hid (hd.below b0)
  have HMX0 := hid (hmx.below b0)
  have HTB0 := hid (htab.below b0)
  have HRL0 := hid (hrl.below b0)
  have HB0 := hid b0
  have HPB0 := hid x0
  clear hp hmx htab hrl b0 x0 z0 hs hd
  go_enter Tryz.func6, Tryz.ntmps6
  go_wp2_with fail
  generalize (w.alloc (Obj.cells #[.slice ra P.rows.length rc, .slice ea P.rel.length ec, .slice ba P.b.length bc, .slice ca P.c.length cc] 25)).alloc (Obj.cells #[.slice sa S.length sc, .slice da D.length dc] 26) = W0 at *
  refine (heavy11_any W0 _ _ _ _ _ P [S, D] HP0.out HLI.out).mono ?_
  rintro e W ⟨⟨RH, rfl, hRH⟩, b⟩
  have HP := hid (HP0.out.below b)
  have HS := hid (HS0.out.below b)
  have HD := hid (HD0.out.below b)
  have HMX := hid (HMX0.out.below b)
  have HTB := hid (HTB0.out.below b)
  have HRL := hid (HRL0.out.below b)
  have HPB := hid (box_below b HPB0.out (lt_of_block HPB0.out))
  have HB := hid (chain2 HB0.out b)
  clear y0 y1 y2 y3 b HP0 HMX0 HTB0 HRL0 HPB0 HB0 HLI HS0 HD0
  cases RH with
  | true =>
    go_wp2
    go_ret
    exact ⟨rfl, HB.out⟩
  | false =>
  have HSZ := hid (fun (hc : chk P = 0) => hRH rfl (chk_ok hc).rl (by have := (chk_ok hc).rel; have := (chk_ok hc).rl; omega) (by have := (chk_ok hc).b; have := (chk_ok hc).rl; omega) (chk_ok hc).cl)
  clear hRH
  have bL : Below W.heap.size W W := Below.refl _ _
  have yW0 := bxc HPB.out 0 (.slice ra P.rows.length rc) rfl
  have yW1 := bxc HPB.out 1 (.slice ea P.rel.length ec) rfl
  have yW2 := bxc HPB.out 2 (.slice ba P.b.length bc) rfl
  have yW3 := bxc HPB.out 3 (.slice ca P.c.length cc) rfl
  have pbL := box_below bL HPB.out (lt_of_block HPB.out)
  have yL0 := bxc pbL 0 (.slice ra P.rows.length rc) rfl
  have yL1 := bxc pbL 1 (.slice ea P.rel.length ec) rfl
  have yL2 := bxc pbL 2 (.slice ba P.b.length bc) rfl
  have yL3 := bxc pbL 3 (.slice ca P.c.length cc) rfl
  clear pbL
  have HTH := hid (fun (Y : World) (bY : Below W.heap.size W Y) => theirs11_any Y _ _ _ _ P (HP.out.below bY))
  by_cases hne : n = 0
  · subst hne
    go_wp2
    go_ret
    exact ⟨rfl, HB.out⟩
  have hne1 : (n == 0) = false := beq_eq_false_iff_ne.2 hne
  have hwn : IntKind.i64.wrap n = n := by rw [IntKind.wrap_i64]; omega
  have hnp : (0 : Rat) < (n : Rat) := Rat.intCast_pos.2 (by omega)
  have HSS := hid (fun (hc : chk P = 0) => sz_le (M := [S, D]) (S := S) (by simp) (HSZ.out hc))
  have HDS := hid (fun (hc : chk P = 0) => sz_le (M := [S, D]) (S := D) (by simp) (HSZ.out hc))
  obtain ⟨RR, HRR⟩ : ∃ RR : Bool, Hid (RR = true ↔ RayS P S D) := by obtain ⟨R, h⟩ := boolOf (RayS P S D); exact ⟨R, hid h⟩
  have HRA := hid (fun (Y : World) (bY : Below W.heap.size W Y) => cRay_any Y _ _ _ _ _ _ P S D (HP.out.below bY) (HS.out.below bY) HSS.out (HMX.out.below bY) (HTB.out.below bY) (HD.out.below bY) HDS.out (HRL.out.below bY) RR HRR.out)
  have HHR := hid (fun (Y : World) (bY : Below W.heap.size W Y) => hRay_any Y _ _ _ _ _ _ P S D (HP.out.below bY) (HS.out.below bY) HSS.out (HD.out.below bY) HDS.out RR HRR.out)
  have HNP := hid hnp
  clear hnp
  have ef : (RR != RR) = false := by simp
  have F0 := bL.drew
  have HKx := hid (fun (Y : World) (k : Below W.heap.size W Y) => show (Y.cell? ⟨w.heap.size, 0, none⟩ = some (.slice ra P.rows.length rc) ∧ Y.cell? ⟨w.heap.size, 1, none⟩ = some (.slice ea P.rel.length ec) ∧ Y.cell? ⟨w.heap.size, 2, none⟩ = some (.slice ba P.b.length bc) ∧ Y.cell? ⟨w.heap.size, 3, none⟩ = some (.slice ca P.c.length cc)) from ⟨kc' k yW0, kc' k yW1, kc' k yW2, kc' k yW3⟩)
  go_wp2_with fail
  go_region_held3 (fun Z => Z.cell? ⟨w.heap.size, 0, none⟩ = some (.slice ra P.rows.length rc) ∧ Z.cell? ⟨w.heap.size, 1, none⟩ = some (.slice ea P.rel.length ec) ∧ Z.cell? ⟨w.heap.size, 2, none⟩ = some (.slice ba P.b.length bc) ∧ Z.cell? ⟨w.heap.size, 3, none⟩ = some (.slice ca P.c.length cc)) (first | exact HKx.out _ F3 | exact HKx.out _ F2 | exact HKx.out _ F1 | exact HKx.out _ F0) (first
    | (go_at_call 29; have gk := F2; refine (HHR.out _ F2).mono ?_; rintro e Yx ⟨rfl, bb⟩; have F3 := chain2 F2 bb)
    | (go_at_call 11; have gk := F1; refine (HTH.out _ F1).mono ?_; rintro e Yx ⟨rfl, bb⟩; have F2 := chain2 F1 bb)
    | (go_at_call 28; have gk := F0; refine (HRA.out _ F0).mono ?_; rintro e Yx ⟨rfl, bb⟩; have F1 := chain2 F0 bb))
  have bL := F3
  clear HKx F0 F1 F2 F3
  clear ef
  have pbL := box_below bL HPB.out (lt_of_block HPB.out); have yL0 := bxc pbL 0 (.slice ra P.rows.length rc) rfl; have yL1 := bxc pbL 1 (.slice ea P.rel.length ec) rfl; have yL2 := bxc pbL 2 (.slice ba P.b.length bc) rfl; have yL3 := bxc pbL 3 (.slice ca P.c.length cc) rfl; clear pbL
  go_wp2_with fail
  refine (HRA.out _ (by first | exact bL | exact bL.drew | exact below_dn bL _)).mono ?_
  rintro e Yx ⟨rfl, b⟩; have bL : Below W.heap.size W Yx := (by first | exact chain2 bL b | exact chain2 bL ⟨b.os, b.tape, b.output, b.size, b.block⟩); have pbL := box_below bL HPB.out (lt_of_block HPB.out); have yL0 := bxc pbL 0 (.slice ra P.rows.length rc) rfl; have yL1 := bxc pbL 1 (.slice ea P.rel.length ec) rfl; have yL2 := bxc pbL 2 (.slice ba P.b.length bc) rfl; have yL3 := bxc pbL 3 (.slice ca P.c.length cc) rfl; clear pbL; clear b
  cases RR with
  | false =>
    have BF := chain2 HB.out bL
    go_wp2
    go_ret
    exact ⟨rfl, BF⟩
  | true =>
    obtain ⟨⟨f1, f2, X, f3, f4, f5⟩, g2, Z, g3, ⟨g4, g5⟩, g6⟩ := HRR.out.1 (by first | rfl | trivial)
    have hXZ : X.length = Z.length := by rw [f3.len, g3.len, f2, g2]
    have ok := chk_ok f1
    have HNX : Hid (∀ Y, Below W.heap.size W Y → Calls Tryz.prog 12 #[.slice sa S.length sc] Y (fun e w' => (∃ tv C, e = .returned (.tuple #[tv, .int .i64 0]) ∧ TLs w' Y.heap.size tv C X 5100) ∧ Below Y.heap.size Y w')) := hid (fun Y bY => by
      refine (hNumbers_any Y _ S (HS.out.below bY) (HSS.out f1) (by rw [f2]; have := (chk_ok f1).cl; omega)).mono ?_
      rintro e w' ⟨hr, b⟩
      refine ⟨?_, b⟩
      rcases hr with ⟨X', tv, C, hnu, rfl, hl⟩ | ⟨hno, _⟩
      · rw [hnu.uniq f3] at hl
        exact ⟨tv, C, rfl, hl⟩
      · exact absurd ⟨_, f3⟩ hno)
    have HNZ : Hid (∀ Y, Below W.heap.size W Y → Calls Tryz.prog 12 #[.slice da D.length dc] Y (fun e w' => (∃ tv C, e = .returned (.tuple #[tv, .int .i64 0]) ∧ TLs w' Y.heap.size tv C Z 5100) ∧ Below Y.heap.size Y w')) := hid (fun Y bY => by
      refine (hNumbers_any Y _ D (HD.out.below bY) (HDS.out f1) (by rw [g2]; have := (chk_ok f1).cl; omega)).mono ?_
      rintro e w' ⟨hr, b⟩
      refine ⟨?_, b⟩
      rcases hr with ⟨X', tv, C, hnu, rfl, hl⟩ | ⟨hno, _⟩
      · rw [hnu.uniq g3] at hl
        exact ⟨tv, C, rfl, hl⟩
      · exact absurd ⟨_, g3⟩ hno)
    have HVX := hid (fun (s : ByteArray) (er : Int) (h : WorS P P.c S s er) => h.yes f1 f2 f3)
    have HXL := hid hXZ
    have HX64 := hid (show X.length ≤ 64 by rw [f3.len, f2]; exact (chk_ok f1).cl)
    have HM10 := hid (show ∀ y ∈ lin (n : Rat) X Z, Lt10 298 y from fun y hy => by
      obtain ⟨i, hi, rfl⟩ := List.getElem_of_mem hy
      have hiX : i < X.length := by rw [lin_len hXZ] at hi; exact hi
      have hiZ : i < Z.length := by omega
      rw [lin_at X Z i hiX hiZ hi]
      have a := nums_at f3 i hiX (by rw [← f3.len]; exact hiX)
      have b := nums_at g3 i hiZ (by rw [← g3.len]; exact hiZ)
      have c := pair_sz (HSZ.out f1) i i (by rw [← f3.len]; exact hiX) (by rw [← g3.len]; exact hiZ)
      exact (a.add (b.mul (Lt10.by hn0 hn255))).mono (by omega))
    have HFM := hid (fun (Q : List ByteArray) (hQ : TxL Q (lin (n : Rat) X Z)) => show FeaS P Q from ⟨f1, by rw [hQ.len, lin_len hXZ, f3.len, f2], lin (n : Rat) X Z, hQ.nums, nng_lin HNP.out hXZ f4 g4, gps_lin HNP.out hXZ ok.b f5 g5⟩)
    have HVM := hid (fun (Q : List ByteArray) (hQ : TxL Q (lin (n : Rat) X Z)) (s : ByteArray) (er : Int) (h : WorS P P.c Q s er) => h.yes f1 (by rw [hQ.len, lin_len hXZ, f3.len, f2]) hQ.nums)
    have HDM := hid (show dot P.c X < dot P.c (lin (n : Rat) X Z) by
      rw [dot_lin _ _ _ _ hXZ]
      have := Rat.mul_pos HNP.out g6
      grind)
    have HL1 := hid (dot_lt47 (chk_ok f1).c9 (f3.lt (HSS.out f1)) (by rw [f3.len, f2]; exact Nat.le_refl _) (by rw [f3.len, f2]; exact (chk_ok f1).cl))
    have HL2 := hid (dot_lt47 (X := lin (n : Rat) X Z) (chk_ok f1).c9 (fun x hx => (HM10.out x hx).mono (by omega)) (by rw [lin_len hXZ, f3.len, f2]; exact Nat.le_refl _) (by rw [lin_len hXZ, f3.len, f2]; exact (chk_ok f1).cl))
    clear f1 f2 f3 f4 f5 g2 g3 g4 g5 g6 hXZ HRR ok
    go_wp2_with fail
    refine (HNX.out _ (by first | exact bL | exact bL.drew | exact below_dn bL _)).mono ?_
    rintro e Yx ⟨⟨tv1, C1, rfl, hl1⟩, b⟩; have bL : Below W.heap.size W Yx := (by first | exact chain2 bL b | exact chain2 bL ⟨b.os, b.tape, b.output, b.size, b.block⟩); have pbL := box_below bL HPB.out (lt_of_block HPB.out); have yL0 := bxc pbL 0 (.slice ra P.rows.length rc) rfl; have yL1 := bxc pbL 1 (.slice ea P.rel.length ec) rfl; have yL2 := bxc pbL 2 (.slice ba P.b.length bc) rfl; have yL3 := bxc pbL 3 (.slice ca P.c.length cc) rfl; clear pbL; have HLX := hid hl1; obtain ⟨ta1, tc1, rfl, hl1a, hl1b⟩ := hl1.slice; clear b hl1
    go_wp2_with fail
    refine (HNZ.out _ (by first | exact bL | exact bL.drew | exact below_dn bL _)).mono ?_
    rintro e Yx ⟨⟨tv2, C2, rfl, hl2⟩, b⟩; have bL : Below W.heap.size W Yx := (by first | exact chain2 bL b | exact chain2 bL ⟨b.os, b.tape, b.output, b.size, b.block⟩); have pbL := box_below bL HPB.out (lt_of_block HPB.out); have yL0 := bxc pbL 0 (.slice ra P.rows.length rc) rfl; have yL1 := bxc pbL 1 (.slice ea P.rel.length ec) rfl; have yL2 := bxc pbL 2 (.slice ba P.b.length bc) rfl; have yL3 := bxc pbL 3 (.slice ca P.c.length cc) rfl; clear pbL; have HLZ := hid hl2; have HLX2 := hid (Ls.below (fun h b => h.below b) HLX.out b); obtain ⟨ta2, tc2, rfl, hl2a, hl2b⟩ := hl2.slice; clear b hl2
    have HLX := HLX2
    have HP := hid (HP.out.below bL)
    have HS := hid (HS.out.below bL)
    have HD := hid (HD.out.below bL)
    have HMX := hid (HMX.out.below bL)
    have HTB := hid (HTB.out.below bL)
    have HRL := hid (HRL.out.below bL)
    have HPB := hid (box_below bL HPB.out (lt_of_block HPB.out))
    have HB := hid (chain2 HB.out bL)
    clear bL HLX2 HRA HHR HNX HNZ HTH
    go_wp2_with fail
    generalize Yx = W at *
    have o0 : Hid ((W.alloc (Obj.cells #[] 9)).ownsRow W.heap.size 9 1 (.slice (some ⟨W.heap.size, 0, none⟩) 0 0) 0 []) := hid (World.ownsRow_made (base := W.heap.size) (e := 9) (size := 1) W #[] 0 (Nat.le_refl _) (Nat.zero_le _) (by simp))
    have b0 := (Below.refl W.heap.size W).alloc (Nat.le_refl _) (Obj.cells #[] 9)
    go_wp2
    generalize W.alloc (Obj.cells #[] 9) = W1 at *
    go_loopw [14, 15] (fun l i wr => ∃ (k : Nat) (Q : List ByteArray), k ≤ X.length ∧ i = .int .i64 (k : Int) ∧ Hid (TxL Q ((lin (n : Rat) X Z).take k)) ∧ Hid (wr.ownsRow W.heap.size 9 1 l k (strV Q)) ∧ Below W.heap.size W wr) (fun _ i _ => X.length - (intOf i).toNat)
    case atStart => exact ⟨0, [], Nat.zero_le _, rfl, TxL.nil, o0, b0⟩
    case round =>
      clear o0 b0
      obtain ⟨k, Q, hk, rfl, HQ, HO, bw⟩ := hrel
      obtain ⟨qa, qc, hqe⟩ := own_formR HO.out
      subst hqe
      have hX64 := HX64.out
      by_cases hlt : k < X.length
      · have hltZ : k < Z.length := by rw [← HXL.out]; exact hlt
        obtain ⟨jg, jc', j0, jx1, jx2, jx3, je, _, jq0, jq1, jq2, jq3, jq⟩ := (Ls.below (fun h b => h.below b) HLX.out bw).at k hlt
        simp only [Value.slice.injEq] at je
        obtain ⟨rfl, -, rfl⟩ := je
        obtain ⟨j1, j2, j3, j4, j5, j6, j7, j8, js⟩ := jq.form
        simp only [Value.agg.injEq, Array.mk.injEq, List.cons.injEq, and_true] at js
        obtain ⟨rfl, rfl, rfl, rfl⟩ := js
        obtain ⟨ug, uc', u0, ux1, ux2, ux3, ue, _, uq0, uq1, uq2, uq3, uq⟩ := (Ls.below (fun h b => h.below b) HLZ.out bw).at k hltZ
        simp only [Value.slice.injEq] at ue
        obtain ⟨rfl, -, rfl⟩ := ue
        obtain ⟨u1, u2, u3, u4, u5, u6, u7, u8, us⟩ := uq.form
        simp only [Value.agg.injEq, Array.mk.injEq, List.cons.injEq, and_true] at us
        obtain ⟨rfl, rfl, rfl, rfl⟩ := us
        have hkm : k < (lin (n : Rat) X Z).length := by rw [lin_len HXL.out]; exact hlt
        have HMA := hid (lin_at (n := (n : Rat)) X Z k hlt hltZ hkm)
        have HPUSH := hid (fun (s : ByteArray) (hs : TxR s (X[k] + Z[k] * (n : Rat))) => HQ.out.push hkm (by rw [HMA.out]; exact hs))
        have HQA := hid jq
        have HQU := hid uq
        have hbs := bw.size
        clear jq uq hkm HMA
        generalize X[k] = xk at *
        generalize Z[k] = zk at *
        go_wp2_with fail
        go_region_law (first
          | (refine step_append_at rfl _ _ 26 rfl W.heap.size 9 i0 (.string ByteArray.empty) 1 16 Tryz.underlying26 hi0 hz0 hz1 hz2 rfl (by decide) (.slice qa k qc) k _ rfl ((own_below HO.out F4).alloc (.cells #[.string st] 9)) ⟨Y4.heap.size, 0, none⟩ 1 1 [.string st] rfl rfl (str_newR _ _) (by intro u hu; simp at hu; subst hu; rfl) (by unfold maxLen; omega) (by omega) (by simp; have := F4.size; omega) ?_; intro v' Y5 o5 hg5 hat5; obtain ⟨qa', qc', rfl⟩ := own_formR o5)
          | (have gk := F3; go_simp; go_at_call 17; refine (t_text _ _ _ 24006 (by omega) ((by first | exact N3 | exact N3.below (Below.refl _ _).drew | exact N3.below (below_dn (Below.refl _ _) _)) : TIs _ _ _ _)).mono ?_; rintro e Y4 ⟨⟨st, rfl, hst⟩, bb⟩; have F4 : Below wr.heap.size wr Y4 := (by first | exact chain2 F3 bb | exact chain2 F3 ⟨bb.os, bb.tape, bb.output, bb.size, bb.block⟩); dsimp only)
          | (have gk := F2; go_simp; go_at_call 32; refine (t_add _ _ _ xk (zk * (n : Rat)) 12000 (by omega) ((HQA.out.below (by first | exact F2 | exact F2.drew | exact below_dn F2 _)).mono (show 5100 ≤ 12000 by omega)) ((by first | exact N2 | exact N2.below (Below.refl _ _).drew | exact N2.below (below_dn (Below.refl _ _) _)) : TIs _ _ _ _)).mono ?_; rintro e Y3 ⟨v3, rfl, n3, bb⟩; have F3 : Below wr.heap.size wr Y3 := (by first | exact chain2 F2 bb | exact chain2 F2 ⟨bb.os, bb.tape, bb.output, bb.size, bb.block⟩); have N3 := n3.mono (show 2 * 12000 + 6 ≤ 24006 by omega); dsimp only)
          | (have gk := F1; go_simp; go_at_call 16; refine (t_mul _ _ _ zk (n : Rat) 5100 (by omega) (HQU.out.below (by first | exact F1 | exact F1.drew | exact below_dn F1 _)) ((by first | exact N1 | exact N1.below (Below.refl _ _).drew | exact N1.below (below_dn (Below.refl _ _) _)) : TIs _ _ _ _)).mono ?_; rintro e Y2 ⟨v2, rfl, n2, bb⟩; have F2 : Below wr.heap.size wr Y2 := (by first | exact chain2 F1 bb | exact chain2 F1 ⟨bb.os, bb.tape, bb.output, bb.size, bb.block⟩); have N2 := n2.mono (show 2 * 5100 + 6 ≤ 12000 by omega); have jb0 := (F2.cell (World.block_lt_of_cell? wr _ jq0)).trans jq0; have jb1 := (F2.cell (World.block_lt_of_cell? wr _ jq1)).trans jq1; have jb2 := (F2.cell (World.block_lt_of_cell? wr _ jq2)).trans jq2; have jb3 := (F2.cell (World.block_lt_of_cell? wr _ jq3)).trans jq3; dsimp only)
          | (go_simp; go_at_call 15; refine (t_of _ n (by omega) (by omega)).mono ?_; rintro e Y1 ⟨v1, rfl, n1, bb⟩; have F1 : Below wr.heap.size wr Y1 := ⟨bb.os, bb.tape, bb.output, bb.size, bb.block⟩; have N1 := n1.mono (show 3 ≤ 5100 by omega); have ja0 := (F1.cell (World.block_lt_of_cell? wr _ jq0)).trans jq0; have ja1 := (F1.cell (World.block_lt_of_cell? wr _ jq1)).trans jq1; have ja2 := (F1.cell (World.block_lt_of_cell? wr _ jq2)).trans jq2; have ja3 := (F1.cell (World.block_lt_of_cell? wr _ jq3)).trans jq3; have ua0 := (F1.cell (World.block_lt_of_cell? wr _ uq0)).trans uq0; have ua1 := (F1.cell (World.block_lt_of_cell? wr _ uq1)).trans uq1; have ua2 := (F1.cell (World.block_lt_of_cell? wr _ uq2)).trans uq2; have ua3 := (F1.cell (World.block_lt_of_cell? wr _ uq3)).trans uq3; dsimp only))
        all_goals
          have bA := (Below.refl Y4.heap.size Y4).alloc (Nat.le_refl _) (Obj.cells #[.string st] 9)
          have F5 := chain2 F4 bA
          have B4 := bw.trans (F5.mono bw.size)
          have B5 := B4.grown hg5 B4.size (fun g hg => (HO.out.lt g hg).1)
          have HPU := hid (HPUSH.out st hst)
          have HO5 := hid (show Y5.ownsRow W.heap.size 9 1 (.slice qa' (k + 1) qc') (k + 1) (strV (Q ++ [st])) by rw [strV_app]; exact o5)
          clear o5 hg5 hat5 bA F5 B4
          go_wp2
          go_roundw
          case rel => exact ⟨k + 1, Q ++ [st], by omega, by go_num, HPU, HO5, B5⟩
          case measure => simp [intOf]; omega
      · obtain rfl : k = X.length := by omega
        have hml := lin_len (n := (n : Rat)) HXL.out
        rw [← hml, List.take_length] at HQ
        have hQ600 := HQ.out.small HM10.out
        have hQl : Q.length = X.length := by rw [HQ.out.len, hml]
        have HQS := hid (strs_own HO.out hQl hQ600)
        have HQ6 := hid hQ600
        have bL := bw
        have HP := hid (HP.out.below bL)
        have HS := hid (HS.out.below bL)
        have HD := hid (HD.out.below bL)
        have HMX := hid (HMX.out.below bL)
        have HTB := hid (HTB.out.below bL)
        have HRL := hid (HRL.out.below bL)
        have HPB := hid (box_below bL HPB.out (lt_of_block HPB.out))
        have HB := hid (chain2 HB.out bL)
        clear bL bw hml hQl hQ600 HO hlt HLX HLZ HM10
        generalize wr = W at *
        have bL : Below W.heap.size W W := Below.refl _ _
        have pbL := box_below bL HPB.out (lt_of_block HPB.out)
        have yL0 := bxc pbL 0 (.slice ra P.rows.length rc) rfl
        have yL1 := bxc pbL 1 (.slice ea P.rel.length ec) rfl
        have yL2 := bxc pbL 2 (.slice ba P.b.length bc) rfl
        have yL3 := bxc pbL 3 (.slice ca P.c.length cc) rfl
        clear pbL
        have HVA := hid (fun (Y : World) (bY : Below W.heap.size W Y) => cValue_any Y _ _ _ _ _ P S (HP.out.below bY) (HS.out.below bY) HSS.out (HMX.out.below bY) (HTB.out.below bY))
        have HVQ := hid (fun (Y : World) (bY : Below W.heap.size W Y) => cValue_any Y _ _ _ _ _ P Q (HP.out.below bY) (HQS.out.below bY) (fun _ => HQ6.out) (HMX.out.below bY) (HTB.out.below bY))
        generalize dot P.c X = V1 at *
        generalize dot P.c (lin (n : Rat) X Z) = V2 at *
        go_wp2_with fail
        refine (HVA.out _ (by first | exact bL | exact bL.drew | exact below_dn bL _)).mono ?_
        rintro e Yx ⟨⟨tx1, er1, rfl, hw1⟩, b⟩; have bL : Below W.heap.size W Yx := (by first | exact chain2 bL b | exact chain2 bL ⟨b.os, b.tape, b.output, b.size, b.block⟩); have pbL := box_below bL HPB.out (lt_of_block HPB.out); have yL0 := bxc pbL 0 (.slice ra P.rows.length rc) rfl; have yL1 := bxc pbL 1 (.slice ea P.rel.length ec) rfl; have yL2 := bxc pbL 2 (.slice ba P.b.length bc) rfl; have yL3 := bxc pbL 3 (.slice ca P.c.length cc) rfl; clear pbL; clear b
        obtain ⟨rfl, ht1⟩ := HVX.out _ _ hw1
        have HT1 := hid ht1
        clear hw1 ht1
        go_wp2_with fail
        refine (HVQ.out _ (by first | exact bL | exact bL.drew | exact below_dn bL _)).mono ?_
        rintro e Yx ⟨⟨tx2, er3, rfl, hw3⟩, b⟩; have bL : Below W.heap.size W Yx := (by first | exact chain2 bL b | exact chain2 bL ⟨b.os, b.tape, b.output, b.size, b.block⟩); have pbL := box_below bL HPB.out (lt_of_block HPB.out); have yL0 := bxc pbL 0 (.slice ra P.rows.length rc) rfl; have yL1 := bxc pbL 1 (.slice ea P.rel.length ec) rfl; have yL2 := bxc pbL 2 (.slice ba P.b.length bc) rfl; have yL3 := bxc pbL 3 (.slice ca P.c.length cc) rfl; clear pbL; clear b
        obtain ⟨rfl, ht3⟩ := HVM.out Q HQ.out _ _ hw3
        have HT2 := hid ht3
        clear hw3 ht3
        have hz1' := txr_len HT1.out HL1.out (by omega)
        have hz2' := txr_len HT2.out HL2.out (by omega)
        have HP1 := hid (fun (Y : World) => t_parse_of tx1 V1 Y HT1.out (by omega))
        have HP2 := hid (fun (Y : World) => t_parse_of tx2 V2 Y HT2.out (by omega))
        clear yL0 yL1 yL2 yL3
        go_wp2_with fail
        refine (HP1.out _).mono ?_
        rintro e Y1 ⟨⟨m1, m2, m3, m4, m5, m6, m7, m8, rfl, n1⟩, b⟩
        have bL : Below W.heap.size W Y1 := (by first | exact chain2 bL b | exact chain2 bL ⟨b.os, b.tape, b.output, b.size, b.block⟩)
        have bA := (Below.refl Y1.heap.size Y1).alloc (Nat.le_refl _) (Obj.cells #[.bool m1, .slice m2 m3 m4, .bool m5, .slice m6 m7 m8] 43)
        have bL := chain2 bL bA
        have NM := hid ((n1.below bA).mono (show tx1.size / 9 + 8 ≤ 20000 by omega))
        have XM := hid (box_new Y1 (Obj.cells #[.bool m1, .slice m2 m3 m4, .bool m5, .slice m6 m7 m8] 43))
        clear b bA n1
        go_wp2_with (refine wpList_store_fresh rfl 43 _ _ rfl _ _ _ rfl (by simp) rfl 4 info_refRat (by rfl) (by rfl) (by simp [Value.oneCell']) ?_)
        generalize Y1.alloc (Obj.cells #[.bool m1, .slice m2 m3 m4, .bool m5, .slice m6 m7 m8] 43) = W1 at *
        generalize Y1.heap.size = mb at *
        refine (HP2.out _).mono ?_
        rintro e Y2 ⟨⟨n1, n2, n3, n4, n5, n6, n7, n8, rfl, nn⟩, b⟩
        have bA := (Below.refl Y2.heap.size Y2).alloc (Nat.le_refl _) (Obj.cells #[.bool n1, .slice n2 n3 n4, .bool n5, .slice n6 n7 n8] 43)
        have bA2 := chain2 b bA
        have bL := chain2 bL bA2
        have NN := hid ((nn.below bA).mono (show tx2.size / 9 + 8 ≤ 20000 by omega))
        have XN := hid (box_new Y2 (Obj.cells #[.bool n1, .slice n2 n3 n4, .bool n5, .slice n6 n7 n8] 43))
        have NM := hid (NM.out.below bA2)
        have XM := hid (box_below bA2 XM.out (lt_of_block XM.out))
        have HQS := hid (HQS.out.below bL)
        have HP := hid (HP.out.below bL)
        have HMX := hid (HMX.out.below bL)
        have HTB := hid (HTB.out.below bL)
        have HRL := hid (HRL.out.below bL)
        have HPB := hid (box_below bL HPB.out (lt_of_block HPB.out))
        have HB := hid (chain2 HB.out bL)
        clear b bA bA2 nn bL HVA HVQ
        obtain ⟨vm0, vm1, vm2, vm3⟩ := four_cell XM.out
        obtain ⟨vn0, vn1, vn2, vn3⟩ := four_cell XN.out
        have yW0 := bxc HPB.out 0 (.slice ra P.rows.length rc) rfl
        have yW1 := bxc HPB.out 1 (.slice ea P.rel.length ec) rfl
        have yW2 := bxc HPB.out 2 (.slice ba P.b.length bc) rfl
        have yW3 := bxc HPB.out 3 (.slice ca P.c.length cc) rfl
        go_wp2_with (refine wpList_store_fresh rfl 43 _ _ rfl _ _ _ rfl (by simp) rfl 4 info_refRat (by rfl) (by rfl) (by simp [Value.oneCell']) ?_)
        generalize Y2.alloc (Obj.cells #[.bool n1, .slice n2 n3 n4, .bool n5, .slice n6 n7 n8] 43) = W at *
        generalize Y2.heap.size = nb at *
        have hcm := cmp_ltR HDM.out
        refine (cFeasible_any W _ _ _ _ _ P Q HP.out HQS.out (fun _ => HQ6.out) HMX.out HTB.out HRL.out true ⟨fun _ => HFM.out Q HQ.out, fun _ => rfl⟩).mono ?_
        rintro e Y5 ⟨rfl, b⟩
        have HB5 := hid (chain2 HB.out b)
        obtain ⟨km0, km1, km2, km3⟩ := four_cell (box_below b XM.out (lt_of_block XM.out))
        obtain ⟨kn0, kn1, kn2, kn3⟩ := four_cell (box_below b XN.out (lt_of_block XN.out))
        have HCM := hid (t_cmp Y5 _ _ V1 V2 20000 (by omega) (NM.out.below b) (NN.out.below b))
        generalize cmpR V1 V2 = cr at *
        clear b
        go_wp2_with fail
        refine HCM.out.mono ?_
        rintro e Y6 ⟨rfl, b⟩
        have BF := chain2 HB5.out b
        clear km0 km1 km2 km3 kn0 kn1 kn2 kn3 b
        go_wp2
        go_ret
        exact ⟨by first | rfl | simp [hcm], BF⟩
end Go.Proofs.YtbdhanlenekdhaaGreatDoor
