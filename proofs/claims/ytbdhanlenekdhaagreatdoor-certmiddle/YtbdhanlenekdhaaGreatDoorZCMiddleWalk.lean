/- CertMiddle: the walk. -/
import Derived.Test.YtbdhanlenekdhaaGreatDoorZCMidM
import Derived.Test.YtbdhanlenekdhaaGreatDoorPk40
import Derived.Test.YtbdhanlenekdhaaGreatDoorPk42
import Derived.Deep.RegionHeld3
import Derived.Deep.RegionLaw
namespace Go.Proofs.YtbdhanlenekdhaaGreatDoor
open Go.RowKit
set_option linter.unusedVariables false
set_option maxRecDepth 100000
set_option linter.unusedSimpArgs false

theorem own_form1 {w : World} {base size : Nat} {e : TypeId} {v : Value} {n : Nat} {xs : List Value} (h : w.ownsRow base e size v n xs) : ∃ sa sc, v = .slice sa n sc := own_form4 h
theorem str_new (X : World) (s : ByteArray) : ∀ j u, [Value.string s][j]? = some u → (X.alloc (.cells #[.string s] 9)).cell? ((⟨X.heap.size, 0, none⟩ : Addr).add j) = some u := by
  intro j u hu
  rw [add_off, Nat.zero_add]
  exact bxc (box_new X (.cells #[.string s] 9)) j u (by simpa using hu)
set_option maxHeartbeats 25600000 in
theorem cmiddle_any (w : World) (rv ev bv cv sv dv : Value) (P : Prb) (S D : List ByteArray) (hp : IsPrb w rv ev bv cv P) (hs : Strs w sv S) (hd : Strs w dv D) (hmx : Mx w) (htab : Tab w) (hrl : Rl w) :
    Calls Tryz.prog 7 #[.agg #[rv, ev, bv, cv], sv, dv] w fun e w' => e = .returned (.bool true) ∧ Below w.heap.size w w' := by
  obtain ⟨i0, hi0, hz0, hz1, hz2⟩ := info_parts info_string
  obtain ⟨ra, rc, rfl, rl, rm⟩ := hp.rows.slice
  obtain ⟨ea, ec, rfl, el, em⟩ := hp.rel.slice
  obtain ⟨ba, bc, rfl, bl, bm⟩ := hp.b.slice
  obtain ⟨ca, cc, rfl, cl, cm⟩ := hp.c.slice
  obtain ⟨sa, sc, rfl, sl, sm⟩ := hs.slice
  obtain ⟨da, dc, rfl, dl, dm⟩ := hd.slice
  unfold maxLen at rm em bm cm sm dm
  have b0 := boxed2 (Below.refl w.heap.size w) (Obj.cells #[.slice ra P.rows.length rc, .slice ea P.rel.length ec, .slice ba P.b.length bc, .slice ca P.c.length cc] 25) (Obj.cells #[.slice sa S.length sc, .slice da D.length dc] 26)
  have x0 := boxed2_first w (Obj.cells #[.slice ra P.rows.length rc, .slice ea P.rel.length ec, .slice ba P.b.length bc, .slice ca P.c.length cc] 25) (Obj.cells #[.slice sa S.length sc, .slice da D.length dc] 26)
  have z0 := boxed2_second w (Obj.cells #[.slice ra P.rows.length rc, .slice ea P.rel.length ec, .slice ba P.b.length bc, .slice ca P.c.length cc] 25) (Obj.cells #[.slice sa S.length sc, .slice da D.length dc] 26)
  have y0 := bxc x0 0 (.slice ra P.rows.length rc) rfl
  have y1 := bxc x0 1 (.slice ea P.rel.length ec) rfl
  have y2 := bxc x0 2 (.slice ba P.b.length bc) rfl
  have y3 := bxc x0 3 (.slice ca P.c.length cc) rfl
  have HLI := hid (show StrRows _ (.slice (some ⟨w.heap.size + 1, 0, none⟩) 2 2) [S, D] from strRows2 z0 (hs.below b0) (hd.below b0))
  have HP0 := hid (hp.below b0)
  have HS0 := hid (hs.below b0)
  have HD0 := hid (hd.below b0)
  have HMX0 := hid (hmx.below b0)
  have HTB0 := hid (htab.below b0)
  have HRL0 := hid (hrl.below b0)
  have HB0 := hid b0
  have HPB0 := hid x0
  clear hp hmx htab hrl b0 x0 z0 hs hd
  go_enter Tryz.func7, Tryz.ntmps7
  go_wp2_with fail
  generalize (w.alloc (Obj.cells #[.slice ra P.rows.length rc, .slice ea P.rel.length ec, .slice ba P.b.length bc, .slice ca P.c.length cc] 25)).alloc (Obj.cells #[.slice sa S.length sc, .slice da D.length dc] 26) = W0 at *
  refine (heavy11_any W0 _ _ _ _ _ P [S, D] HP0.out HLI.out).mono ?_
  rintro e W ⟨⟨RH, rfl, hRH⟩, b⟩
  have HP := hid (HP0.out.below b)
  have HS := hid (HS0.out.below b)
  have HD := hid (HD0.out.below b)
  have HMX := hid (HMX0.out.below b)
  have HTB := hid (HTB0.out.below b)
  have HRL := hid (HRL0.out.below b)
  have HPB := hid (box_below b HPB0.out (lt_of_block HPB0.out))
  have HB := hid (chain2 HB0.out b)
  clear y0 y1 y2 y3 b HP0 HMX0 HTB0 HRL0 HPB0 HB0 HLI HS0 HD0
  cases RH with
  | true =>
    go_wp2
    go_ret
    exact ⟨rfl, HB.out⟩
  | false =>
  have HSZ := hid (fun (hc : chk P = 0) => hRH rfl (chk_ok hc).rl (by have := (chk_ok hc).rel; have := (chk_ok hc).rl; omega) (by have := (chk_ok hc).b; have := (chk_ok hc).rl; omega) (chk_ok hc).cl)
  clear hRH
  have bL : Below W.heap.size W W := Below.refl _ _
  have yW0 := bxc HPB.out 0 (.slice ra P.rows.length rc) rfl
  have yW1 := bxc HPB.out 1 (.slice ea P.rel.length ec) rfl
  have yW2 := bxc HPB.out 2 (.slice ba P.b.length bc) rfl
  have yW3 := bxc HPB.out 3 (.slice ca P.c.length cc) rfl
  have pbL := box_below bL HPB.out (lt_of_block HPB.out)
  have yL0 := bxc pbL 0 (.slice ra P.rows.length rc) rfl
  have yL1 := bxc pbL 1 (.slice ea P.rel.length ec) rfl
  have yL2 := bxc pbL 2 (.slice ba P.b.length bc) rfl
  have yL3 := bxc pbL 3 (.slice ca P.c.length cc) rfl
  clear pbL
  have HTH := hid (fun (Y : World) (bY : Below W.heap.size W Y) => theirs11_any Y _ _ _ _ P (HP.out.below bY))
  have HSS := hid (fun (hc : chk P = 0) => sz_le (M := [S, D]) (S := S) (by simp) (HSZ.out hc))
  have HDS := hid (fun (hc : chk P = 0) => sz_le (M := [S, D]) (S := D) (by simp) (HSZ.out hc))
  obtain ⟨RF, HRF⟩ : ∃ RF : Bool, Hid (RF = true ↔ FeaS P S) := by obtain ⟨R, h⟩ := boolOf (FeaS P S); exact ⟨R, hid h⟩
  obtain ⟨RG, HRG⟩ : ∃ RG : Bool, Hid (RG = true ↔ FeaS P D) := by obtain ⟨R, h⟩ := boolOf (FeaS P D); exact ⟨R, hid h⟩
  have HFE := hid (fun (Y : World) (bY : Below W.heap.size W Y) => cFeasible_any Y _ _ _ _ _ P S (HP.out.below bY) (HS.out.below bY) HSS.out (HMX.out.below bY) (HTB.out.below bY) (HRL.out.below bY) RF HRF.out)
  have HHF := hid (fun (Y : World) (bY : Below W.heap.size W Y) => hFeasible_any Y _ _ _ _ _ P S (HP.out.below bY) (HS.out.below bY) HSS.out RF HRF.out)
  have HGE := hid (fun (Y : World) (bY : Below W.heap.size W Y) => cFeasible_any Y _ _ _ _ _ P D (HP.out.below bY) (HD.out.below bY) HDS.out (HMX.out.below bY) (HTB.out.below bY) (HRL.out.below bY) RG HRG.out)
  have HHG := hid (fun (Y : World) (bY : Below W.heap.size W Y) => hFeasible_any Y _ _ _ _ _ P D (HP.out.below bY) (HD.out.below bY) HDS.out RG HRG.out)
  have ef : (RF != RF) = false := by simp
  have eg : (RG != RG) = false := by simp
  have F0 := bL.drew
  have HKx := hid (fun (Y : World) (k : Below W.heap.size W Y) => show (Y.cell? ⟨w.heap.size, 0, none⟩ = some (.slice ra P.rows.length rc) ∧ Y.cell? ⟨w.heap.size, 1, none⟩ = some (.slice ea P.rel.length ec) ∧ Y.cell? ⟨w.heap.size, 2, none⟩ = some (.slice ba P.b.length bc) ∧ Y.cell? ⟨w.heap.size, 3, none⟩ = some (.slice ca P.c.length cc)) from ⟨kc' k yW0, kc' k yW1, kc' k yW2, kc' k yW3⟩)
  go_wp2_with fail
  go_region_held3 (fun Z => Z.cell? ⟨w.heap.size, 0, none⟩ = some (.slice ra P.rows.length rc) ∧ Z.cell? ⟨w.heap.size, 1, none⟩ = some (.slice ea P.rel.length ec) ∧ Z.cell? ⟨w.heap.size, 2, none⟩ = some (.slice ba P.b.length bc) ∧ Z.cell? ⟨w.heap.size, 3, none⟩ = some (.slice ca P.c.length cc)) (first | exact HKx.out _ F6 | exact HKx.out _ F5 | exact HKx.out _ F4 | exact HKx.out _ F3 | exact HKx.out _ F2 | exact HKx.out _ F1 | exact HKx.out _ F0) (first
    | (go_at_call 24; have gk := F5; refine (HHG.out _ F5).mono ?_; rintro e Yx ⟨rfl, bb⟩; have F6 := chain2 F5 bb)
    | (go_at_call 11; have gk := F4; refine (HTH.out _ F4).mono ?_; rintro e Yx ⟨rfl, bb⟩; have F5 := chain2 F4 bb)
    | (go_at_call 23; have gk := F3; refine (HGE.out _ F3).mono ?_; rintro e Yx ⟨rfl, bb⟩; have F4 := chain2 F3 bb)
    | (go_at_call 24; have gk := F2; refine (HHF.out _ F2).mono ?_; rintro e Yx ⟨rfl, bb⟩; have F3 := chain2 F2 bb)
    | (go_at_call 11; have gk := F1; refine (HTH.out _ F1).mono ?_; rintro e Yx ⟨rfl, bb⟩; have F2 := chain2 F1 bb)
    | (go_at_call 23; have gk := F0; refine (HFE.out _ F0).mono ?_; rintro e Yx ⟨rfl, bb⟩; have F1 := chain2 F0 bb))
  have bL := F6
  clear HKx F0 F1 F2 F3 F4 F5 F6
  clear ef eg
  have pbL := box_below bL HPB.out (lt_of_block HPB.out); have yL0 := bxc pbL 0 (.slice ra P.rows.length rc) rfl; have yL1 := bxc pbL 1 (.slice ea P.rel.length ec) rfl; have yL2 := bxc pbL 2 (.slice ba P.b.length bc) rfl; have yL3 := bxc pbL 3 (.slice ca P.c.length cc) rfl; clear pbL
  go_wp2_with fail
  refine (HFE.out _ (by first | exact bL | exact bL.drew | exact below_dn bL _)).mono ?_
  rintro e Yx ⟨rfl, b⟩; have bL : Below W.heap.size W Yx := (by first | exact chain2 bL b | exact chain2 bL ⟨b.os, b.tape, b.output, b.size, b.block⟩); have pbL := box_below bL HPB.out (lt_of_block HPB.out); have yL0 := bxc pbL 0 (.slice ra P.rows.length rc) rfl; have yL1 := bxc pbL 1 (.slice ea P.rel.length ec) rfl; have yL2 := bxc pbL 2 (.slice ba P.b.length bc) rfl; have yL3 := bxc pbL 3 (.slice ca P.c.length cc) rfl; clear pbL; clear b
  cases RF with
  | false =>
    have BF := chain2 HB.out bL
    go_wp2
    go_ret
    exact ⟨rfl, BF⟩
  | true =>
  go_wp2_with fail
  refine (HGE.out _ (by first | exact bL | exact bL.drew | exact below_dn bL _)).mono ?_
  rintro e Yx ⟨rfl, b⟩; have bL : Below W.heap.size W Yx := (by first | exact chain2 bL b | exact chain2 bL ⟨b.os, b.tape, b.output, b.size, b.block⟩); have pbL := box_below bL HPB.out (lt_of_block HPB.out); have yL0 := bxc pbL 0 (.slice ra P.rows.length rc) rfl; have yL1 := bxc pbL 1 (.slice ea P.rel.length ec) rfl; have yL2 := bxc pbL 2 (.slice ba P.b.length bc) rfl; have yL3 := bxc pbL 3 (.slice ca P.c.length cc) rfl; clear pbL; clear b
  cases RG with
  | false =>
    have BF := chain2 HB.out bL
    go_wp2
    go_ret
    exact ⟨rfl, BF⟩
  | true =>
    obtain ⟨f1, f2, X, f3, f4, f5⟩ := HRF.out.1 (by first | rfl | trivial)
    obtain ⟨g1, g2, Z, g3, g4, g5⟩ := HRG.out.1 (by first | rfl | trivial)
    have hXZ : X.length = Z.length := by rw [f3.len, g3.len, f2, g2]
    have HNX : Hid (∀ Y, Below W.heap.size W Y → Calls Tryz.prog 12 #[.slice sa S.length sc] Y (fun e w' => (∃ tv C, e = .returned (.tuple #[tv, .int .i64 0]) ∧ TLs w' Y.heap.size tv C X 5100) ∧ Below Y.heap.size Y w')) := hid (fun Y bY => by
      refine (hNumbers_any Y _ S (HS.out.below bY) (HSS.out f1) (by rw [f2]; have := (chk_ok f1).cl; omega)).mono ?_
      rintro e w' ⟨hr, b⟩
      refine ⟨?_, b⟩
      rcases hr with ⟨X', tv, C, hnu, rfl, hl⟩ | ⟨hno, _⟩
      · rw [hnu.uniq f3] at hl
        exact ⟨tv, C, rfl, hl⟩
      · exact absurd ⟨_, f3⟩ hno)
    have HNZ : Hid (∀ Y, Below W.heap.size W Y → Calls Tryz.prog 12 #[.slice da D.length dc] Y (fun e w' => (∃ tv C, e = .returned (.tuple #[tv, .int .i64 0]) ∧ TLs w' Y.heap.size tv C Z 5100) ∧ Below Y.heap.size Y w')) := hid (fun Y bY => by
      refine (hNumbers_any Y _ D (HD.out.below bY) (HDS.out f1) (by rw [g2]; have := (chk_ok f1).cl; omega)).mono ?_
      rintro e w' ⟨hr, b⟩
      refine ⟨?_, b⟩
      rcases hr with ⟨X', tv, C, hnu, rfl, hl⟩ | ⟨hno, _⟩
      · rw [hnu.uniq g3] at hl
        exact ⟨tv, C, rfl, hl⟩
      · exact absurd ⟨_, g3⟩ hno)
    have HVX := hid (fun (s : ByteArray) (er : Int) (h : WorS P P.c S s er) => h.yes f1 f2 f3)
    have HVZ := hid (fun (s : ByteArray) (er : Int) (h : WorS P P.c D s er) => h.yes f1 g2 g3)
    have HXL := hid hXZ
    have HX64 := hid (show X.length ≤ 64 by rw [f3.len, f2]; exact (chk_ok f1).cl)
    have HM10 := hid (show ∀ y ∈ mid X Z, Lt10 298 y from fun y hy => by
      obtain ⟨i, hi, rfl⟩ := List.getElem_of_mem hy
      have hiX : i < X.length := by rw [mid_len _ _ hXZ] at hi; exact hi
      have hiZ : i < Z.length := by omega
      rw [mid_at X Z i hiX hiZ hi]
      have a := nums_at f3 i hiX (by rw [← f3.len]; exact hiX)
      have b := nums_at g3 i hiZ (by rw [← g3.len]; exact hiZ)
      have c := pair_sz (HSZ.out f1) i i (by rw [← f3.len]; exact hiX) (by rw [← g3.len]; exact hiZ)
      exact ((a.add b).mul Lt10.half).mono (by omega))
    have HFM := hid (fun (Q : List ByteArray) (hQ : TxL Q (mid X Z)) => show FeaS P Q from ⟨f1, by rw [hQ.len, mid_len _ _ hXZ, f3.len, f2], mid X Z, hQ.nums, nng_mid hXZ f4 g4, gps_mid hXZ f5 g5⟩)
    have HVM := hid (fun (Q : List ByteArray) (hQ : TxL Q (mid X Z)) (s : ByteArray) (er : Int) (h : WorS P P.c Q s er) => h.yes f1 (by rw [hQ.len, mid_len _ _ hXZ, f3.len, f2]) hQ.nums)
    have HDM := hid (dot_mid P.c X Z hXZ)
    have HL1 := hid (dot_lt47 (chk_ok f1).c9 (f3.lt (HSS.out f1)) (by rw [f3.len, f2]; exact Nat.le_refl _) (by rw [f3.len, f2]; exact (chk_ok f1).cl))
    have HL2 := hid (dot_lt47 (chk_ok f1).c9 (g3.lt (HDS.out f1)) (by rw [g3.len, g2]; exact Nat.le_refl _) (by rw [g3.len, g2]; exact (chk_ok f1).cl))
    clear f1 f2 f3 f4 f5 g1 g2 g3 g4 g5 hXZ HRF HRG
    go_wp2_with fail
    refine (HNX.out _ (by first | exact bL | exact bL.drew | exact below_dn bL _)).mono ?_
    rintro e Yx ⟨⟨tv1, C1, rfl, hl1⟩, b⟩; have bL : Below W.heap.size W Yx := (by first | exact chain2 bL b | exact chain2 bL ⟨b.os, b.tape, b.output, b.size, b.block⟩); have pbL := box_below bL HPB.out (lt_of_block HPB.out); have yL0 := bxc pbL 0 (.slice ra P.rows.length rc) rfl; have yL1 := bxc pbL 1 (.slice ea P.rel.length ec) rfl; have yL2 := bxc pbL 2 (.slice ba P.b.length bc) rfl; have yL3 := bxc pbL 3 (.slice ca P.c.length cc) rfl; clear pbL; have HLX := hid hl1; obtain ⟨ta1, tc1, rfl, hl1a, hl1b⟩ := hl1.slice; clear b hl1
    have HBX := hid bL
    go_wp2_with fail
    refine (HNZ.out _ (by first | exact bL | exact bL.drew | exact below_dn bL _)).mono ?_
    rintro e Yx ⟨⟨tv2, C2, rfl, hl2⟩, b⟩; have bL : Below W.heap.size W Yx := (by first | exact chain2 bL b | exact chain2 bL ⟨b.os, b.tape, b.output, b.size, b.block⟩); have pbL := box_below bL HPB.out (lt_of_block HPB.out); have yL0 := bxc pbL 0 (.slice ra P.rows.length rc) rfl; have yL1 := bxc pbL 1 (.slice ea P.rel.length ec) rfl; have yL2 := bxc pbL 2 (.slice ba P.b.length bc) rfl; have yL3 := bxc pbL 3 (.slice ca P.c.length cc) rfl; clear pbL; have HLZ := hid hl2; have HLX2 := hid (Ls.below (fun h b => h.below b) HLX.out b); obtain ⟨ta2, tc2, rfl, hl2a, hl2b⟩ := hl2.slice; clear b hl2
    go_wp2_with fail
    refine (t_parse_of ⟨#[49, 47, 50]⟩ (1 / 2) _ tx_half (by decide)).mono ?_
    rintro e Y1 ⟨⟨h1, h2, h3, h4, h5, h6, h7, h8, rfl, n1⟩, b⟩
    have bA := (Below.refl Y1.heap.size Y1).alloc (Nat.le_refl _) (Obj.cells #[.bool h1, .slice h2 h3 h4, .bool h5, .slice h6 h7 h8] 43)
    have bA2 := chain2 b bA
    have bL := chain2 bL bA2
    have HH := hid ((n1.below bA).mono (show (⟨#[49, 47, 50]⟩ : ByteArray).size / 9 + 8 ≤ 5100 by decide))
    have HHB := hid (box_new Y1 (Obj.cells #[.bool h1, .slice h2 h3 h4, .bool h5, .slice h6 h7 h8] 43))
    have HLX := hid (Ls.below (fun h b => h.below b) HLX2.out bA2)
    have HLZ := hid (Ls.below (fun h b => h.below b) HLZ.out bA2)
    have HP := hid (HP.out.below bL)
    have HS := hid (HS.out.below bL)
    have HD := hid (HD.out.below bL)
    have HMX := hid (HMX.out.below bL)
    have HTB := hid (HTB.out.below bL)
    have HRL := hid (HRL.out.below bL)
    have HPB := hid (box_below bL HPB.out (lt_of_block HPB.out))
    have HB := hid (chain2 HB.out bL)
    clear b bA bA2 n1 bL HLX2 HBX
    go_wp2_with (first | (refine wpList_store_fresh rfl 43 _ _ rfl _ _ _ rfl (by simp) rfl 4 info_refRat (by rfl) (by rfl) (by simp [Value.oneCell']) ?_))
    have hWs : (Y1.alloc (Obj.cells #[.bool h1, .slice h2 h3 h4, .bool h5, .slice h6 h7 h8] 43)).heap.size = Y1.heap.size + 1 := by simp
    generalize Y1.alloc (Obj.cells #[.bool h1, .slice h2 h3 h4, .bool h5, .slice h6 h7 h8] 43) = W at *
    generalize Y1.heap.size = hb at *
    have o0 : Hid ((W.alloc (Obj.cells #[] 9)).ownsRow W.heap.size 9 1 (.slice (some ⟨hb + 1, 0, none⟩) 0 0) 0 []) := hid (by rw [← hWs]; exact World.ownsRow_made (base := W.heap.size) (e := 9) (size := 1) W #[] 0 (Nat.le_refl _) (Nat.zero_le _) (by simp))
    have HWS := hid hWs
    clear hWs
    have b0 := (Below.refl W.heap.size W).alloc (Nat.le_refl _) (Obj.cells #[] 9)
    generalize W.alloc (Obj.cells #[] 9) = W1 at *
    go_loopw [14, 15] (fun l i wr => ∃ (k : Nat) (Q : List ByteArray), k ≤ X.length ∧ i = .int .i64 (k : Int) ∧ Hid (TxL Q ((mid X Z).take k)) ∧ Hid (wr.ownsRow W.heap.size 9 1 l k (strV Q)) ∧ Below W.heap.size W wr) (fun _ i _ => X.length - (intOf i).toNat)
    case atStart => exact ⟨0, [], Nat.zero_le _, rfl, TxL.nil, o0, b0⟩
    case round =>
      clear o0 b0
      obtain ⟨k, Q, hk, rfl, HQ, HO, bw⟩ := hrel
      obtain ⟨qa, qc, hqe⟩ := own_form1 HO.out
      subst hqe
      have hX64 := HX64.out
      by_cases hlt : k < X.length
      · have hltZ : k < Z.length := by rw [← HXL.out]; exact hlt
        obtain ⟨jg, jc', j0, jx1, jx2, jx3, je, _, jq0, jq1, jq2, jq3, jq⟩ := (Ls.below (fun h b => h.below b) HLX.out bw).at k hlt
        simp only [Value.slice.injEq] at je
        obtain ⟨rfl, -, rfl⟩ := je
        obtain ⟨j1, j2, j3, j4, j5, j6, j7, j8, js⟩ := jq.form
        simp only [Value.agg.injEq, Array.mk.injEq, List.cons.injEq, and_true] at js
        obtain ⟨rfl, rfl, rfl, rfl⟩ := js
        obtain ⟨ug, uc', u0, ux1, ux2, ux3, ue, _, uq0, uq1, uq2, uq3, uq⟩ := (Ls.below (fun h b => h.below b) HLZ.out bw).at k hltZ
        simp only [Value.slice.injEq] at ue
        obtain ⟨rfl, -, rfl⟩ := ue
        obtain ⟨u1, u2, u3, u4, u5, u6, u7, u8, us⟩ := uq.form
        simp only [Value.agg.injEq, Array.mk.injEq, List.cons.injEq, and_true] at us
        obtain ⟨rfl, rfl, rfl, rfl⟩ := us
        have HMA := hid (mid_at X Z k hlt hltZ (by rw [mid_len _ _ HXL.out]; exact hlt))
        have hkm : k < (mid X Z).length := by rw [mid_len _ _ HXL.out]; exact hlt
        have HPUSH := hid (fun (s : ByteArray) (hs : TxR s ((X[k] + Z[k]) * (1 / 2))) => HQ.out.push hkm (by rw [HMA.out]; exact hs))
        have HQA := hid jq
        have HQU := hid uq
        have hhw := box_below bw HHB.out (lt_of_block HHB.out)
        obtain ⟨hh0, hh1, hh2, hh3⟩ := four_cell hhw
        have HHW := hid hhw
        have hbs := bw.size
        clear jq uq hkm HMA hhw
        generalize X[k] = xk at *
        generalize Z[k] = zk at *
        go_wp2_with fail
        go_region_law (first
          | (refine step_append_at rfl _ _ 26 rfl W.heap.size 9 i0 (.string ByteArray.empty) 1 16 Tryz.underlying26 hi0 hz0 hz1 hz2 rfl (by decide) (.slice qa k qc) k _ rfl ((own_below HO.out F3).alloc (.cells #[.string st] 9)) ⟨Y3.heap.size, 0, none⟩ 1 1 [.string st] rfl rfl (str_new _ _) (by intro u hu; simp at hu; subst hu; rfl) (by unfold maxLen; omega) (by omega) (by simp; have := F3.size; omega) ?_; intro v' Y5 o5 hg5 hat5; obtain ⟨qa', qc', rfl⟩ := own_form1 o5)
          | (have gk := F2; go_simp; go_at_call 17; refine (t_text _ _ _ 24006 (by omega) N2).mono ?_; rintro e Y3 ⟨⟨st, rfl, hst⟩, bb⟩; have F3 : Below wr.heap.size wr Y3 := (by first | exact chain2 F2 bb | exact chain2 F2 ⟨bb.os, bb.tape, bb.output, bb.size, bb.block⟩); dsimp only)
          | (have gk := F1; go_simp; go_at_call 16; refine (t_mul _ _ _ (xk + zk) (1 / 2) 12000 (by omega) ((by first | exact N1 | exact N1.below (Below.refl _ _).drew | exact N1.below (below_dn (Below.refl _ _) _)) : TIs _ _ _ _) ((by first | exact HH2 | exact HH2.below (Below.refl _ _).drew | exact HH2.below (below_dn (Below.refl _ _) _)) : TIs _ _ _ _)).mono ?_; rintro e Y2 ⟨v2, rfl, n2, bb⟩; have F2 : Below wr.heap.size wr Y2 := (by first | exact chain2 F1 bb | exact chain2 F1 ⟨bb.os, bb.tape, bb.output, bb.size, bb.block⟩); have N2 := n2.mono (show 2 * 12000 + 6 ≤ 24006 by omega); dsimp only)
          | (go_simp; go_at_call 32; refine (t_add _ _ _ xk zk 5100 (by omega) (HQA.out.below (by first | exact Below.refl _ _ | exact (Below.refl _ _).drew | exact below_dn (Below.refl _ _) _)) (HQU.out.below (by first | exact Below.refl _ _ | exact (Below.refl _ _).drew | exact below_dn (Below.refl _ _) _))).mono ?_; rintro e Y1 ⟨v1, rfl, n1, bb⟩; have F1 : Below wr.heap.size wr Y1 := ⟨bb.os, bb.tape, bb.output, bb.size, bb.block⟩; have N1 := n1.mono (show 2 * 5100 + 6 ≤ 12000 by omega); have HH2 := ((HH.out.below bw).below F1).mono (show 5100 ≤ 12000 by omega); obtain ⟨g0, g1, g2, g3⟩ := four_cell (box_below F1 HHW.out (lt_of_block HHW.out)); dsimp only))
        all_goals
          have bA := (Below.refl Y3.heap.size Y3).alloc (Nat.le_refl _) (Obj.cells #[.string st] 9)
          have F4 := chain2 F3 bA
          have B4 := bw.trans (F4.mono bw.size)
          have B5 := B4.grown hg5 B4.size (fun g hg => (HO.out.lt g hg).1)
          have HPU := hid (HPUSH.out st hst)
          have HO5 := hid (show Y5.ownsRow W.heap.size 9 1 (.slice qa' (k + 1) qc') (k + 1) (strV (Q ++ [st])) by rw [strV_app]; exact o5)
          clear o5 hg5 hat5 bA F4 B4 hh0 hh1 hh2 hh3
          go_wp2
          go_roundw
          case rel => exact ⟨k + 1, Q ++ [st], by omega, by go_num, HPU, HO5, B5⟩
          case measure => simp [intOf]; omega
      · obtain rfl : k = X.length := by omega
        have hml := mid_len X Z HXL.out
        rw [← hml, List.take_length] at HQ
        have hQ600 := HQ.out.small HM10.out
        have hQl : Q.length = X.length := by rw [HQ.out.len, hml]
        have HQS := hid (strs_own HO.out hQl hQ600)
        have HQ6 := hid hQ600
        have HH := hid (HH.out.below bw)
        have HHB := hid (box_below bw HHB.out (lt_of_block HHB.out))
        have bL := bw
        have HP := hid (HP.out.below bL)
        have HS := hid (HS.out.below bL)
        have HD := hid (HD.out.below bL)
        have HMX := hid (HMX.out.below bL)
        have HTB := hid (HTB.out.below bL)
        have HRL := hid (HRL.out.below bL)
        have HPB := hid (box_below bL HPB.out (lt_of_block HPB.out))
        have HB := hid (chain2 HB.out bL)
        clear bL bw hml hQl hQ600 HO hlt HLX HLZ HM10 HFE HHF HGE HHG HNX HNZ HTH HWS
        generalize wr = W at *
        have bL : Below W.heap.size W W := Below.refl _ _
        have pbL := box_below bL HPB.out (lt_of_block HPB.out)
        have yL0 := bxc pbL 0 (.slice ra P.rows.length rc) rfl
        have yL1 := bxc pbL 1 (.slice ea P.rel.length ec) rfl
        have yL2 := bxc pbL 2 (.slice ba P.b.length bc) rfl
        have yL3 := bxc pbL 3 (.slice ca P.c.length cc) rfl
        clear pbL
        have HVA := hid (fun (Y : World) (bY : Below W.heap.size W Y) => cValue_any Y _ _ _ _ _ P S (HP.out.below bY) (HS.out.below bY) HSS.out (HMX.out.below bY) (HTB.out.below bY))
        have HVB := hid (fun (Y : World) (bY : Below W.heap.size W Y) => cValue_any Y _ _ _ _ _ P D (HP.out.below bY) (HD.out.below bY) HDS.out (HMX.out.below bY) (HTB.out.below bY))
        have HVQ := hid (fun (Y : World) (bY : Below W.heap.size W Y) => cValue_any Y _ _ _ _ _ P Q (HP.out.below bY) (HQS.out.below bY) (fun _ => HQ6.out) (HMX.out.below bY) (HTB.out.below bY))
        generalize dot P.c X = V1 at *
        generalize dot P.c Z = V2 at *
        go_wp2_with fail
        refine (HVA.out _ (by first | exact bL | exact bL.drew | exact below_dn bL _)).mono ?_
        rintro e Yx ⟨⟨tx1, er1, rfl, hw1⟩, b⟩; have bL : Below W.heap.size W Yx := (by first | exact chain2 bL b | exact chain2 bL ⟨b.os, b.tape, b.output, b.size, b.block⟩); have pbL := box_below bL HPB.out (lt_of_block HPB.out); have yL0 := bxc pbL 0 (.slice ra P.rows.length rc) rfl; have yL1 := bxc pbL 1 (.slice ea P.rel.length ec) rfl; have yL2 := bxc pbL 2 (.slice ba P.b.length bc) rfl; have yL3 := bxc pbL 3 (.slice ca P.c.length cc) rfl; clear pbL; clear b
        obtain ⟨rfl, ht1⟩ := HVX.out _ _ hw1
        have HT1 := hid ht1
        clear hw1 ht1
        go_wp2_with fail
        refine (HVB.out _ (by first | exact bL | exact bL.drew | exact below_dn bL _)).mono ?_
        rintro e Yx ⟨⟨tx2, er2, rfl, hw2⟩, b⟩; have bL : Below W.heap.size W Yx := (by first | exact chain2 bL b | exact chain2 bL ⟨b.os, b.tape, b.output, b.size, b.block⟩); have pbL := box_below bL HPB.out (lt_of_block HPB.out); have yL0 := bxc pbL 0 (.slice ra P.rows.length rc) rfl; have yL1 := bxc pbL 1 (.slice ea P.rel.length ec) rfl; have yL2 := bxc pbL 2 (.slice ba P.b.length bc) rfl; have yL3 := bxc pbL 3 (.slice ca P.c.length cc) rfl; clear pbL; clear b
        obtain ⟨rfl, ht2⟩ := HVZ.out _ _ hw2
        have HT2 := hid ht2
        clear hw2 ht2
        go_wp2_with fail
        refine (HVQ.out _ (by first | exact bL | exact bL.drew | exact below_dn bL _)).mono ?_
        rintro e Yx ⟨⟨tx3, er3, rfl, hw3⟩, b⟩; have bL : Below W.heap.size W Yx := (by first | exact chain2 bL b | exact chain2 bL ⟨b.os, b.tape, b.output, b.size, b.block⟩); have pbL := box_below bL HPB.out (lt_of_block HPB.out); have yL0 := bxc pbL 0 (.slice ra P.rows.length rc) rfl; have yL1 := bxc pbL 1 (.slice ea P.rel.length ec) rfl; have yL2 := bxc pbL 2 (.slice ba P.b.length bc) rfl; have yL3 := bxc pbL 3 (.slice ca P.c.length cc) rfl; clear pbL; clear b
        obtain ⟨rfl, ht3⟩ := HVM.out Q HQ.out _ _ hw3
        rw [HDM.out] at ht3
        have HT3 := hid ht3
        clear hw3 ht3
        have hz1' := txr_len HT1.out HL1.out (by omega)
        have hz2' := txr_len HT2.out HL2.out (by omega)
        have HP1 := hid (fun (Y : World) => t_parse_of tx1 V1 Y HT1.out (by omega))
        have HP2 := hid (fun (Y : World) => t_parse_of tx2 V2 Y HT2.out (by omega))
        clear yL0 yL1 yL2 yL3
        go_wp2_with fail
        refine (HP1.out _).mono ?_
        rintro e Y1 ⟨⟨m1, m2, m3, m4, m5, m6, m7, m8, rfl, n1⟩, b⟩
        have bL : Below W.heap.size W Y1 := (by first | exact chain2 bL b | exact chain2 bL ⟨b.os, b.tape, b.output, b.size, b.block⟩)
        have bA := (Below.refl Y1.heap.size Y1).alloc (Nat.le_refl _) (Obj.cells #[.bool m1, .slice m2 m3 m4, .bool m5, .slice m6 m7 m8] 43)
        have bL := chain2 bL bA
        have NM := hid ((n1.below bA).mono (show tx1.size / 9 + 8 ≤ 20000 by omega))
        have XM := hid (box_new Y1 (Obj.cells #[.bool m1, .slice m2 m3 m4, .bool m5, .slice m6 m7 m8] 43))
        clear b bA n1
        go_wp2_with (refine wpList_store_fresh rfl 43 _ _ rfl _ _ _ rfl (by simp) rfl 4 info_refRat (by rfl) (by rfl) (by simp [Value.oneCell']) ?_)
        generalize Y1.alloc (Obj.cells #[.bool m1, .slice m2 m3 m4, .bool m5, .slice m6 m7 m8] 43) = W1 at *
        generalize Y1.heap.size = mb at *
        refine (HP2.out _).mono ?_
        rintro e Y2 ⟨⟨n1, n2, n3, n4, n5, n6, n7, n8, rfl, nn⟩, b⟩
        have bA := (Below.refl Y2.heap.size Y2).alloc (Nat.le_refl _) (Obj.cells #[.bool n1, .slice n2 n3 n4, .bool n5, .slice n6 n7 n8] 43)
        have bA2 := chain2 b bA
        have bL := chain2 bL bA2
        have NN := hid ((nn.below bA).mono (show tx2.size / 9 + 8 ≤ 20000 by omega))
        have XN := hid (box_new Y2 (Obj.cells #[.bool n1, .slice n2 n3 n4, .bool n5, .slice n6 n7 n8] 43))
        have NM := hid (NM.out.below bA2)
        have XM := hid (box_below bA2 XM.out (lt_of_block XM.out))
        have HH := hid (HH.out.below bL)
        have HHB := hid (box_below bL HHB.out (lt_of_block HHB.out))
        have HQS := hid (HQS.out.below bL)
        have HP := hid (HP.out.below bL)
        have HMX := hid (HMX.out.below bL)
        have HTB := hid (HTB.out.below bL)
        have HRL := hid (HRL.out.below bL)
        have HPB := hid (box_below bL HPB.out (lt_of_block HPB.out))
        have HB := hid (chain2 HB.out bL)
        clear b bA bA2 nn bL HVA HVB HVQ
        go_wp2_with (refine wpList_store_fresh rfl 43 _ _ rfl _ _ _ rfl (by simp) rfl 4 info_refRat (by rfl) (by rfl) (by simp [Value.oneCell']) ?_)
        generalize Y2.alloc (Obj.cells #[.bool n1, .slice n2 n3 n4, .bool n5, .slice n6 n7 n8] 43) = W at *
        generalize Y2.heap.size = nb at *
        have bL : Below W.heap.size W W := Below.refl _ _
        obtain ⟨vm0, vm1, vm2, vm3⟩ := four_cell XM.out
        obtain ⟨vn0, vn1, vn2, vn3⟩ := four_cell XN.out
        obtain ⟨vh0, vh1, vh2, vh3⟩ := four_cell HHB.out
        have yW0 := bxc HPB.out 0 (.slice ra P.rows.length rc) rfl
        have yW1 := bxc HPB.out 1 (.slice ea P.rel.length ec) rfl
        have yW2 := bxc HPB.out 2 (.slice ba P.b.length bc) rfl
        have yW3 := bxc HPB.out 3 (.slice ca P.c.length cc) rfl
        have HFQ := hid (fun (Y : World) (bY : Below W.heap.size W Y) => cFeasible_any Y _ _ _ _ _ P Q (HP.out.below bY) (HQS.out.below bY) (fun _ => HQ6.out) (HMX.out.below bY) (HTB.out.below bY) (HRL.out.below bY) true ⟨fun _ => HFM.out Q HQ.out, fun _ => rfl⟩)
        have HAD := hid (fun (Y : World) (bY : Below W.heap.size W Y) => t_add Y _ _ V1 V2 20000 (by omega) (NM.out.below bY) (NN.out.below bY))
        have HHM := hid (fun (Y : World) (bY : Below W.heap.size W Y) => (HH.out.below bY).mono (show 5100 ≤ 40006 by omega))
        have HTE := hid (fun (st : ByteArray) (h : TxR st ((V1 + V2) * (1 / 2))) => h.inj HT3.out)
        have F0 := bL.drew
        have HKx := hid (fun (Y : World) (k : Below W.heap.size W Y) => show (Y.cell? ⟨w.heap.size, 0, none⟩ = some (.slice ra P.rows.length rc) ∧ Y.cell? ⟨w.heap.size, 1, none⟩ = some (.slice ea P.rel.length ec) ∧ Y.cell? ⟨w.heap.size, 2, none⟩ = some (.slice ba P.b.length bc) ∧ Y.cell? ⟨w.heap.size, 3, none⟩ = some (.slice ca P.c.length cc) ∧ Y.cell? ⟨mb, 0, none⟩ = some (.bool m1) ∧ Y.cell? ⟨mb, 1, none⟩ = some (.slice m2 m3 m4) ∧ Y.cell? ⟨mb, 2, none⟩ = some (.bool m5) ∧ Y.cell? ⟨mb, 3, none⟩ = some (.slice m6 m7 m8) ∧ Y.cell? ⟨nb, 0, none⟩ = some (.bool n1) ∧ Y.cell? ⟨nb, 1, none⟩ = some (.slice n2 n3 n4) ∧ Y.cell? ⟨nb, 2, none⟩ = some (.bool n5) ∧ Y.cell? ⟨nb, 3, none⟩ = some (.slice n6 n7 n8) ∧ Y.cell? ⟨hb, 0, none⟩ = some (.bool h1) ∧ Y.cell? ⟨hb, 1, none⟩ = some (.slice h2 h3 h4) ∧ Y.cell? ⟨hb, 2, none⟩ = some (.bool h5) ∧ Y.cell? ⟨hb, 3, none⟩ = some (.slice h6 h7 h8)) from ⟨kc' k yW0, kc' k yW1, kc' k yW2, kc' k yW3, kc' k vm0, kc' k vm1, kc' k vm2, kc' k vm3, kc' k vn0, kc' k vn1, kc' k vn2, kc' k vn3, kc' k vh0, kc' k vh1, kc' k vh2, kc' k vh3⟩)
        go_wp2_with fail
        go_region_held3 (fun Z => Z.cell? ⟨w.heap.size, 0, none⟩ = some (.slice ra P.rows.length rc) ∧ Z.cell? ⟨w.heap.size, 1, none⟩ = some (.slice ea P.rel.length ec) ∧ Z.cell? ⟨w.heap.size, 2, none⟩ = some (.slice ba P.b.length bc) ∧ Z.cell? ⟨w.heap.size, 3, none⟩ = some (.slice ca P.c.length cc) ∧ Z.cell? ⟨mb, 0, none⟩ = some (.bool m1) ∧ Z.cell? ⟨mb, 1, none⟩ = some (.slice m2 m3 m4) ∧ Z.cell? ⟨mb, 2, none⟩ = some (.bool m5) ∧ Z.cell? ⟨mb, 3, none⟩ = some (.slice m6 m7 m8) ∧ Z.cell? ⟨nb, 0, none⟩ = some (.bool n1) ∧ Z.cell? ⟨nb, 1, none⟩ = some (.slice n2 n3 n4) ∧ Z.cell? ⟨nb, 2, none⟩ = some (.bool n5) ∧ Z.cell? ⟨nb, 3, none⟩ = some (.slice n6 n7 n8) ∧ Z.cell? ⟨hb, 0, none⟩ = some (.bool h1) ∧ Z.cell? ⟨hb, 1, none⟩ = some (.slice h2 h3 h4) ∧ Z.cell? ⟨hb, 2, none⟩ = some (.bool h5) ∧ Z.cell? ⟨hb, 3, none⟩ = some (.slice h6 h7 h8)) (first | exact HKx.out _ F4 | exact HKx.out _ F3 | exact HKx.out _ F2 | exact HKx.out _ F1 | exact HKx.out _ F0) (first
          | (go_at_call 17; have gk := F3; refine (t_text _ _ _ 80018 (by omega) nb').mono ?_; rintro e Yx ⟨⟨st, rfl, hst⟩, bb⟩; have F4 := chain2 F3 bb; obtain rfl := HTE.out st hst)
          | (go_at_call 16; have gk := F2; refine (t_mul _ _ _ (V1 + V2) (1 / 2) 40006 (by omega) na (HHM.out _ F2)).mono ?_; rintro e Yx ⟨vb, rfl, nb', bb⟩; have F3 := chain2 F2 bb)
          | (go_at_call 32; have gk := F1; refine (HAD.out _ F1).mono ?_; rintro e Yx ⟨va, rfl, na, bb⟩; have F2 := chain2 F1 bb)
          | (go_at_call 23; have gk := F0; refine (HFQ.out _ F0).mono ?_; rintro e Yx ⟨rfl, bb⟩; have F1 := chain2 F0 bb))
        have bL := F4
        clear HKx F0 F1 F2 F3 F4
        have BF := chain2 HB.out bL
        go_wp2
        go_ret
        exact ⟨by first | rfl | simp, by first | exact BF | exact BF.drew | exact below_dn BF _⟩
end Go.Proofs.YtbdhanlenekdhaaGreatDoor
