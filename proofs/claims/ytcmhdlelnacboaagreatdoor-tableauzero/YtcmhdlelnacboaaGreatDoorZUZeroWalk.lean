/- tableau: TableauZero. -/
import Derived.Test.YtcmhdlelnacboaaGreatDoorPk36
import Derived.Test.YtcmhdlelnacboaaGreatDoorPk34
import Derived.Test.YtcmhdlelnacboaaGreatDoorZGNew
import Derived.Deep.RegionHeld3
namespace Go.Proofs.YtcmhdlelnacboaaGreatDoor
open Go.RowKit
set_option linter.unusedVariables false
set_option maxRecDepth 100000
set_option linter.unusedSimpArgs false

set_option maxHeartbeats 12800000 in
theorem tabZero_any (w : World) (rv bv lv : Value) (M : List (List Int)) (B : List Int) (L : List (Int × Int)) (h : IntRows w rv M) (hb : Ints w bv B) (hl : UStp w lv L) (htab : Tab w) :
    Calls Tryz.prog 3 #[rv, bv, lv] w fun e w' => e = .returned (.bool true) ∧ Below w.heap.size w w' := by
  obtain ⟨la, lc, rfl, ll, lm⟩ := hl.slice
  unfold maxLen at lm
  have HI := hid h
  have HB := hid hb
  have HL := hid hl
  have HTB := hid htab
  have HV := hid (heavy12_any w rv bv la L.length lc M B h hb ll lm)
  obtain ⟨ra, rc, rfl, rl, rm⟩ := h.slice
  obtain ⟨ba, bc, rfl, bl, bm⟩ := hb.slice
  clear h hb hl htab
  go_enter Tryz.func3, Tryz.ntmps3
  go_wp2_with fail
  refine HV.out.mono ?_
  rintro e X0 ⟨⟨hvB, rfl, -⟩, hX⟩
  subst hX
  cases hvB with
  | true =>
    go_wp2
    go_ret
    exact ⟨rfl, Below.refl _ _⟩
  | false =>
  clear HV
  go_wp2_with fail
  refine (uNew_any X0 _ _ M B HI.out HB.out).mono ?_
  rintro e X1 ⟨hr1, bX1⟩
  have HI1 := hid (HI.out.below bX1)
  have HB1 := hid (HB.out.below bX1)
  rcases hr1 with ⟨hne, rfl⟩ | ⟨hz, tb, rfl, htb, hT⟩
  · have HNE := hid hne
    clear hne
    go_wp2_with fail
    refine (gNew_any X1 _ _ M B HI1.out HB1.out).mono ?_
    rintro e X2 ⟨hr2, bX2⟩
    have BF := chain2 bX1 bX2
    rcases hr2 with ⟨-, rfl⟩ | ⟨hz, _⟩
    · generalize unw M B = R at *
      have d1 : (R == 0) = false := beq_eq_false_iff_ne.2 HNE.out
      have d2 : ¬ R = 0 := HNE.out
      go_wp2
      go_ret
      exact ⟨rfl, BF⟩
    · exact absurd hz HNE.out
  have HT := hid hT
  have HZ := hid hz
  have HU := hid (uzip_ok hz)
  clear hT hz
  go_wp2_with fail
  refine (gNew_any X1 _ _ M B HI1.out HB1.out).mono ?_
  rintro e X2 ⟨hr2, bX2⟩
  rcases hr2 with ⟨hne, _⟩ | ⟨_, gb, rfl, hgb, hG⟩
  · exact absurd HZ.out hne
  have BF := chain2 bX1 bX2
  have HT2 := hid (HT.out.below bX2)
  have HG2 := hid hG
  have HL2 := hid (HL.out.below BF)
  have HTB2 := hid (HTB.out.below BF)
  obtain ⟨u1, u2, u3, u4, u5, u6⟩ := HU.out
  have HAG := hid u6
  have HCO := hid u1
  have HD : Hid (∀ i k (hi : i < (uzip M B).length) (hk : k < ((uzip M B)[i]).1.length), ((((uzip M B)[i]).1[k] : Int) : Rat) / ((((uzip M B)[i]).2.1 : Int) : Rat) = 0 → ((uzip M B)[i]).1[k] = 0) := hid (uzip_zero M B)
  clear hG HT HI1 HB1 bX1 bX2 htb hgb HZ HU HI HB HL HTB u1 u4 u5 u6
  generalize uzip M B = A at *
  generalize ratM M = X at *
  have HUA := hid (fun (Y : World) (bY : Below X2.heap.size X2 Y) (r c : Int) => uAt_any Y tb A 3 (by omega) (HT2.out.below bY) u3 HCO.out u2 r c (HTB2.out.below bY))
  have HGA := hid (fun (Y : World) (bY : Below X2.heap.size X2 Y) (r c : Int) => gAt_any Y gb X B 3 (by omega) (HG2.out.below bY) r c)
  have HSM := hid (fun (Y : World) (bY : Below X2.heap.size X2 Y) => same12_any Y tb gb A X B 3 3 (by omega) (by omega) (HT2.out.below bY) (HG2.out.below bY) HAG.out u3 HCO.out u2 (HTB2.out.below bY))
  have HSA := hid (fun (r c : Int) (s t : ByteArray) (hs : UAtP A r c s) (ht : GAtP X r c t) => HAG.out.at HCO.out hs ht)
  have HPN := hid (fun (Y : World) (bY : Below X2.heap.size X2 Y) (r c : Int) (hs : UAtP A r c ByteArray.empty) => show Calls Tryz.prog 14 #[.pointer (some ⟨tb, 0, none⟩), .int .i64 r, .int .i64 c] Y (fun e w' => e = .returned (.int .i64 1) ∧ Below Y.heap.size Y w') from by
    rcases hs with ⟨hu, _⟩ | ⟨i, k, hi, hk, rfl, rfl, ht⟩
    · refine (uPivot_none Y tb A 3 (by omega) (HT2.out.below bY) r c hu).mono ?_
      rintro e Y2 ⟨rfl, rfl⟩
      exact ⟨rfl, Below.refl _ _⟩
    · exact absurd ht txr_empty)
  have HPZ := hid (fun (Y : World) (bY : Below X2.heap.size X2 Y) (r c : Int) (hs : UAtP A r c ⟨#[48]⟩) => show Calls Tryz.prog 14 #[.pointer (some ⟨tb, 0, none⟩), .int .i64 r, .int .i64 c] Y (fun e w' => e = .returned (.int .i64 12) ∧ Below Y.heap.size Y w') from by
    rcases hs with ⟨_, hu⟩ | ⟨i, k, hi, hk, rfl, rfl, ht⟩
    · exact absurd (congrArg ByteArray.size hu) (by decide)
    · exact uPivot_zero Y tb A 3 (by omega) (HT2.out.below bY) HCO.out u2 u3 i k hi hk (by have := txr_eq0 ht; exact HD.out i k hi hk this))
  go_wp2
  go_loopw [11] (fun i wr => ∃ k : Nat, k ≤ L.length ∧ i = .int .i64 (k : Int) ∧ Below X2.heap.size X2 wr) (fun i _ => L.length - (intOf i).toNat)
  case atStart => exact ⟨0, Nat.zero_le _, rfl, Below.refl _ _⟩
  case round =>
    obtain ⟨k, hk, rfl, bw⟩ := hrel
    by_cases hlt : k < L.length
    · obtain ⟨sb, so, sc, e, hc1, hc2⟩ := (HL2.out.below bw).at k hlt
      simp only [Value.slice.injEq] at e
      obtain ⟨rfl, -, rfl⟩ := e
      generalize (L[k]).1 = r at *
      generalize (L[k]).2 = c at *
      have HKx := hid (fun (Z : World) (kz : Below wr.heap.size wr Z) => show (Z.cell? ⟨sb, so + k * 2, none⟩ = some (.int .i64 r) ∧ Z.cell? ⟨sb, so + k * 2 + 1, none⟩ = some (.int .i64 c)) from ⟨kcU kz hc1, kcU kz hc2⟩)
      have HUW := hid (fun (Y : World) (bY : Below wr.heap.size wr Y) => HUA.out Y (chain2 bw bY) r c)
      have HGW := hid (fun (Y : World) (bY : Below wr.heap.size wr Y) => HGA.out Y (chain2 bw bY) r c)
      have G0 : Below wr.heap.size wr wr.drew := (Below.refl _ _).drew
      go_wp2_with fail
      go_region_held3 (fun Z => Z.cell? ⟨sb, so + k * 2, none⟩ = some (.int .i64 r) ∧ Z.cell? ⟨sb, so + k * 2 + 1, none⟩ = some (.int .i64 c)) (first | exact HKx.out _ G1 | exact HKx.out _ G0) (first
        | (go_at_call 12; have gk := G0; refine (HUW.out _ G0).mono ?_; rintro e YS ⟨⟨s, rfl, hs⟩, bb⟩; have G1 := chain2 G0 bb))
      have E1 := G1
      have HS1 := hid hs
      clear hs
      go_wp2_with fail
      have G0 := E1.drew
      go_region_held3 (fun Z => Z.cell? ⟨sb, so + k * 2, none⟩ = some (.int .i64 r) ∧ Z.cell? ⟨sb, so + k * 2 + 1, none⟩ = some (.int .i64 c)) (first | exact HKx.out _ G2 | exact HKx.out _ G0) (first
        | (go_at_call 13; have gk := G0; refine (HGW.out _ G0).mono ?_; rintro e YS ⟨⟨s2, rfl, hs2⟩, bb⟩; have hst := HSA.out _ _ _ _ HS1.out hs2; subst hst; have G2 := chain2 G0 bb))
      have E2 := G2
      clear hs2
      clear E1 G0 G1 HUW HGW
      have bw2 := chain2 bw E2
      by_cases h0 : s = ⟨#[48]⟩
      · subst h0
        have HPW := hid (fun (Y : World) (bY : Below wr.heap.size wr Y) => HPZ.out Y (chain2 bw bY) r c HS1.out)
        go_wp2
        have G0 := E2.drew
        go_region_held3 (fun Z => Z.cell? ⟨sb, so + k * 2, none⟩ = some (.int .i64 r) ∧ Z.cell? ⟨sb, so + k * 2 + 1, none⟩ = some (.int .i64 c)) (first | exact HKx.out _ G3 | exact HKx.out _ G0) (first
          | (go_at_call 14; have gk := G0; refine (HPW.out _ G0).mono ?_; rintro e YS ⟨rfl, bb⟩; have G3 := chain2 G0 bb))
        have bw3 := chain2 bw G3
        go_wp2_with fail
        refine (HSM.out _ bw3).mono ?_
        rintro e X3 ⟨rfl, bX3⟩
        go_wp2
        go_roundw
        case rel => exact ⟨k + 1, by omega, by go_num, chain2 bw3 bX3⟩
        case measure => simp [intOf]; omega
      by_cases h1 : s = ⟨#[]⟩
      · subst h1
        have HPW := hid (fun (Y : World) (bY : Below wr.heap.size wr Y) => HPN.out Y (chain2 bw bY) r c HS1.out)
        go_wp2
        have G0 := E2.drew
        go_region_held3 (fun Z => Z.cell? ⟨sb, so + k * 2, none⟩ = some (.int .i64 r) ∧ Z.cell? ⟨sb, so + k * 2 + 1, none⟩ = some (.int .i64 c)) (first | exact HKx.out _ G3 | exact HKx.out _ G0) (first
          | (go_at_call 14; have gk := G0; refine (HPW.out _ G0).mono ?_; rintro e YS ⟨rfl, bb⟩; have G3 := chain2 G0 bb))
        have bw3 := chain2 bw G3
        go_wp2_with fail
        refine (HSM.out _ bw3).mono ?_
        rintro e X3 ⟨rfl, bX3⟩
        go_wp2
        go_roundw
        case rel => exact ⟨k + 1, by omega, by go_num, chain2 bw3 bX3⟩
        case measure => simp [intOf]; omega
      obtain ⟨t1, t2⟩ := toL_neU (l := [48]) h0
      obtain ⟨t3, t4⟩ := toL_neU (l := []) h1
      clear h0 h1
      go_wp2
      go_roundw
      case rel => exact ⟨k + 1, by omega, by go_num, bw2⟩
      case measure => simp [intOf]; omega
    · obtain rfl : k = L.length := by omega
      go_wp2_with fail
      refine (HSM.out _ bw).mono ?_
      rintro e X3 ⟨rfl, bX3⟩
      go_wp2
      go_ret
      exact ⟨rfl, chain2 BF (chain2 bw bX3)⟩
end Go.Proofs.YtcmhdlelnacboaaGreatDoor
