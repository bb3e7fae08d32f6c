/- TableauBack: the walk. -/
import Derived.Test.YtgojlegknlalpaaGreatDoorZUBackM
import Derived.Test.YtgojlegknlalpaaGreatDoorPk34
import Derived.Test.YtgojlegknlalpaaGreatDoorZGNew
import Derived.Deep.QuietTactic
namespace Go.Proofs.YtgojlegknlalpaaGreatDoor
open Go.RowKit
set_option linter.unusedVariables false
set_option maxRecDepth 100000
set_option linter.unusedSimpArgs false

theorem umade (n : Nat) : madeCells (Value.cells (.int .i64 0)) (n * 1) = (intV (List.replicate n 0)).toArray := by
  apply Array.toList_inj.1
  have : (madeCells (Value.cells (.int .i64 0)) (n * 1)).toList = List.replicate (n * 1) (Value.int .i64 0) := toList_madeCells_one _ _
  rw [this]
  simp [intV]
theorem umake (n : Nat) (hn : n ≤ 1000) (V : World) : (Instr.makeSlice 23 (.int .i64 (n : Int)) (.int .i64 (n : Int))).run Tryz.prog V = .ok (.slice (some ⟨V.heap.size, 0, none⟩) n n) (V.alloc (.cells (intV (List.replicate n 0)).toArray 3)) := by
  obtain ⟨i0, hi0, hz0, hz1, hz2⟩ := info_parts info_intU
  have := run_make (P := Tryz.prog) (w := V) 23 3 i0 (.int .i64 0) Tryz.underlying23 hi0 hz0 .i64 .i64 (n : Int) (n : Int) (by omega) (by omega) (by rw [hz2]; omega) (by omega)
  rw [hz1] at this
  simp only [Int.toNat_natCast] at this
  rw [umade] at this
  exact this
set_option maxHeartbeats 12800000 in
theorem tabBack_any (w : World) (rv : Value) (M : List (List Int)) (r a b : Int) (h : IntRows w rv M) (htab : Tab w) (hM : M.length ≤ 1152921504606846976) :
    Calls Tryz.prog 8 #[rv, .int .i64 r, .int .i64 a, .int .i64 b] w fun e w' => e = .returned (.bool true) ∧ Below w.heap.size w w' := by
  have HI := hid h
  have HTB := hid htab
  have HV := hid (heavy12_any w rv (.slice none 0 0) none 0 0 M [] h (Row1.nil w) (Nat.le_refl _) (Nat.zero_le _))
  have HSZ := hid hM
  obtain ⟨ra, rc, rfl, rl, rm⟩ := h.slice
  unfold maxLen at rm
  clear h htab hM
  go_enter Tryz.func8, Tryz.ntmps8
  go_wp2_with fail
  refine HV.out.mono ?_
  rintro e X0 ⟨⟨hvB, rfl, hv⟩, hX⟩
  subst hX
  have HVV := hid hv
  clear hv
  cases hvB with
  | true =>
    go_wp2
    go_ret
    exact ⟨rfl, Below.refl _ _⟩
  | false =>
  have HL : Hid (M.length ≤ 256) := hid (by have := HVV.out rfl HSZ.out (Nat.zero_le _) (Nat.zero_le _); omega)
  clear HV HVV HSZ
  have HMK := umake M.length (by have := HL.out; omega)
  have bA := (Below.refl X0.heap.size X0).alloc (Nat.le_refl _) (Obj.cells (intV (List.replicate M.length 0)).toArray 3)
  have HB0 : Hid (Ints (X0.alloc (Obj.cells (intV (List.replicate M.length 0)).toArray 3)) (.slice (some ⟨X0.heap.size, 0, none⟩) M.length M.length) (List.replicate M.length 0)) := hid (by
    have h1 := Row1.of_block (box_new X0 (Obj.cells (intV (List.replicate M.length 0)).toArray 3)) (by rw [intV_len, List.length_replicate]; unfold maxLen; have := HL.out; omega)
    rw [intV_len, List.length_replicate] at h1
    exact h1)
  obtain ⟨Bs, HBs⟩ : ∃ Bs, Hid (List.replicate M.length (0 : Int) = Bs) := ⟨_, hid rfl⟩
  rw [HBs.out] at HMK bA HB0
  have HI0 := hid (HI.out.below bA)
  go_wp2_with fail
  generalize hWA : X0.alloc (Obj.cells (intV Bs).toArray 3) = WA at *
  clear HMK hWA
  obtain ⟨ba, hba⟩ : ∃ ba, ba = X0.heap.size := ⟨_, rfl⟩
  rw [← hba] at HB0 ⊢
  clear hba
  refine (uNewB_any WA _ _ M Bs HI0.out HB0.out).mono ?_
  rintro e X1 ⟨hr1, bX1⟩
  have HI1 := hid (HI0.out.below bX1)
  have HB1 := hid (HB0.out.below bX1)
  rcases hr1 with ⟨hne, rfl⟩ | ⟨hz, tb, rfl, htb, hT⟩
  · have HNE := hid hne
    clear hne
    go_wp2_with fail
    refine (uNewB_any X1 _ _ M Bs HI1.out HB1.out).mono ?_
    rintro e X2 ⟨hr2, bX2⟩
    have HI2 := hid (HI1.out.below bX2)
    have HB2 := hid (HB1.out.below bX2)
    rcases hr2 with ⟨-, rfl⟩ | ⟨hz, _⟩
    · go_wp2_with fail
      refine (gNew_any X2 _ _ M Bs HI2.out HB2.out).mono ?_
      rintro e X3 ⟨hr3, bX3⟩
      have BF := chain2 (chain2 (chain2 bA bX1) bX2) bX3
      rcases hr3 with ⟨-, rfl⟩ | ⟨hz, _⟩
      · generalize unw M Bs = R at *
        have d1 : (R == 0) = false := beq_eq_false_iff_ne.2 HNE.out
        have d2 : ¬ R = 0 := HNE.out
        go_wp2
        go_ret
        exact ⟨rfl, BF⟩
      · exact absurd hz HNE.out
    · exact absurd hz HNE.out
  have HT := hid hT
  have HZ := hid hz
  clear hT hz
  go_wp2_with fail
  refine (uNewB_any X1 _ _ M Bs HI1.out HB1.out).mono ?_
  rintro e X2 ⟨hr2, bX2⟩
  have HI2 := hid (HI1.out.below bX2)
  have HB2 := hid (HB1.out.below bX2)
  rcases hr2 with ⟨hne, _⟩ | ⟨_, ub, rfl, hub, hU⟩
  · exact absurd HZ.out hne
  have HTt := hid (HT.out.below bX2)
  have HUu := hid hU
  clear hU
  go_wp2_with fail
  refine (gNew_any X2 _ _ M Bs HI2.out HB2.out).mono ?_
  rintro e X3 ⟨hr3, bX3⟩
  rcases hr3 with ⟨hne, _⟩ | ⟨_, gb, rfl, hgb, hG⟩
  · exact absurd HZ.out hne
  have HT3 := hid (HTt.out.below bX3)
  have HU3 := hid (HUu.out.below bX3)
  have HIN := hid (uzip_inv HZ.out)
  obtain ⟨u1, u2, u3, u4, u5, u6⟩ := uzip_ok HZ.out
  have HCL := hid u2
  have HA64 := hid u3
  have B3 := chain2 (chain2 (chain2 bA bX1) bX2) bX3
  have HTT := hid (fun (Y : World) (b : Below X1.heap.size X1 Y) => HT.out.below b)
  have HTG := hid (fun (h0 : 0 < (uzip M Bs).length) => HT.out.tg h0)
  have HTH := hid (fun (g : Nat) (h : UTg X1 WA.heap.size tb g (uzip M Bs) 3) (Y : World) (b : Below X1.heap.size X1 Y) => show UTg Y WA.heap.size tb g (uzip M Bs) 3 from h.below b)
  have HB13 := hid (chain2 bX2 bX3)
  have HSW : Hid (WA.heap.size ≤ X1.heap.size) := hid bX1.size
  have HS0 : Hid (X0.heap.size ≤ WA.heap.size) := hid bA.size
  have HTBX := hid (fun (Y : World) (b : Below X0.heap.size X0 Y) => HTB.out.below b)
  have HB3 := hid B3
  clear HT HTt HUu HI HI0 HI1 HI2 HB0 HB1 HB2 HTB bX1 bX2 bX3 bA htb hub hgb hG u1 u2 u3 u4 u5 u6 HBs HL B3 HT3
  generalize uzip M Bs = A at *
  go_wp2_with fail
  refine (uPivotS_any X3 X1.heap.size ub A 19 3 5 (by decide) (by decide) (by decide) (by decide) HU3.out HB13.out.size HIN.out HCL.out HA64.out r b).mono ?_
  rintro e X4 ⟨n, A', rfl, hp, hU4, b4⟩
  have HP := hid hp
  have HB4 : Hid (Below X0.heap.size X0 X4) := hid (HB3.out.trans (b4.mono (by have h1 := HSW.out; have h2 := HS0.out; omega)))
  have HB14 := hid (HB13.out.trans b4)
  have HU4 := hid hU4
  clear hp hU4 b4 HU3 HB13 HB3
  by_cases hn : n = 0
  case neg =>
    have hn2 : (n == 0) = false := beq_eq_false_iff_ne.2 hn
    have HN := hid hn
    go_wp2_with fail
    refine (uPivotS_any X4 WA.heap.size tb A 19 3 5 (by decide) (by decide) (by decide) (by decide) (HTT.out X4 HB14.out) (by have h1 := HB14.out.size; have h2 := HSW.out; omega) HIN.out HCL.out HA64.out r b).mono ?_
    rintro e X5 ⟨n2, A2, rfl, hp2, -, b5⟩
    obtain ⟨rfl, -⟩ := HP.out.uniq hp2 HIN.out.len
    have BF : Below X0.heap.size X0 X5 := HB4.out.trans (b5.mono HS0.out)
    go_wp2
    go_ret
    exact ⟨rfl, BF⟩
  subst hn
  obtain ⟨i, k, hi, hk, rfl, rfl, hne, rfl⟩ := HP.out.ok
  have HI := hid hi
  have HK := hid hk
  have HNE := hid hne
  obtain ⟨g, hg1, hg2, hg3⟩ := HTG.out (by omega)
  have HG4 := hid (HTH.out g hg3 X4 HB14.out)
  have HGL := hid hg1
  have HGU := hid hg2
  have HKE := hid (pivS_keeps HIN.out HP.out)
  clear hk hne hg1 hg2 hg3 HTG HTH HTT
  go_wp2_with fail
  refine (uPivotG_any X4 WA.heap.size tb g A 19 3 5 (by decide) (by decide) (by decide) (by decide) HG4.out HIN.out HCL.out HA64.out (i : Int) a).mono ?_
  rintro e X5 ⟨n1, A1, rfl, hp1, hG5, g5⟩
  have HP1 := hid hp1
  have HG5 := hid hG5
  have HU5 := hid (HU4.out.bg g5 HG4.out.cells HGU.out)
  have HB5 : Hid (Below X0.heap.size X0 X5) := hid (HB4.out.trans (g5.below (by have h1 := HS0.out; have h2 := HGL.out; omega) HB4.out.size))
  have HS5 : Hid (X1.heap.size ≤ X5.heap.size) := hid (by have h1 := HB14.out.size; have h2 := g5.size; omega)
  clear hp1 hG5 g5 HU4 HG4 HB4 HB14
  by_cases hn1 : n1 = 0
  case neg =>
    have hn2 : (n1 == 0) = false := beq_eq_false_iff_ne.2 hn1
    have HN := hid hn1
    go_wp2_with fail
    refine (uPivotS_any X5 X1.heap.size ub (pivA A i k) 39 5 9 (by decide) (by decide) (by decide) (by decide) HU5.out HS5.out HKE.out.2.2 (by rw [HKE.out.2.1]; exact HCL.out) (by rw [HKE.out.1]; exact HA64.out) (i : Int) a).mono ?_
    rintro e X6 ⟨n3, A3, rfl, hp3, -, b6⟩
    have h3 : n3 ≠ 0 := back_no HIN.out HI.out HK.out HNE.out HP1.out HN.out hp3
    have h32 : (n3 == 0) = false := beq_eq_false_iff_ne.2 h3
    have BF : Below X0.heap.size X0 X6 := HB5.out.trans (b6.mono (by have h1 := HSW.out; have h2 := HS0.out; omega))
    go_wp2
    go_ret
    refine ⟨?_, BF⟩
    show Ending.returned (.bool (n3 != 0)) = _
    rw [show (n3 != 0) = true from by simp [h3]]
  subst hn1
  have HKE1 := hid (pivS_keeps HIN.out HP1.out)
  go_wp2_with fail
  refine (uPivotG_any X5 WA.heap.size tb g A1 39 5 9 (by decide) (by decide) (by decide) (by decide) HG5.out HKE1.out.2.2 (by rw [HKE1.out.2.1]; exact HCL.out) (by rw [HKE1.out.1]; exact HA64.out) (i : Int) (k : Int)).mono ?_
  rintro e X6 ⟨n2, A2, rfl, hp2, hG6, g6⟩
  have HY := hid (back_yes HIN.out HI.out HK.out HNE.out HP1.out hp2)
  obtain rfl := HY.out.1
  have HG6 := hid hG6.tn
  have HU6 := hid (HU5.out.bg g6 HG5.out.cells HGU.out)
  have HB6 : Hid (Below X0.heap.size X0 X6) := hid (HB5.out.trans (g6.below (by have h1 := HS0.out; have h2 := HGL.out; omega) HB5.out.size))
  clear hp2 hG6 g6 HU5 HG5 HB5
  have HUC : Hid (ucols A2 = ucols A) := hid HY.out.2.2.1
  have HLT : Hid (i < A2.length) := hid (by rw [HY.out.2.1]; exact HI.out)
  have HLU : Hid (i < (pivA A i k).length) := hid (by rw [pivA_len]; exact HI.out)
  have HUC2 : Hid (ucols (pivA A i k) = ucols A) := hid HKE.out.2.1
  have HCO := hid (fun (Y : World) (b : Below X6.heap.size X6 Y) => uColumns_any Y tb A2 9 (HG6.out.below b).tb)
  have HAT := hid (fun (Y : World) (b : Below X6.heap.size X6 Y) (x : Int) => uAt_any Y tb A2 9 (by omega) (HG6.out.below b).tb (by rw [HY.out.2.1]; exact HA64.out) HY.out.2.2.2.1.len (by rw [HUC.out]; exact HCL.out) (i : Int) x (HTBX.out Y (HB6.out.trans (b.mono HB6.out.size))))
  have HAU := hid (fun (Y : World) (b : Below X6.heap.size X6 Y) (x : Int) => uAt_any Y ub (pivA A i k) 5 (by omega) (HU6.out.below b).tb (by rw [HKE.out.1]; exact HA64.out) HKE.out.2.2.len (by rw [HKE.out.2.1]; exact HCL.out) (i : Int) x (HTBX.out Y (HB6.out.trans (b.mono HB6.out.size))))
  have HEQ := hid (fun (x : Nat) (hx : x < ucols A) (s t : ByteArray) (h1 : UAtP A2 (i : Int) (x : Int) s) (h2 : UAtP (pivA A i k) (i : Int) (x : Int) t) => show t = s from by
    have q1 := uatp_at HY.out.2.2.2.1 HLT.out (by rw [HUC.out]; exact hx) h1
    have q2 := uatp_at HKE.out.2.2 HLU.out (by rw [HUC2.out]; exact hx) h2
    rw [HY.out.2.2.2.2 x hx HLT.out HLU.out] at q1
    exact TxR.inj q2 q1)
  obtain ⟨uc, HUCE⟩ : ∃ uc, Hid (ucols A = uc) := ⟨_, hid rfl⟩
  rw [HUC.out] at HCO
  rw [HUCE.out] at HEQ HCO
  clear HY HP HP1 HKE HKE1 HIN HNE HK HI HG6 HU6 HLT HLU HUC HUC2 HTBX
  have HCB : Hid (uc ≤ 192) := hid (by rw [← HUCE.out]; exact HCL.out)
  go_wp2_with fail
  go_loopw [16] (fun iv wr => ∃ x : Nat, x ≤ uc ∧ iv = .int .i64 (x : Int) ∧ Below X6.heap.size X6 wr) (fun iv _ => uc - (intOf iv).toNat)
  case atStart => exact ⟨0, Nat.zero_le _, rfl, Below.refl _ _⟩
  case round =>
    obtain ⟨x, hx, rfl, bw⟩ := hrel
    go_wp2_with fail
    refine (HCO.out _ bw).mono ?_
    rintro e X7 ⟨rfl, rfl⟩
    by_cases hlt : x < uc
    · have hx2 : x ≤ 192 := by have := HCB.out; omega
      go_wp2_with fail
      refine (HAT.out _ bw x).mono ?_
      rintro e X8 ⟨⟨s, rfl, h8⟩, b8⟩
      have H8 := hid h8
      have bw8 := chain2 bw b8
      clear h8
      go_wp2_with fail
      refine (HAU.out _ bw8 x).mono ?_
      rintro e X9 ⟨⟨t, rfl, h9⟩, b9⟩
      obtain rfl := HEQ.out x hlt s t H8.out h9
      have bw9 := chain2 bw8 b9
      clear h9 H8
      go_wp2
      go_roundw
      case rel => exact ⟨x + 1, by omega, by go_num, bw9⟩
      case measure => simp [intOf]; omega
    · obtain rfl : x = uc := by omega
      have BF := HB6.out.trans (bw.mono HB6.out.size)
      go_wp2
      go_ret
      exact ⟨rfl, BF⟩
theorem tabBack_own (w : World) (rv : Value) (M : List (List Int)) (h : IntRows w rv M) (htab : Tab w) (hM : M.length ≤ 1152921504606846976) (r : Int) {p1 : Prop} (_ : p1) (a : Int) {p2 : Prop} (_ : p2) (b : Int) {p3 : Prop} (_ : p3) :
    Calls Tryz.prog 8 #[rv, .int .i64 r, .int .i64 a, .int .i64 b] w fun e w' => e = .returned (.bool true) ∧ Below w.heap.size w w' := tabBack_any w rv M r a b h htab hM
end Go.Proofs.YtgojlegknlalpaaGreatDoor
