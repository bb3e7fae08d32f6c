/- tableau: cleared. -/
import Derived.Test.YtgojlegknlalpaaGreatDoorPk39
import Derived.Deep.RegionWith
import Derived.Deep.RegionLaw
import Derived.Deep.RegionHeld3
namespace Go.Proofs.YtgojlegknlalpaaGreatDoor
open Go.RowKit
set_option linter.unusedVariables false
set_option maxRecDepth 100000
set_option linter.unusedSimpArgs false

theorem grown_cell {U Y : World} {row : Option Nat} {x : Nat} {o : Nat} {v : Value} (hg : U.grownBy Y row) (hne : row ≠ some x) (h : U.cell? ⟨x, o, none⟩ = some v) : Y.cell? ⟨x, o, none⟩ = some v := by
  have e := hg.block x (World.block_lt_of_cell? U _ h) (fun e => hne e.symm)
  simp only [World.cell?] at h ⊢
  rw [e]
  exact h
set_option maxHeartbeats 25600000 in
theorem ucleared_any (w : World) (ta : Option Addr) (n tc : Nat) (a1 : Option Addr) (l1 c1 : Nat) (b1 : Bool) (a2 : Option Addr) (l2 c2 : Nat) (b2 : Bool) (pa : Option Addr) (pn pc : Nat) (a3 : Option Addr) (l3 c3 : Nat) (b3 : Bool) (a4 : Option Addr) (l4 c4 : Nat) (b4 : Bool) (T P : List Int) (b pb : Int) (m K K2 : Nat) (hKm : K = m / 9 + 1) (hm : 18 ≤ m) (hK2 : K2 = (2 * m + 1) / 9 + 1) (hK : K2 ≤ 200000) (h : ULi w (.slice ta n tc) (.slice a1 l1 c1) (.bool b1) (.slice a2 l2 c2) (.bool b2) T b K) (hp : ULi w (.slice pa pn pc) (.slice a3 l3 c3) (.bool b3) (.slice a4 l4 c4) (.bool b4) P pb K) (hPT : P.length = T.length) (k : Nat) (hk : k < T.length) (hkN : T.length ≤ 192) (hT : ∀ t ∈ T, t.natAbs < 10 ^ m) (hP : ∀ t ∈ P, t.natAbs < 10 ^ m) (hbm : b.natAbs < 10 ^ m) (hpm : pb.natAbs < 10 ^ m) :
    Calls Tryz.prog 35 #[.agg #[.slice ta n tc, .slice a1 l1 c1, .bool b1, .slice a2 l2 c2, .bool b2], .int .i64 (k : Int), .agg #[.slice pa pn pc, .slice a3 l3 c3, .bool b3, .slice a4 l4 c4, .bool b4]] w fun e w' => (∃ tv p1 p2 p3 p4 p5 p6 p7 p8, e = .returned (.agg #[tv, .slice p1 p2 p3, .bool p4, .slice p5 p6 p7, .bool p8]) ∧ ULi w' tv (.slice p1 p2 p3) (.bool p4) (.slice p5 p6 p7) (.bool p8) (clr T b P pb T[k]).1 (clr T b P pb T[k]).2 K2) ∧ Below w.heap.size w w' := by
  obtain ⟨i0, hi0, hz0, hz1, hz2⟩ := info_parts info_RatZ
  have hn : n = T.length := by
    obtain ⟨_, _, _, _, _, _, _, _, _, _, e, _⟩ := h.form
    simp only [Value.slice.injEq] at e
    exact e.2.1
  have htc : T.length ≤ tc ∧ tc ≤ 9223372036854775807 := by
    obtain ⟨_, _, _, _, _, _, _, _, _, _, e, _, _, _, _, k1, k2⟩ := h.form
    simp only [Value.slice.injEq] at e
    rw [e.2.2]
    exact ⟨k1, k2⟩
  have hpn : pn = T.length := by
    obtain ⟨_, _, _, _, _, _, _, _, _, _, e, _⟩ := hp.form
    simp only [Value.slice.injEq] at e
    exact e.2.1.trans hPT
  have hpc : T.length ≤ pc ∧ pc ≤ 9223372036854775807 := by
    obtain ⟨_, _, _, _, _, _, _, _, _, _, e, _, _, _, _, k1, k2⟩ := hp.form
    simp only [Value.slice.injEq] at e
    rw [e.2.2, ← hPT]
    exact ⟨k1, k2⟩
  have hKK : K ≤ K2 := by omega
  have b0 := box3_b w (Obj.cells #[.slice ta n tc, .slice a1 l1 c1, .bool b1, .slice a2 l2 c2, .bool b2] 61) (Obj.cells #[.slice pa pn pc, .slice a3 l3 c3, .bool b3, .slice a4 l4 c4, .bool b4] 61) (Obj.cells #[.slice none 0 0, .slice none 0 0, .bool false, .slice none 0 0, .bool false] 61)
  have x0 := box3_1 w (Obj.cells #[.slice ta n tc, .slice a1 l1 c1, .bool b1, .slice a2 l2 c2, .bool b2] 61) (Obj.cells #[.slice pa pn pc, .slice a3 l3 c3, .bool b3, .slice a4 l4 c4, .bool b4] 61) (Obj.cells #[.slice none 0 0, .slice none 0 0, .bool false, .slice none 0 0, .bool false] 61)
  have x1 := box3_2 w (Obj.cells #[.slice ta n tc, .slice a1 l1 c1, .bool b1, .slice a2 l2 c2, .bool b2] 61) (Obj.cells #[.slice pa pn pc, .slice a3 l3 c3, .bool b3, .slice a4 l4 c4, .bool b4] 61) (Obj.cells #[.slice none 0 0, .slice none 0 0, .bool false, .slice none 0 0, .bool false] 61)
  have x2 := box3_3 w (Obj.cells #[.slice ta n tc, .slice a1 l1 c1, .bool b1, .slice a2 l2 c2, .bool b2] 61) (Obj.cells #[.slice pa pn pc, .slice a3 l3 c3, .bool b3, .slice a4 l4 c4, .bool b4] 61) (Obj.cells #[.slice none 0 0, .slice none 0 0, .bool false, .slice none 0 0, .bool false] 61)
  have h' := h.below b0
  have hp' := hp.below b0
  have HISZ := hid (uisZero_any _ _ _ _ _ _ _ _ _ _ _ _ T b K (by omega) h' k hk hkN)
  rw [sgn_zero] at HISZ
  obtain ⟨g, c, d1, d2, d3, d4, d5, d6, d7, d8, e, q0, q1, q2, q3, hq⟩ := h'.num k hk
  simp only [Value.slice.injEq] at e
  obtain ⟨rfl, -, rfl⟩ := e
  have HQ := hid hq
  have HUL := hid h'
  obtain ⟨base, C, hb0, hqb, hls⟩ := h'
  obtain ⟨pbase, PC, hpb0, hqpb, hpls⟩ := hp'
  obtain ⟨pg, pc', _, _, _, _, _, _, _, _, pe, -⟩ := qls_atI hpls k (by omega)
  simp only [Value.slice.injEq] at pe
  obtain ⟨rfl, -, rfl⟩ := pe
  have HQB := hid hqb
  have HQP := hid hqpb
  have HLS := hid hls
  have HPLS := hid hpls
  obtain ⟨RT, HRT⟩ : ∃ RT, Hid ((clr T b P pb T[k]).1 = RT) := ⟨_, hid rfl⟩
  obtain ⟨RB, HRB⟩ : ∃ RB, Hid ((clr T b P pb T[k]).2 = RB) := ⟨_, hid rfl⟩
  simp only [HRT.out, HRB.out]
  have HTK := hid (hT _ (List.getElem_mem hk))
  have HTA := hid hT
  have HPA := hid hP
  have HBM := hid hbm
  have HPM := hid hpm
  have HPT := hid hPT
  have HB0 := hid b0
  subst hn
  subst hpn
  have z0 := bxc x0 0 (.slice (some ⟨g, 0, none⟩) T.length tc) rfl
  have z1 := bxc x0 1 (.slice a1 l1 c1) rfl
  have z2 := bxc x0 2 (.bool b1) rfl
  have z3 := bxc x0 3 (.slice a2 l2 c2) rfl
  have z4 := bxc x0 4 (.bool b2) rfl
  have y0 := bxc x1 0 (.slice (some ⟨pg, 0, none⟩) T.length pc) rfl
  have y1 := bxc x1 1 (.slice a3 l3 c3) rfl
  have y2 := bxc x1 2 (.bool b3) rfl
  have y3 := bxc x1 3 (.slice a4 l4 c4) rfl
  have y4 := bxc x1 4 (.bool b4) rfl
  have HX0 := hid x0
  have HX1 := hid x1
  have HX2 := hid x2
  clear h hp hq hqb b0 hls hqpb hpls hT hP hbm hpm hPT x0 x1 x2
  obtain ⟨rz, HRZ⟩ : ∃ rz, Hid (w.heap.size + 2 = rz) := ⟨_, hid rfl⟩
  have hrz : w.heap.size ≤ rz := by rw [← HRZ.out]; omega
  go_enter Tryz.func35, Tryz.ntmps35
  go_wp2_with fail
  generalize (((w.alloc (Obj.cells #[.slice (some ⟨g, 0, none⟩) T.length tc, .slice a1 l1 c1, .bool b1, .slice a2 l2 c2, .bool b2] 61)).alloc (Obj.cells #[.slice (some ⟨pg, 0, none⟩) T.length pc, .slice a3 l3 c3, .bool b3, .slice a4 l4 c4, .bool b4] 61)).alloc (Obj.cells #[.slice none 0 0, .slice none 0 0, .bool false, .slice none 0 0, .bool false] 61)) = W at *
  refine HISZ.out.mono ?_
  rintro e X1 ⟨rfl, bX1⟩
  clear HISZ q0 q1 q2 q3 z0 z1 z2 z3 z4 y0 y1 y2 y3 y4
  have B1 := chain2 HB0.out bX1
  have HX0 := hid (box_below bX1 HX0.out (lt_of_block HX0.out))
  have HX1 := hid (box_below bX1 HX1.out (lt_of_block HX1.out))
  have HX2 := hid (box_below bX1 HX2.out (lt_of_block HX2.out))
  have HUL := hid (HUL.out.below bX1)
  have HQ := hid (HQ.out.below bX1)
  have HQB := hid (HQB.out.below bX1)
  have HQP := hid (HQP.out.below bX1)
  have HLS := hid (Ls.below (fun h b => h.below b) HLS.out bX1)
  have HPLS := hid (Ls.below (fun h b => h.below b) HPLS.out bX1)
  have z0 := bxc HX0.out 0 (.slice (some ⟨g, 0, none⟩) T.length tc) rfl
  have z1 := bxc HX0.out 1 (.slice a1 l1 c1) rfl
  have z2 := bxc HX0.out 2 (.bool b1) rfl
  have z3 := bxc HX0.out 3 (.slice a2 l2 c2) rfl
  have z4 := bxc HX0.out 4 (.bool b2) rfl
  clear bX1 HB0
  by_cases h0 : T[k] = 0
  · have d0 : decide (T[k] = 0) = true := by simpa using h0
    have HC0 : Hid (RT = T ∧ RB = b) := hid (by
      rw [← HRT.out, ← HRB.out]
      unfold clr
      rw [if_pos h0]
      exact ⟨rfl, rfl⟩)
    rw [HRZ.out] at HX2
    simp only [d0, HRZ.out]
    obtain ⟨s1, s2, s3⟩ := set5_of (v0 := .slice (some ⟨g, 0, none⟩) T.length tc) (v1 := .slice a1 l1 c1) (v2 := .bool b1) (v3 := .slice a2 l2 c2) (v4 := .bool b2) HX2.out
    have y0 := bxc HX2.out 0 (.slice none 0 0) rfl
    have y1 := bxc HX2.out 1 (.slice none 0 0) rfl
    have y2 := bxc HX2.out 2 (.bool false) rfl
    have y3 := bxc HX2.out 3 (.slice none 0 0) rfl
    have y4 := bxc HX2.out 4 (.bool false) rfl
    have fr := fun j => blk_free HX2.out j
    have HF := hid s1
    have NQ := hid ((HUL.out.kty s2 (by decide) (by decide) (by decide) (by decide)).mono hKK)
    have BA := hid (s3 w B1 hrz)
    clear s1 s2 s3 h0 d0
    go_wp2
    exact bodyPost_ret (results_cell_row Tryz.results35 _ _ rz _ _ _ _ (by rfl) HF.out Tryz.underlying61 (by rfl) info_tlist) rfl ⟨⟨_, a1, l1, c1, b1, a2, l2, c2, b2, rfl, by rw [HC0.out.1, HC0.out.2]; exact NQ.out⟩, BA.out⟩
  have d0 : decide (T[k] = 0) = false := by simpa using h0
  simp only [d0]
  have HN0 := hid h0
  clear d0 h0
  obtain ⟨g', c', d1', d2', d3', d4', d5', d6', d7', d8', e, q0, q1, q2, q3, hq⟩ := qls_atI HLS.out k hk
  simp only [Value.slice.injEq, Option.some.injEq, Addr.mk.injEq, and_true, true_and] at e
  obtain ⟨rfl, -⟩ := e
  have HQ := hid hq
  clear hq
  have y0 := bxc HX1.out 0 (.slice (some ⟨pg, 0, none⟩) T.length pc) rfl
  have y1 := bxc HX1.out 1 (.slice a3 l3 c3) rfl
  have y2 := bxc HX1.out 2 (.bool b3) rfl
  have y3 := bxc HX1.out 3 (.slice a4 l4 c4) rfl
  have y4 := bxc HX1.out 4 (.bool b4) rfl
  have hpbn : ((pb : Int) : Rat) ≠ 0 := int_ne hpb0
  have HPBN := hid hpbn
  clear hpbn
  generalize hTk : T[k] = tk at *
  have HTKE := hid hTk
  clear hTk
  have hkI : (0 : Int) ≤ (k : Int) ∧ (k : Int) < (T.length : Int) := by omega
  have HQT := hid (fun (Y : World) (bY : Below X1.heap.size X1 Y) => (uquot_any Y _ _ ((tk : Int) : Rat) ((pb : Int) : Rat) K (by omega) (HQ.out.below bY) (HQP.out.below bY) HPBN.out).mono (fun e w' h => show (∃ v, e = .returned v ∧ QIs w' v (((tk : Int) : Rat) / ((pb : Int) : Rat)) (2 * K + 9)) ∧ Below X1.heap.size X1 w' ∧ (∀ k o, Y.heap[k]? = some o → w'.heap[k]? = some o) from by
    obtain ⟨v, h1, h2, h3⟩ := h
    exact ⟨⟨v, h1, h2⟩, chain2 bY h3, fun k o hk => box_below h3 hk (lt_of_block hk)⟩))
  have HFIT : Hid (∀ (X : World) (u : Value) (z : Int) (K' : Nat), QIs X u ((z : Int) : Rat) K' → z.natAbs < 10 ^ m → QIs X u ((z : Int) : Rat) K) := hid (fun X u z K' k1 k2 => by rw [hKm]; exact fitI (by omega) k1 k2)
  have HSH : Hid ((shr tk pb).natAbs < 10 ^ m) := hid (Nat.lt_of_le_of_lt (shr_le tk (by omega)) HPM.out)
  have HTM : Hid ((tms tk pb).natAbs < 10 ^ m) := hid (Nat.lt_of_le_of_lt (tms_le tk (by omega)) HTK.out)
  have HX0A := HX0
  have HKx := hid (fun (Z : World) (kz : Below X1.heap.size X1 Z) => show (Z.cell? ⟨w.heap.size, 0, none⟩ = some (.slice (some ⟨g, 0, none⟩) T.length tc) ∧ Z.cell? ⟨w.heap.size + 1, 1, none⟩ = some (.slice a3 l3 c3) ∧ Z.cell? ⟨w.heap.size + 1, 2, none⟩ = some (.bool b3) ∧ Z.cell? ⟨w.heap.size + 1, 3, none⟩ = some (.slice a4 l4 c4) ∧ Z.cell? ⟨w.heap.size + 1, 4, none⟩ = some (.bool b4) ∧ Z.cell? ⟨g, k * 4, none⟩ = some (.slice d1' d2' d3') ∧ Z.cell? ⟨g, k * 4 + 1, none⟩ = some (.bool d4') ∧ Z.cell? ⟨g, k * 4 + 2, none⟩ = some (.slice d5' d6' d7') ∧ Z.cell? ⟨g, k * 4 + 3, none⟩ = some (.bool d8')) from ⟨kcU kz z0, kcU kz y1, kcU kz y2, kcU kz y3, kcU kz y4, kcU kz q0, kcU kz q1, kcU kz q2, kcU kz q3⟩)
  have F0 : Below X1.heap.size X1 X1.drew := (Below.refl _ _).drew
  have FA : Below X1.heap.size X1 (X1.alloc (Obj.cells #[.slice none 0 0, .bool false, .slice none 0 0, .bool false] 59)).drew := ((Below.refl _ _).alloc (Nat.le_refl _) _).drew
  go_wp2_with fail
  go_region_held3 (fun Z => Z.cell? ⟨w.heap.size, 0, none⟩ = some (.slice (some ⟨g, 0, none⟩) T.length tc) ∧ Z.cell? ⟨w.heap.size + 1, 1, none⟩ = some (.slice a3 l3 c3) ∧ Z.cell? ⟨w.heap.size + 1, 2, none⟩ = some (.bool b3) ∧ Z.cell? ⟨w.heap.size + 1, 3, none⟩ = some (.slice a4 l4 c4) ∧ Z.cell? ⟨w.heap.size + 1, 4, none⟩ = some (.bool b4) ∧ Z.cell? ⟨g, k * 4, none⟩ = some (.slice d1' d2' d3') ∧ Z.cell? ⟨g, k * 4 + 1, none⟩ = some (.bool d4') ∧ Z.cell? ⟨g, k * 4 + 2, none⟩ = some (.slice d5' d6' d7') ∧ Z.cell? ⟨g, k * 4 + 3, none⟩ = some (.bool d8')) (first | exact HKx.out _ bX4 | exact HKx.out _ (bX4.alloc bX4.size _) | exact HKx.out _ F0 | exact HKx.out _ FA | exact HKx.out _ (set4_below (o := 0) bX4 (Nat.le_refl _) _ _ _ _)) (first
      | (go_at_call 45; refine (HQT.out _ (by first | exact F0 | exact FA)).mono ?_; rintro e X4 ⟨⟨v4, rfl, n4⟩, bX4, kp⟩; obtain ⟨g1, g2, g3, g4, g5, g6, g7, g8, rfl⟩ := n4.form; (try have hy4 := kp X1.heap.size (Obj.cells #[.slice none 0 0, .bool false, .slice none 0 0, .bool false] 59) (box_new X1 (Obj.cells #[.slice none 0 0, .bool false, .slice none 0 0, .bool false] 59))); (try have u0 := (four_cell hy4).1); (try have u1 := (four_cell hy4).2.1); (try have u2 := (four_cell hy4).2.2.1); (try have u3 := (four_cell hy4).2.2.2); (try have fr := free_four hy4); have hy5 := box_new X4 (Obj.cells #[.slice none 0 0, .bool false, .slice none 0 0, .bool false] 59); obtain ⟨v0, v1, v2, v3⟩ := four_cell hy5; have fr5 := free_four hy5))
  · have bV := bX4.alloc bX4.size (Obj.cells #[.slice g1 g2 g3, .bool g4, .slice g5 g6 g7, .bool g8] 59)
    have HG := hid (box_new X4 (Obj.cells #[.slice g1 g2 g3, .bool g4, .slice g5 g6 g7, .bool g8] 59))
    have NV := hid (n4.below ((Below.refl X4.heap.size X4).alloc (Nat.le_refl _) (Obj.cells #[.slice g1 g2 g3, .bool g4, .slice g5 g6 g7, .bool g8] 59)))
    have hgq : X1.heap.size ≤ X4.heap.size := bX4.size
    clear bX4 hy5 v0 v1 v2 v3 fr5 kp
    generalize X4.alloc (Obj.cells #[.slice g1 g2 g3, .bool g4, .slice g5 g6 g7, .bool g8] 59) = V at *
    generalize X4.heap.size = gq at *
    have HBV := hid bV
    have HBW := hid (chain2 B1 bV)
    have HX0 := hid (box_below bV HX0.out (lt_of_block HX0.out))
    have HX1 := hid (box_below bV HX1.out (lt_of_block HX1.out))
    have HX2 := hid (box_below bV HX2.out (lt_of_block HX2.out))
    have HQB := hid (HQB.out.below bV)
    have HLS := hid (Ls.below (fun h b => h.below b) HLS.out bV)
    have HPLS := hid (Ls.below (fun h b => h.below b) HPLS.out bV)
    have hgb : w.heap.size < gq := Nat.lt_of_lt_of_le (lt_of_block HX0A.out) hgq
    obtain ⟨r0, r1, r2, r3⟩ := four_cell HG.out
    clear bV n4 z0 z1 z2 z3 z4 y0 y1 y2 y3 y4 q0 q1 q2 q3 HKx F0 FA HQT HQ HQP HUL
    go_wp2_with fail
    refine (udenom_any V _ _ (2 * K + 9) (by omega) NV.out).mono ?_
    rintro e X5 ⟨v5, rfl, n5, bX5⟩
    have n5 := HFIT.out _ _ (shr tk pb) _ n5 HSH.out
    obtain ⟨s1, s2, s3, s4, s5, s6, s7, s8, rfl⟩ := n5.form
    have bA5 := (Below.refl X5.heap.size X5).alloc (Nat.le_refl _) (Obj.cells #[.slice s1 s2 s3, .bool s4, .slice s5 s6 s7, .bool s8] 59)
    have bV5 := chain2 bX5 bA5
    have HS5 := hid (box_new X5 (Obj.cells #[.slice s1 s2 s3, .bool s4, .slice s5 s6 s7, .bool s8] 59))
    have HN5 := hid (n5.below bA5)
    have HG5 := hid (box_below bV5 HG.out (lt_of_block HG.out))
    have HR5 := hid (NV.out.below bV5)
    have HBV5 := hid bV5
    clear n5 bA5 bX5 bV5 r0 r1 r2 r3
    obtain ⟨r0, r1, r2, r3⟩ := four_cell HG5.out
    obtain ⟨v0, v1, v2, v3⟩ := four_cell HS5.out
    go_wp2_with (refine wpList_store_fresh rfl 59 _ _ rfl _ _ _ rfl (by simp) rfl 4 info_Rat (by rfl) (by rfl) (by simp [Value.oneCell']) ?_)
    generalize X5.alloc (Obj.cells #[.slice s1 s2 s3, .bool s4, .slice s5 s6 s7, .bool s8] 59) = W5 at *
    generalize X5.heap.size = hs at *
    refine (q_mul W5 _ _ (((tk : Int) : Rat) / ((pb : Int) : Rat)) ((shr tk pb : Int) : Rat) (2 * K + 9) (by omega) HR5.out (HN5.out.mono (by omega))).mono ?_
    rintro e X6 ⟨v6, rfl, n6, bX6⟩
    rw [shr_mul] at n6
    have n6 := HFIT.out _ _ _ _ n6 HTM.out
    obtain ⟨t1, t2, t3, t4, t5, t6, t7, t8, rfl⟩ := n6.form
    have bA6 := (Below.refl X6.heap.size X6).alloc (Nat.le_refl _) (Obj.cells #[.slice t1 t2 t3, .bool t4, .slice t5 t6 t7, .bool t8] 59)
    have bV6 := chain2 bX6 bA6
    have HT6 := hid (box_new X6 (Obj.cells #[.slice t1 t2 t3, .bool t4, .slice t5 t6 t7, .bool t8] 59))
    have HN6 := hid (n6.below bA6)
    have HS6 := hid (box_below bV6 HS5.out (lt_of_block HS5.out))
    have HN56 := hid (HN5.out.below bV6)
    have HBV6 := hid (chain2 HBV5.out bV6)
    clear n6 bA6 bX6 bV6 r0 r1 r2 r3 v0 v1 v2 v3 HG5 HR5 HS5 HN5 HBV5
    have HBW9 := hid (chain2 HBW.out HBV6.out)
    have HX0 := hid (box_below HBV6.out HX0.out (lt_of_block HX0.out))
    have HX1 := hid (box_below HBV6.out HX1.out (lt_of_block HX1.out))
    have HX2 := hid (box_below HBV6.out HX2.out (lt_of_block HX2.out))
    have HQB := hid (HQB.out.below HBV6.out)
    have HLS := hid (Ls.below (fun h b => h.below b) HLS.out HBV6.out)
    have HPLS := hid (Ls.below (fun h b => h.below b) HPLS.out HBV6.out)
    clear HG NV HBV HBW HBV6
    have z0 := bxc HX0.out 0 (.slice (some ⟨g, 0, none⟩) T.length tc) rfl
    go_wp2_with (refine wpList_store_fresh rfl 59 _ _ rfl _ _ _ rfl (by simp) rfl 4 info_Rat (by rfl) (by rfl) (by simp [Value.oneCell']) ?_)
    generalize X6.alloc (Obj.cells #[.slice t1 t2 t3, .bool t4, .slice t5 t6 t7, .bool t8] 59) = W9 at *
    generalize X6.heap.size = ht at *
    have N0 := hid (show QLs W9 W9.heap.size (.slice none 0 0) [] (((clT T P (shr tk pb) (tms tk pb)).take 0).map (fun (t : Int) => (t : Rat))) K2 from Ls.none W9 _)
    obtain ⟨q, qeq⟩ : ∃ q, q = clT T P (shr tk pb) (tms tk pb) := ⟨_, rfl⟩
    have HQL := hid (show q.length = T.length by rw [qeq]; exact clT_len _ _ HPT.out)
    have HQAB := hid (show ∀ t ∈ q, t.natAbs < 10 ^ (2 * m + 1) by rw [qeq]; exact clT_abs HTA.out HPA.out HSH.out HTM.out)
    have HQTK := hid (fun (i : Nat) (h1 : i < T.length) (h2 : i < P.length) => show q.take (i + 1) = q.take i ++ [T[i] * shr tk pb - P[i] * tms tk pb] by rw [qeq]; exact clT_take _ _ i h1 h2 HPT.out)
    have HQE0 := hid qeq
    rw [← qeq] at N0
    clear qeq
    have HQS9 := hid HN56.out
    have HQT9 := hid HN6.out
    have hhs : hs < W9.heap.size := lt_of_block HS6.out
    have hht : ht < W9.heap.size := lt_of_block HT6.out
    have hpv : w.heap.size + 1 < W9.heap.size := lt_of_block HX1.out
    obtain ⟨sc0, sc1, sc2, sc3⟩ := four_cell HS6.out
    obtain ⟨tc0, tc1, tc2, tc3⟩ := four_cell HT6.out
    have pc0 := bxc HX1.out 0 (.slice (some ⟨pg, 0, none⟩) T.length pc) rfl
    have HMU := hid (fun (Y : World) (a b : Value) (x y : Int) (ha : QIs Y a ((x : Int) : Rat) K) (hb : QIs Y b ((y : Int) : Rat) K) => q_mul Y a b ((x : Int) : Rat) ((y : Int) : Rat) K (by omega) ha hb)
    have HSU := hid (fun (Y : World) (a b : Value) (x y : Rat) (ha : QIs Y a x (2 * K + 12)) (hb : QIs Y b y (2 * K + 12)) => q_sub Y a b x y (2 * K + 12) (by omega) ha hb)
    have B9 := hid HBW9.out
    go_wp2_with fail
    go_loopw [33, 10] (fun iv lv wr => ∃ (k2 : Nat) (CC : List (List Value)), k2 ≤ T.length ∧ iv = .int .i64 (k2 : Int) ∧ Hid (QLs wr W9.heap.size lv CC ((q.take k2).map (fun (t : Int) => (t : Rat))) K2) ∧ Below W9.heap.size W9 wr) (fun i _ _ => T.length - (intOf i).toNat)
    case atStart => exact ⟨0, [], Nat.zero_le _, rfl, N0, Below.refl _ _⟩
    case round =>
    obtain ⟨k2, CC, hk2, rfl, HOL, bw⟩ := hrel
    have HLEN := hid (show ((q.take k2).map (fun (t : Int) => (t : Rat))).length = k2 by rw [List.length_map, List.length_take, HQL.out]; omega)
    obtain ⟨la, lc, hle, hl1, hl2⟩ := HOL.out.slice
    rw [HLEN.out] at hle hl1
    subst hle
    by_cases hlt : k2 < T.length
    · have hltI : (k2 : Int) < (T.length : Int) := by omega
      have hli : (0 : Int) ≤ (k2 : Int) ∧ (k2 : Int) < (T.length : Int) := by omega
      have hltP : k2 < P.length := by rw [HPT.out]; exact hlt
      obtain ⟨g2, c2', d1, d2, d3, d4, d5, d6, d7, d8, e, x0, x1, x2, x3, hqd⟩ := qls_atI (Ls.below (fun h b => h.below b) HLS.out bw) k2 hlt
      simp only [Value.slice.injEq, Option.some.injEq, Addr.mk.injEq, and_true, true_and] at e
      obtain ⟨rfl, rfl⟩ := e
      obtain ⟨g3, c3', e1, e2, e3, e4, e5, e6, e7, e8, e, y0, y1, y2, y3, hqe⟩ := qls_atI (Ls.below (fun h b => h.below b) HPLS.out bw) k2 hltP
      simp only [Value.slice.injEq, Option.some.injEq, Addr.mk.injEq, and_true, true_and] at e
      obtain ⟨rfl, -, rfl⟩ := e
      have bA := (Below.refl wr.heap.size wr).alloc (Nat.le_refl _) (Obj.cells #[.slice d1 d2 d3, .bool d4, .slice d5 d6 d7, .bool d8] 59)
      obtain ⟨u0, u1, u2, u3⟩ := four_cell (box_new wr (Obj.cells #[.slice d1 d2 d3, .bool d4, .slice d5 d6 d7, .bool d8] 59))
      have bwA := bw.trans (bA.mono bw.size)
      have HQD := hid (hqd.below bA)
      have HQE := hid (hqe.below bA)
      have HQS := hid (HQS9.out.below bwA)
      have HQT := hid (HQT9.out.below bwA)
      have hown0 := HOL.out.own
      rw [HLEN.out] at hown0
      have HOW := hid (show (wr.alloc (Obj.cells #[.slice d1 d2 d3, .bool d4, .slice d5 d6 d7, .bool d8] 59)).ownsRow W9.heap.size 59 4 (.slice la k2 lc) k2 CC.flatten from hown0.alloc (Obj.cells #[.slice d1 d2 d3, .bool d4, .slice d5 d6 d7, .bool d8] 59))
      have HNE0 := hid (fun (x : Nat) (hx : x < W9.heap.size ∨ x = wr.heap.size) => show (Value.slice la k2 lc).ownBlock ≠ some x from fun e => by have := hown0.lt x e; omega)
      have HLT := hid (fun (x : Nat) (e : (Value.slice la k2 lc).ownBlock = some x) => (hown0.lt x e).1)
      have hpg : pg < W9.heap.size := by
        obtain ⟨_, _, _, _, _, _, _, _, _, _, e, y, -⟩ := qls_atI HPLS.out k2 hltP
        simp only [Value.slice.injEq, Option.some.injEq, Addr.mk.injEq, and_true, true_and] at e
        obtain ⟨rfl, -⟩ := e
        exact World.block_lt_of_cell? W9 _ y
      have HLW := hid (Ls.below (fun h b => h.below b) HOL.out bA)
      have HEL := hid (show (T[k2] * shr tk pb - P[k2] * tms tk pb).natAbs < 10 ^ (2 * m + 1) from HQAB.out _ (List.mem_of_mem_take (i := k2 + 1) (by rw [HQTK.out k2 hlt hltP]; simp)))
      have HMT := hid (map_take q k2 _ (HQTK.out k2 hlt hltP))
      have hsz9 : W9.heap.size ≤ (wr.alloc (Obj.cells #[.slice d1 d2 d3, .bool d4, .slice d5 d6 d7, .bool d8] 59)).heap.size := bwA.size
      have HKx := hid (fun (Y : World) (kz : Below (wr.alloc (Obj.cells #[.slice d1 d2 d3, .bool d4, .slice d5 d6 d7, .bool d8] 59)).heap.size (wr.alloc (Obj.cells #[.slice d1 d2 d3, .bool d4, .slice d5 d6 d7, .bool d8] 59)) Y) => show (Y.cell? ⟨wr.heap.size, 0, none⟩ = some (.slice d1 d2 d3) ∧ Y.cell? ⟨wr.heap.size, 1, none⟩ = some (.bool d4) ∧ Y.cell? ⟨wr.heap.size, 2, none⟩ = some (.slice d5 d6 d7) ∧ Y.cell? ⟨wr.heap.size, 3, none⟩ = some (.bool d8) ∧ Y.cell? ⟨hs, 0, none⟩ = some (.slice s1 s2 s3) ∧ Y.cell? ⟨hs, 1, none⟩ = some (.bool s4) ∧ Y.cell? ⟨hs, 2, none⟩ = some (.slice s5 s6 s7) ∧ Y.cell? ⟨hs, 3, none⟩ = some (.bool s8) ∧ Y.cell? ⟨ht, 0, none⟩ = some (.slice t1 t2 t3) ∧ Y.cell? ⟨ht, 1, none⟩ = some (.bool t4) ∧ Y.cell? ⟨ht, 2, none⟩ = some (.slice t5 t6 t7) ∧ Y.cell? ⟨ht, 3, none⟩ = some (.bool t8) ∧ Y.cell? ⟨w.heap.size + 1, 0, none⟩ = some (.slice (some ⟨pg, 0, none⟩) T.length pc) ∧ Y.cell? ⟨pg, k2 * 4, none⟩ = some (.slice e1 e2 e3) ∧ Y.cell? ⟨pg, k2 * 4 + 1, none⟩ = some (.bool e4) ∧ Y.cell? ⟨pg, k2 * 4 + 2, none⟩ = some (.slice e5 e6 e7) ∧ Y.cell? ⟨pg, k2 * 4 + 3, none⟩ = some (.bool e8)) from ⟨kcU kz u0, kcU kz u1, kcU kz u2, kcU kz u3, kcU kz (kcU bwA sc0), kcU kz (kcU bwA sc1), kcU kz (kcU bwA sc2), kcU kz (kcU bwA sc3), kcU kz (kcU bwA tc0), kcU kz (kcU bwA tc1), kcU kz (kcU bwA tc2), kcU kz (kcU bwA tc3), kcU kz (kcU bwA pc0), kcU kz (kcU bA y0), kcU kz (kcU bA y1), kcU kz (kcU bA y2), kcU kz (kcU bA y3)⟩)
      have hltk : k2 ≤ 192 := by omega
      have hKK0 := hid hKK
      clear hqd hqe bA hown0 u0 u1 u2 u3 y0 y1 y2 y3 HOL
      generalize T[k2] = te at *
      generalize P[k2] = pe at *
      go_wp2_with fail
      generalize wr.heap.size = tb at *
      generalize wr.alloc (Obj.cells #[.slice d1 d2 d3, .bool d4, .slice d5 d6 d7, .bool d8] 59) = W at *
      have HNE := HNE0
      have F0 : Below W.heap.size W W.drew := (Below.refl _ _).drew
      refine wp_region_noPanic ?_
      refine wp_region_held_drew (S := fun Y => Y.cell? ⟨tb, 0, none⟩ = some (.slice d1 d2 d3) ∧ Y.cell? ⟨tb, 1, none⟩ = some (.bool d4) ∧ Y.cell? ⟨tb, 2, none⟩ = some (.slice d5 d6 d7) ∧ Y.cell? ⟨tb, 3, none⟩ = some (.bool d8) ∧ Y.cell? ⟨hs, 0, none⟩ = some (.slice s1 s2 s3) ∧ Y.cell? ⟨hs, 1, none⟩ = some (.bool s4) ∧ Y.cell? ⟨hs, 2, none⟩ = some (.slice s5 s6 s7) ∧ Y.cell? ⟨hs, 3, none⟩ = some (.bool s8) ∧ Y.cell? ⟨ht, 0, none⟩ = some (.slice t1 t2 t3) ∧ Y.cell? ⟨ht, 1, none⟩ = some (.bool t4) ∧ Y.cell? ⟨ht, 2, none⟩ = some (.slice t5 t6 t7) ∧ Y.cell? ⟨ht, 3, none⟩ = some (.bool t8) ∧ Y.cell? ⟨w.heap.size + 1, 0, none⟩ = some (.slice (some ⟨pg, 0, none⟩) T.length pc) ∧ Y.cell? ⟨pg, k2 * 4, none⟩ = some (.slice e1 e2 e3) ∧ Y.cell? ⟨pg, k2 * 4 + 1, none⟩ = some (.bool e4) ∧ Y.cell? ⟨pg, k2 * 4 + 2, none⟩ = some (.slice e5 e6 e7) ∧ Y.cell? ⟨pg, k2 * 4 + 3, none⟩ = some (.bool e8)) (by kernel_rfl) (HKx.out _ F0) (fun hHeld => ?_)
      refine wpAnyH_take (i := 0) (v := ?_) rfl (by kernel_rfl) (by kernel_rfl) (by kernel_rfl) (fun _ _ _ h => h) (Or.inl ⟨by rfl, ?_⟩) (by assumption) ?_
      rotate_left
      · intro w hSw
        (try dsimp only at hSw)
        go_simp
        (try with_reducible rfl)
      (try simp only [List.getElem_toArray, List.getElem_cons_zero, List.getElem_cons_succ, Act.put, List.setIfInBounds_toArray, List.set_cons_zero, List.set_cons_succ])
      refine wpAnyH_take (i := 1) (v := ?_) rfl (by kernel_rfl) (by kernel_rfl) (by kernel_rfl) (fun _ _ _ h => h) (Or.inl ⟨by rfl, ?_⟩) (by assumption) ?_
      rotate_left
      · intro w hSw
        (try dsimp only at hSw)
        go_simp
        (try with_reducible rfl)
      (try simp only [List.getElem_toArray, List.getElem_cons_zero, List.getElem_cons_succ, Act.put, List.setIfInBounds_toArray, List.set_cons_zero, List.set_cons_succ])
      refine wpAnyH_take (i := 2) (v := ?_) rfl (by kernel_rfl) (by kernel_rfl) (by kernel_rfl) (fun _ _ _ h => h) (Or.inl ⟨by rfl, ?_⟩) (by assumption) ?_
      rotate_left
      · intro w hSw
        (try dsimp only at hSw)
        go_simp
        (try with_reducible rfl)
      (try simp only [List.getElem_toArray, List.getElem_cons_zero, List.getElem_cons_succ, Act.put, List.setIfInBounds_toArray, List.set_cons_zero, List.set_cons_succ])
      refine wpAnyH_take (i := 4) (v := ?_) rfl (by kernel_rfl) (by kernel_rfl) (by kernel_rfl) (fun _ _ _ h => h) (Or.inl ⟨by rfl, ?_⟩) (by assumption) ?_
      rotate_left
      · intro w hSw
        (try dsimp only at hSw)
        go_simp
        (try with_reducible rfl)
      (try simp only [List.getElem_toArray, List.getElem_cons_zero, List.getElem_cons_succ, Act.put, List.setIfInBounds_toArray, List.set_cons_zero, List.set_cons_succ])
      refine wpAnyH_take (i := 5) (v := ?_) rfl (by kernel_rfl) (by kernel_rfl) (by kernel_rfl) (fun _ _ _ h => h) (Or.inl ⟨by rfl, ?_⟩) (by assumption) ?_
      rotate_left
      · intro w hSw
        (try dsimp only at hSw)
        go_simp
        (try with_reducible rfl)
      (try simp only [List.getElem_toArray, List.getElem_cons_zero, List.getElem_cons_succ, Act.put, List.setIfInBounds_toArray, List.set_cons_zero, List.set_cons_succ])
      refine wpAnyH_take (i := 6) (v := ?_) rfl (by kernel_rfl) (by kernel_rfl) (by kernel_rfl) (fun _ _ _ h => h) (Or.inl ⟨by rfl, ?_⟩) (by assumption) ?_
      rotate_left
      · intro w hSw
        (try dsimp only at hSw)
        go_simp
        (try with_reducible rfl)
      (try simp only [List.getElem_toArray, List.getElem_cons_zero, List.getElem_cons_succ, Act.put, List.setIfInBounds_toArray, List.set_cons_zero, List.set_cons_succ])
      refine wpAnyH_take (i := 7) (v := ?_) rfl (by kernel_rfl) (by kernel_rfl) (by kernel_rfl) (fun _ _ _ h => h) (Or.inl ⟨by rfl, ?_⟩) (by assumption) ?_
      rotate_left
      · intro w hSw
        (try dsimp only at hSw)
        go_simp
        (try with_reducible rfl)
      (try simp only [List.getElem_toArray, List.getElem_cons_zero, List.getElem_cons_succ, Act.put, List.setIfInBounds_toArray, List.set_cons_zero, List.set_cons_succ])
      refine wpAnyH_take (i := 8) (v := ?_) rfl (by kernel_rfl) (by kernel_rfl) (by kernel_rfl) (fun _ _ _ h => h) (Or.inl ⟨by rfl, ?_⟩) (by assumption) ?_
      rotate_left
      · intro w hSw
        (try dsimp only at hSw)
        go_simp
        (try with_reducible rfl)
      (try simp only [List.getElem_toArray, List.getElem_cons_zero, List.getElem_cons_succ, Act.put, List.setIfInBounds_toArray, List.set_cons_zero, List.set_cons_succ])
      refine wpAnyH_take (i := 9) (v := ?_) rfl (by kernel_rfl) (by kernel_rfl) (by kernel_rfl) (fun _ _ _ h => h) (Or.inl ⟨by rfl, ?_⟩) (by assumption) ?_
      rotate_left
      · intro w hSw
        (try dsimp only at hSw)
        go_simp
        (try with_reducible rfl)
      (try simp only [List.getElem_toArray, List.getElem_cons_zero, List.getElem_cons_succ, Act.put, List.setIfInBounds_toArray, List.set_cons_zero, List.set_cons_succ])
      refine wpAnyH_ready (rs := [3]) (by kernel_rfl) (by simp) ?_
      refine AllReadyH.cons (o := _) rfl (fun Kc hKc => ?_) AllReadyH.nil
      go_simp
      (go_at_call 54; refine (HMU.out _ _ _ _ _ (HQD.out.below F0) (HQS.out.below F0)).mono ?_; rintro e Z1 ⟨y1, rfl, n1, bb⟩; have F1 := chain2 F0 bb)
      dsimp only
      refine hKc.out _ _ (HKx.out _ F1) (fun hHeld => ?_)
      clear hKc Kc
      (try simp only [List.getElem_toArray, List.getElem_cons_zero, List.getElem_cons_succ, Act.put, List.setIfInBounds_toArray, List.set_cons_zero, List.set_cons_succ])
      refine wpAnyH_ready (rs := [10]) (by kernel_rfl) (by simp) ?_
      refine AllReadyH.cons (o := _) rfl (fun Kc hKc => ?_) AllReadyH.nil
      go_simp
      (go_at_call 54; refine (HMU.out _ _ _ _ _ (HQE.out.below F1) (HQT.out.below F1)).mono ?_; rintro e Z2 ⟨y2, rfl, n2, bb⟩; have n1 := n1.below bb; have F2 := chain2 F1 bb)
      dsimp only
      refine hKc.out _ _ (HKx.out _ F2) (fun hHeld => ?_)
      clear hKc Kc
      (try simp only [List.getElem_toArray, List.getElem_cons_zero, List.getElem_cons_succ, Act.put, List.setIfInBounds_toArray, List.set_cons_zero, List.set_cons_succ])
      refine wpAnyH_ready (rs := [11]) (by kernel_rfl) (by simp) ?_
      refine AllReadyH.cons (o := _) rfl (fun Kc hKc => ?_) AllReadyH.nil
      go_simp
      (go_at_call 55; refine (HSU.out _ _ _ _ _ n1 n2).mono ?_; rintro e Z3 ⟨y3, rfl, n3, bb⟩; have F3 := chain2 F2 bb; obtain ⟨z1, z2, z3, z4, z5, z6, z7, z8, rfl⟩ := n3.form)
      dsimp only
      refine hKc.out _ _ (HKx.out _ F3) (fun hHeld => ?_)
      clear hKc Kc
      (try simp only [List.getElem_toArray, List.getElem_cons_zero, List.getElem_cons_succ, Act.put, List.setIfInBounds_toArray, List.set_cons_zero, List.set_cons_succ])
      refine wpAnyH_ready (rs := [12]) (by kernel_rfl) (by simp) ?_
      refine AllReadyH.cons (o := _) rfl (fun Kc hKc => ?_) AllReadyH.nil
      go_simp
      refine hKc.out _ _ (HKx.out _ (F3.alloc F3.size _)) (fun hHeld => ?_)
      clear hKc Kc
      (try simp only [List.getElem_toArray, List.getElem_cons_zero, List.getElem_cons_succ, Act.put, List.setIfInBounds_toArray, List.set_cons_zero, List.set_cons_succ])
      refine wpAnyH_ready (rs := [13]) (by kernel_rfl) (by simp) ?_
      refine AllReadyH.cons (o := _) rfl (fun Kc hKc => ?_) AllReadyH.nil
      refine step_append_at rfl _ _ 52 rfl W9.heap.size 59 i0 (.agg #[.slice none 0 0, .bool false, .slice none 0 0, .bool false]) 4 64 Tryz.underlying52 hi0 hz0 hz1 hz2 rfl (by decide) (.slice la k2 lc) k2 CC.flatten rfl ((own_below HOW.out F3).alloc (.cells #[.slice z1 z2 z3, .bool z4, .slice z5 z6 z7, .bool z8] 59)) ⟨Z3.heap.size, 0, none⟩ 1 1 [.slice z1 z2 z3, .bool z4, .slice z5 z6 z7, .bool z8] rfl rfl (four_new _ _ _ _ _ _) (by intro u hu; simp at hu; rcases hu with rfl | rfl | rfl | rfl <;> rfl) (by unfold maxLen; omega) (by omega) (by simp; have := F3.size; omega) ?_
      intro v' Y5 o5 hg5 hat5
      obtain ⟨m0, m1, m2, m3, m4, m5, m6, m7, m8, m9, m10, m11, m12, m13, m14, m15, m16⟩ := HKx.out _ (F3.alloc F3.size (Obj.cells #[.slice z1 z2 z3, .bool z4, .slice z5 z6 z7, .bool z8] 59))
      refine hKc.out _ _ (⟨grown_cell hg5 (HNE.out _ (Or.inr rfl)) m0, grown_cell hg5 (HNE.out _ (Or.inr rfl)) m1, grown_cell hg5 (HNE.out _ (Or.inr rfl)) m2, grown_cell hg5 (HNE.out _ (Or.inr rfl)) m3, grown_cell hg5 (HNE.out _ (Or.inl hhs)) m4, grown_cell hg5 (HNE.out _ (Or.inl hhs)) m5, grown_cell hg5 (HNE.out _ (Or.inl hhs)) m6, grown_cell hg5 (HNE.out _ (Or.inl hhs)) m7, grown_cell hg5 (HNE.out _ (Or.inl hht)) m8, grown_cell hg5 (HNE.out _ (Or.inl hht)) m9, grown_cell hg5 (HNE.out _ (Or.inl hht)) m10, grown_cell hg5 (HNE.out _ (Or.inl hht)) m11, grown_cell hg5 (HNE.out _ (Or.inl hpv)) m12, grown_cell hg5 (HNE.out _ (Or.inl hpg)) m13, grown_cell hg5 (HNE.out _ (Or.inl hpg)) m14, grown_cell hg5 (HNE.out _ (Or.inl hpg)) m15, grown_cell hg5 (HNE.out _ (Or.inl hpg)) m16⟩) (fun hHeld => ?_)
      clear hKc Kc
      (try simp only [List.getElem_toArray, List.getElem_cons_zero, List.getElem_cons_succ, Act.put, List.setIfInBounds_toArray, List.set_cons_zero, List.set_cons_succ])
      refine wpAnyH_take (i := 14) (v := ?_) rfl (by kernel_rfl) (by kernel_rfl) (by kernel_rfl) (fun _ _ _ h => h) (Or.inl ⟨by rfl, ?_⟩) (by assumption) ?_
      rotate_left
      · intro w hSw
        (try dsimp only at hSw)
        go_simp
        (try with_reducible rfl)
      (try simp only [List.getElem_toArray, List.getElem_cons_zero, List.getElem_cons_succ, Act.put, List.setIfInBounds_toArray, List.set_cons_zero, List.set_cons_succ])
      refine wpAnyH_done (by kernel_rfl) ?_ _
      refine NoPanic.normal ?_
      have hKB : 4 * K + 36 ≤ 1000000 := by omega
      have bE := (Below.refl Z3.heap.size Z3).alloc (Nat.le_refl _) (Obj.cells #[.slice z1 z2 z3, .bool z4, .slice z5 z6 z7, .bool z8] 59)
      have F4 := chain2 F3 bE
      have ownE := (own_below HOW.out F3).alloc (Obj.cells #[.slice z1 z2 z3, .bool z4, .slice z5 z6 z7, .bool z8] 59)
      have kg : Kty 59 59 (Z3.alloc (Obj.cells #[.slice z1 z2 z3, .bool z4, .slice z5 z6 z7, .bool z8] 59)) Y5 := Kty.of_grown hg5 (fun g hg => own_ty ownE g hg)
      have n3' := n3.below bE
      rw [int_sub] at n3'
      have n4 := fitI (m := 2 * m + 1) (by omega) n3' HEL.out
      rw [← hK2] at n4
      have hpush := Ls.push (Ls.below (fun h b => h.below b) HLW.out F4) (w' := Y5) (v' := v') (x0 := .slice z1 z2 z3) (x1 := .bool z4) (x2 := .slice z5 z6 z7) (x3 := .bool z8) (q := ((te * shr tk pb - pe * tms tk pb : Int) : Rat)) (by rw [HLEN.out]; exact o5) (fun h => h.kty kg (by decide) (by decide)) n4
      rw [← HMT.out] at hpush
      have HPU := hid hpush
      have B5 := (bwA.trans (F4.mono hsz9)).grown hg5 (Nat.le_trans hsz9 F4.size) (fun g hg => HLT.out g hg)
      clear hpush n4 n3' kg ownE F4 bE n3 n2 n1 o5 hg5 hat5 m0 m1 m2 m3 m4 m5 m6 m7 m8 m9 m10 m11 m12 m13 m14 m15 m16 F0 F1 F2 F3 HKx
      go_wp2_with fail
      go_roundw
      case rel => exact ⟨k2 + 1, _, by omega, by go_num, HPU, B5⟩
      case measure => simp [intOf]; omega
    · obtain rfl : k2 = T.length := by omega
      have hqT : q.take T.length = q := List.take_of_length_le (by rw [HQL.out]; exact Nat.le_refl _)
      have HOQ := hid (show QLs wr W9.heap.size (.slice la T.length lc) CC (q.map (fun (t : Int) => (t : Rat))) K2 by have := HOL.out; rw [hqT] at this; exact this)
      have x30 := box_below bw HX0.out (lt_of_block HX0.out)
      have z1 := bxc x30 1 (.slice a1 l1 c1) rfl
      have z2 := bxc x30 2 (.bool b1) rfl
      have z3 := bxc x30 3 (.slice a2 l2 c2) rfl
      have z4 := bxc x30 4 (.bool b2) rfl
      have j0 := kcU bw sc0
      have j1 := kcU bw sc1
      have j2 := kcU bw sc2
      have j3 := kcU bw sc3
      have HM1 := hid (HMU.out wr _ _ b (shr tk pb) (HQB.out.below bw) (HQS9.out.below bw))
      have hRT : lowT q (b * shr tk pb) = RT := by rw [← HRT.out, HQE0.out]; unfold clr; rw [if_neg HN0.out]
      have hRB : lowB q (b * shr tk pb) = RB := by rw [← HRB.out, HQE0.out]; unfold clr; rw [if_neg HN0.out]
      have HRTB := hid (And.intro hRT hRB)
      have HBN := hid (show b * shr tk pb ≠ 0 from Int.mul_ne_zero (by omega) (by have := shr_pos tk pb; omega))
      have HBA := hid (show (b * shr tk pb).natAbs < 10 ^ (2 * m + 1) from mul_abs HBM.out HSH.out)
      have HRZ2 := hid (box_below bw HX2.out (lt_of_block HX2.out))
      have BWr := hid (chain2 B9.out bw)
      clear hlt hqT x30 hRT hRB HOL
      go_wp2_with fail
      refine HM1.out.mono ?_
      rintro e Z1 ⟨y1, rfl, n1, bb⟩
      rw [← Rat.intCast_mul] at n1
      have n2 := fitI (m := 2 * m + 1) (by omega) n1 HBA.out
      rw [← hK2] at n2
      obtain ⟨f1, f2, f3, f4, f5, f6, f7, f8, rfl⟩ := n2.form
      have HLO := hid (ulowest_any Z1 _ _ _ _ _ _ _ _ _ W9.heap.size CC q (b * shr tk pb) (2 * m + 1) K2 hK2 (by omega) hK HBN.out (by rw [HQL.out]; exact hkN) HQAB.out HBA.out (Ls.below (fun h b => h.below b) HOQ.out bb) n2)
      rw [HRTB.out.1, HRTB.out.2] at HLO
      have HRZ3 := hid (box_below bb HRZ2.out (lt_of_block HRZ2.out))
      have BZ1 := hid (chain2 BWr.out bb)
      clear n1 n2 bb HM1 z1 z2 z3 z4 j0 j1 j2 j3 HOQ
      go_wp2_with fail
      refine HLO.out.mono ?_
      rintro e Z2 ⟨⟨tv, p1, p2, p3, p4, p5, p6, p7, p8, rfl, n4⟩, bb⟩
      obtain ⟨ta', tn', tc', rfl⟩ : ∃ ta tl tc, tv = .slice ta tl tc := by
        obtain ⟨ta, tc, _, _, _, _, _, _, _, _, e, _⟩ := n4.form
        exact ⟨ta, _, tc, e⟩
      have HRZ4 := hid (box_below bb HRZ3.out (lt_of_block HRZ3.out))
      have BZ2 := chain2 BZ1.out bb
      rw [HRZ.out] at HRZ4
      simp only [HRZ.out]
      obtain ⟨q1, q2, q3⟩ := set5_of (v0 := .slice ta' tn' tc') (v1 := .slice p1 p2 p3) (v2 := .bool p4) (v3 := .slice p5 p6 p7) (v4 := .bool p8) HRZ4.out
      have y0 := bxc HRZ4.out 0 (.slice none 0 0) rfl
      have y1 := bxc HRZ4.out 1 (.slice none 0 0) rfl
      have y2 := bxc HRZ4.out 2 (.bool false) rfl
      have y3 := bxc HRZ4.out 3 (.slice none 0 0) rfl
      have y4 := bxc HRZ4.out 4 (.bool false) rfl
      have fr := fun j => blk_free HRZ4.out j
      have HF := hid q1
      have NQ := hid (n4.kty q2 (by decide) (by decide) (by decide) (by decide))
      have BA := hid (q3 w BZ2 hrz)
      clear q1 q2 q3 n4 bb BZ2 HLO
      go_wp2
      exact bodyPost_ret (results_cell_row Tryz.results35 _ _ rz _ _ _ _ (by rfl) HF.out Tryz.underlying61 (by rfl) info_tlist) rfl ⟨⟨_, p1, p2, p3, p4, p5, p6, p7, p8, rfl, NQ.out⟩, BA.out⟩
  · have HG := hid (set4_own hy4 (.slice g1 g2 g3) (.bool g4) (.slice g5 g6 g7) (.bool g8))
    have bV := set4_below (o := 0) bX4 (Nat.le_refl _) (.slice g1 g2 g3) (.bool g4) (.slice g5 g6 g7) (.bool g8)
    have NV := hid (n4.kty (set4_kty (o := 0) (t1 := 59) (t2 := 59) hy4 (Or.inl rfl) (.slice g1 g2 g3) (.bool g4) (.slice g5 g6 g7) (.bool g8)) (by decide) (by decide))
    have hgq : X1.heap.size ≤ X1.heap.size := Nat.le_refl _
    clear bX4 hy5 v0 v1 v2 v3 fr5 kp hy4 u0 u1 u2 u3 fr
    generalize (((X4.setCell ⟨X1.heap.size, 0, none⟩ (.slice g1 g2 g3)).setCell ⟨X1.heap.size, 1, none⟩ (.bool g4)).setCell ⟨X1.heap.size, 2, none⟩ (.slice g5 g6 g7)).setCell ⟨X1.heap.size, 3, none⟩ (.bool g8) = V at *
    have HBV := hid bV
    have HBW := hid (chain2 B1 bV)
    have HX0 := hid (box_below bV HX0.out (lt_of_block HX0.out))
    have HX1 := hid (box_below bV HX1.out (lt_of_block HX1.out))
    have HX2 := hid (box_below bV HX2.out (lt_of_block HX2.out))
    have HQB := hid (HQB.out.below bV)
    have HLS := hid (Ls.below (fun h b => h.below b) HLS.out bV)
    have HPLS := hid (Ls.below (fun h b => h.below b) HPLS.out bV)
    have hgb : w.heap.size < X1.heap.size := Nat.lt_of_lt_of_le (lt_of_block HX0A.out) hgq
    obtain ⟨r0, r1, r2, r3⟩ := four_cell HG.out
    clear bV n4 z0 z1 z2 z3 z4 y0 y1 y2 y3 y4 q0 q1 q2 q3 HKx F0 FA HQT HQ HQP HUL
    go_wp2_with fail
    refine (udenom_any V _ _ (2 * K + 9) (by omega) NV.out).mono ?_
    rintro e X5 ⟨v5, rfl, n5, bX5⟩
    have n5 := HFIT.out _ _ (shr tk pb) _ n5 HSH.out
    obtain ⟨s1, s2, s3, s4, s5, s6, s7, s8, rfl⟩ := n5.form
    have bA5 := (Below.refl X5.heap.size X5).alloc (Nat.le_refl _) (Obj.cells #[.slice s1 s2 s3, .bool s4, .slice s5 s6 s7, .bool s8] 59)
    have bV5 := chain2 bX5 bA5
    have HS5 := hid (box_new X5 (Obj.cells #[.slice s1 s2 s3, .bool s4, .slice s5 s6 s7, .bool s8] 59))
    have HN5 := hid (n5.below bA5)
    have HG5 := hid (box_below bV5 HG.out (lt_of_block HG.out))
    have HR5 := hid (NV.out.below bV5)
    have HBV5 := hid bV5
    clear n5 bA5 bX5 bV5 r0 r1 r2 r3
    obtain ⟨r0, r1, r2, r3⟩ := four_cell HG5.out
    obtain ⟨v0, v1, v2, v3⟩ := four_cell HS5.out
    go_wp2_with (refine wpList_store_fresh rfl 59 _ _ rfl _ _ _ rfl (by simp) rfl 4 info_Rat (by rfl) (by rfl) (by simp [Value.oneCell']) ?_)
    generalize X5.alloc (Obj.cells #[.slice s1 s2 s3, .bool s4, .slice s5 s6 s7, .bool s8] 59) = W5 at *
    generalize X5.heap.size = hs at *
    refine (q_mul W5 _ _ (((tk : Int) : Rat) / ((pb : Int) : Rat)) ((shr tk pb : Int) : Rat) (2 * K + 9) (by omega) HR5.out (HN5.out.mono (by omega))).mono ?_
    rintro e X6 ⟨v6, rfl, n6, bX6⟩
    rw [shr_mul] at n6
    have n6 := HFIT.out _ _ _ _ n6 HTM.out
    obtain ⟨t1, t2, t3, t4, t5, t6, t7, t8, rfl⟩ := n6.form
    have bA6 := (Below.refl X6.heap.size X6).alloc (Nat.le_refl _) (Obj.cells #[.slice t1 t2 t3, .bool t4, .slice t5 t6 t7, .bool t8] 59)
    have bV6 := chain2 bX6 bA6
    have HT6 := hid (box_new X6 (Obj.cells #[.slice t1 t2 t3, .bool t4, .slice t5 t6 t7, .bool t8] 59))
    have HN6 := hid (n6.below bA6)
    have HS6 := hid (box_below bV6 HS5.out (lt_of_block HS5.out))
    have HN56 := hid (HN5.out.below bV6)
    have HBV6 := hid (chain2 HBV5.out bV6)
    clear n6 bA6 bX6 bV6 r0 r1 r2 r3 v0 v1 v2 v3 HG5 HR5 HS5 HN5 HBV5
    have HBW9 := hid (chain2 HBW.out HBV6.out)
    have HX0 := hid (box_below HBV6.out HX0.out (lt_of_block HX0.out))
    have HX1 := hid (box_below HBV6.out HX1.out (lt_of_block HX1.out))
    have HX2 := hid (box_below HBV6.out HX2.out (lt_of_block HX2.out))
    have HQB := hid (HQB.out.below HBV6.out)
    have HLS := hid (Ls.below (fun h b => h.below b) HLS.out HBV6.out)
    have HPLS := hid (Ls.below (fun h b => h.below b) HPLS.out HBV6.out)
    clear HG NV HBV HBW HBV6
    have z0 := bxc HX0.out 0 (.slice (some ⟨g, 0, none⟩) T.length tc) rfl
    go_wp2_with (refine wpList_store_fresh rfl 59 _ _ rfl _ _ _ rfl (by simp) rfl 4 info_Rat (by rfl) (by rfl) (by simp [Value.oneCell']) ?_)
    generalize X6.alloc (Obj.cells #[.slice t1 t2 t3, .bool t4, .slice t5 t6 t7, .bool t8] 59) = W9 at *
    generalize X6.heap.size = ht at *
    have N0 := hid (show QLs W9 W9.heap.size (.slice none 0 0) [] (((clT T P (shr tk pb) (tms tk pb)).take 0).map (fun (t : Int) => (t : Rat))) K2 from Ls.none W9 _)
    obtain ⟨q, qeq⟩ : ∃ q, q = clT T P (shr tk pb) (tms tk pb) := ⟨_, rfl⟩
    have HQL := hid (show q.length = T.length by rw [qeq]; exact clT_len _ _ HPT.out)
    have HQAB := hid (show ∀ t ∈ q, t.natAbs < 10 ^ (2 * m + 1) by rw [qeq]; exact clT_abs HTA.out HPA.out HSH.out HTM.out)
    have HQTK := hid (fun (i : Nat) (h1 : i < T.length) (h2 : i < P.length) => show q.take (i + 1) = q.take i ++ [T[i] * shr tk pb - P[i] * tms tk pb] by rw [qeq]; exact clT_take _ _ i h1 h2 HPT.out)
    have HQE0 := hid qeq
    rw [← qeq] at N0
    clear qeq
    have HQS9 := hid HN56.out
    have HQT9 := hid HN6.out
    have hhs : hs < W9.heap.size := lt_of_block HS6.out
    have hht : ht < W9.heap.size := lt_of_block HT6.out
    have hpv : w.heap.size + 1 < W9.heap.size := lt_of_block HX1.out
    obtain ⟨sc0, sc1, sc2, sc3⟩ := four_cell HS6.out
    obtain ⟨tc0, tc1, tc2, tc3⟩ := four_cell HT6.out
    have pc0 := bxc HX1.out 0 (.slice (some ⟨pg, 0, none⟩) T.length pc) rfl
    have HMU := hid (fun (Y : World) (a b : Value) (x y : Int) (ha : QIs Y a ((x : Int) : Rat) K) (hb : QIs Y b ((y : Int) : Rat) K) => q_mul Y a b ((x : Int) : Rat) ((y : Int) : Rat) K (by omega) ha hb)
    have HSU := hid (fun (Y : World) (a b : Value) (x y : Rat) (ha : QIs Y a x (2 * K + 12)) (hb : QIs Y b y (2 * K + 12)) => q_sub Y a b x y (2 * K + 12) (by omega) ha hb)
    have B9 := hid HBW9.out
    go_wp2_with fail
    go_loopw [33, 10] (fun iv lv wr => ∃ (k2 : Nat) (CC : List (List Value)), k2 ≤ T.length ∧ iv = .int .i64 (k2 : Int) ∧ Hid (QLs wr W9.heap.size lv CC ((q.take k2).map (fun (t : Int) => (t : Rat))) K2) ∧ Below W9.heap.size W9 wr) (fun i _ _ => T.length - (intOf i).toNat)
    case atStart => exact ⟨0, [], Nat.zero_le _, rfl, N0, Below.refl _ _⟩
    case round =>
    obtain ⟨k2, CC, hk2, rfl, HOL, bw⟩ := hrel
    have HLEN := hid (show ((q.take k2).map (fun (t : Int) => (t : Rat))).length = k2 by rw [List.length_map, List.length_take, HQL.out]; omega)
    obtain ⟨la, lc, hle, hl1, hl2⟩ := HOL.out.slice
    rw [HLEN.out] at hle hl1
    subst hle
    by_cases hlt : k2 < T.length
    · have hltI : (k2 : Int) < (T.length : Int) := by omega
      have hli : (0 : Int) ≤ (k2 : Int) ∧ (k2 : Int) < (T.length : Int) := by omega
      have hltP : k2 < P.length := by rw [HPT.out]; exact hlt
      obtain ⟨g2, c2', d1, d2, d3, d4, d5, d6, d7, d8, e, x0, x1, x2, x3, hqd⟩ := qls_atI (Ls.below (fun h b => h.below b) HLS.out bw) k2 hlt
      simp only [Value.slice.injEq, Option.some.injEq, Addr.mk.injEq, and_true, true_and] at e
      obtain ⟨rfl, rfl⟩ := e
      obtain ⟨g3, c3', e1, e2, e3, e4, e5, e6, e7, e8, e, y0, y1, y2, y3, hqe⟩ := qls_atI (Ls.below (fun h b => h.below b) HPLS.out bw) k2 hltP
      simp only [Value.slice.injEq, Option.some.injEq, Addr.mk.injEq, and_true, true_and] at e
      obtain ⟨rfl, -, rfl⟩ := e
      have bA := (Below.refl wr.heap.size wr).alloc (Nat.le_refl _) (Obj.cells #[.slice d1 d2 d3, .bool d4, .slice d5 d6 d7, .bool d8] 59)
      obtain ⟨u0, u1, u2, u3⟩ := four_cell (box_new wr (Obj.cells #[.slice d1 d2 d3, .bool d4, .slice d5 d6 d7, .bool d8] 59))
      have bwA := bw.trans (bA.mono bw.size)
      have HQD := hid (hqd.below bA)
      have HQE := hid (hqe.below bA)
      have HQS := hid (HQS9.out.below bwA)
      have HQT := hid (HQT9.out.below bwA)
      have hown0 := HOL.out.own
      rw [HLEN.out] at hown0
      have HOW := hid (show (wr.alloc (Obj.cells #[.slice d1 d2 d3, .bool d4, .slice d5 d6 d7, .bool d8] 59)).ownsRow W9.heap.size 59 4 (.slice la k2 lc) k2 CC.flatten from hown0.alloc (Obj.cells #[.slice d1 d2 d3, .bool d4, .slice d5 d6 d7, .bool d8] 59))
      have HNE0 := hid (fun (x : Nat) (hx : x < W9.heap.size ∨ x = wr.heap.size) => show (Value.slice la k2 lc).ownBlock ≠ some x from fun e => by have := hown0.lt x e; omega)
      have HLT := hid (fun (x : Nat) (e : (Value.slice la k2 lc).ownBlock = some x) => (hown0.lt x e).1)
      have hpg : pg < W9.heap.size := by
        obtain ⟨_, _, _, _, _, _, _, _, _, _, e, y, -⟩ := qls_atI HPLS.out k2 hltP
        simp only [Value.slice.injEq, Option.some.injEq, Addr.mk.injEq, and_true, true_and] at e
        obtain ⟨rfl, -⟩ := e
        exact World.block_lt_of_cell? W9 _ y
      have HLW := hid (Ls.below (fun h b => h.below b) HOL.out bA)
      have HEL := hid (show (T[k2] * shr tk pb - P[k2] * tms tk pb).natAbs < 10 ^ (2 * m + 1) from HQAB.out _ (List.mem_of_mem_take (i := k2 + 1) (by rw [HQTK.out k2 hlt hltP]; simp)))
      have HMT := hid (map_take q k2 _ (HQTK.out k2 hlt hltP))
      have hsz9 : W9.heap.size ≤ (wr.alloc (Obj.cells #[.slice d1 d2 d3, .bool d4, .slice d5 d6 d7, .bool d8] 59)).heap.size := bwA.size
      have HKx := hid (fun (Y : World) (kz : Below (wr.alloc (Obj.cells #[.slice d1 d2 d3, .bool d4, .slice d5 d6 d7, .bool d8] 59)).heap.size (wr.alloc (Obj.cells #[.slice d1 d2 d3, .bool d4, .slice d5 d6 d7, .bool d8] 59)) Y) => show (Y.cell? ⟨wr.heap.size, 0, none⟩ = some (.slice d1 d2 d3) ∧ Y.cell? ⟨wr.heap.size, 1, none⟩ = some (.bool d4) ∧ Y.cell? ⟨wr.heap.size, 2, none⟩ = some (.slice d5 d6 d7) ∧ Y.cell? ⟨wr.heap.size, 3, none⟩ = some (.bool d8) ∧ Y.cell? ⟨hs, 0, none⟩ = some (.slice s1 s2 s3) ∧ Y.cell? ⟨hs, 1, none⟩ = some (.bool s4) ∧ Y.cell? ⟨hs, 2, none⟩ = some (.slice s5 s6 s7) ∧ Y.cell? ⟨hs, 3, none⟩ = some (.bool s8) ∧ Y.cell? ⟨ht, 0, none⟩ = some (.slice t1 t2 t3) ∧ Y.cell? ⟨ht, 1, none⟩ = some (.bool t4) ∧ Y.cell? ⟨ht, 2, none⟩ = some (.slice t5 t6 t7) ∧ Y.cell? ⟨ht, 3, none⟩ = some (.bool t8) ∧ Y.cell? ⟨w.heap.size + 1, 0, none⟩ = some (.slice (some ⟨pg, 0, none⟩) T.length pc) ∧ Y.cell? ⟨pg, k2 * 4, none⟩ = some (.slice e1 e2 e3) ∧ Y.cell? ⟨pg, k2 * 4 + 1, none⟩ = some (.bool e4) ∧ Y.cell? ⟨pg, k2 * 4 + 2, none⟩ = some (.slice e5 e6 e7) ∧ Y.cell? ⟨pg, k2 * 4 + 3, none⟩ = some (.bool e8)) from ⟨kcU kz u0, kcU kz u1, kcU kz u2, kcU kz u3, kcU kz (kcU bwA sc0), kcU kz (kcU bwA sc1), kcU kz (kcU bwA sc2), kcU kz (kcU bwA sc3), kcU kz (kcU bwA tc0), kcU kz (kcU bwA tc1), kcU kz (kcU bwA tc2), kcU kz (kcU bwA tc3), kcU kz (kcU bwA pc0), kcU kz (kcU bA y0), kcU kz (kcU bA y1), kcU kz (kcU bA y2), kcU kz (kcU bA y3)⟩)
      have hltk : k2 ≤ 192 := by omega
      have hKK0 := hid hKK
      clear hqd hqe bA hown0 u0 u1 u2 u3 y0 y1 y2 y3 HOL
      generalize T[k2] = te at *
      generalize P[k2] = pe at *
      go_wp2_with fail
      generalize wr.heap.size = tb at *
      generalize wr.alloc (Obj.cells #[.slice d1 d2 d3, .bool d4, .slice d5 d6 d7, .bool d8] 59) = W at *
      have HNE := HNE0
      have F0 : Below W.heap.size W W.drew := (Below.refl _ _).drew
      refine wp_region_noPanic ?_
      refine wp_region_held_drew (S := fun Y => Y.cell? ⟨tb, 0, none⟩ = some (.slice d1 d2 d3) ∧ Y.cell? ⟨tb, 1, none⟩ = some (.bool d4) ∧ Y.cell? ⟨tb, 2, none⟩ = some (.slice d5 d6 d7) ∧ Y.cell? ⟨tb, 3, none⟩ = some (.bool d8) ∧ Y.cell? ⟨hs, 0, none⟩ = some (.slice s1 s2 s3) ∧ Y.cell? ⟨hs, 1, none⟩ = some (.bool s4) ∧ Y.cell? ⟨hs, 2, none⟩ = some (.slice s5 s6 s7) ∧ Y.cell? ⟨hs, 3, none⟩ = some (.bool s8) ∧ Y.cell? ⟨ht, 0, none⟩ = some (.slice t1 t2 t3) ∧ Y.cell? ⟨ht, 1, none⟩ = some (.bool t4) ∧ Y.cell? ⟨ht, 2, none⟩ = some (.slice t5 t6 t7) ∧ Y.cell? ⟨ht, 3, none⟩ = some (.bool t8) ∧ Y.cell? ⟨w.heap.size + 1, 0, none⟩ = some (.slice (some ⟨pg, 0, none⟩) T.length pc) ∧ Y.cell? ⟨pg, k2 * 4, none⟩ = some (.slice e1 e2 e3) ∧ Y.cell? ⟨pg, k2 * 4 + 1, none⟩ = some (.bool e4) ∧ Y.cell? ⟨pg, k2 * 4 + 2, none⟩ = some (.slice e5 e6 e7) ∧ Y.cell? ⟨pg, k2 * 4 + 3, none⟩ = some (.bool e8)) (by kernel_rfl) (HKx.out _ F0) (fun hHeld => ?_)
      refine wpAnyH_take (i := 0) (v := ?_) rfl (by kernel_rfl) (by kernel_rfl) (by kernel_rfl) (fun _ _ _ h => h) (Or.inl ⟨by rfl, ?_⟩) (by assumption) ?_
      rotate_left
      · intro w hSw
        (try dsimp only at hSw)
        go_simp
        (try with_reducible rfl)
      (try simp only [List.getElem_toArray, List.getElem_cons_zero, List.getElem_cons_succ, Act.put, List.setIfInBounds_toArray, List.set_cons_zero, List.set_cons_succ])
      refine wpAnyH_take (i := 1) (v := ?_) rfl (by kernel_rfl) (by kernel_rfl) (by kernel_rfl) (fun _ _ _ h => h) (Or.inl ⟨by rfl, ?_⟩) (by assumption) ?_
      rotate_left
      · intro w hSw
        (try dsimp only at hSw)
        go_simp
        (try with_reducible rfl)
      (try simp only [List.getElem_toArray, List.getElem_cons_zero, List.getElem_cons_succ, Act.put, List.setIfInBounds_toArray, List.set_cons_zero, List.set_cons_succ])
      refine wpAnyH_take (i := 2) (v := ?_) rfl (by kernel_rfl) (by kernel_rfl) (by kernel_rfl) (fun _ _ _ h => h) (Or.inl ⟨by rfl, ?_⟩) (by assumption) ?_
      rotate_left
      · intro w hSw
        (try dsimp only at hSw)
        go_simp
        (try with_reducible rfl)
      (try simp only [List.getElem_toArray, List.getElem_cons_zero, List.getElem_cons_succ, Act.put, List.setIfInBounds_toArray, List.set_cons_zero, List.set_cons_succ])
      refine wpAnyH_take (i := 4) (v := ?_) rfl (by kernel_rfl) (by kernel_rfl) (by kernel_rfl) (fun _ _ _ h => h) (Or.inl ⟨by rfl, ?_⟩) (by assumption) ?_
      rotate_left
      · intro w hSw
        (try dsimp only at hSw)
        go_simp
        (try with_reducible rfl)
      (try simp only [List.getElem_toArray, List.getElem_cons_zero, List.getElem_cons_succ, Act.put, List.setIfInBounds_toArray, List.set_cons_zero, List.set_cons_succ])
      refine wpAnyH_take (i := 5) (v := ?_) rfl (by kernel_rfl) (by kernel_rfl) (by kernel_rfl) (fun _ _ _ h => h) (Or.inl ⟨by rfl, ?_⟩) (by assumption) ?_
      rotate_left
      · intro w hSw
        (try dsimp only at hSw)
        go_simp
        (try with_reducible rfl)
      (try simp only [List.getElem_toArray, List.getElem_cons_zero, List.getElem_cons_succ, Act.put, List.setIfInBounds_toArray, List.set_cons_zero, List.set_cons_succ])
      refine wpAnyH_take (i := 6) (v := ?_) rfl (by kernel_rfl) (by kernel_rfl) (by kernel_rfl) (fun _ _ _ h => h) (Or.inl ⟨by rfl, ?_⟩) (by assumption) ?_
      rotate_left
      · intro w hSw
        (try dsimp only at hSw)
        go_simp
        (try with_reducible rfl)
      (try simp only [List.getElem_toArray, List.getElem_cons_zero, List.getElem_cons_succ, Act.put, List.setIfInBounds_toArray, List.set_cons_zero, List.set_cons_succ])
      refine wpAnyH_take (i := 7) (v := ?_) rfl (by kernel_rfl) (by kernel_rfl) (by kernel_rfl) (fun _ _ _ h => h) (Or.inl ⟨by rfl, ?_⟩) (by assumption) ?_
      rotate_left
      · intro w hSw
        (try dsimp only at hSw)
        go_simp
        (try with_reducible rfl)
      (try simp only [List.getElem_toArray, List.getElem_cons_zero, List.getElem_cons_succ, Act.put, List.setIfInBounds_toArray, List.set_cons_zero, List.set_cons_succ])
      refine wpAnyH_take (i := 8) (v := ?_) rfl (by kernel_rfl) (by kernel_rfl) (by kernel_rfl) (fun _ _ _ h => h) (Or.inl ⟨by rfl, ?_⟩) (by assumption) ?_
      rotate_left
      · intro w hSw
        (try dsimp only at hSw)
        go_simp
        (try with_reducible rfl)
      (try simp only [List.getElem_toArray, List.getElem_cons_zero, List.getElem_cons_succ, Act.put, List.setIfInBounds_toArray, List.set_cons_zero, List.set_cons_succ])
      refine wpAnyH_take (i := 9) (v := ?_) rfl (by kernel_rfl) (by kernel_rfl) (by kernel_rfl) (fun _ _ _ h => h) (Or.inl ⟨by rfl, ?_⟩) (by assumption) ?_
      rotate_left
      · intro w hSw
        (try dsimp only at hSw)
        go_simp
        (try with_reducible rfl)
      (try simp only [List.getElem_toArray, List.getElem_cons_zero, List.getElem_cons_succ, Act.put, List.setIfInBounds_toArray, List.set_cons_zero, List.set_cons_succ])
      refine wpAnyH_ready (rs := [3]) (by kernel_rfl) (by simp) ?_
      refine AllReadyH.cons (o := _) rfl (fun Kc hKc => ?_) AllReadyH.nil
      go_simp
      (go_at_call 54; refine (HMU.out _ _ _ _ _ (HQD.out.below F0) (HQS.out.below F0)).mono ?_; rintro e Z1 ⟨y1, rfl, n1, bb⟩; have F1 := chain2 F0 bb)
      dsimp only
      refine hKc.out _ _ (HKx.out _ F1) (fun hHeld => ?_)
      clear hKc Kc
      (try simp only [List.getElem_toArray, List.getElem_cons_zero, List.getElem_cons_succ, Act.put, List.setIfInBounds_toArray, List.set_cons_zero, List.set_cons_succ])
      refine wpAnyH_ready (rs := [10]) (by kernel_rfl) (by simp) ?_
      refine AllReadyH.cons (o := _) rfl (fun Kc hKc => ?_) AllReadyH.nil
      go_simp
      (go_at_call 54; refine (HMU.out _ _ _ _ _ (HQE.out.below F1) (HQT.out.below F1)).mono ?_; rintro e Z2 ⟨y2, rfl, n2, bb⟩; have n1 := n1.below bb; have F2 := chain2 F1 bb)
      dsimp only
      refine hKc.out _ _ (HKx.out _ F2) (fun hHeld => ?_)
      clear hKc Kc
      (try simp only [List.getElem_toArray, List.getElem_cons_zero, List.getElem_cons_succ, Act.put, List.setIfInBounds_toArray, List.set_cons_zero, List.set_cons_succ])
      refine wpAnyH_ready (rs := [11]) (by kernel_rfl) (by simp) ?_
      refine AllReadyH.cons (o := _) rfl (fun Kc hKc => ?_) AllReadyH.nil
      go_simp
      (go_at_call 55; refine (HSU.out _ _ _ _ _ n1 n2).mono ?_; rintro e Z3 ⟨y3, rfl, n3, bb⟩; have F3 := chain2 F2 bb; obtain ⟨z1, z2, z3, z4, z5, z6, z7, z8, rfl⟩ := n3.form)
      dsimp only
      refine hKc.out _ _ (HKx.out _ F3) (fun hHeld => ?_)
      clear hKc Kc
      (try simp only [List.getElem_toArray, List.getElem_cons_zero, List.getElem_cons_succ, Act.put, List.setIfInBounds_toArray, List.set_cons_zero, List.set_cons_succ])
      refine wpAnyH_ready (rs := [12]) (by kernel_rfl) (by simp) ?_
      refine AllReadyH.cons (o := _) rfl (fun Kc hKc => ?_) AllReadyH.nil
      go_simp
      refine hKc.out _ _ (HKx.out _ (F3.alloc F3.size _)) (fun hHeld => ?_)
      clear hKc Kc
      (try simp only [List.getElem_toArray, List.getElem_cons_zero, List.getElem_cons_succ, Act.put, List.setIfInBounds_toArray, List.set_cons_zero, List.set_cons_succ])
      refine wpAnyH_ready (rs := [13]) (by kernel_rfl) (by simp) ?_
      refine AllReadyH.cons (o := _) rfl (fun Kc hKc => ?_) AllReadyH.nil
      refine step_append_at rfl _ _ 52 rfl W9.heap.size 59 i0 (.agg #[.slice none 0 0, .bool false, .slice none 0 0, .bool false]) 4 64 Tryz.underlying52 hi0 hz0 hz1 hz2 rfl (by decide) (.slice la k2 lc) k2 CC.flatten rfl ((own_below HOW.out F3).alloc (.cells #[.slice z1 z2 z3, .bool z4, .slice z5 z6 z7, .bool z8] 59)) ⟨Z3.heap.size, 0, none⟩ 1 1 [.slice z1 z2 z3, .bool z4, .slice z5 z6 z7, .bool z8] rfl rfl (four_new _ _ _ _ _ _) (by intro u hu; simp at hu; rcases hu with rfl | rfl | rfl | rfl <;> rfl) (by unfold maxLen; omega) (by omega) (by simp; have := F3.size; omega) ?_
      intro v' Y5 o5 hg5 hat5
      obtain ⟨m0, m1, m2, m3, m4, m5, m6, m7, m8, m9, m10, m11, m12, m13, m14, m15, m16⟩ := HKx.out _ (F3.alloc F3.size (Obj.cells #[.slice z1 z2 z3, .bool z4, .slice z5 z6 z7, .bool z8] 59))
      refine hKc.out _ _ (⟨grown_cell hg5 (HNE.out _ (Or.inr rfl)) m0, grown_cell hg5 (HNE.out _ (Or.inr rfl)) m1, grown_cell hg5 (HNE.out _ (Or.inr rfl)) m2, grown_cell hg5 (HNE.out _ (Or.inr rfl)) m3, grown_cell hg5 (HNE.out _ (Or.inl hhs)) m4, grown_cell hg5 (HNE.out _ (Or.inl hhs)) m5, grown_cell hg5 (HNE.out _ (Or.inl hhs)) m6, grown_cell hg5 (HNE.out _ (Or.inl hhs)) m7, grown_cell hg5 (HNE.out _ (Or.inl hht)) m8, grown_cell hg5 (HNE.out _ (Or.inl hht)) m9, grown_cell hg5 (HNE.out _ (Or.inl hht)) m10, grown_cell hg5 (HNE.out _ (Or.inl hht)) m11, grown_cell hg5 (HNE.out _ (Or.inl hpv)) m12, grown_cell hg5 (HNE.out _ (Or.inl hpg)) m13, grown_cell hg5 (HNE.out _ (Or.inl hpg)) m14, grown_cell hg5 (HNE.out _ (Or.inl hpg)) m15, grown_cell hg5 (HNE.out _ (Or.inl hpg)) m16⟩) (fun hHeld => ?_)
      clear hKc Kc
      (try simp only [List.getElem_toArray, List.getElem_cons_zero, List.getElem_cons_succ, Act.put, List.setIfInBounds_toArray, List.set_cons_zero, List.set_cons_succ])
      refine wpAnyH_take (i := 14) (v := ?_) rfl (by kernel_rfl) (by kernel_rfl) (by kernel_rfl) (fun _ _ _ h => h) (Or.inl ⟨by rfl, ?_⟩) (by assumption) ?_
      rotate_left
      · intro w hSw
        (try dsimp only at hSw)
        go_simp
        (try with_reducible rfl)
      (try simp only [List.getElem_toArray, List.getElem_cons_zero, List.getElem_cons_succ, Act.put, List.setIfInBounds_toArray, List.set_cons_zero, List.set_cons_succ])
      refine wpAnyH_done (by kernel_rfl) ?_ _
      refine NoPanic.normal ?_
      have hKB : 4 * K + 36 ≤ 1000000 := by omega
      have bE := (Below.refl Z3.heap.size Z3).alloc (Nat.le_refl _) (Obj.cells #[.slice z1 z2 z3, .bool z4, .slice z5 z6 z7, .bool z8] 59)
      have F4 := chain2 F3 bE
      have ownE := (own_below HOW.out F3).alloc (Obj.cells #[.slice z1 z2 z3, .bool z4, .slice z5 z6 z7, .bool z8] 59)
      have kg : Kty 59 59 (Z3.alloc (Obj.cells #[.slice z1 z2 z3, .bool z4, .slice z5 z6 z7, .bool z8] 59)) Y5 := Kty.of_grown hg5 (fun g hg => own_ty ownE g hg)
      have n3' := n3.below bE
      rw [int_sub] at n3'
      have n4 := fitI (m := 2 * m + 1) (by omega) n3' HEL.out
      rw [← hK2] at n4
      have hpush := Ls.push (Ls.below (fun h b => h.below b) HLW.out F4) (w' := Y5) (v' := v') (x0 := .slice z1 z2 z3) (x1 := .bool z4) (x2 := .slice z5 z6 z7) (x3 := .bool z8) (q := ((te * shr tk pb - pe * tms tk pb : Int) : Rat)) (by rw [HLEN.out]; exact o5) (fun h => h.kty kg (by decide) (by decide)) n4
      rw [← HMT.out] at hpush
      have HPU := hid hpush
      have B5 := (bwA.trans (F4.mono hsz9)).grown hg5 (Nat.le_trans hsz9 F4.size) (fun g hg => HLT.out g hg)
      clear hpush n4 n3' kg ownE F4 bE n3 n2 n1 o5 hg5 hat5 m0 m1 m2 m3 m4 m5 m6 m7 m8 m9 m10 m11 m12 m13 m14 m15 m16 F0 F1 F2 F3 HKx
      go_wp2_with fail
      go_roundw
      case rel => exact ⟨k2 + 1, _, by omega, by go_num, HPU, B5⟩
      case measure => simp [intOf]; omega
    · obtain rfl : k2 = T.length := by omega
      have hqT : q.take T.length = q := List.take_of_length_le (by rw [HQL.out]; exact Nat.le_refl _)
      have HOQ := hid (show QLs wr W9.heap.size (.slice la T.length lc) CC (q.map (fun (t : Int) => (t : Rat))) K2 by have := HOL.out; rw [hqT] at this; exact this)
      have x30 := box_below bw HX0.out (lt_of_block HX0.out)
      have z1 := bxc x30 1 (.slice a1 l1 c1) rfl
      have z2 := bxc x30 2 (.bool b1) rfl
      have z3 := bxc x30 3 (.slice a2 l2 c2) rfl
      have z4 := bxc x30 4 (.bool b2) rfl
      have j0 := kcU bw sc0
      have j1 := kcU bw sc1
      have j2 := kcU bw sc2
      have j3 := kcU bw sc3
      have HM1 := hid (HMU.out wr _ _ b (shr tk pb) (HQB.out.below bw) (HQS9.out.below bw))
      have hRT : lowT q (b * shr tk pb) = RT := by rw [← HRT.out, HQE0.out]; unfold clr; rw [if_neg HN0.out]
      have hRB : lowB q (b * shr tk pb) = RB := by rw [← HRB.out, HQE0.out]; unfold clr; rw [if_neg HN0.out]
      have HRTB := hid (And.intro hRT hRB)
      have HBN := hid (show b * shr tk pb ≠ 0 from Int.mul_ne_zero (by omega) (by have := shr_pos tk pb; omega))
      have HBA := hid (show (b * shr tk pb).natAbs < 10 ^ (2 * m + 1) from mul_abs HBM.out HSH.out)
      have HRZ2 := hid (box_below bw HX2.out (lt_of_block HX2.out))
      have BWr := hid (chain2 B9.out bw)
      clear hlt hqT x30 hRT hRB HOL
      go_wp2_with fail
      refine HM1.out.mono ?_
      rintro e Z1 ⟨y1, rfl, n1, bb⟩
      rw [← Rat.intCast_mul] at n1
      have n2 := fitI (m := 2 * m + 1) (by omega) n1 HBA.out
      rw [← hK2] at n2
      obtain ⟨f1, f2, f3, f4, f5, f6, f7, f8, rfl⟩ := n2.form
      have HLO := hid (ulowest_any Z1 _ _ _ _ _ _ _ _ _ W9.heap.size CC q (b * shr tk pb) (2 * m + 1) K2 hK2 (by omega) hK HBN.out (by rw [HQL.out]; exact hkN) HQAB.out HBA.out (Ls.below (fun h b => h.below b) HOQ.out bb) n2)
      rw [HRTB.out.1, HRTB.out.2] at HLO
      have HRZ3 := hid (box_below bb HRZ2.out (lt_of_block HRZ2.out))
      have BZ1 := hid (chain2 BWr.out bb)
      clear n1 n2 bb HM1 z1 z2 z3 z4 j0 j1 j2 j3 HOQ
      go_wp2_with fail
      refine HLO.out.mono ?_
      rintro e Z2 ⟨⟨tv, p1, p2, p3, p4, p5, p6, p7, p8, rfl, n4⟩, bb⟩
      obtain ⟨ta', tn', tc', rfl⟩ : ∃ ta tl tc, tv = .slice ta tl tc := by
        obtain ⟨ta, tc, _, _, _, _, _, _, _, _, e, _⟩ := n4.form
        exact ⟨ta, _, tc, e⟩
      have HRZ4 := hid (box_below bb HRZ3.out (lt_of_block HRZ3.out))
      have BZ2 := chain2 BZ1.out bb
      rw [HRZ.out] at HRZ4
      simp only [HRZ.out]
      obtain ⟨q1, q2, q3⟩ := set5_of (v0 := .slice ta' tn' tc') (v1 := .slice p1 p2 p3) (v2 := .bool p4) (v3 := .slice p5 p6 p7) (v4 := .bool p8) HRZ4.out
      have y0 := bxc HRZ4.out 0 (.slice none 0 0) rfl
      have y1 := bxc HRZ4.out 1 (.slice none 0 0) rfl
      have y2 := bxc HRZ4.out 2 (.bool false) rfl
      have y3 := bxc HRZ4.out 3 (.slice none 0 0) rfl
      have y4 := bxc HRZ4.out 4 (.bool false) rfl
      have fr := fun j => blk_free HRZ4.out j
      have HF := hid q1
      have NQ := hid (n4.kty q2 (by decide) (by decide) (by decide) (by decide))
      have BA := hid (q3 w BZ2 hrz)
      clear q1 q2 q3 n4 bb BZ2 HLO
      go_wp2
      exact bodyPost_ret (results_cell_row Tryz.results35 _ _ rz _ _ _ _ (by rfl) HF.out Tryz.underlying61 (by rfl) info_tlist) rfl ⟨⟨_, p1, p2, p3, p4, p5, p6, p7, p8, rfl, NQ.out⟩, BA.out⟩
end Go.Proofs.YtgojlegknlalpaaGreatDoor
