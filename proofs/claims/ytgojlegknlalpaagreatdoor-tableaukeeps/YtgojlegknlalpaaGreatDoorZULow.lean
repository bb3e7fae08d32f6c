/- tableau: lowest. -/
import Derived.Test.YtgojlegknlalpaaGreatDoorPk35
import Derived.Deep.RegionWith
import Derived.Deep.RegionLaw
namespace Go.Proofs.YtgojlegknlalpaaGreatDoor
open Go.RowKit
set_option linter.unusedVariables false
set_option maxRecDepth 100000
set_option linter.unusedSimpArgs false

theorem qls_atI {w : World} {base : Nat} {v : Value} {C : List (List Value)} {T : List Int} {K : Nat} (h : QLs w base v C (T.map (fun (t : Int) => (t : Rat))) K) (k : Nat) (hk : k < T.length) : ∃ g c d1 d2 d3 d4 d5 d6 d7 d8, v = .slice (some ⟨g, 0, none⟩) T.length c ∧ w.cell? ⟨g, k * 4, none⟩ = some (.slice d1 d2 d3) ∧ w.cell? ⟨g, k * 4 + 1, none⟩ = some (.bool d4) ∧ w.cell? ⟨g, k * 4 + 2, none⟩ = some (.slice d5 d6 d7) ∧ w.cell? ⟨g, k * 4 + 3, none⟩ = some (.bool d8) ∧ QIs w (.agg #[.slice d1 d2 d3, .bool d4, .slice d5 d6 d7, .bool d8]) ((T[k] : Int) : Rat) K := by
  have hk' : k < (T.map (fun (t : Int) => (t : Rat))).length := by rw [List.length_map]; exact hk
  obtain ⟨g, c, x0, x1, x2, x3, e, _, q0, q1, q2, q3, hq⟩ := h.at k hk'
  obtain ⟨d1, d2, d3, d4, d5, d6, d7, d8, hs⟩ := hq.form
  simp only [Value.agg.injEq, Array.mk.injEq, List.cons.injEq, and_true] at hs
  obtain ⟨rfl, rfl, rfl, rfl⟩ := hs
  rw [List.length_map] at e
  rw [List.getElem_map] at hq
  exact ⟨g, c, d1, d2, d3, d4, d5, d6, d7, d8, e, q0, q1, q2, q3, hq⟩
set_option maxHeartbeats 25600000 in
theorem ulowest_any (w : World) (v : Value) (a1 : Option Addr) (l1 c1 : Nat) (b1 : Bool) (a2 : Option Addr) (l2 c2 : Nat) (b2 : Bool) (base : Nat) (C : List (List Value)) (T : List Int) (b : Int) (m K : Nat) (hKm : K = m / 9 + 1) (hm : 18 ≤ m) (hK : K ≤ 200000) (hb : b ≠ 0) (hl : T.length ≤ 192) (hT : ∀ t ∈ T, t.natAbs < 10 ^ m) (hbm : b.natAbs < 10 ^ m) (h : QLs w base v C (T.map (fun (t : Int) => (t : Rat))) K) (hq : QIs w (.agg #[.slice a1 l1 c1, .bool b1, .slice a2 l2 c2, .bool b2]) ((b : Int) : Rat) K) :
    Calls Tryz.prog 52 #[v, .agg #[.slice a1 l1 c1, .bool b1, .slice a2 l2 c2, .bool b2]] w fun e w' => (∃ tv p1 p2 p3 p4 p5 p6 p7 p8, e = .returned (.agg #[tv, .slice p1 p2 p3, .bool p4, .slice p5 p6 p7, .bool p8]) ∧ ULi w' tv (.slice p1 p2 p3) (.bool p4) (.slice p5 p6 p7) (.bool p8) (lowT T b) (lowB T b) K) ∧ Below w.heap.size w w' := by
  obtain ⟨i0, hi0, hz0, hz1, hz2⟩ := info_parts info_RatZ
  obtain ⟨a, c, rfl, hlc, hcm⟩ := h.slice
  rw [List.length_map] at hlc
  simp only [List.length_map] at h
  simp only [List.length_map]
  have hK2 : 2 ≤ K := by omega
  have HFIT : Hid (∀ (X : World) (u : Value) (z : Int) (K' : Nat), QIs X u ((z : Int) : Rat) K' → z.natAbs < 10 ^ m → QIs X u ((z : Int) : Rat) K) := hid (fun X u z K' k1 k2 => by rw [hKm]; exact fitI (by omega) k1 k2)
  have HH := hid h
  have HQ0 := hid hq
  have HT := hid hT
  have HBM := hid hbm
  have HOK := hid (com_ok hb T)
  have HAL := hid (com_all hb T)
  have HCA := hid (fun k (hk : k ≤ T.length) => com_abs hb T k hk hbm)
  have HPOS := hid (lowB_pos T hb)
  have HBA := hid (lowB_abs T hb hbm)
  have HB := hid hb
  obtain ⟨LT, HLT0⟩ : ∃ LT, Hid (lowT T b = LT) := ⟨_, hid rfl⟩
  obtain ⟨LB, HLB0⟩ : ∃ LB, Hid (lowB T b = LB) := ⟨_, hid rfl⟩
  rw [HLB0.out] at HPOS HBA
  simp only [HLT0.out, HLB0.out]
  have b0 := boxed2 (Below.refl w.heap.size w) (Obj.cells #[.slice a1 l1 c1, .bool b1, .slice a2 l2 c2, .bool b2] 59) (Obj.cells #[.slice none 0 0, .slice none 0 0, .bool false, .slice none 0 0, .bool false] 61)
  have x0 := boxed2_first w (Obj.cells #[.slice a1 l1 c1, .bool b1, .slice a2 l2 c2, .bool b2] 59) (Obj.cells #[.slice none 0 0, .slice none 0 0, .bool false, .slice none 0 0, .bool false] 61)
  have z0 := boxed2_second w (Obj.cells #[.slice a1 l1 c1, .bool b1, .slice a2 l2 c2, .bool b2] 59) (Obj.cells #[.slice none 0 0, .slice none 0 0, .bool false, .slice none 0 0, .bool false] 61)
  have HONE := hid (show Calls Tryz.prog 72 #[.agg #[.slice a1 l1 c1, .bool b1, .slice a2 l2 c2, .bool b2]] ((w.alloc (Obj.cells #[.slice a1 l1 c1, .bool b1, .slice a2 l2 c2, .bool b2] 59)).alloc (Obj.cells #[.slice none 0 0, .slice none 0 0, .bool false, .slice none 0 0, .bool false] 61)) (fun e w' => e = .returned (.bool (decide (b = 1))) ∧ Below ((w.alloc (Obj.cells #[.slice a1 l1 c1, .bool b1, .slice a2 l2 c2, .bool b2] 59)).alloc (Obj.cells #[.slice none 0 0, .slice none 0 0, .bool false, .slice none 0 0, .bool false] 61)).heap.size ((w.alloc (Obj.cells #[.slice a1 l1 c1, .bool b1, .slice a2 l2 c2, .bool b2] 59)).alloc (Obj.cells #[.slice none 0 0, .slice none 0 0, .bool false, .slice none 0 0, .bool false] 61)) w') by
    have := uisOne_any ((w.alloc (Obj.cells #[.slice a1 l1 c1, .bool b1, .slice a2 l2 c2, .bool b2] 59)).alloc (Obj.cells #[.slice none 0 0, .slice none 0 0, .bool false, .slice none 0 0, .bool false] 61)) _ _ K (by omega) hK2 (hq.below b0)
    rw [cmp_one] at this
    exact this)
  obtain ⟨e0, e1, e2, e3⟩ := four_cell x0
  clear h hq hT hbm hb hKm hm
  go_enter Tryz.func52, Tryz.ntmps52
  go_wp2_with fail
  generalize (w.alloc (Obj.cells #[.slice a1 l1 c1, .bool b1, .slice a2 l2 c2, .bool b2] 59)).alloc (Obj.cells #[.slice none 0 0, .slice none 0 0, .bool false, .slice none 0 0, .bool false] 61) = W0 at *
  refine HONE.out.mono ?_
  rintro e X1 ⟨rfl, bX1⟩
  clear HONE
  have B1 := chain2 b0 bX1
  have HX1 := hid (box_below bX1 x0 (lt_of_block x0))
  have HZ := hid (box_below bX1 z0 (lt_of_block z0))
  have hlx : w.heap.size + 1 < X1.heap.size := lt_of_block HZ.out
  obtain ⟨rz, HRZ⟩ : ∃ rz, Hid (w.heap.size + 1 = rz) := ⟨_, hid rfl⟩
  have hrz : w.heap.size ≤ rz := by rw [← HRZ.out]; omega
  have hrzx : rz < X1.heap.size := by rw [← HRZ.out]; exact hlx
  have hrne : w.heap.size ≠ rz := by rw [← HRZ.out]; omega
  rw [HRZ.out] at HZ
  simp only [HRZ.out]
  obtain ⟨f0, f1, f2, f3⟩ := four_cell HX1.out
  clear b0 x0 z0 bX1 e0 e1 e2 e3 hlx HRZ
  by_cases hb1 : b = 1
  · subst hb1
    have HL1 := hid (low_one T)
    rw [HLT0.out, HLB0.out] at HL1
    have HY := HZ
    have HNN := hid (HQ0.out.below B1)
    have HLL := hid (Ls.below (fun h b => h.below b) HH.out B1)
    have z0 := bxc HZ.out 0 (.slice none 0 0) rfl
    have z1 := bxc HZ.out 1 (.slice none 0 0) rfl
    have z2 := bxc HZ.out 2 (.bool false) rfl
    have z3 := bxc HZ.out 3 (.slice none 0 0) rfl
    have z4 := bxc HZ.out 4 (.bool false) rfl
    have fr := fun j => blk_free HZ.out j
    have w1 := blk_set HZ.out 0 (.slice a T.length c)
    have w2 := blk_set w1 1 (.slice a1 l1 c1)
    have w3 := blk_set w2 2 (.bool b1)
    have w4 := blk_set w3 3 (.slice a2 l2 c2)
    have w5 := blk_set w4 4 (.bool b2)
    have L5 := QLs.setU (i := 4) (QLs.setU (i := 3) (QLs.setU (i := 2) (QLs.setU (i := 1) (QLs.setU (i := 0) HLL.out HZ.out (.slice a T.length c)) w1 (.slice a1 l1 c1)) w2 (.bool b1)) w3 (.slice a2 l2 c2)) w4 (.bool b2)
    have N1 := QIs.kty HNN.out (Kty.of_set (t1 := 59) (t2 := 61) (i := 0) HZ.out (Or.inr rfl) (.slice a T.length c)) (by decide) (by decide)
    have N2 := N1.kty (Kty.of_set (t1 := 59) (t2 := 61) (i := 1) w1 (Or.inr rfl) (.slice a1 l1 c1)) (by decide) (by decide)
    have N3 := N2.kty (Kty.of_set (t1 := 59) (t2 := 61) (i := 2) w2 (Or.inr rfl) (.bool b1)) (by decide) (by decide)
    have N4 := N3.kty (Kty.of_set (t1 := 59) (t2 := 61) (i := 3) w3 (Or.inr rfl) (.slice a2 l2 c2)) (by decide) (by decide)
    have N5 := N4.kty (Kty.of_set (t1 := 59) (t2 := 61) (i := 4) w4 (Or.inr rfl) (.bool b2)) (by decide) (by decide)
    have B5 := ((((B1.setCell (p := ⟨rz, 0, none⟩) hrz (.slice a T.length c)).setCell (p := ⟨rz, 1, none⟩) hrz (.slice a1 l1 c1)).setCell (p := ⟨rz, 2, none⟩) hrz (.bool b1)).setCell (p := ⟨rz, 3, none⟩) hrz (.slice a2 l2 c2)).setCell (p := ⟨rz, 4, none⟩) hrz (.bool b2)
    have HF := hid w5
    have HLI := hid (show ULi _ (.slice a T.length c) (.slice a1 l1 c1) (.bool b1) (.slice a2 l2 c2) (.bool b2) T 1 K from ⟨base, C, (by decide), N5, L5⟩)
    have HB5 := hid B5
    clear w1 w2 w3 w4 w5 L5 N1 N2 N3 N4 N5 B5
    go_wp2
    exact bodyPost_ret (results_cell_row Tryz.results52 _ _ rz _ _ _ _ (by rfl) HF.out Tryz.underlying61 (by rfl) info_tlist) rfl ⟨⟨_, a1, l1, c1, b1, a2, l2, c2, b2, rfl, by rw [HL1.out.1, HL1.out.2]; exact HLI.out⟩, HB5.out⟩
  have d1 : decide (b = 1) = false := by simpa using hb1
  clear hb1
  have y2 := box_new X1 (Obj.cells #[.slice a1 l1 c1, .bool b1, .slice a2 l2 c2, .bool b2] 59)
  have bA := (Below.refl X1.heap.size X1).alloc (Nat.le_refl _) (Obj.cells #[.slice a1 l1 c1, .bool b1, .slice a2 l2 c2, .bool b2] 59)
  have HB2 := hid (chain2 B1 bA)
  have HX2 := hid (box_below bA HX1.out (lt_of_block HX1.out))
  have HZ2 := hid (box_below bA HZ.out (lt_of_block HZ.out))
  have HY2 := hid y2
  have HN2 := hid (show QIs (X1.alloc (Obj.cells #[.slice a1 l1 c1, .bool b1, .slice a2 l2 c2, .bool b2] 59)) (.agg #[.slice a1 l1 c1, .bool b1, .slice a2 l2 c2, .bool b2]) ((com b (T.take 0) : Int) : Rat) K from HQ0.out.below HB2.out)
  have hcb : w.heap.size < X1.heap.size := lt_of_block HX1.out
  simp only [d1]
  clear d1 y2 bA HX1 HZ B1
  go_wp2_with (refine wpList_store_fresh rfl 59 _ _ rfl _ _ _ rfl (by simp) rfl 4 info_Rat (by rfl) (by rfl) (by simp [Value.oneCell']) ?_)
  clear f0 f1 f2 f3
  generalize X1.alloc (Obj.cells #[.slice a1 l1 c1, .bool b1, .slice a2 l2 c2, .bool b2] 59) = W2 at *
  generalize X1.heap.size = cb at *
  go_loopw [19] (fun i wr => ∃ (k : Nat) (p1 : Option Addr) (p2 p3 : Nat) (p4 : Bool) (p5 : Option Addr) (p6 p7 : Nat) (p8 : Bool), k ≤ T.length ∧ i = .int .i64 (k : Int) ∧ Hid (wr.heap[cb]? = some (.cells #[.slice p1 p2 p3, .bool p4, .slice p5 p6 p7, .bool p8] 59 (0, 0))) ∧ Hid (wr.heap[rz]? = some (.cells #[.slice none 0 0, .slice none 0 0, .bool false, .slice none 0 0, .bool false] 61 (0, 0))) ∧ Hid (wr.heap[w.heap.size]? = some (.cells #[.slice a1 l1 c1, .bool b1, .slice a2 l2 c2, .bool b2] 59 (0, 0))) ∧ Hid (QIs wr (.agg #[.slice p1 p2 p3, .bool p4, .slice p5 p6 p7, .bool p8]) ((com b (T.take k) : Int) : Rat) K) ∧ Below w.heap.size w wr) (fun i _ => T.length - (intOf i).toNat)
  case atStart => exact ⟨0, a1, l1, c1, b1, a2, l2, c2, b2, Nat.zero_le _, rfl, HY2, HZ2, HX2, HN2, HB2.out⟩
  case round =>
  clear HY2 HZ2 HX2 HN2 HB2
  obtain ⟨k, p1, p2, p3, p4, p5, p6, p7, p8, hk, rfl, HY, HZ, HX, HN, bw⟩ := hrel
  by_cases hlt : k < T.length
  · obtain ⟨g, c', s1, s2, s3, s4, s5, s6, s7, s8, e, q0, q1, q2, q3, hq⟩ := qls_atI (Ls.below (fun h b => h.below b) HH.out bw) k hlt
    simp only [Value.slice.injEq] at e
    obtain ⟨rfl, -, rfl⟩ := e
    have bA := (Below.refl wr.heap.size wr).alloc (Nat.le_refl _) (Obj.cells #[.slice s1 s2 s3, .bool s4, .slice s5 s6 s7, .bool s8] 59)
    have BA := below_alloc' bw (Nat.le_refl _) (Obj.cells #[.slice s1 s2 s3, .bool s4, .slice s5 s6 s7, .bool s8] 59)
    have HYA := hid (box_alloc HY.out (Obj.cells #[.slice s1 s2 s3, .bool s4, .slice s5 s6 s7, .bool s8] 59))
    have HZA := hid (box_alloc HZ.out (Obj.cells #[.slice s1 s2 s3, .bool s4, .slice s5 s6 s7, .bool s8] 59))
    have HXA := hid (box_alloc HX.out (Obj.cells #[.slice s1 s2 s3, .bool s4, .slice s5 s6 s7, .bool s8] 59))
    have nA := box_new wr (Obj.cells #[.slice s1 s2 s3, .bool s4, .slice s5 s6 s7, .bool s8] 59)
    have NA := hid (HN.out.below bA)
    have QA := hid (hq.below bA)
    have HSU := hid (com_succ b T k hlt)
    have HC1 := hid (HCA.out (k + 1) (by omega))
    have HOKk := hid (HOK.out k (by omega))
    have hcn : ((com b (T.take k) : Int) : Rat) ≠ 0 := fun e => HOKk.out.ne (by exact_mod_cast e)
    have HCN := hid hcn
    have HCR := hid (cst_rat T[k] HOKk.out.ne)
    clear hq HY HZ HX HN bA bw hcn
    go_wp2_with (refine wpList_store_fresh rfl 59 _ _ rfl _ _ _ rfl (by simp) rfl 4 info_Rat (by rfl) (by rfl) (by simp [Value.oneCell']) ?_)
    clear q0 q1 q2 q3
    generalize wr.alloc (Obj.cells #[.slice s1 s2 s3, .bool s4, .slice s5 s6 s7, .bool s8] 59) = W3 at *
    generalize wr.heap.size = nb at *
    obtain ⟨m1, m2, m3, m4⟩ := four_cell HYA.out
    obtain ⟨t0, t1, t2, t3⟩ := four_cell nA
    clear nA
    generalize hqt : T[k] = tk at *
    generalize hqc : com b (T.take k) = ck at *
    have HQT := hid hqt
    have HQC := hid hqc
    clear hqt hqc
    have hdn : ((((((tk : Int) : Rat) / ((ck : Int) : Rat)).den : Nat)) : Rat) ≠ 0 := fun e => (((tk : Int) : Rat) / ((ck : Int) : Rat)).den_nz (by exact_mod_cast e)
    have HDN := hid hdn
    clear hdn
    generalize hqd : (((tk : Int) : Rat) / ((ck : Int) : Rat)) = qd at *
    have HQD := hid hqd
    clear hqd
    go_wp2_with fail
    go_region_with (first
      | (have gk := G2; go_at_call 45; refine (uquot_any _ _ _ ((ck : Int) : Rat) ((qd.den : Nat) : Rat) (2 * K + 18) (by omega) ((NA.out.below (by first | exact bX5' | exact below_dn bX5' _ | exact bX5'.drew)).mono (by omega)) ((by first | exact n5 | exact n5.below (Below.refl _ _).drew | exact n5.below (below_dn (Below.refl _ _) _)) : QIs _ _ _ _) HDN.out).mono ?_; rintro e Y6 ⟨v6, rfl, n6, b6⟩; have bX6' : Below W3.heap.size W3 Y6 := chain2 bX5' ⟨b6.os, b6.tape, b6.output, b6.size, b6.block⟩; obtain ⟨i1, i2, i3, i4, i5, i6, i7, i8, rfl⟩ := n6.form; have y6 := box_below bX6' HYA.out (lt_of_block HYA.out); obtain ⟨o1, o2, o3, o4⟩ := four_cell y6; have fr := free_four y6; clear b6)
      | (have gk := G1; go_at_call 53; refine (udenom_any _ _ _ (2 * K + 9) (by omega) (by first | exact n4 | exact n4.below (Below.refl _ _).drew | exact n4.below (below_dn (Below.refl _ _) _))).mono ?_; rintro e Y5 ⟨v5, rfl, n5', b5⟩; have bX5' : Below W3.heap.size W3 Y5 := chain2 bX4' ⟨b5.os, b5.tape, b5.output, b5.size, b5.block⟩; have n5 := n5'.mono (show 2 * K + 9 + 9 ≤ 2 * K + 18 by omega); have G2 := bX5'; have y5 := box_below bX5' HYA.out (lt_of_block HYA.out); obtain ⟨r1, r2, r3, r4⟩ := four_cell y5; clear b5 n5' y5)
      | (go_at_call 45; refine (uquot_any _ _ _ ((tk : Int) : Rat) ((ck : Int) : Rat) K (by omega) (QA.out.below (by first | exact Below.refl _ _ | exact (Below.refl _ _).drew | exact below_dn (Below.refl _ _) _)) (NA.out.below (by first | exact Below.refl _ _ | exact (Below.refl _ _).drew | exact below_dn (Below.refl _ _) _)) HCN.out).mono ?_; rintro e Y4 ⟨v4, rfl, n4', b4⟩; have n4 := n4'; rw [HQD.out] at n4; have bX4' : Below W3.heap.size W3 Y4 := ⟨b4.os, b4.tape, b4.output, b4.size, b4.block⟩; have G1 := bX4'; have y4 := box_below bX4' HYA.out (lt_of_block HYA.out); obtain ⟨k1, k2, k3, k4⟩ := four_cell y4; clear b4 y4 n4'))
    all_goals
      have yS := set4_own y6 (.slice i1 i2 i3) (.bool i4) (.slice i5 i6 i7) (.bool i8)
      have z6 := box_below bX6' HZA.out (lt_of_block HZA.out)
      have x6 := box_below bX6' HXA.out (lt_of_block HXA.out)
      have kS := set4_kty (o := 0) (t1 := 59) (t2 := 59) y6 (Or.inl rfl) (.slice i1 i2 i3) (.bool i4) (.slice i5 i6 i7) (.bool i8)
      have zS : ((((Y6.setCell ⟨cb, 0, none⟩ (.slice i1 i2 i3)).setCell ⟨cb, 1, none⟩ (.bool i4)).setCell ⟨cb, 2, none⟩ (.slice i5 i6 i7)).setCell ⟨cb, 3, none⟩ (.bool i8)).heap[rz]? = some (.cells #[.slice none 0 0, .slice none 0 0, .bool false, .slice none 0 0, .bool false] 61 (0, 0)) := by
        have hne : rz ≠ cb := by omega
        rw [Below.heap_setCell _ ⟨cb, 3, none⟩ _ _ hne, Below.heap_setCell _ ⟨cb, 2, none⟩ _ _ hne, Below.heap_setCell _ ⟨cb, 1, none⟩ _ _ hne, Below.heap_setCell _ ⟨cb, 0, none⟩ _ _ hne]
        exact z6
      have xS : ((((Y6.setCell ⟨cb, 0, none⟩ (.slice i1 i2 i3)).setCell ⟨cb, 1, none⟩ (.bool i4)).setCell ⟨cb, 2, none⟩ (.slice i5 i6 i7)).setCell ⟨cb, 3, none⟩ (.bool i8)).heap[w.heap.size]? = some (.cells #[.slice a1 l1 c1, .bool b1, .slice a2 l2 c2, .bool b2] 59 (0, 0)) := by
        have hne : w.heap.size ≠ cb := by omega
        rw [Below.heap_setCell _ ⟨cb, 3, none⟩ _ _ hne, Below.heap_setCell _ ⟨cb, 2, none⟩ _ _ hne, Below.heap_setCell _ ⟨cb, 1, none⟩ _ _ hne, Below.heap_setCell _ ⟨cb, 0, none⟩ _ _ hne]
        exact x6
      rw [HCR.out, ← HSU.out] at n6
      have NS := (HFIT.out _ _ _ _ n6 HC1.out).kty kS (by decide) (by decide)
      have BS := set4_below (o := 0) (BA.trans (bX6'.mono BA.size)) (show w.heap.size ≤ cb by omega) (.slice i1 i2 i3) (.bool i4) (.slice i5 i6 i7) (.bool i8)
      have HYS := hid yS
      have HZS := hid zS
      have HXS := hid xS
      have HNS := hid NS
      clear yS zS xS NS z6 x6 kS n6 n5 n4 y6 o1 o2 o3 o4 fr
      go_wp2
      go_roundw
      case rel => exact ⟨k + 1, i1, i2, i3, i4, i5, i6, i7, i8, by omega, by go_num, HYS, HZS, HXS, HNS, BS⟩
      case measure => simp [intOf]; omega
  obtain rfl : k = T.length := by omega
  rw [List.take_length] at HN
  have HOKm := hid (HOK.out T.length (Nat.le_refl _))
  have HALm := hid (HAL.out T.length (Nat.le_refl _))
  rw [List.take_length] at HOKm HALm
  have HLT : Hid (LT = T.map (fun t => t / com b T)) := hid HLT0.out.symm
  have HLB : Hid (LB = b / com b T) := hid HLB0.out.symm
  clear HLT0 HLB0
  generalize com b T = cc at *
  have hcn : ((cc : Int) : Rat) ≠ 0 := fun e => HOKm.out.ne (by exact_mod_cast e)
  have HCN := hid hcn
  have HQV := hid (HQ0.out.below bw)
  obtain ⟨f0, f1, f2, f3⟩ := four_cell HX.out
  obtain ⟨g0, g1, g2, g3⟩ := four_cell HY.out
  clear HOK HAL HCA hcn hlt
  go_wp2_with fail
  refine (uquot_any wr _ _ ((b : Int) : Rat) ((cc : Int) : Rat) K (by omega) HQV.out HN.out HCN.out).mono ?_
  rintro e X5 ⟨v5, rfl, n5, bX5⟩
  rw [rat_div_int HOKm.out.ne HOKm.out.dvd, ← HLB.out] at n5
  obtain ⟨h1, h2, h3, h4, h5, h6, h7, h8, rfl⟩ := n5.form
  have n5 := HFIT.out _ _ _ _ n5 HBA.out
  have bA := (Below.refl X5.heap.size X5).alloc (Nat.le_refl _) (Obj.cells #[.slice none 0 0, .slice h1 h2 h3, .bool h4, .slice h5 h6 h7, .bool h8] 61)
  have bW5 := chain2 bX5 bA
  have HB6 := hid (chain2 bw bW5)
  have HN6 := hid (n5.below bA)
  have HC6 := hid (HN.out.below bW5)
  have HY6 := hid (box_below bW5 HY.out (lt_of_block HY.out))
  have HZ6 := hid (box_below bW5 HZ.out (lt_of_block HZ.out))
  have y6 := box_new X5 (Obj.cells #[.slice none 0 0, .slice h1 h2 h3, .bool h4, .slice h5 h6 h7, .bool h8] 61)
  have hbx1 : cb < X5.heap.size := Nat.lt_of_lt_of_le (lt_of_block HY.out) bX5.size
  clear n5 bX5 bA bW5 bw HN HY HZ HX HQV f0 f1 f2 f3 g0 g1 g2 g3
  go_wp2_with (refine wpList_store_fresh rfl 61 _ _ rfl _ _ _ rfl (by simp) rfl 5 info_tlist (by rfl) (by rfl) (by simp [Value.oneCell']) ?_)
  have hbx2 : X5.heap.size < (X5.alloc (Obj.cells #[.slice none 0 0, .slice h1 h2 h3, .bool h4, .slice h5 h6 h7, .bool h8] 61)).heap.size := lt_of_block y6
  generalize X5.alloc (Obj.cells #[.slice none 0 0, .slice h1 h2 h3, .bool h4, .slice h5 h6 h7, .bool h8] 61) = W6 at *
  generalize X5.heap.size = bx at *
  have HY7 := hid y6
  have HL6 := hid (show QLs W6 W6.heap.size (.slice none 0 0) [] (((T.take 0).map (fun t => t / cc)).map (fun (t : Int) => (t : Rat))) K from Ls.none W6 _)
  clear y6
  obtain ⟨bs, HBS⟩ : ∃ bs, Hid (W6.heap.size = bs) := ⟨_, hid rfl⟩
  rw [HBS.out] at HL6 hbx2
  have hbsw : Hid (bs ≤ W6.heap.size) := hid (by rw [HBS.out]; exact Nat.le_refl _)
  clear HBS
  go_loopw [36] (fun i wr => ∃ (k : Nat) (ta : Option Addr) (tn tc : Nat) (C' : List (List Value)), k ≤ T.length ∧ i = .int .i64 (k : Int) ∧ Hid (wr.heap[bx]? = some (.cells #[.slice ta tn tc, .slice h1 h2 h3, .bool h4, .slice h5 h6 h7, .bool h8] 61 (0, 0))) ∧ Hid (wr.heap[rz]? = some (.cells #[.slice none 0 0, .slice none 0 0, .bool false, .slice none 0 0, .bool false] 61 (0, 0))) ∧ Hid (wr.heap[cb]? = some (.cells #[.slice p1 p2 p3, .bool p4, .slice p5 p6 p7, .bool p8] 59 (0, 0))) ∧ Hid (QIs wr (.agg #[.slice h1 h2 h3, .bool h4, .slice h5 h6 h7, .bool h8]) ((LB : Int) : Rat) K) ∧ Hid (QIs wr (.agg #[.slice p1 p2 p3, .bool p4, .slice p5 p6 p7, .bool p8]) ((cc : Int) : Rat) K) ∧ Hid (QLs wr bs (.slice ta tn tc) C' (((T.take k).map (fun t => t / cc)).map (fun (t : Int) => (t : Rat))) K) ∧ Hid (bs ≤ wr.heap.size) ∧ Below w.heap.size w wr) (fun i _ => T.length - (intOf i).toNat)
  case atStart => exact ⟨0, none, 0, 0, [], Nat.zero_le _, rfl, HY7, HZ6, HY6, HN6, HC6, HL6, hbsw, HB6.out⟩
  case round =>
  clear HY7 HZ6 HY6 HN6 HC6 HL6 hbsw HB6
  obtain ⟨k, ta, tn, tc, C', hk, rfl, HY, HZ, HCB, HN, HNC, HL, HBS, bw⟩ := hrel
  by_cases hlt : k < T.length
  · obtain ⟨g, c', s1, s2, s3, s4, s5, s6, s7, s8, e, q0, q1, q2, q3, hq⟩ := qls_atI (Ls.below (fun h b => h.below b) HH.out bw) k hlt
    simp only [Value.slice.injEq] at e
    obtain ⟨rfl, -, rfl⟩ := e
    have bA := (Below.refl wr.heap.size wr).alloc (Nat.le_refl _) (Obj.cells #[.slice s1 s2 s3, .bool s4, .slice s5 s6 s7, .bool s8] 59)
    have BA := below_alloc' bw (Nat.le_refl _) (Obj.cells #[.slice s1 s2 s3, .bool s4, .slice s5 s6 s7, .bool s8] 59)
    have HYA := hid (box_alloc HY.out (Obj.cells #[.slice s1 s2 s3, .bool s4, .slice s5 s6 s7, .bool s8] 59))
    have HZA := hid (box_alloc HZ.out (Obj.cells #[.slice s1 s2 s3, .bool s4, .slice s5 s6 s7, .bool s8] 59))
    have HCBA := hid (box_alloc HCB.out (Obj.cells #[.slice s1 s2 s3, .bool s4, .slice s5 s6 s7, .bool s8] 59))
    have nA := box_new wr (Obj.cells #[.slice s1 s2 s3, .bool s4, .slice s5 s6 s7, .bool s8] 59)
    have NA := hid (HN.out.below bA)
    have NCA := hid (HNC.out.below bA)
    have QA := hid (hq.below bA)
    have LA := hid (Ls.below (fun h b => h.below b) HL.out bA)
    have HBA2 := hid (Nat.le_trans HBS.out bA.size)
    have HSU := hid (mapI_succ T cc k hlt)
    have hdv : cc ∣ T[k] := HALm.out _ (List.getElem_mem hlt)
    have HDV := hid (rat_div_int HOKm.out.ne hdv)
    have HTA : Hid ((T[k] / cc).natAbs < 10 ^ m) := hid (by
      rcases div_abs T[k] cc with h | h
      · exact Nat.lt_of_le_of_lt h (HT.out _ (List.getElem_mem hlt))
      · exact absurd hdv h)
    have hln : tn = k := by
      obtain ⟨_, _, e, _⟩ := HL.out.slice
      simp only [Value.slice.injEq, List.length_map, List.length_take] at e
      omega
    subst hln
    have hX0 : (((T.take tn).map (fun t => t / cc)).map (fun (t : Int) => (t : Rat))).length = tn := by simp; omega
    have HXL := hid hX0
    clear hq HY HZ HCB HN HNC HL bA bw hX0 hdv HBS
    go_wp2_with (refine wpList_store_fresh rfl 59 _ _ rfl _ _ _ rfl (by simp) rfl 4 info_Rat (by rfl) (by rfl) (by simp [Value.oneCell']) ?_)
    clear q0 q1 q2 q3
    generalize wr.alloc (Obj.cells #[.slice s1 s2 s3, .bool s4, .slice s5 s6 s7, .bool s8] 59) = W3 at *
    generalize wr.heap.size = nb at *
    have m0 := bxc HYA.out 0 (.slice ta tn tc) rfl
    obtain ⟨m1, m2, m3, m4⟩ := four_cell HCBA.out
    obtain ⟨t0, t1, t2, t3⟩ := four_cell nA
    clear nA
    generalize T[tn] = tk at *
    generalize hqu : tk / cc = qu at *
    clear hqu
    go_wp2_with fail
    go_region_law (first
      | (refine step_append_at rfl _ _ 52 rfl bs 59 i0 (.agg #[.slice none 0 0, .bool false, .slice none 0 0, .bool false]) 4 64 Tryz.underlying52 hi0 hz0 hz1 hz2 rfl (by decide) (.slice ta tn tc) tn _ rfl (by have := (Ls.below (fun h b => h.below b) LA.out bX4').own.alloc (.cells #[.slice i1 i2 i3, .bool i4, .slice i5 i6 i7, .bool i8] 59); rw [HXL.out] at this; exact this) ⟨Y4.heap.size, 0, none⟩ 1 1 [.slice i1 i2 i3, .bool i4, .slice i5 i6 i7, .bool i8] rfl rfl (four_new _ _ _ _ _ _) (by intro u hu; simp at hu; rcases hu with rfl | rfl | rfl | rfl <;> rfl) (by unfold maxLen; omega) (by omega) (by simp; have := bX4'.size; have := HBA2.out; omega) ?_; intro v' Y5 o5 hg5 hat5; have bA4 := (Below.refl Y4.heap.size Y4).alloc (Nat.le_refl _) (Obj.cells #[.slice i1 i2 i3, .bool i4, .slice i5 i6 i7, .bool i8] 59); have bX4a := chain2 bX4' bA4; have la := Ls.below (fun h b => h.below b) LA.out bX4a; have ya := box_below bX4a HYA.out (lt_of_block HYA.out); have y5 := (hg5.block bx (lt_of_block ya) (fun e => own_ne_ty la.own ya (by decide) e.symm)).trans ya; have o0 := bxc y5 0 (.slice ta tn tc) rfl; have fr := blk_free y5 0; obtain ⟨ta', tc', rfl⟩ := own_form4 o5)
      | (go_simp; go_at_call 45; refine (uquot_any _ _ _ ((tk : Int) : Rat) ((cc : Int) : Rat) K (by omega) (QA.out.below (by first | exact Below.refl _ _ | exact (Below.refl _ _).drew | exact below_dn (Below.refl _ _) _)) (NCA.out.below (by first | exact Below.refl _ _ | exact (Below.refl _ _).drew | exact below_dn (Below.refl _ _) _)) HCN.out).mono ?_; rintro e Y4 ⟨v4, rfl, n4, b4⟩; have bX4' : Below W3.heap.size W3 Y4 := ⟨b4.os, b4.tape, b4.output, b4.size, b4.block⟩; have G1 := bX4'; rw [HDV.out] at n4; obtain ⟨i1, i2, i3, i4, i5, i6, i7, i8, rfl⟩ := n4.form; have N4 := hid (HFIT.out _ _ _ _ n4 HTA.out); have y4 := box_below bX4' HYA.out (lt_of_block HYA.out); have k0 := bxc y4 0 (.slice ta tn tc) rfl; have j0 := bxc (box_alloc y4 (Obj.cells #[.slice i1 i2 i3, .bool i4, .slice i5 i6 i7, .bool i8] 59)) 0 (.slice ta tn tc) rfl; clear b4 y4 n4; dsimp only))
    all_goals
      have yS := blk_set y5 0 (.slice ta' (tn + 1) tc')
      have za := box_below bX4a HZA.out (lt_of_block HZA.out)
      have z5 := (hg5.block rz (lt_of_block za) (fun e => own_ne_ty la.own za (by decide) e.symm)).trans za
      have ca := box_below bX4a HCBA.out (lt_of_block HCBA.out)
      have c5 := (hg5.block cb (lt_of_block ca) (fun e => by have := (la.own.lt cb e.symm).1; omega)).trans ca
      have zS : (Y5.setCell ⟨bx, 0, none⟩ (.slice ta' (tn + 1) tc')).heap[rz]? = some (.cells #[.slice none 0 0, .slice none 0 0, .bool false, .slice none 0 0, .bool false] 61 (0, 0)) := (Below.heap_setCell Y5 ⟨bx, 0, none⟩ _ rz (show rz ≠ bx by omega)).trans z5
      have cS : (Y5.setCell ⟨bx, 0, none⟩ (.slice ta' (tn + 1) tc')).heap[cb]? = some (.cells #[.slice p1 p2 p3, .bool p4, .slice p5 p6 p7, .bool p8] 59 (0, 0)) := (Below.heap_setCell Y5 ⟨bx, 0, none⟩ _ cb (show cb ≠ bx by omega)).trans c5
      have kg : Kty 59 61 (Y4.alloc (.cells #[.slice i1 i2 i3, .bool i4, .slice i5 i6 i7, .bool i8] 59)) Y5 := Kty.of_grown hg5 (fun g hg => own_ty la.own g hg)
      have ks := Kty.of_set (t1 := 59) (t2 := 61) (i := 0) y5 (Or.inr rfl) (.slice ta' (tn + 1) tc')
      have NS := ((NA.out.below bX4a).kty kg (by decide) (by decide)).kty ks (by decide) (by decide)
      have NCS := ((NCA.out.below bX4a).kty kg (by decide) (by decide)).kty ks (by decide) (by decide)
      have hpush := Ls.push la (w' := Y5) (v' := .slice ta' (tn + 1) tc') (x0 := .slice i1 i2 i3) (x1 := .bool i4) (x2 := .slice i5 i6 i7) (x3 := .bool i8) (q := ((qu : Int) : Rat)) (by rw [HXL.out]; exact o5) (fun h => QIs.kty h kg (by decide) (by decide)) (N4.out.below bA4)
      rw [← HSU.out] at hpush
      have LS := QLs.setU (i := 0) hpush y5 (.slice ta' (tn + 1) tc')
      have hsz5 := hg5.size
      have B5 := (BA.trans (bX4a.mono BA.size)).grown hg5 (Nat.le_trans BA.size bX4a.size) (fun g hg => by have := (la.own.lt g hg).1; omega)
      have BS := B5.setCell (p := ⟨bx, 0, none⟩) (show w.heap.size ≤ bx by omega) (.slice ta' (tn + 1) tc')
      have HBN : Hid (bs ≤ (Y5.setCell ⟨bx, 0, none⟩ (.slice ta' (tn + 1) tc')).heap.size) := hid (by simp; have := HBA2.out; have := bX4a.size; omega)
      have HYS := hid yS
      have HZS := hid zS
      have HCS := hid cS
      have HNS := hid NS
      have HNCS := hid NCS
      have HLS := hid LS
      clear yS zS cS NS NCS LS za z5 ca c5 kg ks hpush la ya y5 o0 fr o5 hg5 hat5 B5 bA4 bX4a hsz5
      go_wp2
      go_roundw
      case rel => exact ⟨tn + 1, ta', tn + 1, tc', _, by omega, by go_num, HYS, HZS, HCS, HNS, HNCS, HLS, HBN, BS⟩
      case measure => simp [intOf]; omega
  obtain rfl : k = T.length := by omega
  rw [List.take_length, ← HLT.out] at HL
  have y0 := bxc HY.out 0 (.slice ta tn tc) rfl
  have z0 := bxc HZ.out 0 (.slice none 0 0) rfl
  have z1 := bxc HZ.out 1 (.slice none 0 0) rfl
  have z2 := bxc HZ.out 2 (.bool false) rfl
  have z3 := bxc HZ.out 3 (.slice none 0 0) rfl
  have z4 := bxc HZ.out 4 (.bool false) rfl
  have fr := fun j => blk_free HZ.out j
  have w1 := blk_set HZ.out 0 (.slice ta tn tc)
  have w2 := blk_set w1 1 (.slice h1 h2 h3)
  have w3 := blk_set w2 2 (.bool h4)
  have w4 := blk_set w3 3 (.slice h5 h6 h7)
  have w5 := blk_set w4 4 (.bool h8)
  have L5 := QLs.setU (i := 4) (QLs.setU (i := 3) (QLs.setU (i := 2) (QLs.setU (i := 1) (QLs.setU (i := 0) HL.out HZ.out (.slice ta tn tc)) w1 (.slice h1 h2 h3)) w2 (.bool h4)) w3 (.slice h5 h6 h7)) w4 (.bool h8)
  have N1 := QIs.kty HN.out (Kty.of_set (t1 := 59) (t2 := 61) (i := 0) HZ.out (Or.inr rfl) (.slice ta tn tc)) (by decide) (by decide)
  have N2 := N1.kty (Kty.of_set (t1 := 59) (t2 := 61) (i := 1) w1 (Or.inr rfl) (.slice h1 h2 h3)) (by decide) (by decide)
  have N3 := N2.kty (Kty.of_set (t1 := 59) (t2 := 61) (i := 2) w2 (Or.inr rfl) (.bool h4)) (by decide) (by decide)
  have N4 := N3.kty (Kty.of_set (t1 := 59) (t2 := 61) (i := 3) w3 (Or.inr rfl) (.slice h5 h6 h7)) (by decide) (by decide)
  have N5 := N4.kty (Kty.of_set (t1 := 59) (t2 := 61) (i := 4) w4 (Or.inr rfl) (.bool h8)) (by decide) (by decide)
  have B5 := ((((bw.setCell (p := ⟨rz, 0, none⟩) hrz (.slice ta tn tc)).setCell (p := ⟨rz, 1, none⟩) hrz (.slice h1 h2 h3)).setCell (p := ⟨rz, 2, none⟩) hrz (.bool h4)).setCell (p := ⟨rz, 3, none⟩) hrz (.slice h5 h6 h7)).setCell (p := ⟨rz, 4, none⟩) hrz (.bool h8)
  have HF := hid w5
  have HLI := hid (show ULi _ (.slice ta tn tc) (.slice h1 h2 h3) (.bool h4) (.slice h5 h6 h7) (.bool h8) LT LB K from ⟨bs, C', HPOS.out, N5, L5⟩)
  have HB5 := hid B5
  clear w1 w2 w3 w4 w5 L5 N1 N2 N3 N4 N5 B5
  have y1 := bxc HY.out 1 (.slice h1 h2 h3) rfl
  have y2 := bxc HY.out 2 (.bool h4) rfl
  have y3 := bxc HY.out 3 (.slice h5 h6 h7) rfl
  have y4 := bxc HY.out 4 (.bool h8) rfl
  go_wp2
  exact bodyPost_ret (results_cell_row Tryz.results52 _ _ rz _ _ _ _ (by rfl) HF.out Tryz.underlying61 (by rfl) info_tlist) rfl ⟨⟨_, h1, h2, h3, h4, h5, h6, h7, h8, rfl, HLI.out⟩, HB5.out⟩
end Go.Proofs.YtgojlegknlalpaaGreatDoor
