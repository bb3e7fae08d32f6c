/- cert: sums over a list. -/
import Derived.Test.YtbdhanlenekdhaaGreatDoorPk34
namespace Go.Proofs.YtbdhanlenekdhaaGreatDoor
open Go.RowKit
set_option linter.unusedVariables false
set_option maxRecDepth 100000
set_option linter.unusedSimpArgs false

set_option maxHeartbeats 12800000 in
theorem sum_any (w : World) (ta : Option Addr) (tc : Nat) (m1 m2 m3 m4 : Value) (Y : List Rat) (base : Nat) (C : List (List Value)) (fv : Value) (f : List Int) (h4 : ∃ a1 a2 a3 b1 a4 a5 a6 b2, m1 = .slice a1 a2 a3 ∧ m2 = .bool b1 ∧ m3 = .slice a4 a5 a6 ∧ m4 = .bool b2) (hY : ∀ x ∈ Y, Lt10 45600 x) (hl : Y.length ≤ 64) (hL : QLs w base (.slice ta Y.length tc) C Y 5100) (hf : Ints w fv f) (h9 : In9 f) (hfl : f.length ≤ Y.length) :
    Calls Tryz.prog 66 #[.agg #[.slice ta Y.length tc, m1, m2, m3, m4], fv] w fun e w' => ∃ v, e = .returned v ∧ QIs w' v (dot f Y) 330000 ∧ Below w.heap.size w w' := by
  obtain ⟨a1, a2, a3, b1, a4, a5, a6, b2, rfl, rfl, rfl, rfl⟩ := h4
  obtain ⟨fa, fc, rfl, hfc, hfm⟩ := hf.slice
  unfold maxLen at hfm
  obtain ⟨_, _, et, hlc, hcm⟩ := hL.slice
  simp only [Value.slice.injEq] at et
  obtain ⟨rfl, _, rfl⟩ := et
  have HL := hid hL
  have HF := hid hf
  have HY := hid hY
  have H9 := hid h9
  clear hL hf hY h9
  have b0 := boxed2 (Below.refl w.heap.size w) (Obj.cells #[.slice ta Y.length tc, .slice a1 a2 a3, .bool b1, .slice a4 a5 a6, .bool b2] 71) (Obj.cells #[.slice none 0 0, .bool false, .slice none 0 0, .bool false] 69)
  have x0 := boxed2_first w (Obj.cells #[.slice ta Y.length tc, .slice a1 a2 a3, .bool b1, .slice a4 a5 a6, .bool b2] 71) (Obj.cells #[.slice none 0 0, .bool false, .slice none 0 0, .bool false] 69)
  have z0 := boxed2_second w (Obj.cells #[.slice ta Y.length tc, .slice a1 a2 a3, .bool b1, .slice a4 a5 a6, .bool b2] 71) (Obj.cells #[.slice none 0 0, .bool false, .slice none 0 0, .bool false] 69)
  go_enter Tryz.func66, Tryz.ntmps66
  go_wp2_with fail
  generalize (w.alloc (Obj.cells #[.slice ta Y.length tc, .slice a1 a2 a3, .bool b1, .slice a4 a5 a6, .bool b2] 71)).alloc (Obj.cells #[.slice none 0 0, .bool false, .slice none 0 0, .bool false] 69) = W0 at *
  refine (q_of W0 0 (by omega) (by omega)).mono ?_
  rintro e X1 ⟨v1, rfl, n1, bX1⟩
  obtain ⟨h1, h2, h3, h4, h5, h6, h7, h8, rfl⟩ := n1.form
  have B1 := chain2 b0 bX1
  have x1 := box_below bX1 x0 (lt_of_block x0)
  have z1 := box_below bX1 z0 (lt_of_block z0)
  have bA := (Below.refl X1.heap.size X1).alloc (Nat.le_refl _) (Obj.cells #[.slice h1 h2 h3, .bool h4, .slice h5 h6 h7, .bool h8] 69)
  have B2 := below_alloc' B1 (Nat.le_refl _) (Obj.cells #[.slice h1 h2 h3, .bool h4, .slice h5 h6 h7, .bool h8] 69)
  have x2 := box_alloc x1 (Obj.cells #[.slice h1 h2 h3, .bool h4, .slice h5 h6 h7, .bool h8] 69)
  have z2 := box_alloc z1 (Obj.cells #[.slice h1 h2 h3, .bool h4, .slice h5 h6 h7, .bool h8] 69)
  have y2 := box_new X1 (Obj.cells #[.slice h1 h2 h3, .bool h4, .slice h5 h6 h7, .bool h8] 69)
  have N2 := hid ((n1.below bA).mono (show 2 ≤ 330000 by omega))
  have hbx : w.heap.size + 1 < X1.heap.size := lt_of_block z1
  clear b0 x0 z0 n1 bX1 B1 x1 z1 bA
  go_wp2_with (refine wpList_store_fresh rfl 69 _ _ rfl _ _ _ rfl (by simp) rfl 4 info_Rat (by rfl) (by rfl) (by simp [Value.oneCell']) ?_)
  generalize X1.alloc (Obj.cells #[.slice h1 h2 h3, .bool h4, .slice h5 h6 h7, .bool h8] 69) = W2 at *
  generalize X1.heap.size = ab at *
  go_loopw [11] (fun i wr => ∃ (k : Nat) (p1 : Option Addr) (p2 p3 : Nat) (p4 : Bool) (p5 : Option Addr) (p6 p7 : Nat) (p8 : Bool), k ≤ f.length ∧ i = .int .i64 (k : Int) ∧ Hid (wr.heap[ab]? = some (.cells #[.slice p1 p2 p3, .bool p4, .slice p5 p6 p7, .bool p8] 69 (0, 0))) ∧ Hid (wr.heap[w.heap.size + 1]? = some (.cells #[.slice none 0 0, .bool false, .slice none 0 0, .bool false] 69 (0, 0))) ∧ Hid (wr.heap[w.heap.size]? = some (.cells #[.slice ta Y.length tc, .slice a1 a2 a3, .bool b1, .slice a4 a5 a6, .bool b2] 71 (0, 0))) ∧ Hid (QIs wr (.agg #[.slice p1 p2 p3, .bool p4, .slice p5 p6 p7, .bool p8]) (dot (f.take k) Y) 330000) ∧ Below w.heap.size w wr) (fun i _ => f.length - (intOf i).toNat)
  case atStart => exact ⟨0, h1, h2, h3, h4, h5, h6, h7, h8, Nat.zero_le _, rfl, y2, z2, x2, N2, B2⟩
  case round =>
    clear y2 z2 x2 N2 B2
    obtain ⟨k, p1, p2, p3, p4, p5, p6, p7, p8, hk, rfl, HAA, HZ, HLB, HN, bw⟩ := hrel
    by_cases hlt : k < f.length
    · have hkY : k < Y.length := by omega
      obtain ⟨g, c', u0, u1, u2, u3, e, _, q0, q1, q2, q3, hq⟩ := (Ls.below (fun h b => h.below b) HL.out bw).at k hkY
      simp only [Value.slice.injEq] at e
      obtain ⟨rfl, _, rfl⟩ := e
      obtain ⟨s1, s2, s3, s4, s5, s6, s7, s8, hs⟩ := hq.form
      simp only [Value.agg.injEq, Array.mk.injEq, List.cons.injEq, and_true] at hs
      obtain ⟨rfl, rfl, rfl, rfl⟩ := hs
      obtain ⟨fb, fo, fd, ef, _, _, ff⟩ := (HF.out.below bw).at k hlt
      simp only [Value.slice.injEq] at ef
      obtain ⟨rfl, _, rfl⟩ := ef
      have hk9 := H9.out _ (List.getElem_mem hlt)
      have HQ := hid hq
      have HSU := hid (dot_succ f Y k hlt hkY)
      have HFIT := hid (fun (X' : World) (v' : Value) (K : Nat) (hh : QIs X' v' (dot (f.take k) Y + (f[k] : Rat) * Y[k]) K) => show QIs X' v' (dot (f.take (k + 1)) Y) 330000 from sum_fit (K := K) (by rw [HSU.out]; exact hh) H9.out HY.out hfl hlt (by omega))
      have H64 := hid hk9
      clear hq hk9
      generalize f[k] = fk at *
      generalize Y[k] = yk at *
      go_wp2_with fail
      have bD : Below wr.heap.size wr wr := Below.refl _ _
      obtain ⟨v0, v1, v2, v3⟩ := four_cell HAA.out
      have lb := bxc HLB.out 0 (.slice (some ⟨g, 0, none⟩) Y.length tc) rfl
      go_region_with (first
        | (have gk := G2; go_at_call 91; refine (q_add _ _ _ (dot (f.take k) Y) ((fk : Rat) * yk) 330000 (by omega) (HN.out.below (by first | exact bX5' | exact below_dn bX5' _ | exact bX5'.drew)) ((by first | exact n5 | exact n5.below (Below.refl _ _).drew | exact n5.below (below_dn (Below.refl _ _) _)) : QIs _ _ _ _)).mono ?_; rintro e Y6 ⟨v6, rfl, n6, b6⟩; have bX6' : Below wr.heap.size wr Y6 := chain2 bX5' ⟨b6.os, b6.tape, b6.output, b6.size, b6.block⟩; obtain ⟨i1, i2, i3, i4, i5, i6, i7, i8, rfl⟩ := n6.form; have aa6 := box_below bX6' HAA.out (lt_of_block HAA.out); obtain ⟨w60, w61, w62, w63⟩ := four_cell aa6; have fr := free_four aa6; clear b6)
        | (have gk := G1; go_at_call 68; refine (q_mul _ _ _ yk (fk : Rat) 5100 (by omega) (HQ.out.below (by first | exact bX4' | exact below_dn bX4' _ | exact bX4'.drew)) ((by first | exact n4a | exact n4a.below (Below.refl _ _).drew | exact n4a.below (below_dn (Below.refl _ _) _)) : QIs _ _ _ _)).mono ?_; rintro e Y5 ⟨v5, rfl, n5', b5⟩; have bX5' : Below wr.heap.size wr Y5 := chain2 bX4' ⟨b5.os, b5.tape, b5.output, b5.size, b5.block⟩; have n5 := (q_comm n5').mono (show 2 * 5100 + 12 ≤ 330000 by omega); have G2 := bX5'; obtain ⟨w50, w51, w52, w53⟩ := four_cell (box_below bX5' HAA.out (lt_of_block HAA.out)); clear b5 n5')
        | (go_at_call 69; refine (q_of _ fk H64.out.1 H64.out.2).mono ?_; rintro e Y4 ⟨v4, rfl, n4, b4⟩; have bX4' : Below wr.heap.size wr Y4 := ⟨b4.os, b4.tape, b4.output, b4.size, b4.block⟩; have n4a := n4.mono (show 2 ≤ 5100 by omega); have G1 := bX4'; obtain ⟨w40, w41, w42, w43⟩ := four_cell (box_below bX4' HAA.out (lt_of_block HAA.out)); have l4 := bxc (box_below bX4' HLB.out (lt_of_block HLB.out)) 0 (.slice (some ⟨g, 0, none⟩) Y.length tc) rfl; have e40 := (bX4'.cell (World.block_lt_of_cell? wr _ q0)).trans q0; have e41 := (bX4'.cell (World.block_lt_of_cell? wr _ q1)).trans q1; have e42 := (bX4'.cell (World.block_lt_of_cell? wr _ q2)).trans q2; have e43 := (bX4'.cell (World.block_lt_of_cell? wr _ q3)).trans q3; clear b4))
      all_goals
        have yS := set4_own aa6 (.slice i1 i2 i3) (.bool i4) (.slice i5 i6 i7) (.bool i8)
        have kS := set4_kty (o := 0) (t1 := 69) (t2 := 69) aa6 (Or.inl rfl) (.slice i1 i2 i3) (.bool i4) (.slice i5 i6 i7) (.bool i8)
        have z6 := box_below bX6' HZ.out (lt_of_block HZ.out)
        have l6 := box_below bX6' HLB.out (lt_of_block HLB.out)
        have zS := (set4_heap (r := ab) (c := w.heap.size + 1) (show w.heap.size + 1 ≠ ab by omega) (.slice i1 i2 i3) (.bool i4) (.slice i5 i6 i7) (.bool i8)).trans z6
        have lS := (set4_heap (r := ab) (c := w.heap.size) (show w.heap.size ≠ ab by omega) (.slice i1 i2 i3) (.bool i4) (.slice i5 i6 i7) (.bool i8)).trans l6
        have NS := (HFIT.out _ _ _ n6).kty kS (by decide) (by decide)
        have BS := set4_below (o := 0) (bw.trans (bX6'.mono bw.size)) (show w.heap.size ≤ ab by omega) (.slice i1 i2 i3) (.bool i4) (.slice i5 i6 i7) (.bool i8)
        have HYS := hid yS
        have HZS := hid zS
        have HLS := hid lS
        have HNS := hid NS
        clear yS zS lS NS kS z6 l6 n6 n5 n4 n4a aa6 fr
        go_wp2
        go_roundw
        case rel => exact ⟨k + 1, i1, i2, i3, i4, i5, i6, i7, i8, by omega, by go_num, HYS, HZS, HLS, HNS, BS⟩
        case measure => simp [intOf]; omega
    · obtain rfl : k = f.length := by omega
      rw [List.take_length] at HN
      obtain ⟨v0, v1, v2, v3⟩ := four_cell HAA.out
      obtain ⟨z0, z1, z2, z3⟩ := four_cell HZ.out
      have fr := free_four HZ.out
      have zS := set4_own HZ.out (.slice p1 p2 p3) (.bool p4) (.slice p5 p6 p7) (.bool p8)
      obtain ⟨r0, r1, r2, r3⟩ := four_cell zS
      have HO := hid (And.intro r0 (And.intro r1 (And.intro r2 r3)))
      have NS := hid (HN.out.kty (set4_kty (o := 0) (t1 := 69) (t2 := 69) HZ.out (Or.inl rfl) (.slice p1 p2 p3) (.bool p4) (.slice p5 p6 p7) (.bool p8)) (by decide) (by decide))
      have BS := hid (set4_below (o := 0) bw (show w.heap.size ≤ w.heap.size + 1 by omega) (.slice p1 p2 p3) (.bool p4) (.slice p5 p6 p7) (.bool p8))
      clear zS r0 r1 r2 r3
      go_wp2
      exact bodyPost_ret (v := .agg #[.slice p1 p2 p3, .bool p4, .slice p5 p6 p7, .bool p8]) (by simp [results, Tryz.results66, go_sem, HO.out.1, HO.out.2.1, HO.out.2.2.1, HO.out.2.2.2]) rfl ⟨_, rfl, NS.out, BS.out⟩
end Go.Proofs.YtbdhanlenekdhaaGreatDoor
