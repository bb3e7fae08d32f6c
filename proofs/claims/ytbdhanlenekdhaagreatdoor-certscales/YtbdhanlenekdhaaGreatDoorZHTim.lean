/- cert: the document's Times. -/
import Derived.Test.YtbdhanlenekdhaaGreatDoorPk34
namespace Go.Proofs.YtbdhanlenekdhaaGreatDoor
open Go.RowKit
set_option linter.unusedVariables false
set_option maxRecDepth 100000
set_option linter.unusedSimpArgs false

theorem tsum_fit {w : World} {v : Value} {f : List Int} {X : List Rat} {K k : Nat} (h : TIs w v (dot (f.take k) X) K) (hf : In9 f) (hX : ∀ x ∈ X, Lt10 700 x) (hl : f.length ≤ X.length) (hk : k ≤ f.length) (h64 : k ≤ 64) : TIs w v (dot (f.take k) X) 6000 := by
  have hL := dot_lt f X hf hX hl k hk
  have h1 : 1 + (700 + 20) * k ≤ 47000 := by omega
  exact (h.fit (hL.mono h1)).mono (by decide)
set_option maxHeartbeats 12800000 in
theorem hTimes_any (w : World) (xv : Value) (X : List Rat) (base : Nat) (C : List (List Value)) (fv : Value) (f : List Int) (hX : ∀ x ∈ X, Lt10 700 x) (hl : X.length ≤ 64) (hL : TLs w base xv C X 5100) (hf : Ints w fv f) (h9 : In9 f) (hfl : f.length ≤ X.length) :
    Calls Tryz.prog 49 #[fv, xv] w fun e w' => ∃ v, e = .returned v ∧ TIs w' v (dot f X) 6000 ∧ Below w.heap.size w w' := by
  obtain ⟨fa, fc, rfl, hfc, hfm⟩ := hf.slice
  unfold maxLen at hfm
  obtain ⟨xa, xc, rfl, hlc, hcm⟩ := hL.slice
  have HL := hid hL
  have HF := hid hf
  have HY := hid hX
  have H9 := hid h9
  clear hL hf hX h9
  have b0 := (Below.refl w.heap.size w).alloc (Nat.le_refl _) (Obj.cells #[.bool false, .slice none 0 0, .bool false, .slice none 0 0] 43)
  have z0 := box_new w (Obj.cells #[.bool false, .slice none 0 0, .bool false, .slice none 0 0] 43)
  go_enter Tryz.func49, Tryz.ntmps49
  go_wp2_with fail
  generalize w.alloc (Obj.cells #[.bool false, .slice none 0 0, .bool false, .slice none 0 0] 43) = W0 at *
  refine (t_of W0 0 (by omega) (by omega)).mono ?_
  rintro e X1 ⟨v1, rfl, n1, bX1⟩
  obtain ⟨h1, h2, h3, h4, h5, h6, h7, h8, rfl⟩ := n1.form
  have B1 := chain2 b0 bX1
  have z1 := box_below bX1 z0 (lt_of_block z0)
  have bA := (Below.refl X1.heap.size X1).alloc (Nat.le_refl _) (Obj.cells #[.bool h1, .slice h2 h3 h4, .bool h5, .slice h6 h7 h8] 43)
  have B2 := below_alloc' B1 (Nat.le_refl _) (Obj.cells #[.bool h1, .slice h2 h3 h4, .bool h5, .slice h6 h7 h8] 43)
  have z2 := box_alloc z1 (Obj.cells #[.bool h1, .slice h2 h3 h4, .bool h5, .slice h6 h7 h8] 43)
  have y2 := box_new X1 (Obj.cells #[.bool h1, .slice h2 h3 h4, .bool h5, .slice h6 h7 h8] 43)
  have N2 := hid ((n1.below bA).mono (show 3 ≤ 6000 by omega))
  have hbx : w.heap.size < X1.heap.size := lt_of_block z1
  clear b0 z0 n1 bX1 B1 z1 bA
  go_wp2_with (refine wpList_store_fresh rfl 43 _ _ rfl _ _ _ rfl (by simp) rfl 4 info_refRat (by rfl) (by rfl) (by simp [Value.oneCell']) ?_)
  generalize X1.alloc (Obj.cells #[.bool h1, .slice h2 h3 h4, .bool h5, .slice h6 h7 h8] 43) = W2 at *
  generalize X1.heap.size = ab at *
  go_loopw [6] (fun i wr => ∃ (k : Nat) (p1 : Bool) (p2 : Option Addr) (p3 p4 : Nat) (p5 : Bool) (p6 : Option Addr) (p7 p8 : Nat), k ≤ f.length ∧ i = .int .i64 (k : Int) ∧ Hid (wr.heap[ab]? = some (.cells #[.bool p1, .slice p2 p3 p4, .bool p5, .slice p6 p7 p8] 43 (0, 0))) ∧ Hid (wr.heap[w.heap.size]? = some (.cells #[.bool false, .slice none 0 0, .bool false, .slice none 0 0] 43 (0, 0))) ∧ Hid (TIs wr (.agg #[.bool p1, .slice p2 p3 p4, .bool p5, .slice p6 p7 p8]) (dot (f.take k) X) 6000) ∧ Below w.heap.size w wr) (fun i _ => f.length - (intOf i).toNat)
  case atStart => exact ⟨0, h1, h2, h3, h4, h5, h6, h7, h8, Nat.zero_le _, rfl, y2, z2, N2, B2⟩
  case round =>
    clear y2 z2 N2 B2
    obtain ⟨k, p1, p2, p3, p4, p5, p6, p7, p8, hk, rfl, HAA, HZ, HN, bw⟩ := hrel
    by_cases hlt : k < f.length
    · have hkY : k < X.length := by omega
      obtain ⟨fb, fo, fd, ef, _, _, ff⟩ := (HF.out.below bw).at k hlt
      simp only [Value.slice.injEq] at ef
      obtain ⟨rfl, -, rfl⟩ := ef
      have hk9 := H9.out _ (List.getElem_mem hlt)
      have HSU := hid (dot_succ f X k hlt hkY)
      have HFIT := hid (fun (X' : World) (v' : Value) (K : Nat) (hh : TIs X' v' (dot (f.take k) X + (f[k] : Rat) * X[k]) K) => show TIs X' v' (dot (f.take (k + 1)) X) 6000 from tsum_fit (K := K) (by rw [HSU.out]; exact hh) H9.out HY.out hfl hlt (by omega))
      have HZR := hid (fun hz : f[k] = 0 => show dot (f.take k) X = dot (f.take (k + 1)) X by rw [HSU.out, hz]; simp; grind)
      have H64 := hid hk9
      clear hk9
      obtain ⟨g, c', u0, u1, u2, u3, e, _, q0, q1, q2, q3, hq⟩ := (Ls.below (fun h b => h.below b) HL.out bw).at k hkY
      simp only [Value.slice.injEq] at e
      obtain ⟨rfl, -, rfl⟩ := e
      obtain ⟨s1, s2, s3, s4, s5, s6, s7, s8, hs⟩ := hq.form
      simp only [Value.agg.injEq, Array.mk.injEq, List.cons.injEq, and_true] at hs
      obtain ⟨rfl, rfl, rfl, rfl⟩ := hs
      have HQ := hid (hq.mono (show 5100 ≤ 6000 by omega))
      clear hq
      generalize f[k] = fk at *
      generalize X[k] = yk at *
      by_cases hz : fk = 0
      · have hz1 : (fk == 0) = true := by rw [hz]; rfl
        have HNZ := hid (show TIs wr (.agg #[.bool p1, .slice p2 p3 p4, .bool p5, .slice p6 p7 p8]) (dot (f.take (k + 1)) X) 6000 by rw [← HZR.out hz]; exact HN.out)
        clear HN
        subst hz
        go_wp2
        go_roundw
        case rel => exact ⟨k + 1, p1, p2, p3, p4, p5, p6, p7, p8, by omega, by go_num, HAA, HZ, HNZ, bw⟩
        case measure => simp [intOf]; omega
      have hz1 : (fk == 0) = false := beq_eq_false_iff_ne.2 hz
      go_wp2_with fail
      have bD : Below wr.heap.size wr wr := Below.refl _ _
      obtain ⟨v0, v1, v2, v3⟩ := four_cell HAA.out
      go_region_with (first
        | (have gk := G2; go_at_call 32; refine (t_add _ _ _ (dot (f.take k) X) ((fk : Rat) * yk) 12006 (by omega) ((HN.out.mono (by omega)).below (by first | exact bX5' | exact below_dn bX5' _ | exact bX5'.drew)) ((by first | exact n5 | exact n5.below (Below.refl _ _).drew | exact n5.below (below_dn (Below.refl _ _) _)) : TIs _ _ _ _)).mono ?_; rintro e Y6 ⟨v6, rfl, n6, b6⟩; have bX6' : Below wr.heap.size wr Y6 := chain2 bX5' ⟨b6.os, b6.tape, b6.output, b6.size, b6.block⟩; obtain ⟨i1, i2, i3, i4, i5, i6, i7, i8, rfl⟩ := n6.form; have aa6 := box_below bX6' HAA.out (lt_of_block HAA.out); obtain ⟨w60, w61, w62, w63⟩ := four_cell aa6; have fr := free_four aa6; clear b6)
        | (have gk := G1; go_at_call 16; refine (t_mul _ _ _ (fk : Rat) yk 6000 (by omega) ((by first | exact n4a | exact n4a.below (Below.refl _ _).drew | exact n4a.below (below_dn (Below.refl _ _) _)) : TIs _ _ _ _) (HQ.out.below (by first | exact bX4' | exact below_dn bX4' _ | exact bX4'.drew))).mono ?_; rintro e Y5 ⟨v5, rfl, n5, b5⟩; have bX5' : Below wr.heap.size wr Y5 := chain2 bX4' ⟨b5.os, b5.tape, b5.output, b5.size, b5.block⟩; have G2 := bX5'; obtain ⟨w50, w51, w52, w53⟩ := four_cell (box_below bX5' HAA.out (lt_of_block HAA.out)); clear b5)
        | (go_at_call 15; refine (t_of _ fk H64.out.1 H64.out.2).mono ?_; rintro e Y4 ⟨v4, rfl, n4, b4⟩; have bX4' : Below wr.heap.size wr Y4 := ⟨b4.os, b4.tape, b4.output, b4.size, b4.block⟩; have n4a := n4.mono (show 3 ≤ 6000 by omega); have G1 := bX4'; obtain ⟨w40, w41, w42, w43⟩ := four_cell (box_below bX4' HAA.out (lt_of_block HAA.out)); have e40 := (bX4'.cell (World.block_lt_of_cell? wr _ q0)).trans q0; have e41 := (bX4'.cell (World.block_lt_of_cell? wr _ q1)).trans q1; have e42 := (bX4'.cell (World.block_lt_of_cell? wr _ q2)).trans q2; have e43 := (bX4'.cell (World.block_lt_of_cell? wr _ q3)).trans q3; clear b4))
      all_goals
        have yS := set4g aa6 (.bool i1) (.slice i2 i3 i4) (.bool i5) (.slice i6 i7 i8)
        have kS := set4_kty (o := 0) (t1 := 43) (t2 := 43) aa6 (Or.inl rfl) (.bool i1) (.slice i2 i3 i4) (.bool i5) (.slice i6 i7 i8)
        have z6 := box_below bX6' HZ.out (lt_of_block HZ.out)
        have zS := (set4_heap (r := ab) (c := w.heap.size) (show w.heap.size ≠ ab by omega) (.bool i1) (.slice i2 i3 i4) (.bool i5) (.slice i6 i7 i8)).trans z6
        have NS := (HFIT.out _ _ _ n6).kty kS (by decide) (by decide)
        have BS := set4_below (o := 0) (bw.trans (bX6'.mono bw.size)) (show w.heap.size ≤ ab by omega) (.bool i1) (.slice i2 i3 i4) (.bool i5) (.slice i6 i7 i8)
        have HYS := hid yS
        have HZS := hid zS
        have HNS := hid NS
        clear yS zS NS kS z6 n6 n5 n4 n4a aa6 fr
        go_wp2
        go_roundw
        case rel => exact ⟨k + 1, i1, i2, i3, i4, i5, i6, i7, i8, by omega, by go_num, HYS, HZS, HNS, BS⟩
        case measure => simp [intOf]; omega
    · obtain rfl : k = f.length := by omega
      rw [List.take_length] at HN
      obtain ⟨v0, v1, v2, v3⟩ := four_cell HAA.out
      obtain ⟨z0, z1, z2, z3⟩ := four_cell HZ.out
      have fr := free_four HZ.out
      have zS := set4g HZ.out (.bool p1) (.slice p2 p3 p4) (.bool p5) (.slice p6 p7 p8)
      obtain ⟨r0, r1, r2, r3⟩ := four_cell zS
      have HO := hid (And.intro r0 (And.intro r1 (And.intro r2 r3)))
      have NS := hid (HN.out.kty (set4_kty (o := 0) (t1 := 43) (t2 := 43) HZ.out (Or.inl rfl) (.bool p1) (.slice p2 p3 p4) (.bool p5) (.slice p6 p7 p8)) (by decide) (by decide))
      have BS := hid (set4_below (o := 0) bw (show w.heap.size ≤ w.heap.size by omega) (.bool p1) (.slice p2 p3 p4) (.bool p5) (.slice p6 p7 p8))
      clear zS r0 r1 r2 r3
      go_wp2
      exact bodyPost_ret (v := .agg #[.bool p1, .slice p2 p3 p4, .bool p5, .slice p6 p7 p8]) (by simp [results, Tryz.results49, go_sem, HO.out.1, HO.out.2.1, HO.out.2.2.1, HO.out.2.2.2]) rfl ⟨_, rfl, NS.out, BS.out⟩
end Go.Proofs.YtbdhanlenekdhaaGreatDoor
