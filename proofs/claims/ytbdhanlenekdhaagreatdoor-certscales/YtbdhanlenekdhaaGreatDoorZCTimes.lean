/- cert: times. -/
import Derived.Test.YtbdhanlenekdhaaGreatDoorPk34
import Derived.Test.YtbdhanlenekdhaaGreatDoorPk36
namespace Go.Proofs.YtbdhanlenekdhaaGreatDoor
open Go.RowKit
set_option linter.unusedVariables false
set_option maxRecDepth 100000
set_option linter.unusedSimpArgs false

theorem dotX_fit {w : World} {v : Value} {f : List Int} {X : List Rat} {K : Nat} (h : QIs w v (dot f X) K) (hf : In9 f) (hX : ∀ x ∈ X, Lt10 700 x) (hl : f.length ≤ X.length) (h64 : X.length ≤ 64) : QIs w v (dot f X) 6000 := by
  have hL := dot_lt f X hf hX hl f.length (Nat.le_refl _)
  rw [List.take_length] at hL
  have h1 : 1 + (700 + 20) * f.length ≤ 47000 := by omega
  exact (h.fit (hL.mono h1)).mono (by decide)
theorem scale_back {m q : Rat} (hm : 0 < m) : m * q / m = q := by
  have h : m ≠ 0 := fun e => by rw [e] at hm; exact absurd hm (by decide)
  rw [Rat.div_def, Rat.mul_comm m q, Rat.mul_assoc, Rat.mul_inv_cancel m h, Rat.mul_one]
set_option maxHeartbeats 12800000 in
theorem ctimes_any (w : World) (tv p1 p2 p3 p4 : Value) (X : List Rat) (fv : Value) (f : List Int) (h : LIs w tv p1 p2 p3 p4 X) (hf : Ints w fv f) (h9 : In9 f) (hfl : f.length ≤ X.length) :
    Calls Tryz.prog 74 #[.agg #[tv, p1, p2, p3, p4], fv] w fun e w' => ∃ v, e = .returned v ∧ QIs w' v (dot f X) 6000 ∧ Below w.heap.size w w' := by
  obtain ⟨ta, tc, a1, a2, a3, b1, a4, a5, a6, b2, rfl, rfl, rfl, rfl, rfl, hlc, hcm⟩ := h.form
  obtain ⟨m, base, C, hm0, hm, hl, hX, hq, hL⟩ := h
  obtain ⟨fa, fc, rfl, hfc, hfm⟩ := hf.slice
  have hlen : (X.map (fun x => x * m)).length = X.length := by simp
  have b0 := boxed2 (Below.refl w.heap.size w) (Obj.cells #[.slice ta X.length tc, .slice a1 a2 a3, .bool b1, .slice a4 a5 a6, .bool b2] 71) (Obj.cells #[.slice none 0 0, .bool false, .slice none 0 0, .bool false] 69)
  have x0 := boxed2_first w (Obj.cells #[.slice ta X.length tc, .slice a1 a2 a3, .bool b1, .slice a4 a5 a6, .bool b2] 71) (Obj.cells #[.slice none 0 0, .bool false, .slice none 0 0, .bool false] 69)
  have z0 := boxed2_second w (Obj.cells #[.slice ta X.length tc, .slice a1 a2 a3, .bool b1, .slice a4 a5 a6, .bool b2] 71) (Obj.cells #[.slice none 0 0, .bool false, .slice none 0 0, .bool false] 69)
  have HT := hid (tops_lt hm hX)
  have HSUM := hid (fun (Y : World) (bY : Below w.heap.size w Y) => show Calls Tryz.prog 66 #[.agg #[.slice ta X.length tc, .slice a1 a2 a3, .bool b1, .slice a4 a5 a6, .bool b2], .slice fa f.length fc] Y (fun e w' => ∃ v, e = .returned v ∧ QIs w' v (dot f (X.map (fun x => x * m))) 330000 ∧ Below Y.heap.size Y w') by
    have := sum_any Y ta tc (.slice a1 a2 a3) (.bool b1) (.slice a4 a5 a6) (.bool b2) (X.map (fun x => x * m)) base C (.slice fa f.length fc) f ⟨a1, a2, a3, b1, a4, a5, a6, b2, rfl, rfl, rfl, rfl⟩ HT.out (by rw [hlen]; exact hl) (by rw [hlen]; exact Ls.below (fun h b => h.below b) hL bY) (hf.below bY) h9 (by rw [hlen]; exact hfl)
    rw [hlen] at this
    exact this)
  have HFIT := hid (fun (Y : World) (v : Value) (K : Nat) (hh : QIs Y v (dot f (X.map (fun x => x * m)) / m) K) => show QIs Y v (dot f X) 6000 by
    rw [dot_scale, scale_back hm0] at hh
    exact dotX_fit hh h9 hX hfl hl)
  have hmne : m ≠ 0 := fun e => by rw [e] at hm0; exact absurd hm0 (by decide)
  have HQ := hid ((hq.below b0).mono (show 5100 ≤ 330000 by omega))
  have HMN := hid hmne
  have HB0 := hid b0
  have HBX := hid x0
  have HZ := hid z0
  have y0 := bxc x0 0 (.slice ta X.length tc) rfl
  have y1 := bxc x0 1 (.slice a1 a2 a3) rfl
  have y2 := bxc x0 2 (.bool b1) rfl
  have y3 := bxc x0 3 (.slice a4 a5 a6) rfl
  have y4 := bxc x0 4 (.bool b2) rfl
  generalize dot f (X.map (fun x => x * m)) = D at *
  clear hlen b0 x0 z0 hL hf hq HT hX h9 hmne hm0
  go_enter Tryz.func74, Tryz.ntmps74
  go_wp2_with fail
  generalize (w.alloc (Obj.cells #[.slice ta X.length tc, .slice a1 a2 a3, .bool b1, .slice a4 a5 a6, .bool b2] 71)).alloc (Obj.cells #[.slice none 0 0, .bool false, .slice none 0 0, .bool false] 69) = W at *
  have HSUM2 := hid (fun (Y : World) (bY : Below W.heap.size W Y) => HSUM.out Y (chain2 HB0.out bY))
  have wa0 := fun (o : Obj) => bxc (box_alloc HBX.out o) 0 (.slice ta X.length tc) rfl
  have wa1 := fun (o : Obj) => bxc (box_alloc HBX.out o) 1 (.slice a1 a2 a3) rfl
  have wa2 := fun (o : Obj) => bxc (box_alloc HBX.out o) 2 (.bool b1) rfl
  have wa3 := fun (o : Obj) => bxc (box_alloc HBX.out o) 3 (.slice a4 a5 a6) rfl
  have wa4 := fun (o : Obj) => bxc (box_alloc HBX.out o) 4 (.bool b2) rfl
  go_region_with (first
    | (have gk := nS; go_at_call 98; refine (q_div _ _ _ D m 330000 (by omega) ((by first | exact nS | exact nS.below (Below.refl _ _).drew | exact nS.below ((Below.refl _ _).alloc (Nat.le_refl _) _) | exact nS.below ((Below.refl _ _).alloc (Nat.le_refl _) _).drew) : QIs _ _ _ _) ((by first | exact HQ.out.below B1 | exact HQ.out.below B1.drew | exact HQ.out.below (below_alloc' B1 (Nat.le_refl _) _) | exact HQ.out.below (below_alloc' B1 (Nat.le_refl _) _).drew) : QIs _ _ _ _) HMN.out).mono ?_; rintro e YD ⟨d1, d2, d3, d4, d5, d6, d7, d8, rfl, nD, bd⟩; have BD : Below W.heap.size W YD := (by first | exact chain2 B1 bd | exact chain2 (below_alloc' B1 (Nat.le_refl _) _) bd | exact chain2 B1 ⟨bd.os, bd.tape, bd.output, bd.size, bd.block⟩ | exact chain2 (below_alloc' B1 (Nat.le_refl _) _) ⟨bd.os, bd.tape, bd.output, bd.size, bd.block⟩); (try have zA := box_below (show Below YS.heap.size YS YD from ⟨bd.os, bd.tape, bd.output, bd.size, bd.block⟩) zA (lt_of_block zA)); (try have zB := box_below bd (show _ = some (Obj.cells #[.slice none 0 0, .bool false, .slice none 0 0, .bool false] 69) from box_new YS (Obj.cells #[.slice none 0 0, .bool false, .slice none 0 0, .bool false] 69)) (lt_of_block (box_new YS (Obj.cells #[.slice none 0 0, .bool false, .slice none 0 0, .bool false] 69)))); (try have cA := four_cell zA); (try obtain ⟨e0, e1, e2, e3⟩ := cA); (try have fA := free_four zA); (try have cB := four_cell zB); (try obtain ⟨e4, e5, e6, e7⟩ := cB); (try have fB := free_four zB); clear bd)
    | (go_at_call 66; refine (HSUM2.out _ (by first | exact Below.refl _ _ | exact (Below.refl _ _).drew | exact below_dn (Below.refl _ _) _ | exact ((Below.refl _ _).alloc (Nat.le_refl _) _) | exact ((Below.refl _ _).alloc (Nat.le_refl _) _).drew)).mono ?_; rintro e YS ⟨vS, rfl, nS, bs⟩; have B1 : Below W.heap.size W YS := (by first | exact ⟨bs.os, bs.tape, bs.output, bs.size, bs.block⟩ | exact chain2 (below_alloc' (Below.refl _ _) (Nat.le_refl _) _) bs | exact chain2 ((Below.refl _ _).alloc (Nat.le_refl _) _).drew bs); (try have zA := box_below bs (show _ = some (Obj.cells #[.slice none 0 0, .bool false, .slice none 0 0, .bool false] 69) from box_new W (Obj.cells #[.slice none 0 0, .bool false, .slice none 0 0, .bool false] 69)) (lt_of_block (box_new W (Obj.cells #[.slice none 0 0, .bool false, .slice none 0 0, .bool false] 69)))); have ys := box_below B1 HBX.out (lt_of_block HBX.out); have ys0 := bxc ys 0 (.slice ta X.length tc) rfl; have ys1 := bxc ys 1 (.slice a1 a2 a3) rfl; have ys2 := bxc ys 2 (.bool b1) rfl; have ys3 := bxc ys 3 (.slice a4 a5 a6) rfl; have ys4 := bxc ys 4 (.bool b2) rfl; have ya0 := fun (o : Obj) => bxc (box_alloc ys o) 0 (.slice ta X.length tc) rfl; have ya1 := fun (o : Obj) => bxc (box_alloc ys o) 1 (.slice a1 a2 a3) rfl; have ya2 := fun (o : Obj) => bxc (box_alloc ys o) 2 (.bool b1) rfl; have ya3 := fun (o : Obj) => bxc (box_alloc ys o) 3 (.slice a4 a5 a6) rfl; have ya4 := fun (o : Obj) => bxc (box_alloc ys o) 4 (.bool b2) rfl; clear ys bs))
  all_goals trace_state
  all_goals first
      | (have yS := set4g zA (.slice d1 d2 d3) (.bool d4) (.slice d5 d6 d7) (.bool d8)
         have kS := set4_kty (o := 0) (t1 := 69) (t2 := 69) zA (Or.inl rfl) (.slice d1 d2 d3) (.bool d4) (.slice d5 d6 d7) (.bool d8)
         have hZ1 := (set4_heap (r := W.heap.size) (c := w.heap.size + 1) (by have := lt_of_block HZ.out; omega) (.slice d1 d2 d3) (.bool d4) (.slice d5 d6 d7) (.bool d8)).trans (box_below BD HZ.out (lt_of_block HZ.out))
         have nF := (HFIT.out _ _ _ nD).kty kS (by decide) (by decide)
         have bF := set4_below (o := 0) (chain2 HB0.out BD) (by have := HB0.out.size; omega) (.slice d1 d2 d3) (.bool d4) (.slice d5 d6 d7) (.bool d8)
         obtain ⟨c0, c1, c2, c3⟩ := four_cell yS
         obtain ⟨z0, z1, z2, z3⟩ := four_cell hZ1
         have fr := free_four hZ1
         have rS := set4g hZ1 (.slice d1 d2 d3) (.bool d4) (.slice d5 d6 d7) (.bool d8)
         obtain ⟨r0, r1, r2, r3⟩ := four_cell rS
         have HO := hid (And.intro r0 (And.intro r1 (And.intro r2 r3)))
         have NS := hid (nF.kty (set4_kty (o := 0) (t1 := 69) (t2 := 69) hZ1 (Or.inl rfl) (.slice d1 d2 d3) (.bool d4) (.slice d5 d6 d7) (.bool d8)) (by decide) (by decide))
         have BS := hid (set4_below (o := 0) bF (show w.heap.size ≤ w.heap.size + 1 by omega) (.slice d1 d2 d3) (.bool d4) (.slice d5 d6 d7) (.bool d8))
         clear rS r0 r1 r2 r3 yS hZ1 nF bF
         go_wp2
         exact bodyPost_ret (v := .agg #[.slice d1 d2 d3, .bool d4, .slice d5 d6 d7, .bool d8]) (by simp [results, Tryz.results74, go_sem, HO.out.1, HO.out.2.1, HO.out.2.2.1, HO.out.2.2.2]) rfl ⟨_, rfl, NS.out, BS.out⟩)
      | (have yS := set4g zB (.slice d1 d2 d3) (.bool d4) (.slice d5 d6 d7) (.bool d8)
         have kS := set4_kty (o := 0) (t1 := 69) (t2 := 69) zB (Or.inl rfl) (.slice d1 d2 d3) (.bool d4) (.slice d5 d6 d7) (.bool d8)
         have hZ1 := (set4_heap (r := YS.heap.size) (c := w.heap.size + 1) (by have := lt_of_block HZ.out; have := B1.size; omega) (.slice d1 d2 d3) (.bool d4) (.slice d5 d6 d7) (.bool d8)).trans (box_below BD HZ.out (lt_of_block HZ.out))
         have nF := (HFIT.out _ _ _ nD).kty kS (by decide) (by decide)
         have bF := set4_below (o := 0) (chain2 HB0.out BD) (by have := (chain2 HB0.out B1).size; omega) (.slice d1 d2 d3) (.bool d4) (.slice d5 d6 d7) (.bool d8)
         obtain ⟨c0, c1, c2, c3⟩ := four_cell yS
         obtain ⟨z0, z1, z2, z3⟩ := four_cell hZ1
         have fr := free_four hZ1
         have rS := set4g hZ1 (.slice d1 d2 d3) (.bool d4) (.slice d5 d6 d7) (.bool d8)
         obtain ⟨r0, r1, r2, r3⟩ := four_cell rS
         have HO := hid (And.intro r0 (And.intro r1 (And.intro r2 r3)))
         have NS := hid (nF.kty (set4_kty (o := 0) (t1 := 69) (t2 := 69) hZ1 (Or.inl rfl) (.slice d1 d2 d3) (.bool d4) (.slice d5 d6 d7) (.bool d8)) (by decide) (by decide))
         have BS := hid (set4_below (o := 0) bF (show w.heap.size ≤ w.heap.size + 1 by omega) (.slice d1 d2 d3) (.bool d4) (.slice d5 d6 d7) (.bool d8))
         clear rS r0 r1 r2 r3 yS hZ1 nF bF
         go_wp2
         exact bodyPost_ret (v := .agg #[.slice d1 d2 d3, .bool d4, .slice d5 d6 d7, .bool d8]) (by simp [results, Tryz.results74, go_sem, HO.out.1, HO.out.2.1, HO.out.2.2.1, HO.out.2.2.2]) rfl ⟨_, rfl, NS.out, BS.out⟩)
      | (have yS := box_new YD (Obj.cells #[.slice d1 d2 d3, .bool d4, .slice d5 d6 d7, .bool d8] 69)
         have bN := (Below.refl YD.heap.size YD).alloc (Nat.le_refl _) (Obj.cells #[.slice d1 d2 d3, .bool d4, .slice d5 d6 d7, .bool d8] 69)
         have hZ1 := box_alloc (box_below BD HZ.out (lt_of_block HZ.out)) (Obj.cells #[.slice d1 d2 d3, .bool d4, .slice d5 d6 d7, .bool d8] 69)
         have nF := (HFIT.out _ _ _ nD).below bN
         have bF := chain2 (chain2 HB0.out BD) bN
         obtain ⟨c0, c1, c2, c3⟩ := four_cell yS
         obtain ⟨z0, z1, z2, z3⟩ := four_cell hZ1
         have fr := free_four hZ1
         have rS := set4g hZ1 (.slice d1 d2 d3) (.bool d4) (.slice d5 d6 d7) (.bool d8)
         obtain ⟨r0, r1, r2, r3⟩ := four_cell rS
         have HO := hid (And.intro r0 (And.intro r1 (And.intro r2 r3)))
         have NS := hid (nF.kty (set4_kty (o := 0) (t1 := 69) (t2 := 69) hZ1 (Or.inl rfl) (.slice d1 d2 d3) (.bool d4) (.slice d5 d6 d7) (.bool d8)) (by decide) (by decide))
         have BS := hid (set4_below (o := 0) bF (show w.heap.size ≤ w.heap.size + 1 by omega) (.slice d1 d2 d3) (.bool d4) (.slice d5 d6 d7) (.bool d8))
         clear rS r0 r1 r2 r3 yS hZ1 nF bF
         go_wp2
         exact bodyPost_ret (v := .agg #[.slice d1 d2 d3, .bool d4, .slice d5 d6 d7, .bool d8]) (by simp [results, Tryz.results74, go_sem, HO.out.1, HO.out.2.1, HO.out.2.2.1, HO.out.2.2.2]) rfl ⟨_, rfl, NS.out, BS.out⟩)
end Go.Proofs.YtbdhanlenekdhaaGreatDoor
