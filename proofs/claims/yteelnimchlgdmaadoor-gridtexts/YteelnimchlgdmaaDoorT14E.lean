/- grid: the document's Parse. -/
import Derived.Test.YteelnimchlgdmaaDoorT14G
import Derived.Test.YteelnimchlgdmaaDoorICheckM
import Derived.Test.YteelnimchlgdmaaDoorLZNum
import Derived.Test.YteelnimchlgdmaaDoorLZWords
namespace Go.Proofs.YteelnimchlgdmaaDoor
open Go.RowKit
set_option linter.unusedVariables false
set_option maxRecDepth 100000
set_option linter.unusedSimpArgs false

theorem app4_at (a b c d : Int) (R : List Int) (j : Nat) : ([a, b, c, d] ++ R)[4 + j]? = R[j]? := by
  show (a :: b :: c :: d :: R)[4 + j]? = R[j]?
  rw [Nat.add_comm]
  rfl
theorem Ints.get {w : World} {b off n c : Nat} {L : List Int} (h : Ints w (.slice (some ⟨b, off, none⟩) n c) L) (i : Nat) (x : Int) (hx : L[i]? = some x) : w.cell? ⟨b, off + i, none⟩ = some (.int .i64 x) := by
  have hi : i < L.length := by
    apply Decidable.byContradiction
    intro hc
    rw [List.getElem?_eq_none (by omega)] at hx
    cases hx
  obtain ⟨b', o', c', e, _, _, h4⟩ := h.at i hi
  simp only [Value.slice.injEq, Option.some.injEq, Addr.mk.injEq] at e
  obtain ⟨⟨rfl, rfl, -⟩, -, -⟩ := e
  rw [List.getElem?_eq_getElem hi, Option.some.injEq] at hx
  rw [hx] at h4
  exact h4
set_option maxHeartbeats 6400000 in
theorem gmparse_any (s : ByteArray) (w : World) (hs : s.size ≤ 1000000000) :
    Calls Tryd.prog 6 #[.string s] w fun e w' => GPsr s e w' ∧ Below w.heap.size w w' := by
  have HB0 := hid (ibel w (Obj.cells #[.int .i64 0, .int .i64 0, .slice none 0 0, .int .i64 0, .int .i64 0] 24))
  have HR0 := hid (inew w (Obj.cells #[.int .i64 0, .int .i64 0, .slice none 0 0, .int .i64 0, .int .i64 0] 24))
  have HS5 := hid (show (w.alloc (Obj.cells #[.int .i64 0, .int .i64 0, .slice none 0 0, .int .i64 0, .int .i64 0] 24)).heap.size = w.heap.size + 1 from World.size_alloc _ _)
  have hWD := fun W => zwords_any s W hs
  go_enter Tryd.func6, Tryd.ntmps6
  go_wp2_with fail
  generalize w.alloc (Obj.cells #[.int .i64 0, .int .i64 0, .slice none 0 0, .int .i64 0, .int .i64 0] 24) = W5 at *
  refine (hWD W5).mono ?_
  clear hWD
  rintro e w3 ⟨⟨v, rfl, hv⟩, b3⟩
  have HBX := hid b3
  clear b3
  by_cases he : wordsE s = 0
  · obtain ⟨x, V, hw⟩ := words_cons he
    have HV := hid hv
    rw [hw] at HV
    have HE := hid he
    have HWL := hid hw
    have HFW := hid (words_few he)
    have HP2 := hid (words_small he)
    rw [hw] at HFW HP2
    rw [he]
    clear he hw hv
    obtain ⟨wb, wo, wc, rfl, g0, g1, c0, c9⟩ := HV.out.at 0 (by simp)
    rw [Nat.add_zero] at c0
    unfold maxLen at g1
    have hx0 : (x :: V)[0] = x := rfl
    rw [hx0] at c0 c9
    have hl1 : (x :: V).length = V.length + 1 := rfl
    rw [hl1] at g0 HV ⊢
    clear hx0 hl1 c9
    by_cases hln : V.length < 4
    · have HNO : Hid (∀ M, ¬ Psr s M) := hid (fun M p => by
        have e := p.2.1.symm.trans HWL.out
        have h := congrArg List.length e
        rw [wds_len, List.length_cons] at h
        have := p.2.2.2.1
        omega)
      have xr := (HBX.out.block w.heap.size (by rw [HS5.out]; exact Nat.lt_succ_self _)).trans HR0.out
      have r0 := ibx xr 0 (.int .i64 0) rfl
      have f0 := free_at (L := [.int .i64 0, .int .i64 0, .slice none 0 0, .int .i64 0, .int .i64 0]) xr 0
      have r1 := ibx xr 1 (.int .i64 0) rfl
      have f1 := free_at (L := [.int .i64 0, .int .i64 0, .slice none 0 0, .int .i64 0, .int .i64 0]) xr 1
      have r2 := ibx xr 2 (.slice none 0 0) rfl
      have f2 := free_at (L := [.int .i64 0, .int .i64 0, .slice none 0 0, .int .i64 0, .int .i64 0]) xr 2
      have r3 := ibx xr 3 (.int .i64 0) rfl
      have f3 := free_at (L := [.int .i64 0, .int .i64 0, .slice none 0 0, .int .i64 0, .int .i64 0]) xr 3
      have r4 := ibx xr 4 (.int .i64 0) rfl
      have f4 := free_at (L := [.int .i64 0, .int .i64 0, .slice none 0 0, .int .i64 0, .int .i64 0]) xr 4
      have HX := hid (put5_box xr (.int .i64 0) (.int .i64 0) (.slice none 0 0) (.int .i64 0) (.int .i64 0))
      have HW := hid (put5_below (HB0.out.trans (HBX.out.mono HB0.out.size)) w.heap.size (Nat.le_refl _) (.int .i64 0) (.int .i64 0) (.slice none 0 0) (.int .i64 0) (.int .i64 0))
      have y0 := ibx HX.out 0 _ rfl
      have y1 := ibx HX.out 1 _ rfl
      have y2 := ibx HX.out 2 _ rfl
      have y3 := ibx HX.out 3 _ rfl
      have y4 := ibx HX.out 4 _ rfl
      have HO := hid (And.intro y0 (And.intro y1 (And.intro y2 (And.intro y3 y4))))
      clear y0 y1 y2 y3 y4 xr HX
      go_wp2_with fail
      exact bodyPost_ret (v := .tuple #[.agg #[.int .i64 0, .int .i64 0, .slice none 0 0, .int .i64 0, .int .i64 0], .int .i64 51]) (by simp [results, Tryd.results6, go_sem, HO.out.1, HO.out.2.1, HO.out.2.2.1, HO.out.2.2.2.1, HO.out.2.2.2.2]) rfl ⟨Or.inr ⟨HNO.out, rfl⟩, HW.out⟩

    by_cases hx : x = gridB
    · subst hx
      have hxt : (gridB.toList == [103, 114, 105, 100]) = true := by rw [beq_iff_eq, ByteArray.toList_eq]; rfl
      have hl16 : V.length ≤ 15 := by have := HFW.out; simp only [List.length_cons] at this; omega
      obtain ⟨i0, hi, hz0, hz1, hz2⟩ := info_parts info_int
      have HXT := hid hxt
      rcases Bool.eq_false_or_eq_true (((V.length : Int) + 1) % 3 != 2) with hr | hr
      · have HNO : Hid (∀ M, ¬ Psr s M) := hid (fun M p => by
          have e := p.2.1.symm.trans HWL.out
          have h := congrArg List.length e
          rw [wds_len, List.length_cons] at h
          have h3 := p.2.2.2.2.1
          have h4 := p.2.2.2.1
          rw [bne_iff_ne] at hr
          omega)
        have xr := (HBX.out.block w.heap.size (by rw [HS5.out]; exact Nat.lt_succ_self _)).trans HR0.out
        have r0 := ibx xr 0 (.int .i64 0) rfl
        have f0 := free_at (L := [.int .i64 0, .int .i64 0, .slice none 0 0, .int .i64 0, .int .i64 0]) xr 0
        have r1 := ibx xr 1 (.int .i64 0) rfl
        have f1 := free_at (L := [.int .i64 0, .int .i64 0, .slice none 0 0, .int .i64 0, .int .i64 0]) xr 1
        have r2 := ibx xr 2 (.slice none 0 0) rfl
        have f2 := free_at (L := [.int .i64 0, .int .i64 0, .slice none 0 0, .int .i64 0, .int .i64 0]) xr 2
        have r3 := ibx xr 3 (.int .i64 0) rfl
        have f3 := free_at (L := [.int .i64 0, .int .i64 0, .slice none 0 0, .int .i64 0, .int .i64 0]) xr 3
        have r4 := ibx xr 4 (.int .i64 0) rfl
        have f4 := free_at (L := [.int .i64 0, .int .i64 0, .slice none 0 0, .int .i64 0, .int .i64 0]) xr 4
        have HX := hid (put5_box xr (.int .i64 0) (.int .i64 0) (.slice none 0 0) (.int .i64 0) (.int .i64 0))
        have HW := hid (put5_below (HB0.out.trans (HBX.out.mono HB0.out.size)) w.heap.size (Nat.le_refl _) (.int .i64 0) (.int .i64 0) (.slice none 0 0) (.int .i64 0) (.int .i64 0))
        have y0 := ibx HX.out 0 _ rfl
        have y1 := ibx HX.out 1 _ rfl
        have y2 := ibx HX.out 2 _ rfl
        have y3 := ibx HX.out 3 _ rfl
        have y4 := ibx HX.out 4 _ rfl
        have HO := hid (And.intro y0 (And.intro y1 (And.intro y2 (And.intro y3 y4))))
        clear y0 y1 y2 y3 y4 xr HX
        go_wp2_with fail
        exact bodyPost_ret (v := .tuple #[.agg #[.int .i64 0, .int .i64 0, .slice none 0 0, .int .i64 0, .int .i64 0], .int .i64 51]) (by simp [results, Tryd.results6, go_sem, HO.out.1, HO.out.2.1, HO.out.2.2.1, HO.out.2.2.2.1, HO.out.2.2.2.2]) rfl ⟨Or.inr ⟨HNO.out, rfl⟩, HW.out⟩

      · have HRR := hid hr
        have h5 : 4 ≤ V.length := by omega
        go_wp2_with fail
        clear hr
        have HO0 : Hid ((w3.alloc (Obj.cells #[] 3)).ownsRow w3.heap.size 3 1 (.slice (some ⟨w3.heap.size, 0, none⟩) 0 0) 0 (intV ((V.take 0).map numR))) :=
          hid (World.ownsRow_lit (e := 3) (size := 1) w3 #[] 0 (Nat.le_refl _) (by unfold maxLen; omega) (by simp))
        have HB00 := hid (ibel w3 (Obj.cells #[] 3))
        generalize w3.alloc (Obj.cells #[] 3) = W4 at *
        go_loopw [6, 7] (fun lv iv wr => ∃ k j : Nat, Hid (j = k + 1) ∧ k ≤ V.length ∧ iv = .int .i64 (j : Int) ∧ Hid (∀ x ∈ V.take k, numE x = 0) ∧ Hid (wr.ownsRow w3.heap.size 3 1 lv k (intV ((V.take k).map numR))) ∧ Hid (Below w3.heap.size w3 wr)) (fun _ iv _ => V.length + 1 - (intOf iv).toNat)
        case atStart => exact ⟨0, 1, rfl, Nat.zero_le _, rfl, (by show ∀ x ∈ List.take 0 V, numE x = 0; simp), HO0, HB00⟩
        case round =>
          clear HO0 HB00
          obtain ⟨k, j, HJ, hk, rfl, HN, HO, HB⟩ := hrel
          obtain ⟨ra, rc, rfl⟩ := own_slice HO.out
          by_cases hlt : k < V.length
          · have hj : j < V.length + 1 := by rw [HJ.out]; omega
            obtain ⟨sb, so, sc', e, q0, q1, q2, q3⟩ := (HV.out.below HB.out).at (k + 1) (by simp only [List.length_cons]; omega)
            simp only [Value.slice.injEq, Option.some.injEq, Addr.mk.injEq] at e
            obtain ⟨⟨rfl, rfl, -⟩, -, rfl⟩ := e
            rw [List.getElem_cons_succ] at q2 q3
            have HT := hid (List.take_succ_eq_append_getElem hlt)
            have HMM := hid (List.getElem_mem hlt)
            obtain ⟨y, HY⟩ : ∃ y, Hid (V[k] = y) := ⟨_, hid rfl⟩
            rw [HY.out] at q2 q3 HT HMM
            rw [← HJ.out] at q2
            clear q3
            go_wp2_with fail
            refine (znumber_any y wr (by have := HP2.out y (List.mem_cons_of_mem _ HMM.out); omega)).mono ?_
            rintro e w4 ⟨rfl, b4⟩
            have HB4 := hid (chain2 HB.out b4)
            have HO4 := hid (own_below HO.out b4)
            clear b4 HO HB q2
            rcases numE_two y with he | he
            · rw [he]
              have HHE := hid he
              obtain ⟨z, HZ⟩ : ∃ z, Hid (numR y = z) := ⟨_, hid rfl⟩
              rw [HZ.out]
              have HX := hid (HO4.out.alloc (Obj.cells #[.int .i64 z] 3))
              have HYB := hid (below_alloc' HB4.out (Nat.le_refl _) (Obj.cells #[.int .i64 z] 3))
              have HZN := hid (one_new w4 (.int .i64 z) 3)
              have HSZ := hid HYB.out.size
              have HLT := hid (fun g hg => (HO4.out.lt g hg).1)
              clear he
              go_wp2_with (at_builtin; refine wpList_append_own _ rfl _ _ 36 rfl _ 3 i0 (.int .i64 0) 1 8 Tryd.underlying36 hi hz0 hz1 hz2 rfl (by decide) _ _ _ rfl HX.out ⟨w4.heap.size, 0, none⟩ 1 1 [.int .i64 z] rfl rfl HZN.out (by intro u hu; simp at hu; subst hu; rfl) (by unfold maxLen; omega) (by omega) HSZ.out ?_)
              intro v' w5 o5 hgrow _
              have HB5 := hid (HYB.out.grown hgrow HSZ.out HLT.out)
              have HO5 : Hid (w5.ownsRow w3.heap.size 3 1 v' (k + 1) (intV ((V.take (k + 1)).map numR))) := hid (by
                rw [HT.out, List.map_append, intV_app, List.map_singleton, HZ.out, List.map_take]
                exact o5)
              have HN5 : Hid (∀ x ∈ V.take (k + 1), numE x = 0) := hid (by
                rw [HT.out]
                intro q hq
                rcases List.mem_append.1 hq with hq | hq
                · exact HN.out q hq
                · simp at hq; subst hq; exact HHE.out)
              clear o5 hgrow HX HYB HZN HSZ HLT HB4 HO4
              go_wp2
              go_roundw
              case rel => exact ⟨k + 1, j + 1, hid (by rw [HJ.out]), by omega, by go_num, HN5, HO5, HB5⟩
              case measure => simp [intOf]; omega
            · rw [he]
              have HNO : Hid (∀ M, ¬ Psr s M) := hid (fun M p => by
                have := (psr_head HWL.out p).2 y HMM.out
                rw [he] at this
                exact absurd this (by decide))
              have HBY := hid (HBX.out.trans (HB4.out.mono HBX.out.size))
              clear he
              have xr := (HBY.out.block w.heap.size (by rw [HS5.out]; exact Nat.lt_succ_self _)).trans HR0.out
              have r0 := ibx xr 0 (.int .i64 0) rfl
              have f0 := free_at (L := [.int .i64 0, .int .i64 0, .slice none 0 0, .int .i64 0, .int .i64 0]) xr 0
              have r1 := ibx xr 1 (.int .i64 0) rfl
              have f1 := free_at (L := [.int .i64 0, .int .i64 0, .slice none 0 0, .int .i64 0, .int .i64 0]) xr 1
              have r2 := ibx xr 2 (.slice none 0 0) rfl
              have f2 := free_at (L := [.int .i64 0, .int .i64 0, .slice none 0 0, .int .i64 0, .int .i64 0]) xr 2
              have r3 := ibx xr 3 (.int .i64 0) rfl
              have f3 := free_at (L := [.int .i64 0, .int .i64 0, .slice none 0 0, .int .i64 0, .int .i64 0]) xr 3
              have r4 := ibx xr 4 (.int .i64 0) rfl
              have f4 := free_at (L := [.int .i64 0, .int .i64 0, .slice none 0 0, .int .i64 0, .int .i64 0]) xr 4
              have HX := hid (put5_box xr (.int .i64 0) (.int .i64 0) (.slice none 0 0) (.int .i64 0) (.int .i64 0))
              have HW := hid (put5_below (HB0.out.trans (HBY.out.mono HB0.out.size)) w.heap.size (Nat.le_refl _) (.int .i64 0) (.int .i64 0) (.slice none 0 0) (.int .i64 0) (.int .i64 0))
              have y0 := ibx HX.out 0 _ rfl
              have y1 := ibx HX.out 1 _ rfl
              have y2 := ibx HX.out 2 _ rfl
              have y3 := ibx HX.out 3 _ rfl
              have y4 := ibx HX.out 4 _ rfl
              have HO := hid (And.intro y0 (And.intro y1 (And.intro y2 (And.intro y3 y4))))
              clear y0 y1 y2 y3 y4 xr HX
              go_wp2_with fail
              exact bodyPost_ret (v := .tuple #[.agg #[.int .i64 0, .int .i64 0, .slice none 0 0, .int .i64 0, .int .i64 0], .int .i64 51]) (by simp [results, Tryd.results6, go_sem, HO.out.1, HO.out.2.1, HO.out.2.2.1, HO.out.2.2.2.1, HO.out.2.2.2.2]) rfl ⟨Or.inr ⟨HNO.out, rfl⟩, HW.out⟩

          · obtain rfl : k = V.length := by omega
            have hj : V.length + 1 ≤ j := by rw [HJ.out]; exact Nat.le_refl _
            rw [List.take_of_length_le (Nat.le_refl _)] at HN HO
            have HBY := hid (HBX.out.trans (HB.out.mono HBX.out.size))
            have HCA := hid (Cand.of HE.out HWL.out HN.out)
            have HI := hid (show Ints wr (.slice ra V.length rc) (V.map numR) from Row1.of_own (e := 3) (base := w3.heap.size) (by rw [intV_len, List.length_map]; exact HO.out))
            have HLN := hid (show (V.map numR).length = V.length from List.length_map _)
            obtain ⟨L, HL⟩ : ∃ L, Hid (V.map numR = L) := ⟨_, hid rfl⟩
            rw [HL.out] at HCA HI HLN
            clear HO HB
            obtain ⟨W8, hW8⟩ : ∃ W8, W8 = wr := ⟨_, rfl⟩
            subst hW8
            have HL4 := hid (show 4 ≤ L.length by rw [HLN.out]; exact h5)
            have HR3 := hid (show (L.length - 4) % 3 = 0 by
              have hr := HRR.out
              rw [HLN.out]
              rw [bne_eq_false_iff_eq] at hr
              omega)
            have HNM := hid (nms_grd HL4.out HR3.out)
            obtain ⟨G, HG⟩ : ∃ G, Hid (grd L = G) := ⟨_, hid rfl⟩
            rw [HG.out] at HNM
            obtain ⟨Z, H, lo, hi', S⟩ := G
            have HSL := hid (show V.length = 4 + 3 * S.length by rw [← HLN.out, ← HNM.out]; exact nms_len _)
            have hI := HI.out
            rw [← HNM.out] at hI
            have HII : Hid (Ints W8 (.slice ra V.length rc) ([Z, H, lo, hi'] ++ ln3 S)) := hid hI
            clear hI HI
            have HLEN := hid (show ([Z, H, lo, hi'] ++ ln3 S).length = 4 + 3 * S.length by rw [List.length_append, ln3_len]; rfl)
            obtain ⟨rb, ro, rc', e, p0, p1, c0'⟩ := HII.out.at 0 (by rw [HLEN.out]; omega)
            obtain ⟨_, _, _, e1, -, -, c1⟩ := HII.out.at 1 (by rw [HLEN.out]; omega)
            obtain ⟨_, _, _, e2, -, -, c2⟩ := HII.out.at 2 (by rw [HLEN.out]; omega)
            obtain ⟨_, _, _, e3, -, -, c3⟩ := HII.out.at 3 (by rw [HLEN.out]; omega)
            rw [e] at e1 e2 e3
            simp only [Value.slice.injEq, Option.some.injEq, Addr.mk.injEq] at e1 e2 e3
            obtain ⟨⟨rfl, rfl, -⟩, -, -⟩ := e1
            obtain ⟨⟨rfl, rfl, -⟩, -, -⟩ := e2
            obtain ⟨⟨rfl, rfl, -⟩, -, -⟩ := e3
            simp only [Value.slice.injEq] at e
            obtain ⟨rfl, -, rfl⟩ := e
            rw [Nat.add_zero] at c0'
            rw [HLEN.out, ← HSL.out] at p0
            unfold maxLen at p1
            have HC4 := hid (fun (Y : World) (b : Below W8.heap.size W8 Y) => (⟨ikc b c0', ikc b c1, ikc b c2, ikc b c3⟩ : Y.cell? ⟨rb, ro, none⟩ = some (.int .i64 Z) ∧ Y.cell? ⟨rb, ro + 1, none⟩ = some (.int .i64 H) ∧ Y.cell? ⟨rb, ro + 2, none⟩ = some (.int .i64 lo) ∧ Y.cell? ⟨rb, ro + 3, none⟩ = some (.int .i64 hi')))
            have t0 : 0 < V.length := by omega
            have t1 : (1 : Int) < (V.length : Int) := by omega
            have t2 : (2 : Int) < (V.length : Int) := by omega
            have t3 : (3 : Int) < (V.length : Int) := by omega
            obtain ⟨j0, hj0, jz0, jz1, jz2⟩ := info_parts info_Line
            clear c0' c1 c2 c3
            go_wp2_with fail
            refine wp_region_noPanic ?_
            refine region_split (S := fun Y => Y.cell? ⟨rb, ro, none⟩ = some (.int .i64 Z) ∧ Y.cell? ⟨rb, ro + 1, none⟩ = some (.int .i64 H) ∧ Y.cell? ⟨rb, ro + 2, none⟩ = some (.int .i64 lo) ∧ Y.cell? ⟨rb, ro + 3, none⟩ = some (.int .i64 hi')) (late := fun j => Nat.ble 14 j) (k := 6) (m := 1) (last := #[true, true, true, true, true, true, true, true, true, true, true, true, true, true, false]) (mask := #[false, false, false, false, false, false, false, false, false, false, false, false, false, false, true]) (by kernel_rfl) (by kernel_rfl) (by kernel_rfl) (by kernel_rfl) 14 (by kernel_rfl) (HC4.out _ (Below.refl _ _).drew) (fun hHeld => ?_)
            refine wpAnyH_take (i := 0) (v := ?_) rfl (by kernel_rfl) (by kernel_rfl) (by kernel_rfl) (fun _ _ _ h => h) (Or.inl ⟨by rfl, ?_⟩) (by assumption) ?_
            rotate_left
            · intro w hSw
              (try dsimp only at hSw)
              go_simp
              (try with_reducible rfl)
            (try simp only [List.getElem_toArray, List.getElem_cons_zero, List.getElem_cons_succ, Act.put, List.setIfInBounds_toArray, List.set_cons_zero, List.set_cons_succ])
            refine wpAnyH_take (i := 1) (v := ?_) rfl (by kernel_rfl) (by kernel_rfl) (by kernel_rfl) (fun _ _ _ h => h) (Or.inl ⟨by rfl, ?_⟩) (by assumption) ?_
            rotate_left
            · intro w hSw
              (try dsimp only at hSw)
              go_simp
              (try with_reducible rfl)
            (try simp only [List.getElem_toArray, List.getElem_cons_zero, List.getElem_cons_succ, Act.put, List.setIfInBounds_toArray, List.set_cons_zero, List.set_cons_succ])
            refine wpAnyH_take (i := 2) (v := ?_) rfl (by kernel_rfl) (by kernel_rfl) (by kernel_rfl) (fun _ _ _ h => h) (Or.inl ⟨by rfl, ?_⟩) (by assumption) ?_
            rotate_left
            · intro w hSw
              (try dsimp only at hSw)
              go_simp
              (try with_reducible rfl)
            (try simp only [List.getElem_toArray, List.getElem_cons_zero, List.getElem_cons_succ, Act.put, List.setIfInBounds_toArray, List.set_cons_zero, List.set_cons_succ])
            refine wpAnyH_take (i := 3) (v := ?_) rfl (by kernel_rfl) (by kernel_rfl) (by kernel_rfl) (fun _ _ _ h => h) (Or.inl ⟨by rfl, ?_⟩) (by assumption) ?_
            rotate_left
            · intro w hSw
              (try dsimp only at hSw)
              go_simp
              (try with_reducible rfl)
            (try simp only [List.getElem_toArray, List.getElem_cons_zero, List.getElem_cons_succ, Act.put, List.setIfInBounds_toArray, List.set_cons_zero, List.set_cons_succ])
            refine wpAnyH_take (i := 4) (v := ?_) rfl (by kernel_rfl) (by kernel_rfl) (by kernel_rfl) (fun _ _ _ h => h) (Or.inl ⟨by rfl, ?_⟩) (by assumption) ?_
            rotate_left
            · intro w hSw
              (try dsimp only at hSw)
              go_simp
              (try with_reducible rfl)
            (try simp only [List.getElem_toArray, List.getElem_cons_zero, List.getElem_cons_succ, Act.put, List.setIfInBounds_toArray, List.set_cons_zero, List.set_cons_succ])
            refine wpAnyH_take (i := 5) (v := ?_) rfl (by kernel_rfl) (by kernel_rfl) (by kernel_rfl) (fun _ _ _ h => h) (Or.inl ⟨by rfl, ?_⟩) (by assumption) ?_
            rotate_left
            · intro w hSw
              (try dsimp only at hSw)
              go_simp
              (try with_reducible rfl)
            (try simp only [List.getElem_toArray, List.getElem_cons_zero, List.getElem_cons_succ, Act.put, List.setIfInBounds_toArray, List.set_cons_zero, List.set_cons_succ])
            refine wpAnyH_take (i := 6) (v := ?_) rfl (by kernel_rfl) (by kernel_rfl) (by kernel_rfl) (fun _ _ _ h => h) (Or.inl ⟨by rfl, ?_⟩) (by assumption) ?_
            rotate_left
            · intro w hSw
              (try dsimp only at hSw)
              go_simp
              (try with_reducible rfl)
            (try simp only [List.getElem_toArray, List.getElem_cons_zero, List.getElem_cons_succ, Act.put, List.setIfInBounds_toArray, List.set_cons_zero, List.set_cons_succ])
            refine wpAnyH_take (i := 7) (v := ?_) rfl (by kernel_rfl) (by kernel_rfl) (by kernel_rfl) (fun _ _ _ h => h) (Or.inl ⟨by rfl, ?_⟩) (by assumption) ?_
            rotate_left
            · intro w hSw
              (try dsimp only at hSw)
              go_simp
              (try with_reducible rfl)
            (try simp only [List.getElem_toArray, List.getElem_cons_zero, List.getElem_cons_succ, Act.put, List.setIfInBounds_toArray, List.set_cons_zero, List.set_cons_succ])
            refine wpAnyH_take (i := 8) (v := ?_) rfl (by kernel_rfl) (by kernel_rfl) (by kernel_rfl) (fun _ _ _ h => h) (Or.inl ⟨by rfl, ?_⟩) (by assumption) ?_
            rotate_left
            · intro w hSw
              (try dsimp only at hSw)
              go_simp
              (try with_reducible rfl)
            (try simp only [List.getElem_toArray, List.getElem_cons_zero, List.getElem_cons_succ, Act.put, List.setIfInBounds_toArray, List.set_cons_zero, List.set_cons_succ])
            refine wpAnyH_take (i := 9) (v := ?_) rfl (by kernel_rfl) (by kernel_rfl) (by kernel_rfl) (fun _ _ _ h => h) (Or.inl ⟨by rfl, ?_⟩) (by assumption) ?_
            rotate_left
            · intro w hSw
              (try dsimp only at hSw)
              go_simp
              (try with_reducible rfl)
            (try simp only [List.getElem_toArray, List.getElem_cons_zero, List.getElem_cons_succ, Act.put, List.setIfInBounds_toArray, List.set_cons_zero, List.set_cons_succ])
            refine wpAnyH_take (i := 10) (v := ?_) rfl (by kernel_rfl) (by kernel_rfl) (by kernel_rfl) (fun _ _ _ h => h) (Or.inl ⟨by rfl, ?_⟩) (by assumption) ?_
            rotate_left
            · intro w hSw
              (try dsimp only at hSw)
              go_simp
              (try with_reducible rfl)
            (try simp only [List.getElem_toArray, List.getElem_cons_zero, List.getElem_cons_succ, Act.put, List.setIfInBounds_toArray, List.set_cons_zero, List.set_cons_succ])
            refine wpAnyH_take (i := 11) (v := ?_) rfl (by kernel_rfl) (by kernel_rfl) (by kernel_rfl) (fun _ _ _ h => h) (Or.inl ⟨by rfl, ?_⟩) (by assumption) ?_
            rotate_left
            · intro w hSw
              (try dsimp only at hSw)
              go_simp
              (try with_reducible rfl)
            (try simp only [List.getElem_toArray, List.getElem_cons_zero, List.getElem_cons_succ, Act.put, List.setIfInBounds_toArray, List.set_cons_zero, List.set_cons_succ])
            refine wpAnyH_take (i := 12) (v := ?_) rfl (by kernel_rfl) (by kernel_rfl) (by kernel_rfl) (fun _ _ _ h => h) (Or.inl ⟨by rfl, ?_⟩) (by assumption) ?_
            rotate_left
            · intro w hSw
              (try dsimp only at hSw)
              go_simp
              (try with_reducible rfl)
            (try simp only [List.getElem_toArray, List.getElem_cons_zero, List.getElem_cons_succ, Act.put, List.setIfInBounds_toArray, List.set_cons_zero, List.set_cons_succ])
            refine wpAnyH_ready (rs := [13]) (by kernel_rfl) (by simp) ?_
            refine AllReadyH.cons (o := _) rfl (fun Kc hKc => ?_) AllReadyH.nil
            go_simp
            refine hKc.out _ _ (HC4.out _ (below_alloc' (Below.refl _ _).drew (Nat.le_refl _) _)) (fun hHeld => ?_)
            clear hKc Kc
            (try simp only [List.getElem_toArray, List.getElem_cons_zero, List.getElem_cons_succ, Act.put, List.setIfInBounds_toArray, List.set_cons_zero, List.set_cons_succ])
            refine wpAnyH_done (by kernel_rfl) ?_ _
            intro r
            refine wpAny_ready (rs := [14]) (by kernel_rfl) (by simp) ?_
            refine AllReady.cons (o := _) rfl (fun Kc hKc => ?_) AllReady.nil
            go_simp
            refine hKc _ _ ?_
            clear hKc Kc
            (try simp only [List.getElem_toArray, List.getElem_cons_zero, List.getElem_cons_succ, Act.put, List.setIfInBounds_toArray, List.set_cons_zero, List.set_cons_succ])
            refine wpAny_done (by kernel_rfl) ?_ _
            refine NoPanic.normal ?_

            have HG0 : Hid (GB W8 ((W8.alloc (Obj.cells #[.int .i64 Z, .int .i64 H, .slice none 0 0, .int .i64 lo, .int .i64 hi'] 24)).drew) W8.heap.size Z H lo hi' (.slice none 0 0) (.slice none 0 0) []) :=
              hid (GB.drew ⟨inew _ _, World.ownsRow_nil _ _ _ _, ibel _ _, Nat.le_refl _⟩)
            clear HC4
            generalize ((W8.alloc (Obj.cells #[.int .i64 Z, .int .i64 H, .slice none 0 0, .int .i64 lo, .int .i64 hi'] 24)).drew) = W9 at *
            go_wp2_with fail
            go_loopw [11] (fun iv wr => ∃ k i : Nat, k ≤ S.length ∧ Hid (i = 4 + 3 * k) ∧ iv = .int .i64 (i : Int) ∧ ∃ vv, Hid (GB W8 wr W8.heap.size Z H lo hi' vv vv (S.take k))) (fun iv _ => V.length - (intOf iv).toNat)
            case atStart => exact ⟨0, 4, Nat.zero_le _, rfl, rfl, _, HG0⟩
            case round =>
              clear HG0 hk hlt hj
              obtain ⟨k, i, hk, HIK, rfl, vv, HGB⟩ := hrel
              by_cases hlt : k < S.length
              · have hin : i < V.length := by rw [HSL.out, HIK.out]; omega
                obtain ⟨i1, HI1⟩ : ∃ n, Hid (n = i + 1) := ⟨_, rfl⟩
                obtain ⟨i2, HI2⟩ : ∃ n, Hid (n = i + 2) := ⟨_, rfl⟩
                have hin1 : i1 < V.length := by rw [HI1.out, HSL.out, HIK.out]; omega
                have hin2 : i2 < V.length := by rw [HI2.out, HSL.out, HIK.out]; omega
                have wr1 : IntKind.i64.wrap ((i : Int) + 1) = (i1 : Int) := by rw [HI1.out]; simp [IntKind.wrap, IntKind.bits, IntKind.signed]; omega
                have wr2 : IntKind.i64.wrap ((i : Int) + 2) = (i2 : Int) := by rw [HI2.out]; simp [IntKind.wrap, IntKind.bits, IntKind.signed]; omega
                have HTK := hid (List.take_succ_eq_append_getElem hlt)
                obtain ⟨a0, a1, a2⟩ := ln3_at S k hlt
                obtain ⟨l, HLL⟩ : ∃ l, Hid (S[k] = l) := ⟨_, hid rfl⟩
                rw [HLL.out] at HTK a0 a1 a2
                have q0 := Ints.get HII.out i l.f (by rw [HIK.out, app4_at, Nat.mul_comm]; exact a0)
                have q1 := Ints.get HII.out i1 l.t (by rw [HI1.out, HIK.out, Nat.add_assoc, app4_at, Nat.mul_comm]; exact a1)
                have q2 := Ints.get HII.out i2 l.c (by rw [HI2.out, HIK.out, Nat.add_assoc, app4_at, Nat.mul_comm]; exact a2)
                obtain ⟨nk, HNK⟩ : ∃ n, Hid ((S.take k).length = n) := ⟨_, hid rfl⟩
                have HTL := hid (show (S.take k).length ≤ 64 by have := HSL.out; rw [List.length_take]; omega)
                rw [HNK.out] at HTL
                have HC := hid (fun (Y : World) (v : Value) (X : List Ln) (_ : True) (hp : GB W8 Y W8.heap.size Z H lo hi' vv v X) => (⟨ibx hp.box 2 vv rfl, ikc hp.bel q0, ikc hp.bel q1, ikc hp.bel q2⟩ : Y.cell? ⟨W8.heap.size, 2, none⟩ = some vv ∧ Y.cell? ⟨rb, ro + i, none⟩ = some (.int .i64 l.f) ∧ Y.cell? ⟨rb, ro + i1, none⟩ = some (.int .i64 l.t) ∧ Y.cell? ⟨rb, ro + i2, none⟩ = some (.int .i64 l.c)))
                have hP := HGB.out.drew
                clear q0 q1 q2 a0 a1 a2 HGB
                go_wp2_with fail
                refine wp_region_noPanic ?_
                refine region_split (S := fun Y => Y.cell? ⟨W8.heap.size, 2, none⟩ = some vv ∧ Y.cell? ⟨rb, ro + i, none⟩ = some (.int .i64 l.f) ∧ Y.cell? ⟨rb, ro + i1, none⟩ = some (.int .i64 l.t) ∧ Y.cell? ⟨rb, ro + i2, none⟩ = some (.int .i64 l.c)) (late := fun j => Nat.ble 20 j) (k := 6) (m := 1) (last := #[true, true, true, true, true, true, true, true, true, true, true, true, true, true, true, true, true, true, true, true, false]) (mask := #[false, false, false, false, false, false, false, false, false, false, false, false, false, false, false, false, false, false, false, false, true]) (by kernel_rfl) (by kernel_rfl) (by kernel_rfl) (by kernel_rfl) 20 (by kernel_rfl) (HC.out _ _ _ trivial hP) (fun hHeld => ?_)
                generalize wr.drew = Y0 at *
                refine wpAnyH_take (i := 0) (v := ?_) rfl (by kernel_rfl) (by kernel_rfl) (by kernel_rfl) (fun _ _ _ h => h) (Or.inl ⟨by rfl, ?_⟩) (by assumption) ?_
                rotate_left
                · intro w hSw
                  (try dsimp only at hSw)
                  go_simp
                  (try with_reducible rfl)
                (try simp only [List.getElem_toArray, List.getElem_cons_zero, List.getElem_cons_succ, Act.put, List.setIfInBounds_toArray, List.set_cons_zero, List.set_cons_succ])
                refine wpAnyH_take (i := 1) (v := ?_) rfl (by kernel_rfl) (by kernel_rfl) (by kernel_rfl) (fun _ _ _ h => h) (Or.inl ⟨by rfl, ?_⟩) (by assumption) ?_
                rotate_left
                · intro w hSw
                  (try dsimp only at hSw)
                  go_simp
                  (try with_reducible rfl)
                (try simp only [List.getElem_toArray, List.getElem_cons_zero, List.getElem_cons_succ, Act.put, List.setIfInBounds_toArray, List.set_cons_zero, List.set_cons_succ])
                refine wpAnyH_take (i := 2) (v := ?_) rfl (by kernel_rfl) (by kernel_rfl) (by kernel_rfl) (fun _ _ _ h => h) (Or.inl ⟨by rfl, ?_⟩) (by assumption) ?_
                rotate_left
                · intro w hSw
                  (try dsimp only at hSw)
                  go_simp
                  (try with_reducible rfl)
                (try simp only [List.getElem_toArray, List.getElem_cons_zero, List.getElem_cons_succ, Act.put, List.setIfInBounds_toArray, List.set_cons_zero, List.set_cons_succ])
                refine wpAnyH_take (i := 3) (v := ?_) rfl (by kernel_rfl) (by kernel_rfl) (by kernel_rfl) (fun _ _ _ h => h) (Or.inl ⟨by rfl, ?_⟩) (by assumption) ?_
                rotate_left
                · intro w hSw
                  (try dsimp only at hSw)
                  go_simp
                  (try with_reducible rfl)
                (try simp only [List.getElem_toArray, List.getElem_cons_zero, List.getElem_cons_succ, Act.put, List.setIfInBounds_toArray, List.set_cons_zero, List.set_cons_succ])
                refine wpAnyH_take (i := 4) (v := ?_) rfl (by kernel_rfl) (by kernel_rfl) (by kernel_rfl) (fun _ _ _ h => h) (Or.inl ⟨by rfl, ?_⟩) (by assumption) ?_
                rotate_left
                · intro w hSw
                  (try dsimp only at hSw)
                  go_simp
                  (try with_reducible rfl)
                (try simp only [List.getElem_toArray, List.getElem_cons_zero, List.getElem_cons_succ, Act.put, List.setIfInBounds_toArray, List.set_cons_zero, List.set_cons_succ])
                refine wpAnyH_take (i := 5) (v := ?_) rfl (by kernel_rfl) (by kernel_rfl) (by kernel_rfl) (fun _ _ _ h => h) (Or.inl ⟨by rfl, ?_⟩) (by assumption) ?_
                rotate_left
                · intro w hSw
                  (try dsimp only at hSw)
                  go_simp
                  (try with_reducible rfl)
                (try simp only [List.getElem_toArray, List.getElem_cons_zero, List.getElem_cons_succ, Act.put, List.setIfInBounds_toArray, List.set_cons_zero, List.set_cons_succ])
                refine wpAnyH_take (i := 6) (v := ?_) rfl (by kernel_rfl) (by kernel_rfl) (by kernel_rfl) (fun _ _ _ h => h) (Or.inl ⟨by rfl, ?_⟩) (by assumption) ?_
                rotate_left
                · intro w hSw
                  (try dsimp only at hSw)
                  go_simp
                  (try with_reducible rfl)
                (try simp only [List.getElem_toArray, List.getElem_cons_zero, List.getElem_cons_succ, Act.put, List.setIfInBounds_toArray, List.set_cons_zero, List.set_cons_succ])
                refine wpAnyH_take (i := 7) (v := ?_) rfl (by kernel_rfl) (by kernel_rfl) (by kernel_rfl) (fun _ _ _ h => h) (Or.inl ⟨by rfl, ?_⟩) (by assumption) ?_
                rotate_left
                · intro w hSw
                  (try dsimp only at hSw)
                  go_simp
                  (try with_reducible rfl)
                (try simp only [List.getElem_toArray, List.getElem_cons_zero, List.getElem_cons_succ, Act.put, List.setIfInBounds_toArray, List.set_cons_zero, List.set_cons_succ])
                refine wpAnyH_take (i := 8) (v := ?_) rfl (by kernel_rfl) (by kernel_rfl) (by kernel_rfl) (fun _ _ _ h => h) (Or.inl ⟨by rfl, ?_⟩) (by assumption) ?_
                rotate_left
                · intro w hSw
                  (try dsimp only at hSw)
                  go_simp
                  (try with_reducible rfl)
                (try simp only [List.getElem_toArray, List.getElem_cons_zero, List.getElem_cons_succ, Act.put, List.setIfInBounds_toArray, List.set_cons_zero, List.set_cons_succ])
                refine wpAnyH_take (i := 9) (v := ?_) rfl (by kernel_rfl) (by kernel_rfl) (by kernel_rfl) (fun _ _ _ h => h) (Or.inl ⟨by rfl, ?_⟩) (by assumption) ?_
                rotate_left
                · intro w hSw
                  (try dsimp only at hSw)
                  go_simp
                  (try with_reducible rfl)
                (try simp only [List.getElem_toArray, List.getElem_cons_zero, List.getElem_cons_succ, Act.put, List.setIfInBounds_toArray, List.set_cons_zero, List.set_cons_succ])
                refine wpAnyH_take (i := 10) (v := ?_) rfl (by kernel_rfl) (by kernel_rfl) (by kernel_rfl) (fun _ _ _ h => h) (Or.inl ⟨by rfl, ?_⟩) (by assumption) ?_
                rotate_left
                · intro w hSw
                  (try dsimp only at hSw)
                  go_simp
                  (try with_reducible rfl)
                (try simp only [List.getElem_toArray, List.getElem_cons_zero, List.getElem_cons_succ, Act.put, List.setIfInBounds_toArray, List.set_cons_zero, List.set_cons_succ])
                refine wpAnyH_take (i := 11) (v := ?_) rfl (by kernel_rfl) (by kernel_rfl) (by kernel_rfl) (fun _ _ _ h => h) (Or.inl ⟨by rfl, ?_⟩) (by assumption) ?_
                rotate_left
                · intro w hSw
                  (try dsimp only at hSw)
                  go_simp
                  (try with_reducible rfl)
                (try simp only [List.getElem_toArray, List.getElem_cons_zero, List.getElem_cons_succ, Act.put, List.setIfInBounds_toArray, List.set_cons_zero, List.set_cons_succ])
                refine wpAnyH_take (i := 12) (v := ?_) rfl (by kernel_rfl) (by kernel_rfl) (by kernel_rfl) (fun _ _ _ h => h) (Or.inl ⟨by rfl, ?_⟩) (by assumption) ?_
                rotate_left
                · intro w hSw
                  (try dsimp only at hSw)
                  go_simp
                  (try with_reducible rfl)
                (try simp only [List.getElem_toArray, List.getElem_cons_zero, List.getElem_cons_succ, Act.put, List.setIfInBounds_toArray, List.set_cons_zero, List.set_cons_succ])
                refine wpAnyH_take (i := 13) (v := ?_) rfl (by kernel_rfl) (by kernel_rfl) (by kernel_rfl) (fun _ _ _ h => h) (Or.inl ⟨by rfl, ?_⟩) (by assumption) ?_
                rotate_left
                · intro w hSw
                  (try dsimp only at hSw)
                  go_simp
                  (try with_reducible rfl)
                (try simp only [List.getElem_toArray, List.getElem_cons_zero, List.getElem_cons_succ, Act.put, List.setIfInBounds_toArray, List.set_cons_zero, List.set_cons_succ])
                refine wpAnyH_take (i := 14) (v := ?_) rfl (by kernel_rfl) (by kernel_rfl) (by kernel_rfl) (fun _ _ _ h => h) (Or.inl ⟨by rfl, ?_⟩) (by assumption) ?_
                rotate_left
                · intro w hSw
                  (try dsimp only at hSw)
                  go_simp
                  (try with_reducible rfl)
                (try simp only [List.getElem_toArray, List.getElem_cons_zero, List.getElem_cons_succ, Act.put, List.setIfInBounds_toArray, List.set_cons_zero, List.set_cons_succ])
                refine wpAnyH_take (i := 15) (v := ?_) rfl (by kernel_rfl) (by kernel_rfl) (by kernel_rfl) (fun _ _ _ h => h) (Or.inl ⟨by rfl, ?_⟩) (by assumption) ?_
                rotate_left
                · intro w hSw
                  (try dsimp only at hSw)
                  go_simp
                  (try with_reducible rfl)
                (try simp only [List.getElem_toArray, List.getElem_cons_zero, List.getElem_cons_succ, Act.put, List.setIfInBounds_toArray, List.set_cons_zero, List.set_cons_succ])
                refine wpAnyH_take (i := 16) (v := ?_) rfl (by kernel_rfl) (by kernel_rfl) (by kernel_rfl) (fun _ _ _ h => h) (Or.inl ⟨by rfl, ?_⟩) (by assumption) ?_
                rotate_left
                · intro w hSw
                  (try dsimp only at hSw)
                  go_simp
                  (try with_reducible rfl)
                (try simp only [List.getElem_toArray, List.getElem_cons_zero, List.getElem_cons_succ, Act.put, List.setIfInBounds_toArray, List.set_cons_zero, List.set_cons_succ])
                refine wpAnyH_ready (rs := [17]) (by kernel_rfl) (by simp) ?_
                refine AllReadyH.cons (o := _) rfl (fun Kc hKc => ?_) AllReadyH.nil
                go_simp
                refine hKc.out _ _ (HC.out _ _ _ trivial (hP.alloc _)) (fun hHeld => ?_)
                clear hKc Kc
                (try simp only [List.getElem_toArray, List.getElem_cons_zero, List.getElem_cons_succ, Act.put, List.setIfInBounds_toArray, List.set_cons_zero, List.set_cons_succ])
                have hP1 := hP.alloc (Obj.cells #[.int .i64 l.f, .int .i64 l.t, .int .i64 l.c] 41)
                have p1 := line_new Y0 l
                clear hP
                generalize Y0.alloc (Obj.cells #[.int .i64 l.f, .int .i64 l.t, .int .i64 l.c] 41) = Y1 at *
                generalize Y0.heap.size = gg at *
                refine wpAnyH_ready (rs := [18]) (by kernel_rfl) (by simp) ?_
                refine AllReadyH.cons (o := _) rfl (fun Kc hKc => ?_) AllReadyH.nil
                refine step_append_at rfl _ _ 22 rfl (W8.heap.size + 1) 41 j0 (.agg #[.int .i64 0, .int .i64 0, .int .i64 0]) 3 24 Tryd.underlying22 hj0 jz0 jz1 jz2 rfl (by decide) vv nk (lnV (S.take k)) rfl (by rw [← HNK.out]; exact hP1.own) ⟨gg, 0, none⟩ 1 1 [.int .i64 l.f, .int .i64 l.t, .int .i64 l.c] rfl rfl p1 (by intro u hu; simp at hu; rcases hu with rfl | rfl | rfl <;> rfl) (by have := HTL.out; unfold maxLen; omega) (by have := HTL.out; omega) hP1.sz ?_
                intro v' Y2 o2 hg2 hat2
                obtain ⟨qa, qc, rfl⟩ := own_slice o2
                have hP2 := hP1.push (by rw [HNK.out]; exact o2) hg2
                clear p1 o2 hg2 hat2 hP1
                refine hKc.out _ _ (HC.out _ _ _ trivial hP2) (fun hHeld => ?_)
                clear hKc Kc
                (try simp only [List.getElem_toArray, List.getElem_cons_zero, List.getElem_cons_succ, Act.put, List.setIfInBounds_toArray, List.set_cons_zero, List.set_cons_succ])
                refine wpAnyH_take (i := 19) (v := ?_) rfl (by kernel_rfl) (by kernel_rfl) (by kernel_rfl) (fun _ _ _ h => h) (Or.inl ⟨by rfl, ?_⟩) (by assumption) ?_
                rotate_left
                · intro w hSw
                  (try dsimp only at hSw)
                  go_simp
                  (try with_reducible rfl)
                (try simp only [List.getElem_toArray, List.getElem_cons_zero, List.getElem_cons_succ, Act.put, List.setIfInBounds_toArray, List.set_cons_zero, List.set_cons_succ])
                refine wpAnyH_done (by kernel_rfl) ?_ _
                intro r
                have c6 := ibx hP2.box 2 vv rfl
                have f6 := free_at (L := [.int .i64 Z, .int .i64 H, vv, .int .i64 lo, .int .i64 hi']) hP2.box 2
                have hP9 := hP2.set (.slice qa (nk + 1) qc)
                clear hP2 hHeld HC
                refine wpAny_ready (rs := [20]) (by kernel_rfl) (by simp) ?_
                refine AllReady.cons (o := _) rfl (fun Kc hKc => ?_) AllReady.nil
                go_simp
                refine hKc _ _ ?_
                clear hKc Kc
                (try simp only [List.getElem_toArray, List.getElem_cons_zero, List.getElem_cons_succ, Act.put, List.setIfInBounds_toArray, List.set_cons_zero, List.set_cons_succ])
                refine wpAny_done (by kernel_rfl) ?_ _
                refine NoPanic.normal ?_
                clear c6 f6
                have HP9 := hid hP9
                clear hP9
                generalize Y2.setCell ⟨W8.heap.size, 2, none⟩ (.slice qa (nk + 1) qc) = Z9 at *

                go_wp2_with fail
                go_roundw
                case rel => exact ⟨k + 1, i + 3, by omega, hid (by rw [HIK.out]; omega), by go_num, _, by rw [HTK.out]; exact HP9⟩
                case measure => simp [intOf]; omega
              · obtain rfl : k = S.length := by omega
                have hin : V.length ≤ i := by rw [HSL.out, HIK.out]; exact Nat.le_refl _
                have hin2 : (V.length : Int) ≤ (i : Int) := by omega
                rw [List.take_of_length_le (Nat.le_refl _)] at HGB
                obtain ⟨va, vc, rfl⟩ := own_slice HGB.out.own
                have xg := HGB.out.box
                have g0' := ibx xg 0 (.int .i64 Z) rfl
                have g1' := ibx xg 1 (.int .i64 H) rfl
                have g2' := ibx xg 2 (.slice va S.length vc) rfl
                have g3' := ibx xg 3 (.int .i64 lo) rfl
                have g4' := ibx xg 4 (.int .i64 hi') rfl
                have HX7 := hid xg
                have HL7 := hid (lns_own HGB.out.own)
                have HF6 := hid (own_fresh HGB.out.own W8.heap.size (Nat.lt_succ_self _))
                have HB7 := hid (HBY.out.trans (HGB.out.bel.mono HBY.out.size))
                have HC7 := hid (mcheck_any wr ⟨Z, H, lo, hi', S⟩ va vc HL7.out)
                clear xg HGB
                go_wp2_with fail
                refine HC7.out.mono ?_
                clear HC7
                rintro e w8 ⟨rfl, b8⟩
                have HB8 := hid (chain2 HB7.out b8)
                have HL8 := hid (HL7.out.below b8)
                have x8 := (b8.block _ (lt_of_block HX7.out)).trans HX7.out
                clear g0' g1' g2' g3' g4'
                have g0' := ibx x8 0 (.int .i64 Z) rfl
                have g1' := ibx x8 1 (.int .i64 H) rfl
                have g2' := ibx x8 2 (.slice va S.length vc) rfl
                have g3' := ibx x8 3 (.int .i64 lo) rfl
                have g4' := ibx x8 4 (.int .i64 hi') rfl
                clear b8 x8 HX7 HL7
                cases hg : gok ⟨Z, H, lo, hi', S⟩ with
                | true =>
                  rw [show errG ⟨Z, H, lo, hi', S⟩ = 0 by unfold errG; rw [hg]; rfl]
                  have HPS := hid (HCA.out.psr HL4.out HR3.out (by rw [HG.out]; exact hg))
                  clear hg
                  have xr := (HB8.out.block w.heap.size (by rw [HS5.out]; exact Nat.lt_succ_self _)).trans HR0.out
                  have r0 := ibx xr 0 (.int .i64 0) rfl
                  have f0 := free_at (L := [.int .i64 0, .int .i64 0, .slice none 0 0, .int .i64 0, .int .i64 0]) xr 0
                  have r1 := ibx xr 1 (.int .i64 0) rfl
                  have f1 := free_at (L := [.int .i64 0, .int .i64 0, .slice none 0 0, .int .i64 0, .int .i64 0]) xr 1
                  have r2 := ibx xr 2 (.slice none 0 0) rfl
                  have f2 := free_at (L := [.int .i64 0, .int .i64 0, .slice none 0 0, .int .i64 0, .int .i64 0]) xr 2
                  have r3 := ibx xr 3 (.int .i64 0) rfl
                  have f3 := free_at (L := [.int .i64 0, .int .i64 0, .slice none 0 0, .int .i64 0, .int .i64 0]) xr 3
                  have r4 := ibx xr 4 (.int .i64 0) rfl
                  have f4 := free_at (L := [.int .i64 0, .int .i64 0, .slice none 0 0, .int .i64 0, .int .i64 0]) xr 4
                  have HX := hid (put5_box xr (.int .i64 Z) (.int .i64 H) (.slice va S.length vc) (.int .i64 lo) (.int .i64 hi'))
                  have HW := hid (put5_below (HB0.out.trans (HB8.out.mono HB0.out.size)) w.heap.size (Nat.le_refl _) (.int .i64 Z) (.int .i64 H) (.slice va S.length vc) (.int .i64 lo) (.int .i64 hi'))
                  have HLZ := hid (lns_put5 HL8.out w.heap.size (fun g off f e => Nat.lt_of_le_of_lt (Nat.le_trans HB0.out.size HBY.out.size) (HF6.out g off f e)) (.int .i64 Z) (.int .i64 H) (.slice va S.length vc) (.int .i64 lo) (.int .i64 hi'))
                  have y0 := ibx HX.out 0 _ rfl
                  have y1 := ibx HX.out 1 _ rfl
                  have y2 := ibx HX.out 2 _ rfl
                  have y3 := ibx HX.out 3 _ rfl
                  have y4 := ibx HX.out 4 _ rfl
                  have HO := hid (And.intro y0 (And.intro y1 (And.intro y2 (And.intro y3 y4))))
                  clear y0 y1 y2 y3 y4 xr HX
                  go_wp2_with fail
                  exact bodyPost_ret (v := .tuple #[.agg #[.int .i64 Z, .int .i64 H, .slice va S.length vc, .int .i64 lo, .int .i64 hi'], .int .i64 0]) (by simp [results, Tryd.results6, go_sem, HO.out.1, HO.out.2.1, HO.out.2.2.1, HO.out.2.2.2.1, HO.out.2.2.2.2]) rfl ⟨Or.inl ⟨L, HPS.out, by rw [HG.out]; exact ⟨va, vc, rfl, HLZ.out⟩⟩, HW.out⟩

                | false =>
                  rw [show errG ⟨Z, H, lo, hi', S⟩ = 140 by unfold errG; rw [hg]; rfl]
                  have HNO : Hid (∀ M, ¬ Psr s M) := hid (fun M p => by
                    have e := HCA.out.only p
                    have h := p.2.2.2.2.2
                    rw [e, HG.out, hg] at h
                    cases h)
                  clear hg
                  have xr := (HB8.out.block w.heap.size (by rw [HS5.out]; exact Nat.lt_succ_self _)).trans HR0.out
                  have r0 := ibx xr 0 (.int .i64 0) rfl
                  have f0 := free_at (L := [.int .i64 0, .int .i64 0, .slice none 0 0, .int .i64 0, .int .i64 0]) xr 0
                  have r1 := ibx xr 1 (.int .i64 0) rfl
                  have f1 := free_at (L := [.int .i64 0, .int .i64 0, .slice none 0 0, .int .i64 0, .int .i64 0]) xr 1
                  have r2 := ibx xr 2 (.slice none 0 0) rfl
                  have f2 := free_at (L := [.int .i64 0, .int .i64 0, .slice none 0 0, .int .i64 0, .int .i64 0]) xr 2
                  have r3 := ibx xr 3 (.int .i64 0) rfl
                  have f3 := free_at (L := [.int .i64 0, .int .i64 0, .slice none 0 0, .int .i64 0, .int .i64 0]) xr 3
                  have r4 := ibx xr 4 (.int .i64 0) rfl
                  have f4 := free_at (L := [.int .i64 0, .int .i64 0, .slice none 0 0, .int .i64 0, .int .i64 0]) xr 4
                  have HX := hid (put5_box xr (.int .i64 0) (.int .i64 0) (.slice none 0 0) (.int .i64 0) (.int .i64 0))
                  have HW := hid (put5_below (HB0.out.trans (HB8.out.mono HB0.out.size)) w.heap.size (Nat.le_refl _) (.int .i64 0) (.int .i64 0) (.slice none 0 0) (.int .i64 0) (.int .i64 0))
                  have y0 := ibx HX.out 0 _ rfl
                  have y1 := ibx HX.out 1 _ rfl
                  have y2 := ibx HX.out 2 _ rfl
                  have y3 := ibx HX.out 3 _ rfl
                  have y4 := ibx HX.out 4 _ rfl
                  have HO := hid (And.intro y0 (And.intro y1 (And.intro y2 (And.intro y3 y4))))
                  clear y0 y1 y2 y3 y4 xr HX
                  go_wp2_with fail
                  exact bodyPost_ret (v := .tuple #[.agg #[.int .i64 0, .int .i64 0, .slice none 0 0, .int .i64 0, .int .i64 0], .int .i64 51]) (by simp [results, Tryd.results6, go_sem, HO.out.1, HO.out.2.1, HO.out.2.2.1, HO.out.2.2.2.1, HO.out.2.2.2.2]) rfl ⟨Or.inr ⟨HNO.out, rfl⟩, HW.out⟩


    · have HNO := hid (fun L (p : Psr s L) => hx (psr_head HWL.out p).1)
      have hxt : (x.toList == [103, 114, 105, 100]) = false := by
        rw [beq_eq_false_iff_ne]
        intro e
        apply hx
        apply bl_inj
        have e2 : bl x = x.toList := by rw [ByteArray.toList_eq]; rfl
        rw [e2, e]
        rfl
      clear hx
      have xr := (HBX.out.block w.heap.size (by rw [HS5.out]; exact Nat.lt_succ_self _)).trans HR0.out
      have r0 := ibx xr 0 (.int .i64 0) rfl
      have f0 := free_at (L := [.int .i64 0, .int .i64 0, .slice none 0 0, .int .i64 0, .int .i64 0]) xr 0
      have r1 := ibx xr 1 (.int .i64 0) rfl
      have f1 := free_at (L := [.int .i64 0, .int .i64 0, .slice none 0 0, .int .i64 0, .int .i64 0]) xr 1
      have r2 := ibx xr 2 (.slice none 0 0) rfl
      have f2 := free_at (L := [.int .i64 0, .int .i64 0, .slice none 0 0, .int .i64 0, .int .i64 0]) xr 2
      have r3 := ibx xr 3 (.int .i64 0) rfl
      have f3 := free_at (L := [.int .i64 0, .int .i64 0, .slice none 0 0, .int .i64 0, .int .i64 0]) xr 3
      have r4 := ibx xr 4 (.int .i64 0) rfl
      have f4 := free_at (L := [.int .i64 0, .int .i64 0, .slice none 0 0, .int .i64 0, .int .i64 0]) xr 4
      have HX := hid (put5_box xr (.int .i64 0) (.int .i64 0) (.slice none 0 0) (.int .i64 0) (.int .i64 0))
      have HW := hid (put5_below (HB0.out.trans (HBX.out.mono HB0.out.size)) w.heap.size (Nat.le_refl _) (.int .i64 0) (.int .i64 0) (.slice none 0 0) (.int .i64 0) (.int .i64 0))
      have y0 := ibx HX.out 0 _ rfl
      have y1 := ibx HX.out 1 _ rfl
      have y2 := ibx HX.out 2 _ rfl
      have y3 := ibx HX.out 3 _ rfl
      have y4 := ibx HX.out 4 _ rfl
      have HO := hid (And.intro y0 (And.intro y1 (And.intro y2 (And.intro y3 y4))))
      clear y0 y1 y2 y3 y4 xr HX
      go_wp2_with fail
      exact bodyPost_ret (v := .tuple #[.agg #[.int .i64 0, .int .i64 0, .slice none 0 0, .int .i64 0, .int .i64 0], .int .i64 51]) (by simp [results, Tryd.results6, go_sem, HO.out.1, HO.out.2.1, HO.out.2.2.1, HO.out.2.2.2.1, HO.out.2.2.2.2]) rfl ⟨Or.inr ⟨HNO.out, rfl⟩, HW.out⟩

  · have HNO := hid (fun L (p : Psr s L) => he p.1)
    clear hv
    rcases wordsE_five s with h | h | h | h | h
    · exact absurd h he
    · rw [h]
      clear h he
      have xr := (HBX.out.block w.heap.size (by rw [HS5.out]; exact Nat.lt_succ_self _)).trans HR0.out
      have r0 := ibx xr 0 (.int .i64 0) rfl
      have f0 := free_at (L := [.int .i64 0, .int .i64 0, .slice none 0 0, .int .i64 0, .int .i64 0]) xr 0
      have r1 := ibx xr 1 (.int .i64 0) rfl
      have f1 := free_at (L := [.int .i64 0, .int .i64 0, .slice none 0 0, .int .i64 0, .int .i64 0]) xr 1
      have r2 := ibx xr 2 (.slice none 0 0) rfl
      have f2 := free_at (L := [.int .i64 0, .int .i64 0, .slice none 0 0, .int .i64 0, .int .i64 0]) xr 2
      have r3 := ibx xr 3 (.int .i64 0) rfl
      have f3 := free_at (L := [.int .i64 0, .int .i64 0, .slice none 0 0, .int .i64 0, .int .i64 0]) xr 3
      have r4 := ibx xr 4 (.int .i64 0) rfl
      have f4 := free_at (L := [.int .i64 0, .int .i64 0, .slice none 0 0, .int .i64 0, .int .i64 0]) xr 4
      have HX := hid (put5_box xr (.int .i64 0) (.int .i64 0) (.slice none 0 0) (.int .i64 0) (.int .i64 0))
      have HW := hid (put5_below (HB0.out.trans (HBX.out.mono HB0.out.size)) w.heap.size (Nat.le_refl _) (.int .i64 0) (.int .i64 0) (.slice none 0 0) (.int .i64 0) (.int .i64 0))
      have y0 := ibx HX.out 0 _ rfl
      have y1 := ibx HX.out 1 _ rfl
      have y2 := ibx HX.out 2 _ rfl
      have y3 := ibx HX.out 3 _ rfl
      have y4 := ibx HX.out 4 _ rfl
      have HO := hid (And.intro y0 (And.intro y1 (And.intro y2 (And.intro y3 y4))))
      clear y0 y1 y2 y3 y4 xr HX
      go_wp2_with fail
      exact bodyPost_ret (v := .tuple #[.agg #[.int .i64 0, .int .i64 0, .slice none 0 0, .int .i64 0, .int .i64 0], .int .i64 51]) (by simp [results, Tryd.results6, go_sem, HO.out.1, HO.out.2.1, HO.out.2.2.1, HO.out.2.2.2.1, HO.out.2.2.2.2]) rfl ⟨Or.inr ⟨HNO.out, rfl⟩, HW.out⟩

    · rw [h]
      clear h he
      have xr := (HBX.out.block w.heap.size (by rw [HS5.out]; exact Nat.lt_succ_self _)).trans HR0.out
      have r0 := ibx xr 0 (.int .i64 0) rfl
      have f0 := free_at (L := [.int .i64 0, .int .i64 0, .slice none 0 0, .int .i64 0, .int .i64 0]) xr 0
      have r1 := ibx xr 1 (.int .i64 0) rfl
      have f1 := free_at (L := [.int .i64 0, .int .i64 0, .slice none 0 0, .int .i64 0, .int .i64 0]) xr 1
      have r2 := ibx xr 2 (.slice none 0 0) rfl
      have f2 := free_at (L := [.int .i64 0, .int .i64 0, .slice none 0 0, .int .i64 0, .int .i64 0]) xr 2
      have r3 := ibx xr 3 (.int .i64 0) rfl
      have f3 := free_at (L := [.int .i64 0, .int .i64 0, .slice none 0 0, .int .i64 0, .int .i64 0]) xr 3
      have r4 := ibx xr 4 (.int .i64 0) rfl
      have f4 := free_at (L := [.int .i64 0, .int .i64 0, .slice none 0 0, .int .i64 0, .int .i64 0]) xr 4
      have HX := hid (put5_box xr (.int .i64 0) (.int .i64 0) (.slice none 0 0) (.int .i64 0) (.int .i64 0))
      have HW := hid (put5_below (HB0.out.trans (HBX.out.mono HB0.out.size)) w.heap.size (Nat.le_refl _) (.int .i64 0) (.int .i64 0) (.slice none 0 0) (.int .i64 0) (.int .i64 0))
      have y0 := ibx HX.out 0 _ rfl
      have y1 := ibx HX.out 1 _ rfl
      have y2 := ibx HX.out 2 _ rfl
      have y3 := ibx HX.out 3 _ rfl
      have y4 := ibx HX.out 4 _ rfl
      have HO := hid (And.intro y0 (And.intro y1 (And.intro y2 (And.intro y3 y4))))
      clear y0 y1 y2 y3 y4 xr HX
      go_wp2_with fail
      exact bodyPost_ret (v := .tuple #[.agg #[.int .i64 0, .int .i64 0, .slice none 0 0, .int .i64 0, .int .i64 0], .int .i64 51]) (by simp [results, Tryd.results6, go_sem, HO.out.1, HO.out.2.1, HO.out.2.2.1, HO.out.2.2.2.1, HO.out.2.2.2.2]) rfl ⟨Or.inr ⟨HNO.out, rfl⟩, HW.out⟩

    · rw [h]
      clear h he
      have xr := (HBX.out.block w.heap.size (by rw [HS5.out]; exact Nat.lt_succ_self _)).trans HR0.out
      have r0 := ibx xr 0 (.int .i64 0) rfl
      have f0 := free_at (L := [.int .i64 0, .int .i64 0, .slice none 0 0, .int .i64 0, .int .i64 0]) xr 0
      have r1 := ibx xr 1 (.int .i64 0) rfl
      have f1 := free_at (L := [.int .i64 0, .int .i64 0, .slice none 0 0, .int .i64 0, .int .i64 0]) xr 1
      have r2 := ibx xr 2 (.slice none 0 0) rfl
      have f2 := free_at (L := [.int .i64 0, .int .i64 0, .slice none 0 0, .int .i64 0, .int .i64 0]) xr 2
      have r3 := ibx xr 3 (.int .i64 0) rfl
      have f3 := free_at (L := [.int .i64 0, .int .i64 0, .slice none 0 0, .int .i64 0, .int .i64 0]) xr 3
      have r4 := ibx xr 4 (.int .i64 0) rfl
      have f4 := free_at (L := [.int .i64 0, .int .i64 0, .slice none 0 0, .int .i64 0, .int .i64 0]) xr 4
      have HX := hid (put5_box xr (.int .i64 0) (.int .i64 0) (.slice none 0 0) (.int .i64 0) (.int .i64 0))
      have HW := hid (put5_below (HB0.out.trans (HBX.out.mono HB0.out.size)) w.heap.size (Nat.le_refl _) (.int .i64 0) (.int .i64 0) (.slice none 0 0) (.int .i64 0) (.int .i64 0))
      have y0 := ibx HX.out 0 _ rfl
      have y1 := ibx HX.out 1 _ rfl
      have y2 := ibx HX.out 2 _ rfl
      have y3 := ibx HX.out 3 _ rfl
      have y4 := ibx HX.out 4 _ rfl
      have HO := hid (And.intro y0 (And.intro y1 (And.intro y2 (And.intro y3 y4))))
      clear y0 y1 y2 y3 y4 xr HX
      go_wp2_with fail
      exact bodyPost_ret (v := .tuple #[.agg #[.int .i64 0, .int .i64 0, .slice none 0 0, .int .i64 0, .int .i64 0], .int .i64 51]) (by simp [results, Tryd.results6, go_sem, HO.out.1, HO.out.2.1, HO.out.2.2.1, HO.out.2.2.2.1, HO.out.2.2.2.2]) rfl ⟨Or.inr ⟨HNO.out, rfl⟩, HW.out⟩

    · rw [h]
      clear h he
      have xr := (HBX.out.block w.heap.size (by rw [HS5.out]; exact Nat.lt_succ_self _)).trans HR0.out
      have r0 := ibx xr 0 (.int .i64 0) rfl
      have f0 := free_at (L := [.int .i64 0, .int .i64 0, .slice none 0 0, .int .i64 0, .int .i64 0]) xr 0
      have r1 := ibx xr 1 (.int .i64 0) rfl
      have f1 := free_at (L := [.int .i64 0, .int .i64 0, .slice none 0 0, .int .i64 0, .int .i64 0]) xr 1
      have r2 := ibx xr 2 (.slice none 0 0) rfl
      have f2 := free_at (L := [.int .i64 0, .int .i64 0, .slice none 0 0, .int .i64 0, .int .i64 0]) xr 2
      have r3 := ibx xr 3 (.int .i64 0) rfl
      have f3 := free_at (L := [.int .i64 0, .int .i64 0, .slice none 0 0, .int .i64 0, .int .i64 0]) xr 3
      have r4 := ibx xr 4 (.int .i64 0) rfl
      have f4 := free_at (L := [.int .i64 0, .int .i64 0, .slice none 0 0, .int .i64 0, .int .i64 0]) xr 4
      have HX := hid (put5_box xr (.int .i64 0) (.int .i64 0) (.slice none 0 0) (.int .i64 0) (.int .i64 0))
      have HW := hid (put5_below (HB0.out.trans (HBX.out.mono HB0.out.size)) w.heap.size (Nat.le_refl _) (.int .i64 0) (.int .i64 0) (.slice none 0 0) (.int .i64 0) (.int .i64 0))
      have y0 := ibx HX.out 0 _ rfl
      have y1 := ibx HX.out 1 _ rfl
      have y2 := ibx HX.out 2 _ rfl
      have y3 := ibx HX.out 3 _ rfl
      have y4 := ibx HX.out 4 _ rfl
      have HO := hid (And.intro y0 (And.intro y1 (And.intro y2 (And.intro y3 y4))))
      clear y0 y1 y2 y3 y4 xr HX
      go_wp2_with fail
      exact bodyPost_ret (v := .tuple #[.agg #[.int .i64 0, .int .i64 0, .slice none 0 0, .int .i64 0, .int .i64 0], .int .i64 51]) (by simp [results, Tryd.results6, go_sem, HO.out.1, HO.out.2.1, HO.out.2.2.1, HO.out.2.2.2.1, HO.out.2.2.2.2]) rfl ⟨Or.inr ⟨HNO.out, rfl⟩, HW.out⟩


end Go.Proofs.YteelnimchlgdmaaDoor
