/- grid: the program's Parse. -/
import Derived.Test.YteelnimchlgdmaaDoorT14L
import Derived.Test.YteelnimchlgdmaaDoorICheckP
import Derived.Test.YteelnimchlgdmaaDoorLWords
namespace Go.Proofs.YteelnimchlgdmaaDoor
open Go.RowKit
set_option linter.unusedVariables false
set_option maxRecDepth 100000
set_option linter.unusedSimpArgs false

theorem numE_two (x : ByteArray) : numE x = 0 ∨ numE x = 81 := by unfold numE; split <;> simp
theorem wordsE_five (s : ByteArray) : wordsE s = 0 ∨ wordsE s = 41 ∨ wordsE s = 80 ∨ wordsE s = 81 ∨ wordsE s = 82 := by
  unfold wordsE
  repeat' split
  all_goals simp
theorem num_zero {x : ByteArray} (h : numE x = 0) : NumT x ∧ numR x = numV x := by
  by_cases hx : NumT x
  · exact ⟨hx, (num_yes hx).2⟩
  · rw [(num_no hx).1] at h
    exact absurd h (by decide)
/-- A text's numbers. -/
def Cand (s : ByteArray) (L : List Int) : Prop := wordsE s = 0 ∧ wordsL s = wds L ∧ ∀ n ∈ L, -1000000000 ≤ n ∧ n ≤ 1000000000
theorem numR_map : ∀ V : List ByteArray, (∀ x ∈ V, numE x = 0) → (V.map numR).map txtI = V
  | [], _ => rfl
  | x :: r, h => by
    obtain ⟨h1, h2⟩ := num_zero (h x List.mem_cons_self)
    rw [List.map_cons, List.map_cons, numR_map r (fun y hy => h y (List.mem_cons_of_mem _ hy)), h2, ← numT_txt h1]
theorem Cand.of {s : ByteArray} {V : List ByteArray} (h0 : wordsE s = 0) (hw : wordsL s = gridB :: V) (hV : ∀ x ∈ V, numE x = 0) : Cand s (V.map numR) := by
  refine ⟨h0, ?_, fun n hn => ?_⟩
  · rw [hw]
    unfold wds
    rw [numR_map V hV]
  · obtain ⟨x, _, rfl⟩ := List.mem_map.1 hn
    exact numR_le x
theorem Cand.only {s : ByteArray} {L M : List Int} (c : Cand s L) (p : Psr s M) : M = L := by
  have e := p.2.1.symm.trans c.2.1
  unfold wds at e
  exact map_txtI_inj p.2.2.1 c.2.2 (List.cons.inj e).2
theorem Cand.psr {s : ByteArray} {L : List Int} (c : Cand s L) (h4 : 4 ≤ L.length) (h3 : (L.length - 4) % 3 = 0) (hg : gok (grd L) = true) : Psr s L := ⟨c.1, c.2.1, c.2.2, h4, h3, hg⟩
theorem psr_head {s x : ByteArray} {V : List ByteArray} (hw : wordsL s = x :: V) {L : List Int} (p : Psr s L) : x = gridB ∧ ∀ y ∈ V, numE y = 0 := by
  have e := p.2.1.symm.trans hw
  unfold wds at e
  obtain ⟨e1, e2⟩ := List.cons.inj e
  refine ⟨e1.symm, fun y hy => ?_⟩
  rw [← e2] at hy
  obtain ⟨n, hn, rfl⟩ := List.mem_map.1 hy
  have := p.2.2.1 n hn
  exact (num_yes (txtI_num n this.1 this.2).1).1
theorem words_cons {s : ByteArray} (h : wordsE s = 0) : ∃ x V, wordsL s = x :: V := by
  rw [wordsL_ok h]
  cases e : parts 32 s with
  | nil =>
    have := parts_bl5 32 s
    rw [e] at this
    exact absurd this.symm (cutAt_ne _ _)
  | cons x V => exact ⟨x, V, rfl⟩
theorem words_few {s : ByteArray} (h : wordsE s = 0) : (wordsL s).length ≤ 16 := by
  rw [wordsL_ok h]
  apply Decidable.byContradiction
  intro hc
  unfold wordsE at h
  repeat' split at h
  all_goals first | omega | simp at h
theorem words_small {s : ByteArray} (h : wordsE s = 0) : ∀ x ∈ wordsL s, x.size ≤ 200 := by
  rw [wordsL_ok h]
  intro x hx
  have h1 := (parts_size 32 s).2 x hx
  have h2 : ¬ 200 < s.size := fun hc => by rw [wordsE_size hc] at h; exact absurd h (by decide)
  omega
def GPsr (s : ByteArray) (e : Ending) (w' : World) : Prop :=
  (∃ L, Psr s L ∧ ∃ la lc, e = .returned (.tuple #[.agg #[.int .i64 (grd L).zones, .int .i64 (grd L).hours, .slice la (grd L).lines.length lc, .int .i64 (grd L).low, .int .i64 (grd L).high], .int .i64 0]) ∧ Lns w' (.slice la (grd L).lines.length lc) (grd L).lines) ∨ ((∀ L, ¬ Psr s L) ∧ e = .returned (.tuple #[.agg #[.int .i64 0, .int .i64 0, .slice none 0 0, .int .i64 0, .int .i64 0], .int .i64 51]))
set_option maxHeartbeats 3200000 in
theorem gparse_any (s : ByteArray) (w : World) (hs : s.size ≤ 1000000000) (hmx : Mx w) :
    Calls Tryd.prog 5 #[.string s] w fun e w' => GPsr s e w' ∧ Below w.heap.size w w' := by
  have HM := hid (hmx.below (ibel w (Obj.cells #[.int .i64 0, .int .i64 0, .slice none 0 0, .int .i64 0, .int .i64 0] 24)))
  have HB0 := hid (ibel w (Obj.cells #[.int .i64 0, .int .i64 0, .slice none 0 0, .int .i64 0, .int .i64 0] 24))
  have HR0 := hid (inew w (Obj.cells #[.int .i64 0, .int .i64 0, .slice none 0 0, .int .i64 0, .int .i64 0] 24))
  have HS5 := hid (show (w.alloc (Obj.cells #[.int .i64 0, .int .i64 0, .slice none 0 0, .int .i64 0, .int .i64 0] 24)).heap.size = w.heap.size + 1 from World.size_alloc _ _)
  have hWD := fun W (h : Mx W) => words_any s W hs h
  go_enter Tryd.func5, Tryd.ntmps5
  go_wp2_with fail
  generalize w.alloc (Obj.cells #[.int .i64 0, .int .i64 0, .slice none 0 0, .int .i64 0, .int .i64 0] 24) = W5 at *
  refine (hWD W5 HM.out).mono ?_
  clear hWD
  rintro e w3 ⟨⟨v, rfl, hv⟩, b3⟩
  have HBX := hid b3
  clear b3
  by_cases he : wordsE s = 0
  · obtain ⟨x, V, hw⟩ := words_cons he
    have HV := hid hv
    rw [hw] at HV
    have HE := hid he
    have HWL := hid hw
    have HFW := hid (words_few he)
    have HP2 := hid (words_small he)
    rw [hw] at HFW HP2
    rw [he]
    clear he hw hv
    obtain ⟨wb, wo, wc, rfl, g0, g1, c0, c9⟩ := HV.out.at 0 (by simp)
    rw [Nat.add_zero] at c0
    unfold maxLen at g1
    have hx0 : (x :: V)[0] = x := rfl
    rw [hx0] at c0 c9
    have hl1 : (x :: V).length = V.length + 1 := rfl
    rw [hl1] at g0 HV ⊢
    clear hx0 hl1 c9
    by_cases hx : x = gridB
    · subst hx
      have hxt : (gridB.toList == [103, 114, 105, 100]) = true := by rw [beq_iff_eq, ByteArray.toList_eq]; rfl
      have HV2 : Hid (wc ≠ 1 → Strs w3 (.slice (some ⟨wb, wo + 1, none⟩) V.length (wc - 1)) V) := hid (fun _ => ⟨Row1.drop HV.out.1 1 (by omega), fun y hy => HV.out.2 y (List.mem_cons_of_mem _ hy)⟩)
      have hl16 : V.length ≤ 15 := by have := HFW.out; simp only [List.length_cons] at this; omega
      obtain ⟨i0, hi, hz0, hz1, hz2⟩ := info_parts info_int
      have HXT := hid hxt
      go_wp2_with fail
      · clear hxt
        have hv0 : V.length = 0 := by omega
        obtain rfl : V = [] := List.eq_nil_of_length_eq_zero hv0
        clear hv0
        clear HV HV2
        go_loopw [6, 29] (fun lv iv wr => ∃ k : Nat, k ≤ ([] : List ByteArray).length ∧ iv = .int .i64 (k : Int) ∧ Hid (∀ x ∈ ([] : List ByteArray).take k, numE x = 0) ∧ Hid (wr.ownsRow w3.heap.size 3 1 lv k (intV ((([] : List ByteArray).take k).map numR))) ∧ Hid (Below w3.heap.size w3 wr)) (fun _ iv _ => ([] : List ByteArray).length - (intOf iv).toNat)
        case atStart => exact ⟨0, Nat.zero_le _, rfl, (by show ∀ x ∈ List.take 0 ([] : List ByteArray), numE x = 0; simp), World.ownsRow_nil _ _ _ _, Below.refl _ _⟩
        case round =>
          obtain ⟨k, hk, rfl, HN, HO, HB⟩ := hrel
          obtain ⟨ra, rc, rfl⟩ := own_slice HO.out
          by_cases hlt : k < ([] : List ByteArray).length
          · exact absurd hlt (Nat.not_lt_zero _)
          · obtain rfl : k = ([] : List ByteArray).length := by omega
            rw [List.take_of_length_le (Nat.le_refl _)] at HN HO
            have HBY := hid (HBX.out.trans (HB.out.mono HBX.out.size))
            have HCA := hid (Cand.of HE.out HWL.out HN.out)
            have HI := hid (show Ints wr (.slice ra ([] : List ByteArray).length rc) (([] : List ByteArray).map numR) from Row1.of_own (e := 3) (base := w3.heap.size) (by rw [intV_len, List.length_map]; exact HO.out))
            have HLN := hid (show (([] : List ByteArray).map numR).length = ([] : List ByteArray).length from List.length_map _)
            obtain ⟨L, HL⟩ : ∃ L, Hid (([] : List ByteArray).map numR = L) := ⟨_, hid rfl⟩
            rw [HL.out] at HCA HI HLN
            clear HO HB
            by_cases h4 : ([] : List ByteArray).length < 4
            · have HNO : Hid (∀ M, ¬ Psr s M) := hid (fun M p => by
                have e := HCA.out.only p
                have h := p.2.2.2.1
                rw [e, HLN.out] at h
                omega)
              have xr := (HBY.out.block w.heap.size (by rw [HS5.out]; exact Nat.lt_succ_self _)).trans HR0.out
              have r0 := ibx xr 0 (.int .i64 0) rfl
              have f0 := free_at (L := [.int .i64 0, .int .i64 0, .slice none 0 0, .int .i64 0, .int .i64 0]) xr 0
              have r1 := ibx xr 1 (.int .i64 0) rfl
              have f1 := free_at (L := [.int .i64 0, .int .i64 0, .slice none 0 0, .int .i64 0, .int .i64 0]) xr 1
              have r2 := ibx xr 2 (.slice none 0 0) rfl
              have f2 := free_at (L := [.int .i64 0, .int .i64 0, .slice none 0 0, .int .i64 0, .int .i64 0]) xr 2
              have r3 := ibx xr 3 (.int .i64 0) rfl
              have f3 := free_at (L := [.int .i64 0, .int .i64 0, .slice none 0 0, .int .i64 0, .int .i64 0]) xr 3
              have r4 := ibx xr 4 (.int .i64 0) rfl
              have f4 := free_at (L := [.int .i64 0, .int .i64 0, .slice none 0 0, .int .i64 0, .int .i64 0]) xr 4
              have HX := hid (put5_box xr (.int .i64 0) (.int .i64 0) (.slice none 0 0) (.int .i64 0) (.int .i64 0))
              have HW := hid (put5_below (HB0.out.trans (HBY.out.mono HB0.out.size)) w.heap.size (Nat.le_refl _) (.int .i64 0) (.int .i64 0) (.slice none 0 0) (.int .i64 0) (.int .i64 0))
              have y0 := ibx HX.out 0 _ rfl
              have y1 := ibx HX.out 1 _ rfl
              have y2 := ibx HX.out 2 _ rfl
              have y3 := ibx HX.out 3 _ rfl
              have y4 := ibx HX.out 4 _ rfl
              have HO := hid (And.intro y0 (And.intro y1 (And.intro y2 (And.intro y3 y4))))
              clear y0 y1 y2 y3 y4 xr HX
              go_wp2_with fail
              exact bodyPost_ret (v := .tuple #[.agg #[.int .i64 0, .int .i64 0, .slice none 0 0, .int .i64 0, .int .i64 0], .int .i64 51]) (by simp [results, Tryd.results5, go_sem, HO.out.1, HO.out.2.1, HO.out.2.2.1, HO.out.2.2.2.1, HO.out.2.2.2.2]) rfl ⟨Or.inr ⟨HNO.out, rfl⟩, HW.out⟩

            · exact absurd (show ([] : List ByteArray).length < 4 by decide) h4

      · clear hxt
        have HV3 := hid (HV2.out (by omega))
        clear HV HV2
        go_loopw [6, 29] (fun lv iv wr => ∃ k : Nat, k ≤ V.length ∧ iv = .int .i64 (k : Int) ∧ Hid (∀ x ∈ V.take k, numE x = 0) ∧ Hid (wr.ownsRow w3.heap.size 3 1 lv k (intV ((V.take k).map numR))) ∧ Hid (Below w3.heap.size w3 wr)) (fun _ iv _ => V.length - (intOf iv).toNat)
        case atStart => exact ⟨0, Nat.zero_le _, rfl, (by show ∀ x ∈ List.take 0 V, numE x = 0; simp), World.ownsRow_nil _ _ _ _, Below.refl _ _⟩
        case round =>
          obtain ⟨k, hk, rfl, HN, HO, HB⟩ := hrel
          obtain ⟨ra, rc, rfl⟩ := own_slice HO.out
          by_cases hlt : k < V.length
          · obtain ⟨sb, so, sc', e, q0, q1, q2, q3⟩ := (HV3.out.below HB.out).at k hlt
            simp only [Value.slice.injEq, Option.some.injEq, Addr.mk.injEq] at e
            obtain ⟨⟨rfl, rfl, -⟩, -, rfl⟩ := e
            have HT := hid (List.take_succ_eq_append_getElem hlt)
            have HMM := hid (List.getElem_mem hlt)
            obtain ⟨y, HY⟩ : ∃ y, Hid (V[k] = y) := ⟨_, hid rfl⟩
            rw [HY.out] at q2 q3 HT HMM
            unfold maxLen at q3
            clear q3
            go_wp2_with fail
            refine (number_any y wr (by have := HP2.out y (List.mem_cons_of_mem _ HMM.out); omega)).mono ?_
            rintro e w4 ⟨rfl, b4⟩
            have HB4 := hid (chain2 HB.out b4)
            have HO4 := hid (own_below HO.out b4)
            clear b4 HO HB q2
            rcases numE_two y with he | he
            · rw [he]
              have HHE := hid he
              obtain ⟨z, HZ⟩ : ∃ z, Hid (numR y = z) := ⟨_, hid rfl⟩
              rw [HZ.out]
              have HX := hid (HO4.out.alloc (Obj.cells #[.int .i64 z] 3))
              have HYB := hid (below_alloc' HB4.out (Nat.le_refl _) (Obj.cells #[.int .i64 z] 3))
              have HZN := hid (one_new w4 (.int .i64 z) 3)
              have HSZ := hid HYB.out.size
              have HLT := hid (fun g hg => (HO4.out.lt g hg).1)
              clear he
              go_wp2_with (at_builtin; refine wpList_append_own _ rfl _ _ 36 rfl _ 3 i0 (.int .i64 0) 1 8 Tryd.underlying36 hi hz0 hz1 hz2 rfl (by decide) _ _ _ rfl HX.out ⟨w4.heap.size, 0, none⟩ 1 1 [.int .i64 z] rfl rfl HZN.out (by intro u hu; simp at hu; subst hu; rfl) (by unfold maxLen; omega) (by omega) HSZ.out ?_)
              intro v' w5 o5 hgrow _
              have HB5 := hid (HYB.out.grown hgrow HSZ.out HLT.out)
              have HO5 : Hid (w5.ownsRow w3.heap.size 3 1 v' (k + 1) (intV ((V.take (k + 1)).map numR))) := hid (by
                rw [HT.out, List.map_append, intV_app, List.map_singleton, HZ.out, List.map_take]
                exact o5)
              have HN5 : Hid (∀ x ∈ V.take (k + 1), numE x = 0) := hid (by
                rw [HT.out]
                intro q hq
                rcases List.mem_append.1 hq with hq | hq
                · exact HN.out q hq
                · simp at hq; subst hq; exact HHE.out)
              clear o5 hgrow HX HYB HZN HSZ HLT HB4 HO4
              go_wp2
              go_roundw
              case rel => exact ⟨k + 1, by omega, by go_num, HN5, HO5, HB5⟩
              case measure => simp [intOf]; omega
            · rw [he]
              have HNO : Hid (∀ M, ¬ Psr s M) := hid (fun M p => by
                have := (psr_head HWL.out p).2 y HMM.out
                rw [he] at this
                exact absurd this (by decide))
              have HBY := hid (HBX.out.trans (HB4.out.mono HBX.out.size))
              clear he
              have xr := (HBY.out.block w.heap.size (by rw [HS5.out]; exact Nat.lt_succ_self _)).trans HR0.out
              have r0 := ibx xr 0 (.int .i64 0) rfl
              have f0 := free_at (L := [.int .i64 0, .int .i64 0, .slice none 0 0, .int .i64 0, .int .i64 0]) xr 0
              have r1 := ibx xr 1 (.int .i64 0) rfl
              have f1 := free_at (L := [.int .i64 0, .int .i64 0, .slice none 0 0, .int .i64 0, .int .i64 0]) xr 1
              have r2 := ibx xr 2 (.slice none 0 0) rfl
              have f2 := free_at (L := [.int .i64 0, .int .i64 0, .slice none 0 0, .int .i64 0, .int .i64 0]) xr 2
              have r3 := ibx xr 3 (.int .i64 0) rfl
              have f3 := free_at (L := [.int .i64 0, .int .i64 0, .slice none 0 0, .int .i64 0, .int .i64 0]) xr 3
              have r4 := ibx xr 4 (.int .i64 0) rfl
              have f4 := free_at (L := [.int .i64 0, .int .i64 0, .slice none 0 0, .int .i64 0, .int .i64 0]) xr 4
              have HX := hid (put5_box xr (.int .i64 0) (.int .i64 0) (.slice none 0 0) (.int .i64 0) (.int .i64 0))
              have HW := hid (put5_below (HB0.out.trans (HBY.out.mono HB0.out.size)) w.heap.size (Nat.le_refl _) (.int .i64 0) (.int .i64 0) (.slice none 0 0) (.int .i64 0) (.int .i64 0))
              have y0 := ibx HX.out 0 _ rfl
              have y1 := ibx HX.out 1 _ rfl
              have y2 := ibx HX.out 2 _ rfl
              have y3 := ibx HX.out 3 _ rfl
              have y4 := ibx HX.out 4 _ rfl
              have HO := hid (And.intro y0 (And.intro y1 (And.intro y2 (And.intro y3 y4))))
              clear y0 y1 y2 y3 y4 xr HX
              go_wp2_with fail
              exact bodyPost_ret (v := .tuple #[.agg #[.int .i64 0, .int .i64 0, .slice none 0 0, .int .i64 0, .int .i64 0], .int .i64 51]) (by simp [results, Tryd.results5, go_sem, HO.out.1, HO.out.2.1, HO.out.2.2.1, HO.out.2.2.2.1, HO.out.2.2.2.2]) rfl ⟨Or.inr ⟨HNO.out, rfl⟩, HW.out⟩

          · obtain rfl : k = V.length := by omega
            rw [List.take_of_length_le (Nat.le_refl _)] at HN HO
            have HBY := hid (HBX.out.trans (HB.out.mono HBX.out.size))
            have HCA := hid (Cand.of HE.out HWL.out HN.out)
            have HI := hid (show Ints wr (.slice ra V.length rc) (V.map numR) from Row1.of_own (e := 3) (base := w3.heap.size) (by rw [intV_len, List.length_map]; exact HO.out))
            have HLN := hid (show (V.map numR).length = V.length from List.length_map _)
            obtain ⟨L, HL⟩ : ∃ L, Hid (V.map numR = L) := ⟨_, hid rfl⟩
            rw [HL.out] at HCA HI HLN
            clear HO HB
            by_cases h4 : V.length < 4
            · have HNO : Hid (∀ M, ¬ Psr s M) := hid (fun M p => by
                have e := HCA.out.only p
                have h := p.2.2.2.1
                rw [e, HLN.out] at h
                omega)
              have xr := (HBY.out.block w.heap.size (by rw [HS5.out]; exact Nat.lt_succ_self _)).trans HR0.out
              have r0 := ibx xr 0 (.int .i64 0) rfl
              have f0 := free_at (L := [.int .i64 0, .int .i64 0, .slice none 0 0, .int .i64 0, .int .i64 0]) xr 0
              have r1 := ibx xr 1 (.int .i64 0) rfl
              have f1 := free_at (L := [.int .i64 0, .int .i64 0, .slice none 0 0, .int .i64 0, .int .i64 0]) xr 1
              have r2 := ibx xr 2 (.slice none 0 0) rfl
              have f2 := free_at (L := [.int .i64 0, .int .i64 0, .slice none 0 0, .int .i64 0, .int .i64 0]) xr 2
              have r3 := ibx xr 3 (.int .i64 0) rfl
              have f3 := free_at (L := [.int .i64 0, .int .i64 0, .slice none 0 0, .int .i64 0, .int .i64 0]) xr 3
              have r4 := ibx xr 4 (.int .i64 0) rfl
              have f4 := free_at (L := [.int .i64 0, .int .i64 0, .slice none 0 0, .int .i64 0, .int .i64 0]) xr 4
              have HX := hid (put5_box xr (.int .i64 0) (.int .i64 0) (.slice none 0 0) (.int .i64 0) (.int .i64 0))
              have HW := hid (put5_below (HB0.out.trans (HBY.out.mono HB0.out.size)) w.heap.size (Nat.le_refl _) (.int .i64 0) (.int .i64 0) (.slice none 0 0) (.int .i64 0) (.int .i64 0))
              have y0 := ibx HX.out 0 _ rfl
              have y1 := ibx HX.out 1 _ rfl
              have y2 := ibx HX.out 2 _ rfl
              have y3 := ibx HX.out 3 _ rfl
              have y4 := ibx HX.out 4 _ rfl
              have HO := hid (And.intro y0 (And.intro y1 (And.intro y2 (And.intro y3 y4))))
              clear y0 y1 y2 y3 y4 xr HX
              go_wp2_with fail
              exact bodyPost_ret (v := .tuple #[.agg #[.int .i64 0, .int .i64 0, .slice none 0 0, .int .i64 0, .int .i64 0], .int .i64 51]) (by simp [results, Tryd.results5, go_sem, HO.out.1, HO.out.2.1, HO.out.2.2.1, HO.out.2.2.2.1, HO.out.2.2.2.2]) rfl ⟨Or.inr ⟨HNO.out, rfl⟩, HW.out⟩

            · have h4L : 4 ≤ L.length := by rw [HLN.out]; omega
              have HL4 := hid h4L
              clear h4L
              rcases Bool.eq_false_or_eq_true (((V.length : Int) - 4) % 3 != 0) with hr | hr
              · have HNO : Hid (∀ M, ¬ Psr s M) := hid (fun M p => by
                  have e := HCA.out.only p
                  have h := p.2.2.2.2.1
                  rw [e, HLN.out] at h
                  rw [bne_iff_ne] at hr
                  omega)
                have xr := (HBY.out.block w.heap.size (by rw [HS5.out]; exact Nat.lt_succ_self _)).trans HR0.out
                have r0 := ibx xr 0 (.int .i64 0) rfl
                have f0 := free_at (L := [.int .i64 0, .int .i64 0, .slice none 0 0, .int .i64 0, .int .i64 0]) xr 0
                have r1 := ibx xr 1 (.int .i64 0) rfl
                have f1 := free_at (L := [.int .i64 0, .int .i64 0, .slice none 0 0, .int .i64 0, .int .i64 0]) xr 1
                have r2 := ibx xr 2 (.slice none 0 0) rfl
                have f2 := free_at (L := [.int .i64 0, .int .i64 0, .slice none 0 0, .int .i64 0, .int .i64 0]) xr 2
                have r3 := ibx xr 3 (.int .i64 0) rfl
                have f3 := free_at (L := [.int .i64 0, .int .i64 0, .slice none 0 0, .int .i64 0, .int .i64 0]) xr 3
                have r4 := ibx xr 4 (.int .i64 0) rfl
                have f4 := free_at (L := [.int .i64 0, .int .i64 0, .slice none 0 0, .int .i64 0, .int .i64 0]) xr 4
                have HX := hid (put5_box xr (.int .i64 0) (.int .i64 0) (.slice none 0 0) (.int .i64 0) (.int .i64 0))
                have HW := hid (put5_below (HB0.out.trans (HBY.out.mono HB0.out.size)) w.heap.size (Nat.le_refl _) (.int .i64 0) (.int .i64 0) (.slice none 0 0) (.int .i64 0) (.int .i64 0))
                have y0 := ibx HX.out 0 _ rfl
                have y1 := ibx HX.out 1 _ rfl
                have y2 := ibx HX.out 2 _ rfl
                have y3 := ibx HX.out 3 _ rfl
                have y4 := ibx HX.out 4 _ rfl
                have HO := hid (And.intro y0 (And.intro y1 (And.intro y2 (And.intro y3 y4))))
                clear y0 y1 y2 y3 y4 xr HX
                go_wp2_with fail
                exact bodyPost_ret (v := .tuple #[.agg #[.int .i64 0, .int .i64 0, .slice none 0 0, .int .i64 0, .int .i64 0], .int .i64 51]) (by simp [results, Tryd.results5, go_sem, HO.out.1, HO.out.2.1, HO.out.2.2.1, HO.out.2.2.2.1, HO.out.2.2.2.2]) rfl ⟨Or.inr ⟨HNO.out, rfl⟩, HW.out⟩

              · have HR3 := hid (show (L.length - 4) % 3 = 0 by
                  rw [HLN.out]
                  rw [bne_eq_false_iff_eq] at hr
                  omega)
                have HNM := hid (nms_grd HL4.out HR3.out)
                have hS : (grd L).lines.length ≤ 64 := by
                  have := HNM.out
                  have h := nms_len (grd L)
                  rw [this, HLN.out] at h
                  omega
                have hI := HI.out
                rw [← HNM.out] at hI
                have HLD := hid (laid_any wr (grd L).zones (grd L).hours (grd L).low (grd L).high (grd L).lines _ hI hS)
                clear hI hS
                go_wp2_with fail
                refine HLD.out.mono ?_
                clear HLD
                rintro e w6 ⟨la, lc, rfl, hl6, hf6, b6⟩
                have HL6 := hid hl6
                have HF6 := hid hf6
                have HB6 := hid (chain2 HBY.out b6)
                have hck := fun (W : World) (b : Below w6.heap.size w6 W) => icheck_any W (grd L) la lc (hl6.below b)
                have HCK := hid hck
                have HWS := hid b6.size
                clear hl6 hf6 b6 hck
                obtain ⟨G, HG⟩ : ∃ G, Hid (G = grd L) := ⟨_, rfl⟩
                rw [← HG.out] at HL6 HCK ⊢
                have b7 := ibel w6 (Obj.cells #[.int .i64 G.zones, .int .i64 G.hours, .slice la G.lines.length lc, .int .i64 G.low, .int .i64 G.high] 24)
                have x7 := inew w6 (Obj.cells #[.int .i64 G.zones, .int .i64 G.hours, .slice la G.lines.length lc, .int .i64 G.low, .int .i64 G.high] 24)
                have HB7 := hid (chain2 HB6.out b7)
                have HL7 := hid (HL6.out.below b7)
                have HC7 := hid (HCK.out _ b7)
                have HX7 := hid x7
                clear HCK b7 x7 HL6 hr
                go_wp2_with fail
                generalize w6.alloc (Obj.cells #[.int .i64 G.zones, .int .i64 G.hours, .slice la G.lines.length lc, .int .i64 G.low, .int .i64 G.high] 24) = w7 at *
                refine HC7.out.mono ?_
                clear HC7
                rintro e w8 ⟨rfl, b8⟩
                have HB8 := hid (chain2 HB7.out b8)
                have HL8 := hid (HL7.out.below b8)
                have x8 := (b8.block _ (lt_of_block HX7.out)).trans HX7.out
                have g0' := ibx x8 0 (.int .i64 G.zones) rfl
                have g1' := ibx x8 1 (.int .i64 G.hours) rfl
                have g2' := ibx x8 2 (.slice la G.lines.length lc) rfl
                have g3' := ibx x8 3 (.int .i64 G.low) rfl
                have g4' := ibx x8 4 (.int .i64 G.high) rfl
                clear b8 x8 HX7 HL7
                cases hg : gok G with
                | true =>
                  rw [show errG G = 0 by unfold errG; rw [hg]; rfl]
                  have HPS := hid (HCA.out.psr HL4.out HR3.out (by rw [← HG.out]; exact hg))
                  clear hg
                  have xr := (HB8.out.block w.heap.size (by rw [HS5.out]; exact Nat.lt_succ_self _)).trans HR0.out
                  have r0 := ibx xr 0 (.int .i64 0) rfl
                  have f0 := free_at (L := [.int .i64 0, .int .i64 0, .slice none 0 0, .int .i64 0, .int .i64 0]) xr 0
                  have r1 := ibx xr 1 (.int .i64 0) rfl
                  have f1 := free_at (L := [.int .i64 0, .int .i64 0, .slice none 0 0, .int .i64 0, .int .i64 0]) xr 1
                  have r2 := ibx xr 2 (.slice none 0 0) rfl
                  have f2 := free_at (L := [.int .i64 0, .int .i64 0, .slice none 0 0, .int .i64 0, .int .i64 0]) xr 2
                  have r3 := ibx xr 3 (.int .i64 0) rfl
                  have f3 := free_at (L := [.int .i64 0, .int .i64 0, .slice none 0 0, .int .i64 0, .int .i64 0]) xr 3
                  have r4 := ibx xr 4 (.int .i64 0) rfl
                  have f4 := free_at (L := [.int .i64 0, .int .i64 0, .slice none 0 0, .int .i64 0, .int .i64 0]) xr 4
                  have HX := hid (put5_box xr (.int .i64 G.zones) (.int .i64 G.hours) (.slice la G.lines.length lc) (.int .i64 G.low) (.int .i64 G.high))
                  have HW := hid (put5_below (HB0.out.trans (HB8.out.mono HB0.out.size)) w.heap.size (Nat.le_refl _) (.int .i64 G.zones) (.int .i64 G.hours) (.slice la G.lines.length lc) (.int .i64 G.low) (.int .i64 G.high))
                  have HLZ := hid (lns_put5 HL8.out w.heap.size (fun g off f e => Nat.lt_of_le_of_lt (Nat.le_trans HB0.out.size HBY.out.size) (HF6.out g off f e)) (.int .i64 G.zones) (.int .i64 G.hours) (.slice la G.lines.length lc) (.int .i64 G.low) (.int .i64 G.high))
                  have y0 := ibx HX.out 0 _ rfl
                  have y1 := ibx HX.out 1 _ rfl
                  have y2 := ibx HX.out 2 _ rfl
                  have y3 := ibx HX.out 3 _ rfl
                  have y4 := ibx HX.out 4 _ rfl
                  have HO := hid (And.intro y0 (And.intro y1 (And.intro y2 (And.intro y3 y4))))
                  clear y0 y1 y2 y3 y4 xr HX
                  go_wp2_with fail
                  exact bodyPost_ret (v := .tuple #[.agg #[.int .i64 G.zones, .int .i64 G.hours, .slice la G.lines.length lc, .int .i64 G.low, .int .i64 G.high], .int .i64 0]) (by simp [results, Tryd.results5, go_sem, HO.out.1, HO.out.2.1, HO.out.2.2.1, HO.out.2.2.2.1, HO.out.2.2.2.2]) rfl ⟨Or.inl ⟨L, HPS.out, by rw [← HG.out]; exact ⟨la, lc, rfl, HLZ.out⟩⟩, HW.out⟩

                | false =>
                  rw [show errG G = 140 by unfold errG; rw [hg]; rfl]
                  have HNO : Hid (∀ M, ¬ Psr s M) := hid (fun M p => by
                    have e := HCA.out.only p
                    have h := p.2.2.2.2.2
                    rw [e, ← HG.out, hg] at h
                    cases h)
                  clear hg
                  have xr := (HB8.out.block w.heap.size (by rw [HS5.out]; exact Nat.lt_succ_self _)).trans HR0.out
                  have r0 := ibx xr 0 (.int .i64 0) rfl
                  have f0 := free_at (L := [.int .i64 0, .int .i64 0, .slice none 0 0, .int .i64 0, .int .i64 0]) xr 0
                  have r1 := ibx xr 1 (.int .i64 0) rfl
                  have f1 := free_at (L := [.int .i64 0, .int .i64 0, .slice none 0 0, .int .i64 0, .int .i64 0]) xr 1
                  have r2 := ibx xr 2 (.slice none 0 0) rfl
                  have f2 := free_at (L := [.int .i64 0, .int .i64 0, .slice none 0 0, .int .i64 0, .int .i64 0]) xr 2
                  have r3 := ibx xr 3 (.int .i64 0) rfl
                  have f3 := free_at (L := [.int .i64 0, .int .i64 0, .slice none 0 0, .int .i64 0, .int .i64 0]) xr 3
                  have r4 := ibx xr 4 (.int .i64 0) rfl
                  have f4 := free_at (L := [.int .i64 0, .int .i64 0, .slice none 0 0, .int .i64 0, .int .i64 0]) xr 4
                  have HX := hid (put5_box xr (.int .i64 0) (.int .i64 0) (.slice none 0 0) (.int .i64 0) (.int .i64 0))
                  have HW := hid (put5_below (HB0.out.trans (HB8.out.mono HB0.out.size)) w.heap.size (Nat.le_refl _) (.int .i64 0) (.int .i64 0) (.slice none 0 0) (.int .i64 0) (.int .i64 0))
                  have y0 := ibx HX.out 0 _ rfl
                  have y1 := ibx HX.out 1 _ rfl
                  have y2 := ibx HX.out 2 _ rfl
                  have y3 := ibx HX.out 3 _ rfl
                  have y4 := ibx HX.out 4 _ rfl
                  have HO := hid (And.intro y0 (And.intro y1 (And.intro y2 (And.intro y3 y4))))
                  clear y0 y1 y2 y3 y4 xr HX
                  go_wp2_with fail
                  exact bodyPost_ret (v := .tuple #[.agg #[.int .i64 0, .int .i64 0, .slice none 0 0, .int .i64 0, .int .i64 0], .int .i64 51]) (by simp [results, Tryd.results5, go_sem, HO.out.1, HO.out.2.1, HO.out.2.2.1, HO.out.2.2.2.1, HO.out.2.2.2.2]) rfl ⟨Or.inr ⟨HNO.out, rfl⟩, HW.out⟩


    · have HNO := hid (fun L (p : Psr s L) => hx (psr_head HWL.out p).1)
      have hxt : (x.toList == [103, 114, 105, 100]) = false := by
        rw [beq_eq_false_iff_ne]
        intro e
        apply hx
        apply bl_inj
        have e2 : bl x = x.toList := by rw [ByteArray.toList_eq]; rfl
        rw [e2, e]
        rfl
      clear hx
      have xr := (HBX.out.block w.heap.size (by rw [HS5.out]; exact Nat.lt_succ_self _)).trans HR0.out
      have r0 := ibx xr 0 (.int .i64 0) rfl
      have f0 := free_at (L := [.int .i64 0, .int .i64 0, .slice none 0 0, .int .i64 0, .int .i64 0]) xr 0
      have r1 := ibx xr 1 (.int .i64 0) rfl
      have f1 := free_at (L := [.int .i64 0, .int .i64 0, .slice none 0 0, .int .i64 0, .int .i64 0]) xr 1
      have r2 := ibx xr 2 (.slice none 0 0) rfl
      have f2 := free_at (L := [.int .i64 0, .int .i64 0, .slice none 0 0, .int .i64 0, .int .i64 0]) xr 2
      have r3 := ibx xr 3 (.int .i64 0) rfl
      have f3 := free_at (L := [.int .i64 0, .int .i64 0, .slice none 0 0, .int .i64 0, .int .i64 0]) xr 3
      have r4 := ibx xr 4 (.int .i64 0) rfl
      have f4 := free_at (L := [.int .i64 0, .int .i64 0, .slice none 0 0, .int .i64 0, .int .i64 0]) xr 4
      have HX := hid (put5_box xr (.int .i64 0) (.int .i64 0) (.slice none 0 0) (.int .i64 0) (.int .i64 0))
      have HW := hid (put5_below (HB0.out.trans (HBX.out.mono HB0.out.size)) w.heap.size (Nat.le_refl _) (.int .i64 0) (.int .i64 0) (.slice none 0 0) (.int .i64 0) (.int .i64 0))
      have y0 := ibx HX.out 0 _ rfl
      have y1 := ibx HX.out 1 _ rfl
      have y2 := ibx HX.out 2 _ rfl
      have y3 := ibx HX.out 3 _ rfl
      have y4 := ibx HX.out 4 _ rfl
      have HO := hid (And.intro y0 (And.intro y1 (And.intro y2 (And.intro y3 y4))))
      clear y0 y1 y2 y3 y4 xr HX
      go_wp2_with fail
      exact bodyPost_ret (v := .tuple #[.agg #[.int .i64 0, .int .i64 0, .slice none 0 0, .int .i64 0, .int .i64 0], .int .i64 51]) (by simp [results, Tryd.results5, go_sem, HO.out.1, HO.out.2.1, HO.out.2.2.1, HO.out.2.2.2.1, HO.out.2.2.2.2]) rfl ⟨Or.inr ⟨HNO.out, rfl⟩, HW.out⟩

  · have HNO := hid (fun L (p : Psr s L) => he p.1)
    clear hv
    rcases wordsE_five s with h | h | h | h | h
    · exact absurd h he
    · rw [h]
      clear h he
      have xr := (HBX.out.block w.heap.size (by rw [HS5.out]; exact Nat.lt_succ_self _)).trans HR0.out
      have r0 := ibx xr 0 (.int .i64 0) rfl
      have f0 := free_at (L := [.int .i64 0, .int .i64 0, .slice none 0 0, .int .i64 0, .int .i64 0]) xr 0
      have r1 := ibx xr 1 (.int .i64 0) rfl
      have f1 := free_at (L := [.int .i64 0, .int .i64 0, .slice none 0 0, .int .i64 0, .int .i64 0]) xr 1
      have r2 := ibx xr 2 (.slice none 0 0) rfl
      have f2 := free_at (L := [.int .i64 0, .int .i64 0, .slice none 0 0, .int .i64 0, .int .i64 0]) xr 2
      have r3 := ibx xr 3 (.int .i64 0) rfl
      have f3 := free_at (L := [.int .i64 0, .int .i64 0, .slice none 0 0, .int .i64 0, .int .i64 0]) xr 3
      have r4 := ibx xr 4 (.int .i64 0) rfl
      have f4 := free_at (L := [.int .i64 0, .int .i64 0, .slice none 0 0, .int .i64 0, .int .i64 0]) xr 4
      have HX := hid (put5_box xr (.int .i64 0) (.int .i64 0) (.slice none 0 0) (.int .i64 0) (.int .i64 0))
      have HW := hid (put5_below (HB0.out.trans (HBX.out.mono HB0.out.size)) w.heap.size (Nat.le_refl _) (.int .i64 0) (.int .i64 0) (.slice none 0 0) (.int .i64 0) (.int .i64 0))
      have y0 := ibx HX.out 0 _ rfl
      have y1 := ibx HX.out 1 _ rfl
      have y2 := ibx HX.out 2 _ rfl
      have y3 := ibx HX.out 3 _ rfl
      have y4 := ibx HX.out 4 _ rfl
      have HO := hid (And.intro y0 (And.intro y1 (And.intro y2 (And.intro y3 y4))))
      clear y0 y1 y2 y3 y4 xr HX
      go_wp2_with fail
      exact bodyPost_ret (v := .tuple #[.agg #[.int .i64 0, .int .i64 0, .slice none 0 0, .int .i64 0, .int .i64 0], .int .i64 51]) (by simp [results, Tryd.results5, go_sem, HO.out.1, HO.out.2.1, HO.out.2.2.1, HO.out.2.2.2.1, HO.out.2.2.2.2]) rfl ⟨Or.inr ⟨HNO.out, rfl⟩, HW.out⟩

    · rw [h]
      clear h he
      have xr := (HBX.out.block w.heap.size (by rw [HS5.out]; exact Nat.lt_succ_self _)).trans HR0.out
      have r0 := ibx xr 0 (.int .i64 0) rfl
      have f0 := free_at (L := [.int .i64 0, .int .i64 0, .slice none 0 0, .int .i64 0, .int .i64 0]) xr 0
      have r1 := ibx xr 1 (.int .i64 0) rfl
      have f1 := free_at (L := [.int .i64 0, .int .i64 0, .slice none 0 0, .int .i64 0, .int .i64 0]) xr 1
      have r2 := ibx xr 2 (.slice none 0 0) rfl
      have f2 := free_at (L := [.int .i64 0, .int .i64 0, .slice none 0 0, .int .i64 0, .int .i64 0]) xr 2
      have r3 := ibx xr 3 (.int .i64 0) rfl
      have f3 := free_at (L := [.int .i64 0, .int .i64 0, .slice none 0 0, .int .i64 0, .int .i64 0]) xr 3
      have r4 := ibx xr 4 (.int .i64 0) rfl
      have f4 := free_at (L := [.int .i64 0, .int .i64 0, .slice none 0 0, .int .i64 0, .int .i64 0]) xr 4
      have HX := hid (put5_box xr (.int .i64 0) (.int .i64 0) (.slice none 0 0) (.int .i64 0) (.int .i64 0))
      have HW := hid (put5_below (HB0.out.trans (HBX.out.mono HB0.out.size)) w.heap.size (Nat.le_refl _) (.int .i64 0) (.int .i64 0) (.slice none 0 0) (.int .i64 0) (.int .i64 0))
      have y0 := ibx HX.out 0 _ rfl
      have y1 := ibx HX.out 1 _ rfl
      have y2 := ibx HX.out 2 _ rfl
      have y3 := ibx HX.out 3 _ rfl
      have y4 := ibx HX.out 4 _ rfl
      have HO := hid (And.intro y0 (And.intro y1 (And.intro y2 (And.intro y3 y4))))
      clear y0 y1 y2 y3 y4 xr HX
      go_wp2_with fail
      exact bodyPost_ret (v := .tuple #[.agg #[.int .i64 0, .int .i64 0, .slice none 0 0, .int .i64 0, .int .i64 0], .int .i64 51]) (by simp [results, Tryd.results5, go_sem, HO.out.1, HO.out.2.1, HO.out.2.2.1, HO.out.2.2.2.1, HO.out.2.2.2.2]) rfl ⟨Or.inr ⟨HNO.out, rfl⟩, HW.out⟩

    · rw [h]
      clear h he
      have xr := (HBX.out.block w.heap.size (by rw [HS5.out]; exact Nat.lt_succ_self _)).trans HR0.out
      have r0 := ibx xr 0 (.int .i64 0) rfl
      have f0 := free_at (L := [.int .i64 0, .int .i64 0, .slice none 0 0, .int .i64 0, .int .i64 0]) xr 0
      have r1 := ibx xr 1 (.int .i64 0) rfl
      have f1 := free_at (L := [.int .i64 0, .int .i64 0, .slice none 0 0, .int .i64 0, .int .i64 0]) xr 1
      have r2 := ibx xr 2 (.slice none 0 0) rfl
      have f2 := free_at (L := [.int .i64 0, .int .i64 0, .slice none 0 0, .int .i64 0, .int .i64 0]) xr 2
      have r3 := ibx xr 3 (.int .i64 0) rfl
      have f3 := free_at (L := [.int .i64 0, .int .i64 0, .slice none 0 0, .int .i64 0, .int .i64 0]) xr 3
      have r4 := ibx xr 4 (.int .i64 0) rfl
      have f4 := free_at (L := [.int .i64 0, .int .i64 0, .slice none 0 0, .int .i64 0, .int .i64 0]) xr 4
      have HX := hid (put5_box xr (.int .i64 0) (.int .i64 0) (.slice none 0 0) (.int .i64 0) (.int .i64 0))
      have HW := hid (put5_below (HB0.out.trans (HBX.out.mono HB0.out.size)) w.heap.size (Nat.le_refl _) (.int .i64 0) (.int .i64 0) (.slice none 0 0) (.int .i64 0) (.int .i64 0))
      have y0 := ibx HX.out 0 _ rfl
      have y1 := ibx HX.out 1 _ rfl
      have y2 := ibx HX.out 2 _ rfl
      have y3 := ibx HX.out 3 _ rfl
      have y4 := ibx HX.out 4 _ rfl
      have HO := hid (And.intro y0 (And.intro y1 (And.intro y2 (And.intro y3 y4))))
      clear y0 y1 y2 y3 y4 xr HX
      go_wp2_with fail
      exact bodyPost_ret (v := .tuple #[.agg #[.int .i64 0, .int .i64 0, .slice none 0 0, .int .i64 0, .int .i64 0], .int .i64 51]) (by simp [results, Tryd.results5, go_sem, HO.out.1, HO.out.2.1, HO.out.2.2.1, HO.out.2.2.2.1, HO.out.2.2.2.2]) rfl ⟨Or.inr ⟨HNO.out, rfl⟩, HW.out⟩

    · rw [h]
      clear h he
      have xr := (HBX.out.block w.heap.size (by rw [HS5.out]; exact Nat.lt_succ_self _)).trans HR0.out
      have r0 := ibx xr 0 (.int .i64 0) rfl
      have f0 := free_at (L := [.int .i64 0, .int .i64 0, .slice none 0 0, .int .i64 0, .int .i64 0]) xr 0
      have r1 := ibx xr 1 (.int .i64 0) rfl
      have f1 := free_at (L := [.int .i64 0, .int .i64 0, .slice none 0 0, .int .i64 0, .int .i64 0]) xr 1
      have r2 := ibx xr 2 (.slice none 0 0) rfl
      have f2 := free_at (L := [.int .i64 0, .int .i64 0, .slice none 0 0, .int .i64 0, .int .i64 0]) xr 2
      have r3 := ibx xr 3 (.int .i64 0) rfl
      have f3 := free_at (L := [.int .i64 0, .int .i64 0, .slice none 0 0, .int .i64 0, .int .i64 0]) xr 3
      have r4 := ibx xr 4 (.int .i64 0) rfl
      have f4 := free_at (L := [.int .i64 0, .int .i64 0, .slice none 0 0, .int .i64 0, .int .i64 0]) xr 4
      have HX := hid (put5_box xr (.int .i64 0) (.int .i64 0) (.slice none 0 0) (.int .i64 0) (.int .i64 0))
      have HW := hid (put5_below (HB0.out.trans (HBX.out.mono HB0.out.size)) w.heap.size (Nat.le_refl _) (.int .i64 0) (.int .i64 0) (.slice none 0 0) (.int .i64 0) (.int .i64 0))
      have y0 := ibx HX.out 0 _ rfl
      have y1 := ibx HX.out 1 _ rfl
      have y2 := ibx HX.out 2 _ rfl
      have y3 := ibx HX.out 3 _ rfl
      have y4 := ibx HX.out 4 _ rfl
      have HO := hid (And.intro y0 (And.intro y1 (And.intro y2 (And.intro y3 y4))))
      clear y0 y1 y2 y3 y4 xr HX
      go_wp2_with fail
      exact bodyPost_ret (v := .tuple #[.agg #[.int .i64 0, .int .i64 0, .slice none 0 0, .int .i64 0, .int .i64 0], .int .i64 51]) (by simp [results, Tryd.results5, go_sem, HO.out.1, HO.out.2.1, HO.out.2.2.1, HO.out.2.2.2.1, HO.out.2.2.2.2]) rfl ⟨Or.inr ⟨HNO.out, rfl⟩, HW.out⟩


end Go.Proofs.YteelnimchlgdmaaDoor
