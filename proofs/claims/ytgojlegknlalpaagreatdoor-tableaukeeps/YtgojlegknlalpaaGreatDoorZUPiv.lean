/- tableau: Pivot where it goes. -/
import Derived.Test.YtgojlegknlalpaaGreatDoorPk41
import Derived.Test.YtgojlegknlalpaaGreatDoorPk36
import Derived.Test.YtgojlegknlalpaaGreatDoorPk39
import Derived.Deep.RegionHeld3
namespace Go.Proofs.YtgojlegknlalpaaGreatDoor
open Go.RowKit
set_option linter.unusedVariables false
set_option maxRecDepth 100000
set_option linter.unusedSimpArgs false

theorem pivN_same (A : List URw) (i k : Nat) (pT : List Int) (pb : Int) (hi : i < A.length) : pivN A i k pT pb (i + 1) = pivN A i k pT pb i := by
  apply List.ext_getElem (by rw [pivN_len, pivN_len])
  intro j h1 h2
  have hj : j < A.length := by rw [pivN_len] at h1; exact h1
  rw [pivN_at A i k pT pb _ j h1 hj, pivN_at A i k pT pb _ j h2 hj]
  by_cases e : j = i
  · subst e
    rw [if_pos (by omega), if_neg (by omega)]
    simp [pivR]
  · by_cases q : j < i
    · rw [if_pos (by omega), if_pos q]
    · rw [if_neg (by omega), if_neg q]
theorem getD_of {α : Type} {L : List α} {d : α} {i : Nat} (h : i < L.length) : L.getD i d = L[i] := by simp [List.getD_eq_getElem?_getD, h]
set_option maxHeartbeats 25600000 in
theorem uPivot_yes (w : World) (tb g rc base : Nat) (C : List (List Value)) (A : List URw) (m K K2 : Nat) (hKm : K = m / 9 + 1) (hm : 18 ≤ m) (hK2 : K2 = (2 * m + 1) / 9 + 1) (hK : K2 ≤ 200000) (h1 : w.heap[tb]? = some (Obj.cells #[.slice (some ⟨g, 0, none⟩) A.length rc] 51 (0, 0))) (h2 : UBs w base (.slice (some ⟨g, 0, none⟩) A.length rc) C A K) (hcol : ∀ a ∈ A, a.1.length = ucols A) (hcl : ucols A ≤ 192) (hA : A.length ≤ 64) (i k : Nat) (hi : i < A.length) (hk : k < ucols A) (hne : (A[i]).1.getD k 0 ≠ 0) (hAbs : ∀ a ∈ A, (∀ t ∈ a.1, t.natAbs < 10 ^ m) ∧ a.2.1.natAbs < 10 ^ m) :
    Calls Tryz.prog 14 #[.pointer (some ⟨tb, 0, none⟩), .int .i64 (i : Int), .int .i64 (k : Int)] w fun e w' => e = .returned (.int .i64 0) ∧ (∃ C', UBs w' base (.slice (some ⟨g, 0, none⟩) A.length rc) C' (pivA A i k) K2) ∧ Bg g w w' := by
  have HH := hid (uhas_any w tb A K ⟨_, _, _, _, h1, h2⟩ (i : Int) (k : Int))
  have hu : uhs A (i : Int) (k : Int) = true := by
    unfold uhs
    simp
    omega
  rw [hu] at HH
  have HCOL := hid hcol
  have HABS := hid hAbs
  obtain ⟨gc, hgc⟩ := h2.cells
  have hne1 : tb ≠ g := fun e => by subst e; rw [h1] at hgc; simp at hgc
  have hgl : g < w.heap.size := lt_of_block hgc
  obtain ⟨_, _, e2, s1, s2⟩ := h2.slice
  simp only [Value.slice.injEq] at e2
  obtain ⟨-, -, rfl⟩ := e2
  obtain ⟨g', c', ta, tc, a1, l1, c1, b1, a2, l2, c2, b2, e, _, q0, q1, q2, q3, q4, q5, k3, k4, hli⟩ := h2.at i hi
  simp only [Value.slice.injEq, Option.some.injEq, Addr.mk.injEq, and_true, true_and] at e
  obtain ⟨rfl, -⟩ := e
  have hlen : (A[i]).1.length = ucols A := hcol _ (List.getElem_mem hi)
  have hkl : k < (A[i]).1.length := by rw [hlen]; exact hk
  rw [getD_of hkl] at hne
  have t0 := bxc h1 0 (.slice (some ⟨g, 0, none⟩) A.length rc) rfl
  have HNU := hid (uisZero_any w _ _ _ _ _ _ _ _ _ _ _ (A[i]).1 (A[i]).2.1 K (by omega) hli k hkl (by omega))
  rw [sgn_zero, decide_eq_false hne] at HNU
  have HTI := hid (hAbs _ (List.getElem_mem hi)).1
  obtain ⟨pT, HPT⟩ : ∃ pT, Hid (lowT (A[i]).1 (A[i]).1[k] = pT) := ⟨_, hid rfl⟩
  obtain ⟨pb, HPB⟩ : ∃ pb, Hid (lowB (A[i]).1 (A[i]).1[k] = pb) := ⟨_, hid rfl⟩
  have HDV0 := hid (fun (Y : World) (bY : Below w.heap.size w Y) => udivided_any Y _ _ _ _ _ _ _ _ _ _ _ (A[i]).1 (A[i]).2.1 m K hKm hm (by omega) (hli.below bY) k hkl (by omega) HTI.out hne)
  rw [HPT.out, HPB.out] at HDV0
  have HPL := hid (show pT.length = ucols A by rw [← HPT.out, lowT_len, hlen])
  have HPA := hid (show ∀ t ∈ pT, t.natAbs < 10 ^ m by rw [← HPT.out]; exact lowT_abs _ hne HTI.out)
  have HPBA := hid (show pb.natAbs < 10 ^ m by rw [← HPB.out]; exact lowB_abs _ hne (HTI.out _ (List.getElem_mem hkl)))
  have HFIN := hid (show pivA A i k = (pivN A i k pT pb A.length).set i (pT, pb, (k : Int)) by
    unfold pivA
    rw [getD_of hi, getD_of hkl, HPT.out, HPB.out])
  have HBS := hid h2
  have HTB := hid h1
  obtain ⟨n, HN⟩ : ∃ n, Hid (A.length = n) := ⟨_, hid rfl⟩
  have HLEN := hid (fun j => (pivN_len A i k pT pb j).trans HN.out)
  have hin : i < n := by rw [← HN.out]; exact hi
  rw [HN.out] at s1 t0 HTB HBS HFIN
  simp only [HN.out]
  have hA' : n ≤ 64 := by rw [← HN.out]; exact hA
  have hiI : (0 : Int) ≤ (i : Int) ∧ (i : Int) < (n : Int) := by omega
  clear h1 h2 hu hcol hAbs hgc hne hli hA
  clear HPT HPB hkl hlen
  generalize (A[i]).1.length = ln at *
  go_enter Tryz.func14, Tryz.ntmps14
  go_wp2_with fail
  refine HH.out.mono ?_
  rintro e X1 ⟨rfl, hX1⟩
  rw [hX1]
  clear hX1 HH
  go_wp2_with fail
  refine HNU.out.mono ?_
  rintro e X1 ⟨rfl, bX1⟩
  have t0 := kcU bX1 t0
  have q0 := kcU bX1 q0
  have q1 := kcU bX1 q1
  have q2 := kcU bX1 q2
  have q3 := kcU bX1 q3
  have q4 := kcU bX1 q4
  have HDV := hid (HDV0.out X1 bX1)
  clear HNU HDV0
  go_wp2_with fail
  refine HDV.out.mono ?_
  rintro e Y1 ⟨⟨tv, e1, e2, e3, e4, e5, e6, e7, e8, rfl, n1⟩, bY1⟩
  obtain ⟨pa, pc, hpe⟩ : ∃ pa pc, tv = .slice pa pT.length pc := by
    obtain ⟨ta, tc, _, _, _, _, _, _, _, _, e, _⟩ := n1.form
    exact ⟨ta, tc, e⟩
  subst hpe
  obtain ⟨q, HQ⟩ : ∃ q, Hid (pT.length = q) := ⟨_, hid rfl⟩
  rw [HQ.out] at n1
  simp only [HQ.out]
  have bA := (Below.refl Y1.heap.size Y1).alloc (Nat.le_refl _) (Obj.cells #[.slice pa q pc, .slice e1 e2 e3, .bool e4, .slice e5 e6 e7, .bool e8] 61)
  have HPV := hid (box_new Y1 (Obj.cells #[.slice pa q pc, .slice e1 e2 e3, .bool e4, .slice e5 e6 e7, .bool e8] 61))
  have BW1 := chain2 bX1 (chain2 bY1 bA)
  have HPVL := hid (n1.below bA)
  have t0 := kcU (chain2 bY1 bA) t0
  have hne2 : Y1.heap.size ≠ g := by have := bY1.size; have := bX1.size; omega
  have HB0 := hid ((HBS.out.mono (show K ≤ K2 by omega)).below BW1)
  have HTB1 := hid (box_below BW1 HTB.out (lt_of_block HTB.out))
  have HBW1 := hid BW1
  clear bX1 bY1 bA n1 HDV q0 q1 q2 q3 q4 q5 HBS HTB BW1
  go_wp2_with (first | (refine wpList_store_fresh rfl 61 _ _ rfl _ _ _ rfl (by simp) rfl 5 info_tlist (by rfl) (by rfl) (by simp [Value.oneCell']) ?_) | fail)
  generalize Y1.alloc (Obj.cells #[.slice pa q pc, .slice e1 e2 e3, .bool e4, .slice e5 e6 e7, .bool e8] 61) = W1 at *
  generalize Y1.heap.size = pv at *
  go_loopw [39] (fun iv wr => ∃ (j : Nat) (C' : List (List Value)), j ≤ n ∧ iv = .int .i64 (j : Int) ∧ Hid (UBs wr base (.slice (some ⟨g, 0, none⟩) n rc) C' (pivN A i k pT pb j) K2) ∧ Hid (Bg g W1 wr)) (fun i _ => n - (intOf i).toNat)
  case atStart => exact ⟨0, _, Nat.zero_le _, rfl, HB0, hid (Bg.refl _ _)⟩
  case round =>
  obtain ⟨j, C', hj, rfl, HBR, HBG⟩ := hrel
  have HTBw := hid (HBG.out.box HTB1.out hne1)
  have HPVw := hid (HBG.out.box HPV.out hne2)
  have t0w := bxc HTBw.out 0 (.slice (some ⟨g, 0, none⟩) n rc) rfl
  have HKg := hid (fun (Y : World) (b : Bg g wr Y) => show (Y.cell? ⟨tb, 0, none⟩ = some (.slice (some ⟨g, 0, none⟩) n rc) ∧ Y.cell? ⟨pv, 0, none⟩ = some (.slice pa q pc) ∧ Y.cell? ⟨pv, 1, none⟩ = some (.slice e1 e2 e3) ∧ Y.cell? ⟨pv, 2, none⟩ = some (.bool e4) ∧ Y.cell? ⟨pv, 3, none⟩ = some (.slice e5 e6 e7) ∧ Y.cell? ⟨pv, 4, none⟩ = some (.bool e8)) from ⟨bxc (b.box HTBw.out hne1) 0 _ rfl, bxc (b.box HPVw.out hne2) 0 _ rfl, bxc (b.box HPVw.out hne2) 1 _ rfl, bxc (b.box HPVw.out hne2) 2 _ rfl, bxc (b.box HPVw.out hne2) 3 _ rfl, bxc (b.box HPVw.out hne2) 4 _ rfl⟩)
  have F0 : Below wr.heap.size wr wr.drew := (Below.refl _ _).drew
  by_cases hjn : j < n
  · have hjI : (j : Int) < (n : Int) := by omega
    have hji : (0 : Int) ≤ (j : Int) ∧ (j : Int) < (n : Int) := by omega
    have hjA : j < A.length := by rw [HN.out]; exact hjn
    have hjl : j < (pivN A i k pT pb j).length := by rw [HLEN.out]; exact hjn
    by_cases hij : j = i
    · have HB2 := hid (show UBs wr base (.slice (some ⟨g, 0, none⟩) n rc) C' (pivN A i k pT pb (j + 1)) K2 by subst hij; rw [pivN_same A j k pT pb hjA]; exact HBR.out)
      have hd1 : ((j : Int) == (i : Int)) = true := by simp; omega
      have hd2 : ((j : Int) != (i : Int)) = false := by simp; omega
      clear hij HBR
      go_wp2_with fail
      go_roundw
      case rel => exact ⟨j + 1, _, by omega, by go_num, HB2, HBG⟩
      case measure => simp [intOf]; omega
    · have hd1 : ((j : Int) == (i : Int)) = false := by simp; omega
      have hd2 : ((j : Int) != (i : Int)) = true := by simp; omega
      have HIJ := hid hij
      obtain ⟨g', _, ta2, tc2, x1, y1, v1, u1, x2, y2, v2, u2, e, _, r0w, r1w, r2w, r3w, r4w, r5w, _, _, hlj⟩ := HBR.out.at j hjl
      simp only [Value.slice.injEq, Option.some.injEq, Addr.mk.injEq, and_true, true_and] at e
      obtain ⟨rfl, -⟩ := e
      have hRJ : (pivN A i k pT pb j)[j] = A[j] := by rw [pivN_at A i k pT pb j j hjl hjA, if_neg (by omega)]
      rw [hRJ] at r0w hlj
      have HAJ := hid (HABS.out _ (List.getElem_mem hjA))
      have HCJ := hid (HCOL.out _ (List.getElem_mem hjA))
      have hkj : k < (A[j]).1.length := by rw [HCJ.out]; exact hk
      have HLJ := hid (show ULi wr (.slice ta2 (A[j]).1.length tc2) (.slice x1 y1 v1) (.bool u1) (.slice x2 y2 v2) (.bool u2) (A[j]).1 (A[j]).2.1 K by rw [hKm]; exact hlj.fit (by omega) HAJ.out.1 HAJ.out.2)
      obtain ⟨c1', hc1'⟩ := HB0.out.cells
      have HPW := hid (HPVL.out.kty (HBG.out.kty hc1') (by decide) (by decide) (by decide) (by decide))
      have HCL := hid (fun (Y : World) (bY : Below wr.heap.size wr Y) => ucleared_any Y _ _ _ _ _ _ _ _ _ _ _ _ _ _ _ _ _ _ _ _ _ _ (A[j]).1 pT (A[j]).2.1 pb m K K2 hKm hm hK2 hK (HLJ.out.below bY) (HPW.out.below bY) (by rw [HPL.out, HCJ.out]) k hkj (by rw [HCJ.out]; exact hcl) HAJ.out.1 HPA.out HAJ.out.2 HPBA.out)
      have HNX := hid (show ((pivN A i k pT pb j).set j ((clr (A[j]).1 (A[j]).2.1 pT pb (A[j]).1[k]).1, (clr (A[j]).1 (A[j]).2.1 pT pb (A[j]).1[k]).2, ((pivN A i k pT pb j)[j]).2.2)) = pivN A i k pT pb (j + 1) by
        rw [hRJ]
        simp only [pivN]
        rw [getD_of hjA]
        unfold pivR
        rw [if_neg hij, getD_of hkj])
      have t0d := kcU F0 t0w
      have r0d := kcU F0 r0w
      have r1d := kcU F0 r1w
      have r2d := kcU F0 r2w
      have r3d := kcU F0 r3w
      have r4d := kcU F0 r4w
      clear hij hlj r5w hRJ
      obtain ⟨nk, HNK⟩ : ∃ nk, Hid ((clr (A[j]).1 (A[j]).2.1 pT pb (A[j]).1[k]).1 = nk) := ⟨_, hid rfl⟩
      obtain ⟨nb, HNB⟩ : ∃ nb, Hid ((clr (A[j]).1 (A[j]).2.1 pT pb (A[j]).1[k]).2 = nb) := ⟨_, hid rfl⟩
      rw [HNK.out, HNB.out] at HCL HNX
      clear HNK HNB hkj HCJ HLJ
      generalize (A[j]).1.length = lj at *
      go_wp2_with fail
      refine wp_region_noPanic ?_
      refine wp_region_held_drew (S := fun Y => Y.cell? ⟨tb, 0, none⟩ = some (.slice (some ⟨g, 0, none⟩) n rc) ∧ Y.cell? ⟨pv, 0, none⟩ = some (.slice pa q pc) ∧ Y.cell? ⟨pv, 1, none⟩ = some (.slice e1 e2 e3) ∧ Y.cell? ⟨pv, 2, none⟩ = some (.bool e4) ∧ Y.cell? ⟨pv, 3, none⟩ = some (.slice e5 e6 e7) ∧ Y.cell? ⟨pv, 4, none⟩ = some (.bool e8)) (by kernel_rfl) (HKg.out _ (Bg.of_below F0)) (fun hHeld => ?_)
      refine wpAnyH_take (i := 0) (v := ?_) rfl (by kernel_rfl) (by kernel_rfl) (by kernel_rfl) (fun _ _ _ h => h) (Or.inl ⟨by rfl, ?_⟩) (by assumption) ?_
      rotate_left
      · intro w hSw
        (try dsimp only at hSw)
        go_simp
        (try with_reducible rfl)
      (try simp only [List.getElem_toArray, List.getElem_cons_zero, List.getElem_cons_succ, Act.put, List.setIfInBounds_toArray, List.set_cons_zero, List.set_cons_succ])
      refine wpAnyH_take (i := 1) (v := ?_) rfl (by kernel_rfl) (by kernel_rfl) (by kernel_rfl) (fun _ _ _ h => h) (Or.inl ⟨by rfl, ?_⟩) (by assumption) ?_
      rotate_left
      · intro w hSw
        (try dsimp only at hSw)
        go_simp
        (try with_reducible rfl)
      (try simp only [List.getElem_toArray, List.getElem_cons_zero, List.getElem_cons_succ, Act.put, List.setIfInBounds_toArray, List.set_cons_zero, List.set_cons_succ])
      refine wpAnyH_take (i := 2) (v := ?_) rfl (by kernel_rfl) (by kernel_rfl) (by kernel_rfl) (fun _ _ _ h => h) (Or.inl ⟨by rfl, ?_⟩) (by assumption) ?_
      rotate_left
      · intro w hSw
        (try dsimp only at hSw)
        go_simp
        (try with_reducible rfl)
      (try simp only [List.getElem_toArray, List.getElem_cons_zero, List.getElem_cons_succ, Act.put, List.setIfInBounds_toArray, List.set_cons_zero, List.set_cons_succ])
      refine wpAnyH_take (i := 4) (v := ?_) rfl (by kernel_rfl) (by kernel_rfl) (by kernel_rfl) (fun _ _ _ h => h) (Or.inl ⟨by rfl, ?_⟩) (by assumption) ?_
      rotate_left
      · intro w hSw
        (try dsimp only at hSw)
        go_simp
        (try with_reducible rfl)
      (try simp only [List.getElem_toArray, List.getElem_cons_zero, List.getElem_cons_succ, Act.put, List.setIfInBounds_toArray, List.set_cons_zero, List.set_cons_succ])
      refine wpAnyH_take (i := 5) (v := ?_) rfl (by kernel_rfl) (by kernel_rfl) (by kernel_rfl) (fun _ _ _ h => h) (Or.inl ⟨by rfl, ?_⟩) (by assumption) ?_
      rotate_left
      · intro w hSw
        (try dsimp only at hSw)
        go_simp
        (try with_reducible rfl)
      (try simp only [List.getElem_toArray, List.getElem_cons_zero, List.getElem_cons_succ, Act.put, List.setIfInBounds_toArray, List.set_cons_zero, List.set_cons_succ])
      refine wpAnyH_take (i := 6) (v := ?_) rfl (by kernel_rfl) (by kernel_rfl) (by kernel_rfl) (fun _ _ _ h => h) (Or.inl ⟨by rfl, ?_⟩) (by assumption) ?_
      rotate_left
      · intro w hSw
        (try dsimp only at hSw)
        go_simp
        (try with_reducible rfl)
      (try simp only [List.getElem_toArray, List.getElem_cons_zero, List.getElem_cons_succ, Act.put, List.setIfInBounds_toArray, List.set_cons_zero, List.set_cons_succ])
      refine wpAnyH_take (i := 7) (v := ?_) rfl (by kernel_rfl) (by kernel_rfl) (by kernel_rfl) (fun _ _ _ h => h) (Or.inl ⟨by rfl, ?_⟩) (by assumption) ?_
      rotate_left
      · intro w hSw
        (try dsimp only at hSw)
        go_simp
        (try with_reducible rfl)
      (try simp only [List.getElem_toArray, List.getElem_cons_zero, List.getElem_cons_succ, Act.put, List.setIfInBounds_toArray, List.set_cons_zero, List.set_cons_succ])
      refine wpAnyH_take (i := 8) (v := ?_) rfl (by kernel_rfl) (by kernel_rfl) (by kernel_rfl) (fun _ _ _ h => h) (Or.inl ⟨by rfl, ?_⟩) (by assumption) ?_
      rotate_left
      · intro w hSw
        (try dsimp only at hSw)
        go_simp
        (try with_reducible rfl)
      (try simp only [List.getElem_toArray, List.getElem_cons_zero, List.getElem_cons_succ, Act.put, List.setIfInBounds_toArray, List.set_cons_zero, List.set_cons_succ])
      refine wpAnyH_take (i := 9) (v := ?_) rfl (by kernel_rfl) (by kernel_rfl) (by kernel_rfl) (fun _ _ _ h => h) (Or.inl ⟨by rfl, ?_⟩) (by assumption) ?_
      rotate_left
      · intro w hSw
        (try dsimp only at hSw)
        go_simp
        (try with_reducible rfl)
      (try simp only [List.getElem_toArray, List.getElem_cons_zero, List.getElem_cons_succ, Act.put, List.setIfInBounds_toArray, List.set_cons_zero, List.set_cons_succ])
      refine wpAnyH_take (i := 10) (v := ?_) rfl (by kernel_rfl) (by kernel_rfl) (by kernel_rfl) (fun _ _ _ h => h) (Or.inl ⟨by rfl, ?_⟩) (by assumption) ?_
      rotate_left
      · intro w hSw
        (try dsimp only at hSw)
        go_simp
        (try with_reducible rfl)
      (try simp only [List.getElem_toArray, List.getElem_cons_zero, List.getElem_cons_succ, Act.put, List.setIfInBounds_toArray, List.set_cons_zero, List.set_cons_succ])
      refine wpAnyH_take (i := 11) (v := ?_) rfl (by kernel_rfl) (by kernel_rfl) (by kernel_rfl) (fun _ _ _ h => h) (Or.inl ⟨by rfl, ?_⟩) (by assumption) ?_
      rotate_left
      · intro w hSw
        (try dsimp only at hSw)
        go_simp
        (try with_reducible rfl)
      (try simp only [List.getElem_toArray, List.getElem_cons_zero, List.getElem_cons_succ, Act.put, List.setIfInBounds_toArray, List.set_cons_zero, List.set_cons_succ])
      refine wpAnyH_take (i := 13) (v := ?_) rfl (by kernel_rfl) (by kernel_rfl) (by kernel_rfl) (fun _ _ _ h => h) (Or.inl ⟨by rfl, ?_⟩) (by assumption) ?_
      rotate_left
      · intro w hSw
        (try dsimp only at hSw)
        go_simp
        (try with_reducible rfl)
      (try simp only [List.getElem_toArray, List.getElem_cons_zero, List.getElem_cons_succ, Act.put, List.setIfInBounds_toArray, List.set_cons_zero, List.set_cons_succ])
      refine wpAnyH_take (i := 14) (v := ?_) rfl (by kernel_rfl) (by kernel_rfl) (by kernel_rfl) (fun _ _ _ h => h) (Or.inl ⟨by rfl, ?_⟩) (by assumption) ?_
      rotate_left
      · intro w hSw
        (try dsimp only at hSw)
        go_simp
        (try with_reducible rfl)
      (try simp only [List.getElem_toArray, List.getElem_cons_zero, List.getElem_cons_succ, Act.put, List.setIfInBounds_toArray, List.set_cons_zero, List.set_cons_succ])
      refine wpAnyH_ready (rs := [3, 12]) (by kernel_rfl) (by simp) ?_
      refine AllReadyH.cons (o := _) rfl (fun Kc hKc => ?_) (AllReadyH.cons (o := _) rfl (fun Kc hKc => ?_) (AllReadyH.nil))
      · go_simp
        refine hKc.out _ _ (HKg.out _ (Bg.of_below F0)) (fun hHeld => ?_)
        clear hKc Kc
        (try simp only [List.getElem_toArray, List.getElem_cons_zero, List.getElem_cons_succ, Act.put, List.setIfInBounds_toArray, List.set_cons_zero, List.set_cons_succ])
        refine wpAnyH_ready (rs := [12]) (by kernel_rfl) (by simp) ?_
        refine AllReadyH.cons (o := _) rfl (fun Kc hKc => ?_) AllReadyH.nil
        go_simp
        refine hKc.out _ _ (HKg.out _ (Bg.of_below F0)) (fun hHeld => ?_)
        clear hKc Kc
        (try simp only [List.getElem_toArray, List.getElem_cons_zero, List.getElem_cons_succ, Act.put, List.setIfInBounds_toArray, List.set_cons_zero, List.set_cons_succ])
        refine wpAnyH_ready (rs := [15]) (by kernel_rfl) (by simp) ?_
        refine AllReadyH.cons (o := _) rfl (fun Kc hKc => ?_) AllReadyH.nil
        go_simp
        (go_at_call 35; refine (HCL.out _ F0).mono ?_; rintro e X4 ⟨⟨tv, p1, p2, p3, p4, p5, p6, p7, p8, rfl, n4⟩, bb⟩; have F1 := chain2 F0 bb; obtain ⟨tv1, tv2, tv3, rfl⟩ : ∃ ta tl tc, tv = .slice ta tl tc := by { obtain ⟨ta, tc, _, _, _, _, _, _, _, _, e, _⟩ := n4.form; exact ⟨ta, _, tc, e⟩ }; have r0 := kcU F1 r0w; have r1 := kcU F1 r1w; have r2 := kcU F1 r2w; have r3 := kcU F1 r3w; have r4 := kcU F1 r4w; have fr : ∀ o, X4.frozen? ⟨g, o, none⟩ = false := fun o => by { obtain ⟨c, hc⟩ := (HBR.out.below F1).cells; exact blk_free hc o })
        dsimp only
        refine hKc.out _ _ (HKg.out _ (Bg.of_below F1)) (fun hHeld => ?_)
        clear hKc Kc
        (try simp only [List.getElem_toArray, List.getElem_cons_zero, List.getElem_cons_succ, Act.put, List.setIfInBounds_toArray, List.set_cons_zero, List.set_cons_succ])
        refine wpAnyH_take (i := 16) (v := ?_) rfl (by kernel_rfl) (by kernel_rfl) (by kernel_rfl) (fun _ _ _ h => h) (Or.inl ⟨by rfl, ?_⟩) (by assumption) ?_
        rotate_left
        · intro w hSw
          (try dsimp only at hSw)
          go_simp
          (try with_reducible rfl)
        (try simp only [List.getElem_toArray, List.getElem_cons_zero, List.getElem_cons_succ, Act.put, List.setIfInBounds_toArray, List.set_cons_zero, List.set_cons_succ])
        refine wpAnyH_take (i := 17) (v := ?_) rfl (by kernel_rfl) (by kernel_rfl) (by kernel_rfl) (fun _ _ _ h => h) (Or.inl ⟨by rfl, ?_⟩) (by assumption) ?_
        rotate_left
        · intro w hSw
          (try dsimp only at hSw)
          go_simp
          (try with_reducible rfl)
        (try simp only [List.getElem_toArray, List.getElem_cons_zero, List.getElem_cons_succ, Act.put, List.setIfInBounds_toArray, List.set_cons_zero, List.set_cons_succ])
        refine wpAnyH_ready (rs := [18]) (by kernel_rfl) (by simp) ?_
        refine AllReadyH.cons (o := _) rfl (fun Kc hKc => ?_) AllReadyH.nil
        go_simp
        refine hKc.out _ _ (HKg.out _ ((((((Bg.of_below F1).set _ _).set _ _).set _ _).set _ _).set _ _)) (fun hHeld => ?_)
        clear hKc Kc
        (try simp only [List.getElem_toArray, List.getElem_cons_zero, List.getElem_cons_succ, Act.put, List.setIfInBounds_toArray, List.set_cons_zero, List.set_cons_succ])
        refine wpAnyH_done (by kernel_rfl) ?_ _
        refine NoPanic.normal ?_
        have hput := (HBR.out.below F1).put5 j hjl n4
        rw [HNX.out] at hput
        have HB2 := hid hput
        have HG2 := hid (HBG.out.trans ((((((Bg.of_below F1).set (j * 6) (.slice tv1 tv2 tv3)).set (j * 6 + 1) (.slice p1 p2 p3)).set (j * 6 + 2) (.bool p4)).set (j * 6 + 3) (.slice p5 p6 p7)).set (j * 6 + 4) (.bool p8)))
        clear hput n4 F0 F1 r0 r1 r2 r3 r4 fr r0w r1w r2w r3w r4w r0d r1d r2d r3d r4d HKg HBR HBG HCL HPW
        go_wp2_with fail
        go_roundw
        case rel => exact ⟨j + 1, _, by omega, by go_num, HB2, HG2⟩
        case measure => simp [intOf]; omega
      · go_simp
        refine hKc.out _ _ (HKg.out _ (Bg.of_below F0)) (fun hHeld => ?_)
        clear hKc Kc
        (try simp only [List.getElem_toArray, List.getElem_cons_zero, List.getElem_cons_succ, Act.put, List.setIfInBounds_toArray, List.set_cons_zero, List.set_cons_succ])
        refine wpAnyH_ready (rs := [3, 15]) (by kernel_rfl) (by simp) ?_
        refine AllReadyH.cons (o := _) rfl (fun Kc hKc => ?_) (AllReadyH.cons (o := _) rfl (fun Kc hKc => ?_) (AllReadyH.nil))
        · go_simp
          refine hKc.out _ _ (HKg.out _ (Bg.of_below F0)) (fun hHeld => ?_)
          clear hKc Kc
          (try simp only [List.getElem_toArray, List.getElem_cons_zero, List.getElem_cons_succ, Act.put, List.setIfInBounds_toArray, List.set_cons_zero, List.set_cons_succ])
          refine wpAnyH_ready (rs := [15]) (by kernel_rfl) (by simp) ?_
          refine AllReadyH.cons (o := _) rfl (fun Kc hKc => ?_) AllReadyH.nil
          go_simp
          (go_at_call 35; refine (HCL.out _ F0).mono ?_; rintro e X4 ⟨⟨tv, p1, p2, p3, p4, p5, p6, p7, p8, rfl, n4⟩, bb⟩; have F1 := chain2 F0 bb; obtain ⟨tv1, tv2, tv3, rfl⟩ : ∃ ta tl tc, tv = .slice ta tl tc := by { obtain ⟨ta, tc, _, _, _, _, _, _, _, _, e, _⟩ := n4.form; exact ⟨ta, _, tc, e⟩ }; have r0 := kcU F1 r0w; have r1 := kcU F1 r1w; have r2 := kcU F1 r2w; have r3 := kcU F1 r3w; have r4 := kcU F1 r4w; have fr : ∀ o, X4.frozen? ⟨g, o, none⟩ = false := fun o => by { obtain ⟨c, hc⟩ := (HBR.out.below F1).cells; exact blk_free hc o })
          dsimp only
          refine hKc.out _ _ (HKg.out _ (Bg.of_below F1)) (fun hHeld => ?_)
          clear hKc Kc
          (try simp only [List.getElem_toArray, List.getElem_cons_zero, List.getElem_cons_succ, Act.put, List.setIfInBounds_toArray, List.set_cons_zero, List.set_cons_succ])
          refine wpAnyH_take (i := 16) (v := ?_) rfl (by kernel_rfl) (by kernel_rfl) (by kernel_rfl) (fun _ _ _ h => h) (Or.inl ⟨by rfl, ?_⟩) (by assumption) ?_
          rotate_left
          · intro w hSw
            (try dsimp only at hSw)
            go_simp
            (try with_reducible rfl)
          (try simp only [List.getElem_toArray, List.getElem_cons_zero, List.getElem_cons_succ, Act.put, List.setIfInBounds_toArray, List.set_cons_zero, List.set_cons_succ])
          refine wpAnyH_take (i := 17) (v := ?_) rfl (by kernel_rfl) (by kernel_rfl) (by kernel_rfl) (fun _ _ _ h => h) (Or.inl ⟨by rfl, ?_⟩) (by assumption) ?_
          rotate_left
          · intro w hSw
            (try dsimp only at hSw)
            go_simp
            (try with_reducible rfl)
          (try simp only [List.getElem_toArray, List.getElem_cons_zero, List.getElem_cons_succ, Act.put, List.setIfInBounds_toArray, List.set_cons_zero, List.set_cons_succ])
          refine wpAnyH_ready (rs := [18]) (by kernel_rfl) (by simp) ?_
          refine AllReadyH.cons (o := _) rfl (fun Kc hKc => ?_) AllReadyH.nil
          go_simp
          refine hKc.out _ _ (HKg.out _ ((((((Bg.of_below F1).set _ _).set _ _).set _ _).set _ _).set _ _)) (fun hHeld => ?_)
          clear hKc Kc
          (try simp only [List.getElem_toArray, List.getElem_cons_zero, List.getElem_cons_succ, Act.put, List.setIfInBounds_toArray, List.set_cons_zero, List.set_cons_succ])
          refine wpAnyH_done (by kernel_rfl) ?_ _
          refine NoPanic.normal ?_
          have hput := (HBR.out.below F1).put5 j hjl n4
          rw [HNX.out] at hput
          have HB2 := hid hput
          have HG2 := hid (HBG.out.trans ((((((Bg.of_below F1).set (j * 6) (.slice tv1 tv2 tv3)).set (j * 6 + 1) (.slice p1 p2 p3)).set (j * 6 + 2) (.bool p4)).set (j * 6 + 3) (.slice p5 p6 p7)).set (j * 6 + 4) (.bool p8)))
          clear hput n4 F0 F1 r0 r1 r2 r3 r4 fr r0w r1w r2w r3w r4w r0d r1d r2d r3d r4d HKg HBR HBG HCL HPW
          go_wp2_with fail
          go_roundw
          case rel => exact ⟨j + 1, _, by omega, by go_num, HB2, HG2⟩
          case measure => simp [intOf]; omega
        · go_simp
          (go_at_call 35; refine (HCL.out _ F0).mono ?_; rintro e X4 ⟨⟨tv, p1, p2, p3, p4, p5, p6, p7, p8, rfl, n4⟩, bb⟩; have F1 := chain2 F0 bb; obtain ⟨tv1, tv2, tv3, rfl⟩ : ∃ ta tl tc, tv = .slice ta tl tc := by { obtain ⟨ta, tc, _, _, _, _, _, _, _, _, e, _⟩ := n4.form; exact ⟨ta, _, tc, e⟩ }; have r0 := kcU F1 r0w; have r1 := kcU F1 r1w; have r2 := kcU F1 r2w; have r3 := kcU F1 r3w; have r4 := kcU F1 r4w; have fr : ∀ o, X4.frozen? ⟨g, o, none⟩ = false := fun o => by { obtain ⟨c, hc⟩ := (HBR.out.below F1).cells; exact blk_free hc o })
          dsimp only
          refine hKc.out _ _ (HKg.out _ (Bg.of_below F1)) (fun hHeld => ?_)
          clear hKc Kc
          (try simp only [List.getElem_toArray, List.getElem_cons_zero, List.getElem_cons_succ, Act.put, List.setIfInBounds_toArray, List.set_cons_zero, List.set_cons_succ])
          obtain ⟨tb0, _, _, _, _, _⟩ := HKg.out _ (Bg.of_below F1)
          refine wpAnyH_ready (rs := [3]) (by kernel_rfl) (by simp) ?_
          refine AllReadyH.cons (o := _) rfl (fun Kc hKc => ?_) AllReadyH.nil
          go_simp
          refine hKc.out _ _ (HKg.out _ (Bg.of_below F1)) (fun hHeld => ?_)
          clear hKc Kc
          (try simp only [List.getElem_toArray, List.getElem_cons_zero, List.getElem_cons_succ, Act.put, List.setIfInBounds_toArray, List.set_cons_zero, List.set_cons_succ])
          refine wpAnyH_take (i := 16) (v := ?_) rfl (by kernel_rfl) (by kernel_rfl) (by kernel_rfl) (fun _ _ _ h => h) (Or.inl ⟨by rfl, ?_⟩) (by assumption) ?_
          rotate_left
          · intro w hSw
            (try dsimp only at hSw)
            go_simp
            (try with_reducible rfl)
          (try simp only [List.getElem_toArray, List.getElem_cons_zero, List.getElem_cons_succ, Act.put, List.setIfInBounds_toArray, List.set_cons_zero, List.set_cons_succ])
          refine wpAnyH_take (i := 17) (v := ?_) rfl (by kernel_rfl) (by kernel_rfl) (by kernel_rfl) (fun _ _ _ h => h) (Or.inl ⟨by rfl, ?_⟩) (by assumption) ?_
          rotate_left
          · intro w hSw
            (try dsimp only at hSw)
            go_simp
            (try with_reducible rfl)
          (try simp only [List.getElem_toArray, List.getElem_cons_zero, List.getElem_cons_succ, Act.put, List.setIfInBounds_toArray, List.set_cons_zero, List.set_cons_succ])
          refine wpAnyH_ready (rs := [18]) (by kernel_rfl) (by simp) ?_
          refine AllReadyH.cons (o := _) rfl (fun Kc hKc => ?_) AllReadyH.nil
          go_simp
          refine hKc.out _ _ (HKg.out _ ((((((Bg.of_below F1).set _ _).set _ _).set _ _).set _ _).set _ _)) (fun hHeld => ?_)
          clear hKc Kc
          (try simp only [List.getElem_toArray, List.getElem_cons_zero, List.getElem_cons_succ, Act.put, List.setIfInBounds_toArray, List.set_cons_zero, List.set_cons_succ])
          refine wpAnyH_done (by kernel_rfl) ?_ _
          refine NoPanic.normal ?_
          have hput := (HBR.out.below F1).put5 j hjl n4
          rw [HNX.out] at hput
          have HB2 := hid hput
          have HG2 := hid (HBG.out.trans ((((((Bg.of_below F1).set (j * 6) (.slice tv1 tv2 tv3)).set (j * 6 + 1) (.slice p1 p2 p3)).set (j * 6 + 2) (.bool p4)).set (j * 6 + 3) (.slice p5 p6 p7)).set (j * 6 + 4) (.bool p8)))
          clear hput n4 F0 F1 r0 r1 r2 r3 r4 fr r0w r1w r2w r3w r4w r0d r1d r2d r3d r4d HKg HBR HBG HCL HPW
          go_wp2_with fail
          go_roundw
          case rel => exact ⟨j + 1, _, by omega, by go_num, HB2, HG2⟩
          case measure => simp [intOf]; omega
  · obtain rfl : n = j := by omega
    obtain ⟨g', _, ta2, tc2, x1, y1, v1, u1, x2, y2, v2, u2, e, _, r0w, r1w, r2w, r3w, r4w, r5w, _, _, -⟩ := HBR.out.at i (by rw [HLEN.out]; exact hin)
    simp only [Value.slice.injEq, Option.some.injEq, Addr.mk.injEq, and_true, true_and] at e
    obtain ⟨rfl, -⟩ := e
    obtain ⟨c1', hc1'⟩ := HB0.out.cells
    have HPW := hid (HPVL.out.kty (HBG.out.kty hc1') (by decide) (by decide) (by decide) (by decide))
    have r0d := kcU F0 r0w
    have r1d := kcU F0 r1w
    have r2d := kcU F0 r2w
    have r3d := kcU F0 r3w
    have r4d := kcU F0 r4w
    have r5d := kcU F0 r5w
    have fr : ∀ o, wr.frozen? ⟨g, o, none⟩ = false := fun o => by
      obtain ⟨c, hc⟩ := HBR.out.cells
      exact blk_free hc o
    have hput := (HBR.out.put6 i (by rw [HLEN.out]; exact hin) (c0 := (k : Int)) (HPW.out.mono (show K ≤ K2 by omega))).below (Below.refl _ _).drew
    rw [← HN.out] at HFIN
    have HB2 := hid hput
    have HG2 := hid (HBG.out.trans ((((((((Bg.refl g wr).set (i * 6) (.slice pa q pc)).set (i * 6 + 1) (.slice e1 e2 e3)).set (i * 6 + 2) (.bool e4)).set (i * 6 + 3) (.slice e5 e6 e7)).set (i * 6 + 4) (.bool e8)).set (i * 6 + 5) (.int .i64 (k : Int))).drew))
    have HGW := hid ((Bg.of_below (g := g) HBW1.out).trans HG2.out)
    clear hput hjn
    go_wp2_with fail
    refine wp_region_noPanic ?_
    refine wp_region_held_drew (S := fun Y => Y.cell? ⟨tb, 0, none⟩ = some (.slice (some ⟨g, 0, none⟩) n rc) ∧ Y.cell? ⟨pv, 0, none⟩ = some (.slice pa q pc) ∧ Y.cell? ⟨pv, 1, none⟩ = some (.slice e1 e2 e3) ∧ Y.cell? ⟨pv, 2, none⟩ = some (.bool e4) ∧ Y.cell? ⟨pv, 3, none⟩ = some (.slice e5 e6 e7) ∧ Y.cell? ⟨pv, 4, none⟩ = some (.bool e8)) (by kernel_rfl) (HKg.out _ (Bg.of_below F0)) (fun hHeld => ?_)
    refine wpAnyH_take (i := 0) (v := ?_) rfl (by kernel_rfl) (by kernel_rfl) (by kernel_rfl) (fun _ _ _ h => h) (Or.inl ⟨by rfl, ?_⟩) (by assumption) ?_
    rotate_left
    · intro w hSw
      (try dsimp only at hSw)
      go_simp
      (try with_reducible rfl)
    (try simp only [List.getElem_toArray, List.getElem_cons_zero, List.getElem_cons_succ, Act.put, List.setIfInBounds_toArray, List.set_cons_zero, List.set_cons_succ])
    refine wpAnyH_take (i := 1) (v := ?_) rfl (by kernel_rfl) (by kernel_rfl) (by kernel_rfl) (fun _ _ _ h => h) (Or.inl ⟨by rfl, ?_⟩) (by assumption) ?_
    rotate_left
    · intro w hSw
      (try dsimp only at hSw)
      go_simp
      (try with_reducible rfl)
    (try simp only [List.getElem_toArray, List.getElem_cons_zero, List.getElem_cons_succ, Act.put, List.setIfInBounds_toArray, List.set_cons_zero, List.set_cons_succ])
    refine wpAnyH_take (i := 2) (v := ?_) rfl (by kernel_rfl) (by kernel_rfl) (by kernel_rfl) (fun _ _ _ h => h) (Or.inl ⟨by rfl, ?_⟩) (by assumption) ?_
    rotate_left
    · intro w hSw
      (try dsimp only at hSw)
      go_simp
      (try with_reducible rfl)
    (try simp only [List.getElem_toArray, List.getElem_cons_zero, List.getElem_cons_succ, Act.put, List.setIfInBounds_toArray, List.set_cons_zero, List.set_cons_succ])
    refine wpAnyH_take (i := 3) (v := ?_) rfl (by kernel_rfl) (by kernel_rfl) (by kernel_rfl) (fun _ _ _ h => h) (Or.inl ⟨by rfl, ?_⟩) (by assumption) ?_
    rotate_left
    · intro w hSw
      (try dsimp only at hSw)
      go_simp
      (try with_reducible rfl)
    (try simp only [List.getElem_toArray, List.getElem_cons_zero, List.getElem_cons_succ, Act.put, List.setIfInBounds_toArray, List.set_cons_zero, List.set_cons_succ])
    refine wpAnyH_take (i := 4) (v := ?_) rfl (by kernel_rfl) (by kernel_rfl) (by kernel_rfl) (fun _ _ _ h => h) (Or.inl ⟨by rfl, ?_⟩) (by assumption) ?_
    rotate_left
    · intro w hSw
      (try dsimp only at hSw)
      go_simp
      (try with_reducible rfl)
    (try simp only [List.getElem_toArray, List.getElem_cons_zero, List.getElem_cons_succ, Act.put, List.setIfInBounds_toArray, List.set_cons_zero, List.set_cons_succ])
    refine wpAnyH_take (i := 5) (v := ?_) rfl (by kernel_rfl) (by kernel_rfl) (by kernel_rfl) (fun _ _ _ h => h) (Or.inl ⟨by rfl, ?_⟩) (by assumption) ?_
    rotate_left
    · intro w hSw
      (try dsimp only at hSw)
      go_simp
      (try with_reducible rfl)
    (try simp only [List.getElem_toArray, List.getElem_cons_zero, List.getElem_cons_succ, Act.put, List.setIfInBounds_toArray, List.set_cons_zero, List.set_cons_succ])
    refine wpAnyH_take (i := 6) (v := ?_) rfl (by kernel_rfl) (by kernel_rfl) (by kernel_rfl) (fun _ _ _ h => h) (Or.inl ⟨by rfl, ?_⟩) (by assumption) ?_
    rotate_left
    · intro w hSw
      (try dsimp only at hSw)
      go_simp
      (try with_reducible rfl)
    (try simp only [List.getElem_toArray, List.getElem_cons_zero, List.getElem_cons_succ, Act.put, List.setIfInBounds_toArray, List.set_cons_zero, List.set_cons_succ])
    refine wpAnyH_take (i := 7) (v := ?_) rfl (by kernel_rfl) (by kernel_rfl) (by kernel_rfl) (fun _ _ _ h => h) (Or.inl ⟨by rfl, ?_⟩) (by assumption) ?_
    rotate_left
    · intro w hSw
      (try dsimp only at hSw)
      go_simp
      (try with_reducible rfl)
    (try simp only [List.getElem_toArray, List.getElem_cons_zero, List.getElem_cons_succ, Act.put, List.setIfInBounds_toArray, List.set_cons_zero, List.set_cons_succ])
    refine wpAnyH_take (i := 8) (v := ?_) rfl (by kernel_rfl) (by kernel_rfl) (by kernel_rfl) (fun _ _ _ h => h) (Or.inl ⟨by rfl, ?_⟩) (by assumption) ?_
    rotate_left
    · intro w hSw
      (try dsimp only at hSw)
      go_simp
      (try with_reducible rfl)
    (try simp only [List.getElem_toArray, List.getElem_cons_zero, List.getElem_cons_succ, Act.put, List.setIfInBounds_toArray, List.set_cons_zero, List.set_cons_succ])
    refine wpAnyH_ready (rs := [9]) (by kernel_rfl) (by simp) ?_
    refine AllReadyH.cons (o := _) rfl (fun Kc hKc => ?_) AllReadyH.nil
    go_simp
    refine hKc.out _ _ (HKg.out _ ((((((((Bg.refl g wr).set _ _).set _ _).set _ _).set _ _).set _ _).set _ _).drew)) (fun hHeld => ?_)
    clear hKc Kc
    (try simp only [List.getElem_toArray, List.getElem_cons_zero, List.getElem_cons_succ, Act.put, List.setIfInBounds_toArray, List.set_cons_zero, List.set_cons_succ])
    refine wpAnyH_done (by kernel_rfl) ?_ _
    refine NoPanic.normal ?_
    go_wp2_with fail
    go_ret
    exact ⟨rfl, ⟨_, by rw [HFIN.out, HN.out]; exact HB2.out⟩, HGW.out⟩
end Go.Proofs.YtgojlegknlalpaaGreatDoor
