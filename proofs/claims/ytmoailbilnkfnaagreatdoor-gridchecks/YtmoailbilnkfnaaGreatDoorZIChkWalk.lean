/- GridChecks: the walk. -/
import Derived.Test.YtmoailbilnkfnaaGreatDoorZIChkM
import Derived.Test.YtmoailbilnkfnaaGreatDoorZIExp
import Derived.Test.YtmoailbilnkfnaaGreatDoorZMExport
import Derived.Test.YtmoailbilnkfnaaGreatDoorZIWith
import Derived.Test.YtmoailbilnkfnaaGreatDoorZMWith
import Derived.Test.YtmoailbilnkfnaaGreatDoorZIIsl
import Derived.Test.YtmoailbilnkfnaaGreatDoorZMIsl
import Derived.Test.YtmoailbilnkfnaaGreatDoorPk15
import Derived.Test.YtmoailbilnkfnaaGreatDoorPk16
import Derived.Deep.RegionHeld3
namespace Go.Proofs.YtmoailbilnkfnaaGreatDoor
open Go.RowKit
set_option linter.unusedVariables false
set_option maxRecDepth 100000
set_option linter.unusedSimpArgs false

set_option maxHeartbeats 25600000 in
theorem gridChecks_any (w : World) (g : Gr) (la : Option Addr) (lc : Nat) (h : Lns w (.slice la g.lines.length lc) g.lines) (fv : Value) (F : List ByteArray) (hf : Strs w fv F) (hmx : Mx w) (htab : Tab w) :
    Calls Tryz.prog 4 #[.agg #[.int .i64 g.zones, .int .i64 g.hours, .slice la g.lines.length lc, .int .i64 g.low, .int .i64 g.high], fv] w fun e w' => e = .returned (.bool true) ∧ Below w.heap.size w w' := by
  obtain ⟨er, HER⟩ : ∃ er, Hid (errG g = er) := ⟨_, hid rfl⟩
  have HOK := hid (show er = 0 → gok g = true from fun e => by rw [← HER.out] at e; unfold errG at e; split at e; assumption; cases e)
  have HGI := hid (fun (hh : gok g = true) => (gok_iff.1 hh).1)
  have HFT := hid (fun (hh : gok g = true) => gok_fit hh)
  have HIC0 := hid (fun (Y : World) (b : Below w.heap.size w Y) => icheck_any Y g la lc (h.below b))
  have HMC0 := hid (fun (Y : World) (b : Below w.heap.size w Y) => mcheck_any Y g la lc (h.below b))
  rw [HER.out] at HIC0 HMC0
  have HHF0 := hid (fun (Y : World) (b : Below w.heap.size w Y) => heavy14_any Y g la lc (h.below b) fv F (hf.below b))
  have HEX0 := hid (fun (ok : gok g = true) (n : Nat) (hn : g.zones = n) (k : Hvy14 g F) (Y : World) (b : Below w.heap.size w Y) => iexport_any Y g la lc (h.below b) ok n hn fv F (hf.below b) 256 36 (by decide) (by decide) (by decide) k.2.1 (hmx.below b) (htab.below b))
  have HME0 := hid (fun (ok : gok g = true) (n : Nat) (hn : g.zones = n) (k : Hvy14 g F) (Y : World) (b : Below w.heap.size w Y) => mexport_any Y g la lc (h.below b) ok n hn fv F (hf.below b) 256 36 (by decide) (by decide) (by decide) k.2.1)
  have HIS0 := hid (fun (ok : gok g = true) (n : Nat) (hn : g.zones = n) (Y : World) (b : Below w.heap.size w Y) => iislands_any Y g la lc (h.below b) ok n hn)
  have HMS0 := hid (fun (ok : gok g = true) (n : Nat) (hn : g.zones = n) (Y : World) (b : Below w.heap.size w Y) => mislands_any Y g la lc (h.below b) ok n hn)
  have HWI0 := hid (fun (ok : gok g = true) (k : Hvy14 g F) (Y : World) (b : Below w.heap.size w Y) => iwithin_any Y g la lc (h.below b) ok fv F (hf.below b) 256 36 (by decide) (by decide) (by decide) k.2.1 (hmx.below b) (htab.below b))
  have HWM0 := hid (fun (ok : gok g = true) (k : Hvy14 g F) (Y : World) (b : Below w.heap.size w Y) => mwithinG_any Y g la lc (h.below b) ok fv F (hf.below b) 256 36 (by decide) (by decide) (by decide) k.2.1 (by have := k.1; omega))
  obtain ⟨fa, fc, hfe, fl, fm⟩ := hf.slice
  obtain ⟨Z, H, lo, hi, S⟩ := g
  simp only at h HGI HFT HIC0 HMC0 HHF0 HEX0 HME0 HIS0 HMS0 HWI0 HWM0 ⊢
  subst hfe
  have b0 := ibel w (Obj.cells #[.int .i64 Z, .int .i64 H, .slice la S.length lc, .int .i64 lo, .int .i64 hi] 24)
  have x0 := inew w (Obj.cells #[.int .i64 Z, .int .i64 H, .slice la S.length lc, .int .i64 lo, .int .i64 hi] 24)
  have z0 := ibx x0 0 (.int .i64 Z) rfl
  have z1 := ibx x0 1 (.int .i64 H) rfl
  have z2 := ibx x0 2 (.slice la S.length lc) rfl
  have z3 := ibx x0 3 (.int .i64 lo) rfl
  have z4 := ibx x0 4 (.int .i64 hi) rfl
  obtain ⟨a', c', e', hl, hm⟩ := h.slice
  simp only [Value.slice.injEq] at e'
  obtain ⟨rfl, -, rfl⟩ := e'
  unfold maxLen at hm fm
  have HB0 := hid b0
  clear h x0 b0 HER hf hmx htab
  go_enter Tryz.func4, Tryz.ntmps4
  go_wp2_with fail
  generalize hW : w.alloc (Obj.cells #[.int .i64 Z, .int .i64 H, .slice la S.length lc, .int .i64 lo, .int .i64 hi] 24) = W at *
  clear hW
  have HWw := hid (fun (Y : World) (k : Below W.heap.size W Y) => HB0.out.trans (k.mono HB0.out.size))
  obtain ⟨gb, HGB⟩ : ∃ gb, Hid (w.heap.size = gb) := ⟨_, hid rfl⟩
  have HKx := hid (fun (Y : World) (k : Below W.heap.size W Y) => show (Y.cell? ⟨w.heap.size, 0, none⟩ = some (.int .i64 Z) ∧ Y.cell? ⟨w.heap.size, 1, none⟩ = some (.int .i64 H) ∧ Y.cell? ⟨w.heap.size, 2, none⟩ = some (.slice la S.length lc) ∧ Y.cell? ⟨w.heap.size, 3, none⟩ = some (.int .i64 lo) ∧ Y.cell? ⟨w.heap.size, 4, none⟩ = some (.int .i64 hi)) from ⟨ikc k z0, ikc k z1, ikc k z2, ikc k z3, ikc k z4⟩)
  rw [HGB.out] at HKx
  simp only [HGB.out]
  have HIC := hid (fun (Y : World) (k : Below W.heap.size W Y) => HIC0.out Y (HWw.out Y k))
  have HMC := hid (fun (Y : World) (k : Below W.heap.size W Y) => HMC0.out Y (HWw.out Y k))
  refine (HHF0.out W HB0.out).mono ?_
  rintro e X ⟨r1, rfl, hv1, bX⟩
  obtain ⟨z0, z1, z2, z3, z4⟩ := HKx.out _ bX
  have HV1 := hid hv1
  clear HIC0 HMC0 HHF0 hv1
  cases r1 with
  | true =>
    have BF := HWw.out _ bX
    go_wp2_with fail
    go_ret
    exact ⟨rfl, BF⟩
  | false =>
    go_wp2_with fail
    have F0 : Below X.heap.size X X.drew := (Below.refl _ _).drew
    refine wp_region_noPanic ?_
    refine wp_region_held_drew (S := fun Y => Y.cell? ⟨gb, 0, none⟩ = some (.int .i64 Z) ∧ Y.cell? ⟨gb, 1, none⟩ = some (.int .i64 H) ∧ Y.cell? ⟨gb, 2, none⟩ = some (.slice la S.length lc) ∧ Y.cell? ⟨gb, 3, none⟩ = some (.int .i64 lo) ∧ Y.cell? ⟨gb, 4, none⟩ = some (.int .i64 hi)) (by kernel_rfl) (HKx.out _ (bX.trans (F0.mono bX.size))) (fun hHeld => ?_)
    refine wpAnyH_take (i := 0) (v := ?_) rfl (by kernel_rfl) (by kernel_rfl) (by kernel_rfl) (fun _ _ _ h => h) (Or.inl ⟨by rfl, ?_⟩) (by assumption) ?_
    rotate_left
    · intro w hSw
      (try dsimp only at hSw)
      go_simp
      (try with_reducible rfl)
    (try simp only [List.getElem_toArray, List.getElem_cons_zero, List.getElem_cons_succ, Act.put, List.setIfInBounds_toArray, List.set_cons_zero, List.set_cons_succ])
    refine wpAnyH_take (i := 2) (v := ?_) rfl (by kernel_rfl) (by kernel_rfl) (by kernel_rfl) (fun _ _ _ h => h) (Or.inl ⟨by rfl, ?_⟩) (by assumption) ?_
    rotate_left
    · intro w hSw
      (try dsimp only at hSw)
      go_simp
      (try with_reducible rfl)
    (try simp only [List.getElem_toArray, List.getElem_cons_zero, List.getElem_cons_succ, Act.put, List.setIfInBounds_toArray, List.set_cons_zero, List.set_cons_succ])
    refine wpAnyH_ready (rs := [1]) (by kernel_rfl) (by simp) ?_
    refine AllReadyH.cons (o := _) rfl (fun K hK => ?_) AllReadyH.nil
    go_simp
    (go_at_call 8; refine (HIC.out _ (bX.trans (F0.mono bX.size))).mono ?_; rintro e Y1 ⟨rfl, bb⟩; have F1 := chain2 F0 bb)
    dsimp only
    refine hK.out _ _ (HKx.out _ (bX.trans (F1.mono bX.size))) (fun hHeld => ?_)
    clear hK K
    (try simp only [List.getElem_toArray, List.getElem_cons_zero, List.getElem_cons_succ, Act.put, List.setIfInBounds_toArray, List.set_cons_zero, List.set_cons_succ])
    refine wpAnyH_ready (rs := [3]) (by kernel_rfl) (by simp) ?_
    refine AllReadyH.cons (o := _) rfl (fun K hK => ?_) AllReadyH.nil
    go_simp
    (go_at_call 7; refine (HMC.out _ (bX.trans (F1.mono bX.size))).mono ?_; rintro e Y2 ⟨rfl, bb⟩; have F2 := chain2 F1 bb)
    dsimp only
    refine hK.out _ _ (HKx.out _ (bX.trans (F2.mono bX.size))) (fun hHeld => ?_)
    clear hK K
    (try simp only [List.getElem_toArray, List.getElem_cons_zero, List.getElem_cons_succ, Act.put, List.setIfInBounds_toArray, List.set_cons_zero, List.set_cons_succ])
    refine wpAnyH_take (i := 4) (v := ?_) rfl (by kernel_rfl) (by kernel_rfl) (by kernel_rfl) (fun _ _ _ h => h) (Or.inl ⟨by rfl, ?_⟩) (by assumption) ?_
    rotate_left
    · intro w hSw
      (try dsimp only at hSw)
      go_simp
      (try with_reducible rfl)
    (try simp only [List.getElem_toArray, List.getElem_cons_zero, List.getElem_cons_succ, Act.put, List.setIfInBounds_toArray, List.set_cons_zero, List.set_cons_succ])
    refine wpAnyH_done (by kernel_rfl) ?_ _
    refine NoPanic.normal ?_
    have bX := bX.trans (F2.mono bX.size)
    obtain ⟨z0, z1, z2, z3, z4⟩ := HKx.out _ bX
    clear F0 F1 F2 HIC
    generalize Y2 = X at *
    go_wp2_with fail
    refine (HMC.out X bX).mono ?_
    rintro e X2 ⟨rfl, bX2⟩
    have bX := bX.trans (bX2.mono bX.size)
    clear bX2
    generalize X2 = X at *
    obtain ⟨z0, z1, z2, z3, z4⟩ := HKx.out _ bX
    by_cases he : er = 0
    case neg =>
      have he' : (er == 0) = false := by simpa using he
      have he'' : (er != 0) = true := by simpa using he
      have BF := HWw.out _ bX
      go_wp2_with fail
      go_ret
      exact ⟨rfl, BF⟩
    have ok := HOK.out he
    subst he
    have hz := HGI.out ok
    have HFIT0 := hid (HFT.out ok)
    obtain ⟨n, rfl⟩ : ∃ n : Nat, Z = n := ⟨Z.toNat, by omega⟩
    have HFIT := hid (show Fit S n from HFIT0.out)
    have HVY := hid (HV1.out (by first | rfl | trivial))
    have HEX := hid (HEX0.out ok n rfl HVY.out X (HWw.out X bX))
    have HME := hid (HME0.out ok n rfl HVY.out)
    have HIS := hid (HIS0.out ok n rfl)
    have HMS := hid (HMS0.out ok n rfl)
    have HWI := hid (HWI0.out ok HVY.out)
    have HWM := hid (HWM0.out ok HVY.out)
    clear HOK HGI HFT HEX0 HME0 HIS0 HMS0 HWI0 HWM0 HV1 HMC ok HFIT0 HVY
    go_wp2_with fail
    refine HEX.out.mono ?_
    rintro e V1 ⟨hr1, bV1⟩
    have bV := bX.trans (bV1.mono bX.size)
    obtain ⟨z0, z1, z2, z3, z4⟩ := HKx.out _ bV
    have HME := hid (HME.out V1 (HWw.out V1 bV))
    obtain ⟨av, L, ee, rfl, hav, hnx⟩ := hr1.some
    have HAV := hid hav
    have HNX := hid hnx
    clear HEX bV1 hr1 hav hnx
    go_wp2_with fail
    refine HME.out.mono ?_
    rintro e V2 ⟨hr2, bV2⟩
    obtain ⟨bv, rfl, hbv⟩ := HNX.out _ _ _ hr2
    have HAV := hid (HAV.out.below bV2)
    have HBV := hid hbv
    have HSA := hid (fun (Y : World) (b : Below V2.heap.size V2 Y) => same14_true Y av bv L (HAV.out.below b) (HBV.out.below b))
    have bV := bV.trans (bV2.mono bV.size)
    obtain ⟨z0, z1, z2, z3, z4⟩ := HKx.out _ bV
    clear hr2 hbv bV2 HME HNX
    go_wp2_with fail
    have F0 : Below V2.heap.size V2 V2.drew := (Below.refl _ _).drew
    refine wp_region_noPanic ?_
    refine wp_region_held_drew (S := fun Y => Y.cell? ⟨gb, 0, none⟩ = some (.int .i64 (n : Int)) ∧ Y.cell? ⟨gb, 1, none⟩ = some (.int .i64 H) ∧ Y.cell? ⟨gb, 2, none⟩ = some (.slice la S.length lc) ∧ Y.cell? ⟨gb, 3, none⟩ = some (.int .i64 lo) ∧ Y.cell? ⟨gb, 4, none⟩ = some (.int .i64 hi)) (by kernel_rfl) (HKx.out _ (bV.trans (F0.mono bV.size))) (fun hHeld => ?_)
    refine wpAnyH_take (i := 0) (v := ?_) rfl (by kernel_rfl) (by kernel_rfl) (by kernel_rfl) (fun _ _ _ h => h) (Or.inl ⟨by rfl, ?_⟩) (by assumption) ?_
    rotate_left
    · intro w hSw
      (try dsimp only at hSw)
      go_simp
      (try with_reducible rfl)
    (try simp only [List.getElem_toArray, List.getElem_cons_zero, List.getElem_cons_succ, Act.put, List.setIfInBounds_toArray, List.set_cons_zero, List.set_cons_succ])
    refine wpAnyH_take (i := 1) (v := ?_) rfl (by kernel_rfl) (by kernel_rfl) (by kernel_rfl) (fun _ _ _ h => h) (Or.inl ⟨by rfl, ?_⟩) (by assumption) ?_
    rotate_left
    · intro w hSw
      (try dsimp only at hSw)
      go_simp
      (try with_reducible rfl)
    (try simp only [List.getElem_toArray, List.getElem_cons_zero, List.getElem_cons_succ, Act.put, List.setIfInBounds_toArray, List.set_cons_zero, List.set_cons_succ])
    refine wpAnyH_take (i := 2) (v := ?_) rfl (by kernel_rfl) (by kernel_rfl) (by kernel_rfl) (fun _ _ _ h => h) (Or.inl ⟨by rfl, ?_⟩) (by assumption) ?_
    rotate_left
    · intro w hSw
      (try dsimp only at hSw)
      go_simp
      (try with_reducible rfl)
    (try simp only [List.getElem_toArray, List.getElem_cons_zero, List.getElem_cons_succ, Act.put, List.setIfInBounds_toArray, List.set_cons_zero, List.set_cons_succ])
    refine wpAnyH_take (i := 3) (v := ?_) rfl (by kernel_rfl) (by kernel_rfl) (by kernel_rfl) (fun _ _ _ h => h) (Or.inl ⟨by rfl, ?_⟩) (by assumption) ?_
    rotate_left
    · intro w hSw
      (try dsimp only at hSw)
      go_simp
      (try with_reducible rfl)
    (try simp only [List.getElem_toArray, List.getElem_cons_zero, List.getElem_cons_succ, Act.put, List.setIfInBounds_toArray, List.set_cons_zero, List.set_cons_succ])
    refine wpAnyH_take (i := 4) (v := ?_) rfl (by kernel_rfl) (by kernel_rfl) (by kernel_rfl) (fun _ _ _ h => h) (Or.inl ⟨by rfl, ?_⟩) (by assumption) ?_
    rotate_left
    · intro w hSw
      (try dsimp only at hSw)
      go_simp
      (try with_reducible rfl)
    (try simp only [List.getElem_toArray, List.getElem_cons_zero, List.getElem_cons_succ, Act.put, List.setIfInBounds_toArray, List.set_cons_zero, List.set_cons_succ])
    refine wpAnyH_take (i := 5) (v := ?_) rfl (by kernel_rfl) (by kernel_rfl) (by kernel_rfl) (fun _ _ _ h => h) (Or.inl ⟨by rfl, ?_⟩) (by assumption) ?_
    rotate_left
    · intro w hSw
      (try dsimp only at hSw)
      go_simp
      (try with_reducible rfl)
    (try simp only [List.getElem_toArray, List.getElem_cons_zero, List.getElem_cons_succ, Act.put, List.setIfInBounds_toArray, List.set_cons_zero, List.set_cons_succ])
    refine wpAnyH_ready (rs := [6]) (by kernel_rfl) (by simp) ?_
    refine AllReadyH.cons (o := _) rfl (fun K hK => ?_) AllReadyH.nil
    go_simp
    (go_at_call 14; refine (HSA.out _ F0).mono ?_; rintro e Y1 ⟨rfl, bb⟩; have F1 := chain2 F0 bb)
    dsimp only
    refine hK.out _ _ (HKx.out _ (bV.trans (F1.mono bV.size))) (fun hHeld => ?_)
    clear hK K
    (try simp only [List.getElem_toArray, List.getElem_cons_zero, List.getElem_cons_succ, Act.put, List.setIfInBounds_toArray, List.set_cons_zero, List.set_cons_succ])
    refine wpAnyH_take (i := 7) (v := ?_) rfl (by kernel_rfl) (by kernel_rfl) (by kernel_rfl) (fun _ _ _ h => h) (Or.inl ⟨by rfl, ?_⟩) (by assumption) ?_
    rotate_left
    · intro w hSw
      (try dsimp only at hSw)
      go_simp
      (try with_reducible rfl)
    (try simp only [List.getElem_toArray, List.getElem_cons_zero, List.getElem_cons_succ, Act.put, List.setIfInBounds_toArray, List.set_cons_zero, List.set_cons_succ])
    refine wpAnyH_take (i := 8) (v := ?_) rfl (by kernel_rfl) (by kernel_rfl) (by kernel_rfl) (fun _ _ _ h => h) (Or.inl ⟨by rfl, ?_⟩) (by assumption) ?_
    rotate_left
    · intro w hSw
      (try dsimp only at hSw)
      go_simp
      (try with_reducible rfl)
    (try simp only [List.getElem_toArray, List.getElem_cons_zero, List.getElem_cons_succ, Act.put, List.setIfInBounds_toArray, List.set_cons_zero, List.set_cons_succ])
    refine wpAnyH_take (i := 9) (v := ?_) rfl (by kernel_rfl) (by kernel_rfl) (by kernel_rfl) (fun _ _ _ h => h) (Or.inl ⟨by rfl, ?_⟩) (by assumption) ?_
    rotate_left
    · intro w hSw
      (try dsimp only at hSw)
      go_simp
      (try with_reducible rfl)
    (try simp only [List.getElem_toArray, List.getElem_cons_zero, List.getElem_cons_succ, Act.put, List.setIfInBounds_toArray, List.set_cons_zero, List.set_cons_succ])
    refine wpAnyH_take (i := 10) (v := ?_) rfl (by kernel_rfl) (by kernel_rfl) (by kernel_rfl) (fun _ _ _ h => h) (Or.inl ⟨by rfl, ?_⟩) (by assumption) ?_
    rotate_left
    · intro w hSw
      (try dsimp only at hSw)
      go_simp
      (try with_reducible rfl)
    (try simp only [List.getElem_toArray, List.getElem_cons_zero, List.getElem_cons_succ, Act.put, List.setIfInBounds_toArray, List.set_cons_zero, List.set_cons_succ])
    refine wpAnyH_take (i := 11) (v := ?_) rfl (by kernel_rfl) (by kernel_rfl) (by kernel_rfl) (fun _ _ _ h => h) (Or.inl ⟨by rfl, ?_⟩) (by assumption) ?_
    rotate_left
    · intro w hSw
      (try dsimp only at hSw)
      go_simp
      (try with_reducible rfl)
    (try simp only [List.getElem_toArray, List.getElem_cons_zero, List.getElem_cons_succ, Act.put, List.setIfInBounds_toArray, List.set_cons_zero, List.set_cons_succ])
    refine wpAnyH_take (i := 13) (v := ?_) rfl (by kernel_rfl) (by kernel_rfl) (by kernel_rfl) (fun _ _ _ h => h) (Or.inl ⟨by rfl, ?_⟩) (by assumption) ?_
    rotate_left
    · intro w hSw
      (try dsimp only at hSw)
      go_simp
      (try with_reducible rfl)
    (try simp only [List.getElem_toArray, List.getElem_cons_zero, List.getElem_cons_succ, Act.put, List.setIfInBounds_toArray, List.set_cons_zero, List.set_cons_succ])
    refine wpAnyH_take (i := 14) (v := ?_) rfl (by kernel_rfl) (by kernel_rfl) (by kernel_rfl) (fun _ _ _ h => h) (Or.inl ⟨by rfl, ?_⟩) (by assumption) ?_
    rotate_left
    · intro w hSw
      (try dsimp only at hSw)
      go_simp
      (try with_reducible rfl)
    (try simp only [List.getElem_toArray, List.getElem_cons_zero, List.getElem_cons_succ, Act.put, List.setIfInBounds_toArray, List.set_cons_zero, List.set_cons_succ])
    refine wpAnyH_ready (rs := [12]) (by kernel_rfl) (by simp) ?_
    refine AllReadyH.cons (o := _) rfl (fun K hK => ?_) AllReadyH.nil
    go_simp
    (go_at_call 15; refine (HWI.out _ (HWw.out _ (bV.trans (F1.mono bV.size)))).mono ?_; rintro e Y2 ⟨⟨R1, rfl, hR1⟩, bb⟩; have F2 := chain2 F1 bb)
    dsimp only
    refine hK.out _ _ (HKx.out _ (bV.trans (F2.mono bV.size))) (fun hHeld => ?_)
    clear hK K
    (try simp only [List.getElem_toArray, List.getElem_cons_zero, List.getElem_cons_succ, Act.put, List.setIfInBounds_toArray, List.set_cons_zero, List.set_cons_succ])
    refine wpAnyH_ready (rs := [15]) (by kernel_rfl) (by simp) ?_
    refine AllReadyH.cons (o := _) rfl (fun K hK => ?_) AllReadyH.nil
    go_simp
    (go_at_call 16; refine (HWM.out _ (HWw.out _ (bV.trans (F2.mono bV.size)))).mono ?_; rintro e Y3 ⟨⟨R2, rfl, hR2⟩, bb⟩; have F3 := chain2 F2 bb; obtain rfl := WiR.uniq hR1 hR2)
    dsimp only
    refine hK.out _ _ (HKx.out _ (bV.trans (F3.mono bV.size))) (fun hHeld => ?_)
    clear hK K
    (try simp only [List.getElem_toArray, List.getElem_cons_zero, List.getElem_cons_succ, Act.put, List.setIfInBounds_toArray, List.set_cons_zero, List.set_cons_succ])
    refine wpAnyH_take (i := 16) (v := ?_) rfl (by kernel_rfl) (by kernel_rfl) (by kernel_rfl) (fun _ _ _ h => h) (Or.inl ⟨by rfl, ?_⟩) (by assumption) ?_
    rotate_left
    · intro w hSw
      (try dsimp only at hSw)
      go_simp
      (try with_reducible rfl)
    (try simp only [List.getElem_toArray, List.getElem_cons_zero, List.getElem_cons_succ, Act.put, List.setIfInBounds_toArray, List.set_cons_zero, List.set_cons_succ])
    refine wpAnyH_take (i := 17) (v := ?_) rfl (by kernel_rfl) (by kernel_rfl) (by kernel_rfl) (fun _ _ _ h => h) (Or.inl ⟨by rfl, ?_⟩) (by assumption) ?_
    rotate_left
    · intro w hSw
      (try dsimp only at hSw)
      go_simp
      (try with_reducible rfl)
    (try simp only [List.getElem_toArray, List.getElem_cons_zero, List.getElem_cons_succ, Act.put, List.setIfInBounds_toArray, List.set_cons_zero, List.set_cons_succ])
    refine wpAnyH_done (by kernel_rfl) ?_ _
    refine NoPanic.normal ?_
    have bV := bV.trans (F3.mono bV.size)
    obtain ⟨z0, z1, z2, z3, z4⟩ := HKx.out _ bV
    have HIS := hid (HIS.out Y3 (HWw.out Y3 bV))
    clear F0 F1 F2 F3 HSA HAV HBV HWI HWM hR1 hR2
    generalize Y3 = V at *
    go_wp2_with fail
    refine HIS.out.mono ?_
    rintro e V4 ⟨R, v4, rfl, hI, hIs, hC, bV4⟩
    have HI := hid hI
    have HIL := hid hIs
    have HC := hid hC
    have HRL := hid hIs.len
    have bV := bV.trans (bV4.mono bV.size)
    obtain ⟨z0, z1, z2, z3, z4⟩ := HKx.out _ bV
    have HMS := hid (HMS.out V4 (HWw.out V4 bV))
    obtain ⟨ia, ic, hie, il, im⟩ := hI.slice
    rw [List.length_map, HRL.out] at hie il
    subst hie
    clear hI hIs hC bV4 HIS
    go_wp2_with fail
    refine HMS.out.mono ?_
    rintro e V5 ⟨Q, v5, rfl, hJ, hJs, hD, bV5⟩
    obtain rfl := isl_uniq HFIT.out HIL.out HC.out hJs hD
    have HI := hid (HI.out.below bV5)
    have HJ := hid hJ
    have bV := bV.trans (bV5.mono bV.size)
    obtain ⟨ja, jc, hje, jl, jm⟩ := hJ.slice
    rw [List.length_map, HRL.out] at hje jl
    subst hje
    have HBF := hid bV
    clear hJ hJs hD bV5 HMS HC HIL z0 z1 z2 z3 z4 bV
    go_wp2_with fail
    go_loopw [11] (fun iv_ wr => ∃ z : Nat, z ≤ n ∧ iv_ = .int .i64 (z : Int) ∧ Below V5.heap.size V5 wr) (fun i _ => n - (intOf i).toNat)
    case atStart => exact ⟨0, Nat.zero_le _, rfl, Below.refl _ _⟩
    case round =>
    obtain ⟨z, hzn, rfl, bw⟩ := hrel
    by_cases hlz : z < n
    · have hlzI : (z : Int) < (n : Int) := by omega
      have hli : (0 : Int) ≤ (z : Int) ∧ (z : Int) < (n : Int) := by omega
      obtain ⟨b1, o1, c1, e1, _, _, hc1⟩ := ints_at14 (HI.out.below bw) (by rw [HRL.out]; omega)
      obtain ⟨b2, o2, c2, e2, _, _, hc2⟩ := ints_at14 (HJ.out.below bw) (by rw [HRL.out]; omega)
      rw [HRL.out] at e1 e2
      simp only [Value.slice.injEq] at e1 e2
      obtain ⟨rfl, -, rfl⟩ := e1
      obtain ⟨rfl, -, rfl⟩ := e2
      have k1 := hc1 z (by rw [HRL.out]; exact hlz)
      have k2 := hc2 z (by rw [HRL.out]; exact hlz)
      have F0 : Below wr.heap.size wr wr.drew := (Below.refl _ _).drew
      generalize at' R z = rk at *
      have k1d := ikc F0 k1
      have k2d := ikc F0 k2
      have BN := bw.trans (F0.mono bw.size)
      clear hc1 hc2 F0
      go_wp2_with fail
      refine wp_region_noPanic ?_
      refine wp_region_held_drew (S := fun Y => Y.cell? ⟨b1, o1 + z, none⟩ = some (.int .i64 (rk : Int)) ∧ Y.cell? ⟨b2, o2 + z, none⟩ = some (.int .i64 (rk : Int))) (by kernel_rfl) (⟨k1d, k2d⟩) (fun hHeld => ?_)
      refine wpAnyH_take (i := 0) (v := ?_) rfl (by kernel_rfl) (by kernel_rfl) (by kernel_rfl) (fun _ _ _ h => h) (Or.inl ⟨by rfl, ?_⟩) (by assumption) ?_
      rotate_left
      · intro w hSw
        (try dsimp only at hSw)
        go_simp
        (try with_reducible rfl)
      (try simp only [List.getElem_toArray, List.getElem_cons_zero, List.getElem_cons_succ, Act.put, List.setIfInBounds_toArray, List.set_cons_zero, List.set_cons_succ])
      refine wpAnyH_take (i := 1) (v := ?_) rfl (by kernel_rfl) (by kernel_rfl) (by kernel_rfl) (fun _ _ _ h => h) (Or.inl ⟨by rfl, ?_⟩) (by assumption) ?_
      rotate_left
      · intro w hSw
        (try dsimp only at hSw)
        go_simp
        (try with_reducible rfl)
      (try simp only [List.getElem_toArray, List.getElem_cons_zero, List.getElem_cons_succ, Act.put, List.setIfInBounds_toArray, List.set_cons_zero, List.set_cons_succ])
      refine wpAnyH_take (i := 2) (v := ?_) rfl (by kernel_rfl) (by kernel_rfl) (by kernel_rfl) (fun _ _ _ h => h) (Or.inl ⟨by rfl, ?_⟩) (by assumption) ?_
      rotate_left
      · intro w hSw
        (try dsimp only at hSw)
        go_simp
        (try with_reducible rfl)
      (try simp only [List.getElem_toArray, List.getElem_cons_zero, List.getElem_cons_succ, Act.put, List.setIfInBounds_toArray, List.set_cons_zero, List.set_cons_succ])
      refine wpAnyH_take (i := 3) (v := ?_) rfl (by kernel_rfl) (by kernel_rfl) (by kernel_rfl) (fun _ _ _ h => h) (Or.inl ⟨by rfl, ?_⟩) (by assumption) ?_
      rotate_left
      · intro w hSw
        (try dsimp only at hSw)
        go_simp
        (try with_reducible rfl)
      (try simp only [List.getElem_toArray, List.getElem_cons_zero, List.getElem_cons_succ, Act.put, List.setIfInBounds_toArray, List.set_cons_zero, List.set_cons_succ])
      refine wpAnyH_take (i := 4) (v := ?_) rfl (by kernel_rfl) (by kernel_rfl) (by kernel_rfl) (fun _ _ _ h => h) (Or.inl ⟨by rfl, ?_⟩) (by assumption) ?_
      rotate_left
      · intro w hSw
        (try dsimp only at hSw)
        go_simp
        (try with_reducible rfl)
      (try simp only [List.getElem_toArray, List.getElem_cons_zero, List.getElem_cons_succ, Act.put, List.setIfInBounds_toArray, List.set_cons_zero, List.set_cons_succ])
      refine wpAnyH_take (i := 5) (v := ?_) rfl (by kernel_rfl) (by kernel_rfl) (by kernel_rfl) (fun _ _ _ h => h) (Or.inl ⟨by rfl, ?_⟩) (by assumption) ?_
      rotate_left
      · intro w hSw
        (try dsimp only at hSw)
        go_simp
        (try with_reducible rfl)
      (try simp only [List.getElem_toArray, List.getElem_cons_zero, List.getElem_cons_succ, Act.put, List.setIfInBounds_toArray, List.set_cons_zero, List.set_cons_succ])
      refine wpAnyH_take (i := 6) (v := ?_) rfl (by kernel_rfl) (by kernel_rfl) (by kernel_rfl) (fun _ _ _ h => h) (Or.inl ⟨by rfl, ?_⟩) (by assumption) ?_
      rotate_left
      · intro w hSw
        (try dsimp only at hSw)
        go_simp
        (try with_reducible rfl)
      (try simp only [List.getElem_toArray, List.getElem_cons_zero, List.getElem_cons_succ, Act.put, List.setIfInBounds_toArray, List.set_cons_zero, List.set_cons_succ])
      refine wpAnyH_take (i := 7) (v := ?_) rfl (by kernel_rfl) (by kernel_rfl) (by kernel_rfl) (fun _ _ _ h => h) (Or.inl ⟨by rfl, ?_⟩) (by assumption) ?_
      rotate_left
      · intro w hSw
        (try dsimp only at hSw)
        go_simp
        (try with_reducible rfl)
      (try simp only [List.getElem_toArray, List.getElem_cons_zero, List.getElem_cons_succ, Act.put, List.setIfInBounds_toArray, List.set_cons_zero, List.set_cons_succ])
      refine wpAnyH_take (i := 8) (v := ?_) rfl (by kernel_rfl) (by kernel_rfl) (by kernel_rfl) (fun _ _ _ h => h) (Or.inl ⟨by rfl, ?_⟩) (by assumption) ?_
      rotate_left
      · intro w hSw
        (try dsimp only at hSw)
        go_simp
        (try with_reducible rfl)
      (try simp only [List.getElem_toArray, List.getElem_cons_zero, List.getElem_cons_succ, Act.put, List.setIfInBounds_toArray, List.set_cons_zero, List.set_cons_succ])
      refine wpAnyH_done (by kernel_rfl) ?_ _
      refine NoPanic.normal ?_
      clear k1 k2 k1d k2d
      go_wp2_with fail
      go_roundw
      case rel => exact ⟨z + 1, by omega, by go_num, BN⟩
      case measure => simp [intOf]; omega
    · have BF := HWw.out _ (HBF.out.trans (bw.mono HBF.out.size))
      obtain rfl : z = n := by omega
      clear hlz
      go_wp2_with fail
      go_ret
      exact ⟨rfl, BF⟩
end Go.Proofs.YtmoailbilnkfnaaGreatDoor
