/- The document's wal: lay, walked. -/
import Derived.Test.YthcefjkpiaecjaaVLay
namespace Go.Proofs.Ythcefjkpiaecjaa
open Go.RowKit
set_option linter.unusedVariables false
set_option maxRecDepth 100000
set_option linter.unusedSimpArgs false

theorem VAt.drew {w : World} {r m : Nat} {t : ByteArray} {n a : Nat} {er : Int} (h : VAt w r m t n a er) : VAt w.drew r m t n a er := ⟨h.blk⟩
theorem nP_lt {t : ByteArray} {i : Nat} : i < nP t ↔ i * 256 < t.size := by unfold nP; omega
theorem pc_form (t : ByteArray) (i : Nat) : pc t i = t.extract (i * 256) (min t.size ((i + 1) * 256)) := by unfold pc; rw [Nat.mul_comm 256 i, Nat.mul_comm 256 (i + 1)]
set_option maxHeartbeats 8000000 in
theorem vlay_any (w : World) (B r m : Nat) (D : Dsk) (vw vi vc : Value) (cl fk : Int) (keep : Nat) (t0 : ByteArray) (n a0 : Nat) (er : Int) (t : ByteArray) (a f : Nat) (hB : B ≤ m) (ha : a ≤ 1) (hf : f ≤ 1048576) (ht : t.size ≤ 32512) (hn : n < 18446744073709551616) (ho : D.ops + 1000 < 4611686018427387904) (hd : RAt w m D vw vi vc cl fk keep) (hinv : Inv D) (hv : VAt w r m t0 n a0 er) :
    Calls Try.prog 51 #[.pointer (some ⟨r, 0, none⟩), .string t, .int .i64 (a : Int), .int .i64 (f : Int)] w fun e w' => e = .returned (.int .i64 (D.lay (vps a t f) ((comV n a t).num % 2) (comT (comV n a t))).2) ∧ RNext B m vw vi vc (D.lay (vps a t f) ((comV n a t).num % 2) (comT (comV n a t))).1 w w' := by
  have hBw : B ≤ w.heap.size := by have := lt_of_block hd.blk; omega
  have hnp : nP t ≤ 127 := by unfold nP; omega
  have HLAY := hid (show ∀ xs i s, D.lay xs i s = if (wrs D xs).2 ≠ 0 then wrs D xs else if (wrs D xs).1.sync.2 ≠ 0 then (wrs D xs).1.sync else if ((wrs D xs).1.sync.1.write i s).2 ≠ 0 then (wrs D xs).1.sync.1.write i s else ((wrs D xs).1.sync.1.write i s).1.sync from fun _ _ _ => rfl)
  have HL := hid (vps_len a t f)
  have HTK := hid (vps_take a t f)
  have HI := hid hinv
  have HGD := hid hd.good
  have HV := hid hv
  have HD := hid hd
  obtain ⟨xs, hxs⟩ : ∃ xs, xs = vps a t f := ⟨_, rfl⟩
  rw [← hxs] at HL HTK ⊢
  clear hxs
  obtain ⟨LY, hLY⟩ : ∃ LY, LY = D.lay xs ((comV n a t).num % 2) (comT (comV n a t)) := ⟨_, rfl⟩
  rw [← hLY]
  have HLY := hid hLY
  clear hLY hinv
  go_enter Try.func51, Try.ntmps51
  go_wp2
  go_loopw [9] (fun i wr => ∃ (k : Nat) (Dp : Dsk), k ≤ xs.length ∧ i = .int .i64 ((f + k : Nat) : Int) ∧ Hid (wrs D (xs.take k) = (Dp, 0)) ∧ RNext B m vw vi vc Dp w wr) (fun i _ => 2000000 - (intOf i).toNat)
  case atStart => exact ⟨0, D, Nat.zero_le _, rfl, rfl, RNext.refl hd⟩
  case round =>
    obtain ⟨k, Dp, hk, rfl, HW, hN⟩ := hrel
    clear hd hv
    have hvr := HV.out.rnext HD.out hN
    have hops : Dp.ops + 800 < 4611686018427387904 := by
      have h1 := wrs_ops (xs.take k) D
      rw [HW.out] at h1
      have h2 := HL.out
      simp only [List.length_take] at h1
      omega
    have HIp := hid (show Inv Dp ∧ Dp.Good by have := Inv.wrs (xs.take k) HI.out HGD.out; rw [HW.out] at this; exact this)
    have HN := hid hN
    obtain ⟨vc1, cl1, fk1, kp1, hr1, ho1, hq1⟩ := hN
    by_cases hlt : k < xs.length
    · have hk2 : f + k < nP t := by have := HL.out; omega
      have hk3 : ((f + k : Nat) : Int) * 256 < (t.size : Int) := by have := nP_lt.1 hk2; omega
      obtain ⟨i, hi⟩ : ∃ i, i = f + k := ⟨_, rfl⟩
      have HT1 := hid (HTK.out k (by have := HL.out; omega))
      rw [← hi] at hk2 hk3 HT1 ⊢
      have HIF := hid hi
      obtain ⟨q, hq, hq2⟩ : ∃ q : Nat, (2 : Int) + 127 * (a : Int) + (i : Int) = (q : Int) ∧ q = 2 + a * 127 + i := ⟨_, by omega, rfl⟩
      obtain ⟨j, hj, hj2⟩ : ∃ j : Nat, (i : Int) * 256 = (j : Int) ∧ j = i * 256 := ⟨_, by omega, rfl⟩
      obtain ⟨g, hg, hg2⟩ : ∃ g : Nat, ((i : Int) + 1) * 256 = (g : Int) ∧ g = (i + 1) * 256 := ⟨_, by omega, rfl⟩
      obtain ⟨e1, he1, he3, he9⟩ : ∃ e1 : Nat, e1 = min t.size g ∧ (if (g : Int) < (t.size : Int) then (g : Int) else (t.size : Int)) = (e1 : Int) ∧ min (t.size : Int) (g : Int) = (e1 : Int) := ⟨_, rfl, by split <;> omega, by omega⟩
      have he2 : j ≤ e1 ∧ e1 ≤ t.size := by omega
      obtain ⟨he4, he5⟩ := he2
      have HPC := hid (show pc t i = t.extract j e1 by rw [pc_form, he1, hj2, hg2])
      have HQ := hid hq2
      have hi127 : i < 127 := by omega
      rw [hj] at hk3
      have he6 : (j : Int) ≤ (e1 : Int) := by omega
      have he7 : (e1 : Int) ≤ (t.size : Int) := by omega
      have he8 : (0 : Int) ≤ (j : Int) := by omega
      clear hi he1 hj2 hq2 hg2
      have hwr := ewrite_any wr.drew B m Dp vw vi vc1 cl1 fk1 kp1 (q : Int) (t.extract j e1) (by omega) hB hr1.drew HIp.out.1
      obtain ⟨c0, c1, c2, c3, c4, cf⟩ := hvr.cells
      have hS1 := hvr.drew.cells.1
      have hw1 : IntKind.i64.wrap ((i : Int) + 1) = (i : Int) + 1 := by rw [IntKind.wrap_i64]; omega
      have hw4 : IntKind.i64.wrap (127 * (a : Int)) = 127 * (a : Int) := by rw [IntKind.wrap_i64]; omega
      have hw5 : IntKind.i64.wrap (2 + 127 * (a : Int)) = 2 + 127 * (a : Int) := by rw [IntKind.wrap_i64]; omega
      have hwg : IntKind.i64.wrap (g : Int) = (g : Int) := by rw [IntKind.wrap_i64]; omega
      have hwj : IntKind.i64.wrap (j : Int) = (j : Int) := by rw [IntKind.wrap_i64]; omega
      have hwq : IntKind.i64.wrap (q : Int) = (q : Int) := by rw [IntKind.wrap_i64]; omega
      clear he3
      go_wp2_with fail
      go_region_held3 (fun X => X.cell? ⟨r, 0, none⟩ = some (.pointer (some ⟨m, 0, none⟩))) (first | exact hS2 | exact hS1) ((go_at_call 20; refine hwr.mono ?_; rintro e w2 ⟨rfl, hN2⟩; have hS2 := (VAt.rnext hvr.drew hr1.drew hN2).cells.1))
      have hN3 := RNext.step ho1 hq1.drew hN2
      have HW1 := hid (show wrs D (xs.take (k + 1)) = Dp.write (q : Int) (t.extract j e1) by
        rw [HT1.out, wrs_one D Dp _ _ HW.out]
        show Dp.write ((2 + a * 127 + i : Nat) : Int) (pc t i) = _
        rw [← HQ.out, HPC.out])
      clear hS2 hN2 hwr
      obtain ⟨R, hR⟩ : ∃ R, R = Dp.write (q : Int) (t.extract j e1) := ⟨_, rfl⟩
      rw [← hR] at hN3 HW1 ⊢
      clear hR
      obtain ⟨D2, e2⟩ := R
      simp only at hN3 ⊢
      by_cases h0 : e2 = 0
      · subst h0
        have hik := HIF.out
        go_wp2
        go_roundw
        case rel => exact ⟨k + 1, D2, by omega, by first | go_num | (rw [hik]; go_num), HW1, hN3⟩
        case measure => simp [intOf]; omega
      · have HE := hid (show LY = (D2, e2) by
          rw [HLY.out, HLAY.out, wrs_stop D D2 e2 _ xs HW1.out h0 (List.take_prefix _ _), if_pos h0])
        go_wp2
        go_ret
        rw [HE.out]
        exact ⟨rfl, hN3⟩
    · have hkx : k = xs.length := by omega
      have HW2 := hid (show wrs D xs = (Dp, 0) by have := HW.out; rwa [hkx, List.take_length] at this)
      have hk3 : ¬ ((f + k : Nat) : Int) * 256 < (t.size : Int) := by
        have h1 := HL.out
        have h2 : ¬ f + k < nP t := by omega
        rw [nP_lt] at h2
        omega
      obtain ⟨i, hi⟩ : ∃ i, i = f + k := ⟨_, rfl⟩
      rw [← hi] at hk3 ⊢
      have hib : i ≤ 2000000 := by have := HL.out; omega
      clear hi hkx hlt
      have hsy := esync_any wr B m Dp vw vi vc1 cl1 fk1 kp1 (by omega) hB hr1 HIp.out.1
      obtain ⟨c0, c1, c2, c3, c4, cf⟩ := hvr.cells
      go_wp2_with fail
      refine hsy.mono ?_
      rintro e w2 ⟨rfl, hN2⟩
      have hN3 := RNext.step ho1 hq1 hN2
      have hv3 := VAt.rnext hvr hr1 hN2
      clear hsy hN2 c0 c1 c2 c3 c4 cf
      have HIs := hid (show Inv Dp.sync.1 ∧ Dp.sync.1.Good from ⟨HIp.out.1.sync, HIp.out.2.sync⟩)
      have hops2 : Dp.sync.1.ops + 700 < 4611686018427387904 := by have := Dp.sync_ops; omega
      have HLY2 := hid (show LY = if Dp.sync.2 ≠ 0 then Dp.sync else if (Dp.sync.1.write ((comV n a t).num % 2 : Nat) (comT (comV n a t))).2 ≠ 0 then Dp.sync.1.write ((comV n a t).num % 2 : Nat) (comT (comV n a t)) else (Dp.sync.1.write ((comV n a t).num % 2 : Nat) (comT (comV n a t))).1.sync by
        rw [HLY.out, HLAY.out, HW2.out, if_neg (by simp)])
      generalize Dp.sync = R at *
      obtain ⟨D2, e2⟩ := R
      simp only at hN3 HIs hops2 HLY2 ⊢
      by_cases h0 : e2 = 0
      · subst h0
        have HLY3 := hid (HLY2.out.trans (if_neg (by simp)))
        clear HLY2 HLY HLAY HW HW2 HL HTK HI HGD hr1 ho1 hq1 hvr HIp HN
        obtain ⟨N1, hN1, hN1b, hN1c⟩ : ∃ N1 : Nat, N1 = (n + 1) % 18446744073709551616 ∧ IntKind.u64.wrap ((n : Int) + 1) = (N1 : Int) ∧ N1 < 18446744073709551616 := ⟨_, rfl, by simp only [IntKind.wrap, IntKind.signed, IntKind.bits]; simp, Nat.mod_lt _ (by omega)⟩
        obtain ⟨S, hS1⟩ : ∃ S : Nat, sumOf t = (S : Int) := ⟨(sumOf t).toNat, by have := sum_lt t; omega⟩
        have hSb : S < 4294967296 := by have := sum_lt t; omega
        have hsm := fun v => vsum_any t v (by omega)
        rw [hS1] at hsm
        have HCT := hid (comV_text n a t)
        rw [hS1, ← hN1] at HCT
        simp only [Int.toNat_natCast] at HCT
        have hnum2 : (comV n a t).num % 2 = N1 % 2 := by rw [hN1]; rfl
        have HCM := hid (show comT (comV n a t) = ⟨(comL (comV n a t)).toArray⟩ ++ ⟨(beL (sumOf ⟨(comL (comV n a t)).toArray⟩).toNat 4).toArray⟩ by unfold comT; rw [arr_app])
        rw [hnum2] at HLY3
        generalize comT (comV n a t) = CT at *
        generalize (⟨(comL (comV n a t)).toArray⟩ : ByteArray) = C0 at *
        have z1 : (⟨(beL N1 8).toArray⟩ : ByteArray).size = 8 := by rw [size_list, beL_len]
        have z2 : (⟨(beL a 1).toArray⟩ : ByteArray).size = 1 := by rw [size_list, beL_len]
        have z3 : (⟨(beL t.size 4).toArray⟩ : ByteArray).size = 4 := by rw [size_list, beL_len]
        have z4 : (⟨(beL S 4).toArray⟩ : ByteArray).size = 4 := by rw [size_list, beL_len]
        have wd1 := fun v => vwide_any v N1 8 hN1c (by omega)
        have wd2 := fun v => vwide_any v a 1 (by omega) (by omega)
        have wd3 := fun v => vwide_any v t.size 4 (by omega) (by omega)
        have wd4 := fun v => vwide_any v S 4 (by omega) (by omega)
        generalize (⟨(beL N1 8).toArray⟩ : ByteArray) = A1 at *
        generalize (⟨(beL a 1).toArray⟩ : ByteArray) = A2 at *
        generalize (⟨(beL t.size 4).toArray⟩ : ByteArray) = A3 at *
        generalize (⟨(beL S 4).toArray⟩ : ByteArray) = A4 at *
        have y1 : (A1 ++ A2).size = 9 := by rw [ByteArray.size_append]; omega
        have y2 : (A1 ++ A2 ++ A3).size = 13 := by rw [ByteArray.size_append]; omega
        have y3 : (A1 ++ A2 ++ A3 ++ A4).size = 17 := by rw [ByteArray.size_append]; omega
        have p1 : ∀ v, (Op.stringOp .add A1 A2).run Try.prog v = .ok (.string (A1 ++ A2)) v := fun v => run_string_add_sum v _ _ (by omega)
        have p2 : ∀ v, (Op.stringOp .add (A1 ++ A2) A3).run Try.prog v = .ok (.string (A1 ++ A2 ++ A3)) v := fun v => run_string_add_sum v _ _ (by omega)
        have p3 : ∀ v, (Op.stringOp .add (A1 ++ A2 ++ A3) A4).run Try.prog v = .ok (.string (A1 ++ A2 ++ A3 ++ A4)) v := fun v => run_string_add_sum v _ _ (by omega)
        have hC0 : A1 ++ A2 ++ A3 ++ A4 = C0 := HCT.out.symm
        rw [hC0] at p3 y3
        clear HCT
        generalize A1 ++ A2 ++ A3 = A123 at *
        generalize A1 ++ A2 = A12 at *
        have hcs : IntKind.u64.wrap (S : Int) = (S : Int) := by simp only [IntKind.wrap, IntKind.signed, IntKind.bits]; simp; omega
        have hca : IntKind.u64.wrap (a : Int) = (a : Int) := by simp only [IntKind.wrap, IntKind.signed, IntKind.bits]; simp; omega
        have hct : IntKind.u64.wrap (t.size : Int) = (t.size : Int) := by simp only [IntKind.wrap, IntKind.signed, IntKind.bits]; simp; omega
        have HN3 := hid hN3
        obtain ⟨vc2, cl2, fk2, kp2, hr2, ho2, hq2⟩ := hN3
        obtain ⟨c0, c1, c2, c3, c4, cf⟩ := hv3.cells
        have HN1 := hid hN1
        clear hN1
        go_wp2_with fail
        refine (wd1 w2).mono ?_
        rintro e w3 ⟨rfl, b3⟩
        go_wp2_with fail
        refine (wd2 w3).mono ?_
        rintro e w4 ⟨rfl, b4'⟩
        have b4 := vchain b3 b4'
        go_wp2_with fail
        refine (wd3 w4).mono ?_
        rintro e w5 ⟨rfl, b5'⟩
        have b5 := vchain b4 b5'
        go_wp2_with fail
        refine (hsm w5).mono ?_
        rintro e w5 ⟨rfl, rfl⟩
        go_wp2_with fail
        refine (wd4 w5).mono ?_
        rintro e w6 ⟨rfl, b6'⟩
        have b6 := vchain b5 b6'
        clear b3 b4' b4 b5' b5 b6' wd1 wd2 wd3 wd4 hsm c0 c1 c2 c3 c4 cf
        have hv6 := hv3.below b6
        have hr6 := hr2.below b6
        have hq6 : Kf (Sr m vw vi vc) B w w6 := ⟨hq2.bel.trans (b6.mono (by have := hq2.bel.size; omega)), fun i hi hn => (b6.block i (by have := hq2.bel.size; omega)).trans (hq2.oth i hi hn)⟩
        clear hv3 hr2 hq2 p1 p2 p3 b6
        obtain ⟨S2, hS2⟩ : ∃ S2 : Nat, sumOf C0 = (S2 : Int) := ⟨(sumOf C0).toNat, by have := sum_lt C0; omega⟩
        have hS2b : S2 < 4294967296 := by have := sum_lt C0; omega
        have hsm := fun v => vsum_any C0 v (by omega)
        rw [hS2] at hsm HCM
        simp only [Int.toNat_natCast] at HCM
        have wd := fun v => vwide_any v S2 4 (by omega) (by omega)
        have zz : (⟨(beL S2 4).toArray⟩ : ByteArray).size = 4 := by rw [size_list, beL_len]
        generalize (⟨(beL S2 4).toArray⟩ : ByteArray) = A5 at *
        have p4 : ∀ v, (Op.stringOp .add C0 A5).run Try.prog v = .ok (.string (C0 ++ A5)) v := fun v => run_string_add_sum v _ _ (by omega)
        rw [← HCM.out] at p4
        clear HCM hS2
        have hcs2 : IntKind.u64.wrap (S2 : Int) = (S2 : Int) := by simp only [IntKind.wrap, IntKind.signed, IntKind.bits]; simp; omega
        obtain ⟨pz, hpz, hpz2, hpz3⟩ : ∃ pz : Nat, pz = N1 % 2 ∧ Int.tmod (N1 : Int) 2 = (pz : Int) ∧ pz < 2 := ⟨_, rfl, rfl, by omega⟩
        rw [← hpz] at HLY3
        clear hpz
        have hcp : IntKind.i64.wrap (pz : Int) = (pz : Int) := by rw [IntKind.wrap_i64]; omega
        have HWR := hid (fun v (h : Below w6.heap.size w6 v) => ewrite_any v B m D2 vw vi vc2 cl2 fk2 kp2 (pz : Int) CT (by omega) hB (hr6.below h) HIs.out.1)
        have HS6 := hid (show ∀ X, Below w6.heap.size w6 X → X.cell? ⟨r, 0, none⟩ = some (.pointer (some ⟨m, 0, none⟩)) ∧ X.cell? ⟨r, 2, none⟩ = some (.int .u64 (n : Int)) from fun X h => ⟨(hv6.below h).cells.1, (hv6.below h).cells.2.2.1⟩)
        have C1 : Below w6.heap.size w6 w6.drew := (Below.refl _ _).drew
        have HSW := hid (show ∀ X Y E, Below w6.heap.size w6 X → RNext B m vw vi vc2 E X Y → (Y.cell? ⟨r, 0, none⟩ = some (.pointer (some ⟨m, 0, none⟩)) ∧ Y.cell? ⟨r, 2, none⟩ = some (.int .u64 (n : Int))) ∧ VAt Y r m t0 n a0 er ∧ RNext B m vw vi vc E w Y from fun X Y E h k => by
          have hv := VAt.rnext (hv6.below h) (hr6.below h) k
          have hs6 := hq6.bel.size
          exact ⟨⟨hv.cells.1, hv.cells.2.2.1⟩, hv, RNext.step ho2 ⟨hq6.bel.trans (h.mono (by omega)), fun i hi hn => (h.block i (by omega)).trans (hq6.oth i hi hn)⟩ k⟩)
        clear hv6 hr6 hq6
        go_wp2_with fail
        go_region_held3 (fun X => X.cell? ⟨r, 0, none⟩ = some (.pointer (some ⟨m, 0, none⟩)) ∧ X.cell? ⟨r, 2, none⟩ = some (.int .u64 (n : Int))) (first | exact hSw | exact HS6.out _ C2 | exact HS6.out _ C1) (first
          | (go_at_call 20; have gk := C2; refine (HWR.out _ C2).mono ?_; rintro e X3 ⟨rfl, hN4⟩; have hsw := HSW.out _ _ _ C2 hN4; have hSw := hsw.1)
          | (go_at_call 67; refine (wd _).mono ?_; rintro e X2 ⟨rfl, hb2⟩; have C2 := C1.trans (hb2.mono C1.size))
          | (go_at_call 47; refine (hsm _).mono ?_; rintro e X1 ⟨rfl, rfl⟩))
        have hv7 := hsw.2.1
        have hN7 := hsw.2.2
        have HI7 := hid (HIs.out.1.write HIs.out.2 (pz : Int) CT)
        have hops7 : (D2.write (pz : Int) CT).1.ops + 600 < 4611686018427387904 := by have := D2.write_ops (pz : Int) CT; omega
        clear hsw hSw hN4 gk C1 C2 hb2 HSW HS6 HWR hsm wd p4
        generalize D2.write (pz : Int) CT = R at *
        obtain ⟨D3, e3⟩ := R
        simp only at hN7 HI7 hops7 HLY3 ⊢
        by_cases h3 : e3 = 0
        · subst h3
          have HLY4 := hid (HLY3.out.trans (if_neg (by simp)))
          obtain ⟨vc7, cl7, fk7, kp7, hr7, ho7, hq7⟩ := hN7
          have hsy := esync_any X3 B m D3 vw vi vc7 cl7 fk7 kp7 (by omega) hB hr7 HI7.out
          obtain ⟨c0, c1, c2, c3, c4, cf⟩ := hv7.cells
          go_wp2_with fail
          refine hsy.mono ?_
          rintro e w8 ⟨rfl, hN8⟩
          have hN9 := RNext.step ho7 hq7 hN8
          go_wp2
          go_ret
          rw [HLY4.out]
          exact ⟨rfl, hN9⟩
        · have HE := hid (show LY = (D3, e3) by rw [HLY3.out, if_pos h3])
          go_wp2
          go_ret
          rw [HE.out]
          exact ⟨rfl, hN7⟩
      · have HE := hid (show LY = (D2, e2) by rw [HLY2.out, if_pos h0])
        go_wp2
        go_ret
        rw [HE.out]
        exact ⟨rfl, hN3⟩
end Go.Proofs.Ythcefjkpiaecjaa
