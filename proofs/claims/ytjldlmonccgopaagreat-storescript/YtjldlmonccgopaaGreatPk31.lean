/- VLay, VLay2, VBecome, VAppend, VCalls, FPair. -/
import Derived.Test.YtjldlmonccgopaaGreatPk27
import Derived.Test.YtjldlmonccgopaaGreatPk28
import Derived.Test.YtjldlmonccgopaaGreatPk29
import Derived.Test.YtjldlmonccgopaaGreatZETwo
/- The document's wal: lay. -/
namespace Go.Proofs.YtjldlmonccgopaaGreat
open Go.RowKit
set_option linter.unusedVariables false
set_option maxRecDepth 100000
set_option linter.unusedSimpArgs false

/-- What is written of a text from a sector on. -/
def vps (a : Nat) (t : ByteArray) (f : Nat) : List (Nat × ByteArray) := (List.range (nP t - f)).map fun j => (2 + a * 127 + (f + j), pc t (f + j))
theorem vps_len (a : Nat) (t : ByteArray) (f : Nat) : (vps a t f).length = nP t - f := by simp [vps]
theorem vps_take (a : Nat) (t : ByteArray) (f k : Nat) (h : k < nP t - f) : (vps a t f).take (k + 1) = (vps a t f).take k ++ [(2 + a * 127 + (f + k), pc t (f + k))] := by
  rw [List.take_add_one]
  congr 1
  simp [vps, h]
theorem RNext.trans {B b : Nat} {vw vi vc : Value} {D1 D2 : Dsk} {w w1 w2 : World} (h : RNext B b vw vi vc D1 w w1) (k : ∀ vc1 cl fk keep, RAt w1 b D1 vw vi vc1 cl fk keep → RNext B b vw vi vc1 D2 w1 w2) : RNext B b vw vi vc D2 w w2 := by
  obtain ⟨v1, c1, f1, k1, r1, o1, q1⟩ := h
  obtain ⟨v2, c2, f2, k2, r2, o2, q2⟩ := k v1 c1 f1 k1 r1
  have hs := q1.bel.size
  refine ⟨v2, c2, f2, k2, r2, fun g hg => ?_, q1.bel.trans q2.bel, fun i hi hn => (q2.oth i (by omega) fun e => ?_).trans (q1.oth i hi hn)⟩
  · rcases o2 g hg with e | e
    · exact o1 g e
    · right; omega
  · rcases e with e | e | e | e
    · exact hn (Or.inl e)
    · exact hn (Or.inr (Or.inl e))
    · exact hn (Or.inr (Or.inr (Or.inl e)))
    · rcases o1 i e with e | e
      · exact hn (Or.inr (Or.inr (Or.inr e)))
      · omega
theorem RNext.step {B b : Nat} {vw vi vc vc1 : Value} {D2 : Dsk} {w w1 w2 : World} (o1 : ∀ g, vc1.ownBlock = some g → vc.ownBlock = some g ∨ w.heap.size ≤ g) (q1 : Kf (Sr b vw vi vc) B w w1) (k : RNext B b vw vi vc1 D2 w1 w2) : RNext B b vw vi vc D2 w w2 := by
  obtain ⟨v2, c2, f2, k2, r2, o2, q2⟩ := k
  have hs := q1.bel.size
  refine ⟨v2, c2, f2, k2, r2, fun g hg => ?_, q1.bel.trans q2.bel, fun i hi hn => (q2.oth i (by omega) fun e => ?_).trans (q1.oth i hi hn)⟩
  · rcases o2 g hg with e | e
    · exact o1 g e
    · right; omega
  · rcases e with e | e | e | e
    · exact hn (Or.inl e)
    · exact hn (Or.inr (Or.inl e))
    · exact hn (Or.inr (Or.inr (Or.inl e)))
    · rcases o1 i e with e | e
      · exact hn (Or.inr (Or.inr (Or.inr e)))
      · omega
theorem RNext.more {B b : Nat} {vw vi vc : Value} {D1 : Dsk} {w w1 w2 : World} (h : RNext B b vw vi vc D1 w w1) (k : Below w1.heap.size w1 w2) (hB : B ≤ w.heap.size) : RNext B b vw vi vc D1 w w2 := by
  obtain ⟨v1, c1, f1, k1, r1, o1, q1⟩ := h
  have hs := q1.bel.size
  exact ⟨v1, c1, f1, k1, r1.below k, o1, q1.bel.trans (k.mono (by omega)), fun i hi hn => (k.block i (by omega)).trans (q1.oth i hi hn)⟩
theorem RNext.up {B b : Nat} {vw vi vc : Value} {D1 : Dsk} {w w1 w2 : World} (h : RNext B b vw vi vc D1 w1 w2) (k : Below w.heap.size w w1) (hB : B ≤ w.heap.size) : RNext B b vw vi vc D1 w w2 := by
  obtain ⟨v1, c1, f1, k1, r1, o1, q1⟩ := h
  have hs := k.size
  exact ⟨v1, c1, f1, k1, r1, fun g hg => (o1 g hg).imp id (fun e => by omega), (k.mono hB).trans q1.bel, fun i hi hn => (q1.oth i (by omega) hn).trans (k.block i hi)⟩
theorem vat_off {w : World} {r m b : Nat} {t : ByteArray} {n a : Nat} {er : Int} {D : Dsk} {vw vi vc : Value} {cl fk : Int} {keep : Nat} (h : VAt w r m t n a er) (d : RAt w b D vw vi vc cl fk keep) : ¬ Sr b vw vi vc r := fun e => by
  rcases e with e | e | e | e
  · have h1 := h.blk
    rw [e, d.blk] at h1
    simp at h1
  · obtain ⟨c', fz, hc'⟩ := own_kind d.was r e
    rw [h.blk] at hc'
    simp at hc'
  · obtain ⟨c', fz, hc'⟩ := own_kind d.is r e
    rw [h.blk] at hc'
    simp at hc'
  · obtain ⟨c', fz, hc'⟩ := own_kind d.ca r e
    rw [h.blk] at hc'
    simp at hc'
theorem VAt.rnext {w w' : World} {r m b B : Nat} {t : ByteArray} {n a : Nat} {er : Int} {D D' : Dsk} {vw vi vc : Value} {cl fk : Int} {keep : Nat} (h : VAt w r m t n a er) (d : RAt w b D vw vi vc cl fk keep) (k : RNext B b vw vi vc D' w w') : VAt w' r m t n a er := by
  obtain ⟨_, _, _, _, _, _, q⟩ := k
  exact ⟨(q.oth r (lt_of_block h.blk) (vat_off h d)).trans h.blk⟩
theorem Inv.wrs : ∀ (xs : List (Nat × ByteArray)) {D : Dsk}, Inv D → D.Good → Inv (wrs D xs).1 ∧ (wrs D xs).1.Good
  | [], D, h, g => ⟨h, g⟩
  | x :: xs, D, h, g => by
    simp only [Go.Proofs.YtjldlmonccgopaaGreat.wrs]
    split
    · exact Inv.wrs xs (h.write g x.1 x.2) (g.write x.1 x.2)
    · exact ⟨h.write g x.1 x.2, g.write x.1 x.2⟩
theorem one_byte (a : Nat) : beL a 1 = [UInt8.ofNat a] := by simp [beL]
theorem arr_app (x y : List UInt8) : (⟨x.toArray⟩ : ByteArray) ++ ⟨y.toArray⟩ = ⟨(x ++ y).toArray⟩ := by
  apply ByteArray.ext
  simp [ByteArray.data_append]
/-- The commit that a text comes to. -/
def comV (n a : Nat) (t : ByteArray) : Com := ⟨(n + 1) % 18446744073709551616, a, t.size, sumOf t⟩
theorem comV_text (n a : Nat) (t : ByteArray) : (⟨(comL (comV n a t)).toArray⟩ : ByteArray) = ⟨(beL ((n + 1) % 18446744073709551616) 8).toArray⟩ ++ ⟨(beL a 1).toArray⟩ ++ ⟨(beL t.size 4).toArray⟩ ++ ⟨(beL (sumOf t).toNat 4).toArray⟩ := by
  rw [arr_app, arr_app, arr_app, one_byte]
  simp [comL, comV]
end Go.Proofs.YtjldlmonccgopaaGreat
/- The document's wal: lay, walked. -/
namespace Go.Proofs.YtjldlmonccgopaaGreat
open Go.RowKit
set_option linter.unusedVariables false
set_option maxRecDepth 100000
set_option linter.unusedSimpArgs false

theorem VAt.drew {w : World} {r m : Nat} {t : ByteArray} {n a : Nat} {er : Int} (h : VAt w r m t n a er) : VAt w.drew r m t n a er := ⟨h.blk⟩
theorem nP_lt {t : ByteArray} {i : Nat} : i < nP t ↔ i * 256 < t.size := by unfold nP; omega
theorem pc_form (t : ByteArray) (i : Nat) : pc t i = t.extract (i * 256) (min t.size ((i + 1) * 256)) := by unfold pc; rw [Nat.mul_comm 256 i, Nat.mul_comm 256 (i + 1)]
set_option maxHeartbeats 8000000 in
theorem vlay_any (w : World) (B r m : Nat) (D : Dsk) (vw vi vc : Value) (cl fk : Int) (keep : Nat) (t0 : ByteArray) (n a0 : Nat) (er : Int) (t : ByteArray) (a f : Nat) (hB : B ≤ m) (ha : a ≤ 1) (hf : f ≤ 1048576) (ht : t.size ≤ 32512) (hn : n < 18446744073709551616) (ho : D.ops + 1000 < 4611686018427387904) (hd : RAt w m D vw vi vc cl fk keep) (hinv : Inv D) (hv : VAt w r m t0 n a0 er) :
    Calls Tryz.prog 80 #[.pointer (some ⟨r, 0, none⟩), .string t, .int .i64 (a : Int), .int .i64 (f : Int)] w fun e w' => e = .returned (.int .i64 (D.lay (vps a t f) ((comV n a t).num % 2) (comT (comV n a t))).2) ∧ RNext B m vw vi vc (D.lay (vps a t f) ((comV n a t).num % 2) (comT (comV n a t))).1 w w' := by
  have hBw : B ≤ w.heap.size := by have := lt_of_block hd.blk; omega
  have hnp : nP t ≤ 127 := by unfold nP; omega
  have HLAY := hid (show ∀ xs i s, D.lay xs i s = if (wrs D xs).2 ≠ 0 then wrs D xs else if (wrs D xs).1.sync.2 ≠ 0 then (wrs D xs).1.sync else if ((wrs D xs).1.sync.1.write i s).2 ≠ 0 then (wrs D xs).1.sync.1.write i s else ((wrs D xs).1.sync.1.write i s).1.sync from fun _ _ _ => rfl)
  have HL := hid (vps_len a t f)
  have HTK := hid (vps_take a t f)
  have HI := hid hinv
  have HGD := hid hd.good
  have HV := hid hv
  have HD := hid hd
  obtain ⟨xs, hxs⟩ : ∃ xs, xs = vps a t f := ⟨_, rfl⟩
  rw [← hxs] at HL HTK ⊢
  clear hxs
  obtain ⟨LY, hLY⟩ : ∃ LY, LY = D.lay xs ((comV n a t).num % 2) (comT (comV n a t)) := ⟨_, rfl⟩
  rw [← hLY]
  have HLY := hid hLY
  clear hLY hinv
  go_enter Tryz.func80, Tryz.ntmps80
  go_wp2
  go_loopw [9] (fun i wr => ∃ (k : Nat) (Dp : Dsk), k ≤ xs.length ∧ i = .int .i64 ((f + k : Nat) : Int) ∧ Hid (wrs D (xs.take k) = (Dp, 0)) ∧ RNext B m vw vi vc Dp w wr) (fun i _ => 2000000 - (intOf i).toNat)
  case atStart => exact ⟨0, D, Nat.zero_le _, rfl, rfl, RNext.refl hd⟩
  case round =>
    obtain ⟨k, Dp, hk, rfl, HW, hN⟩ := hrel
    clear hd hv
    have hvr := HV.out.rnext HD.out hN
    have hops : Dp.ops + 800 < 4611686018427387904 := by
      have h1 := wrs_ops (xs.take k) D
      rw [HW.out] at h1
      have h2 := HL.out
      simp only [List.length_take] at h1
      omega
    have HIp := hid (show Inv Dp ∧ Dp.Good by have := Inv.wrs (xs.take k) HI.out HGD.out; rw [HW.out] at this; exact this)
    have HN := hid hN
    obtain ⟨vc1, cl1, fk1, kp1, hr1, ho1, hq1⟩ := hN
    by_cases hlt : k < xs.length
    · have hk2 : f + k < nP t := by have := HL.out; omega
      have hk3 : ((f + k : Nat) : Int) * 256 < (t.size : Int) := by have := nP_lt.1 hk2; omega
      obtain ⟨i, hi⟩ : ∃ i, i = f + k := ⟨_, rfl⟩
      have HT1 := hid (HTK.out k (by have := HL.out; omega))
      rw [← hi] at hk2 hk3 HT1 ⊢
      have HIF := hid hi
      obtain ⟨q, hq, hq2⟩ : ∃ q : Nat, (2 : Int) + 127 * (a : Int) + (i : Int) = (q : Int) ∧ q = 2 + a * 127 + i := ⟨_, by omega, rfl⟩
      obtain ⟨j, hj, hj2⟩ : ∃ j : Nat, (i : Int) * 256 = (j : Int) ∧ j = i * 256 := ⟨_, by omega, rfl⟩
      obtain ⟨g, hg, hg2⟩ : ∃ g : Nat, ((i : Int) + 1) * 256 = (g : Int) ∧ g = (i + 1) * 256 := ⟨_, by omega, rfl⟩
      obtain ⟨e1, he1, he3, he9⟩ : ∃ e1 : Nat, e1 = min t.size g ∧ (if (g : Int) < (t.size : Int) then (g : Int) else (t.size : Int)) = (e1 : Int) ∧ min (t.size : Int) (g : Int) = (e1 : Int) := ⟨_, rfl, by split <;> omega, by omega⟩
      have he2 : j ≤ e1 ∧ e1 ≤ t.size := by omega
      obtain ⟨he4, he5⟩ := he2
      have HPC := hid (show pc t i = t.extract j e1 by rw [pc_form, he1, hj2, hg2])
      have HQ := hid hq2
      have hi127 : i < 127 := by omega
      rw [hj] at hk3
      have he6 : (j : Int) ≤ (e1 : Int) := by omega
      have he7 : (e1 : Int) ≤ (t.size : Int) := by omega
      have he8 : (0 : Int) ≤ (j : Int) := by omega
      clear hi he1 hj2 hq2 hg2
      have hwr := ewrite_any wr.drew B m Dp vw vi vc1 cl1 fk1 kp1 (q : Int) (t.extract j e1) (by omega) hB hr1.drew HIp.out.1
      obtain ⟨c0, c1, c2, c3, c4, cf⟩ := hvr.cells
      have hS1 := hvr.drew.cells.1
      have hw1 : IntKind.i64.wrap ((i : Int) + 1) = (i : Int) + 1 := by rw [IntKind.wrap_i64]; omega
      have hw4 : IntKind.i64.wrap (127 * (a : Int)) = 127 * (a : Int) := by rw [IntKind.wrap_i64]; omega
      have hw5 : IntKind.i64.wrap (2 + 127 * (a : Int)) = 2 + 127 * (a : Int) := by rw [IntKind.wrap_i64]; omega
      have hwg : IntKind.i64.wrap (g : Int) = (g : Int) := by rw [IntKind.wrap_i64]; omega
      have hwj : IntKind.i64.wrap (j : Int) = (j : Int) := by rw [IntKind.wrap_i64]; omega
      have hwq : IntKind.i64.wrap (q : Int) = (q : Int) := by rw [IntKind.wrap_i64]; omega
      clear he3
      go_wp2_with fail
      go_region_held3 (fun X => X.cell? ⟨r, 0, none⟩ = some (.pointer (some ⟨m, 0, none⟩))) (first | exact hS2 | exact hS1) ((go_at_call 20; refine hwr.mono ?_; rintro e w2 ⟨rfl, hN2⟩; have hS2 := (VAt.rnext hvr.drew hr1.drew hN2).cells.1))
      have hN3 := RNext.step ho1 hq1.drew hN2
      have HW1 := hid (show wrs D (xs.take (k + 1)) = Dp.write (q : Int) (t.extract j e1) by
        rw [HT1.out, wrs_one D Dp _ _ HW.out]
        show Dp.write ((2 + a * 127 + i : Nat) : Int) (pc t i) = _
        rw [← HQ.out, HPC.out])
      clear hS2 hN2 hwr
      obtain ⟨R, hR⟩ : ∃ R, R = Dp.write (q : Int) (t.extract j e1) := ⟨_, rfl⟩
      rw [← hR] at hN3 HW1 ⊢
      clear hR
      obtain ⟨D2, e2⟩ := R
      simp only at hN3 ⊢
      by_cases h0 : e2 = 0
      · subst h0
        have hik := HIF.out
        go_wp2
        go_roundw
        case rel => exact ⟨k + 1, D2, by omega, by first | go_num | (rw [hik]; go_num), HW1, hN3⟩
        case measure => simp [intOf]; omega
      · have HE := hid (show LY = (D2, e2) by
          rw [HLY.out, HLAY.out, wrs_stop D D2 e2 _ xs HW1.out h0 (List.take_prefix _ _), if_pos h0])
        go_wp2
        go_ret
        rw [HE.out]
        exact ⟨rfl, hN3⟩
    · have hkx : k = xs.length := by omega
      have HW2 := hid (show wrs D xs = (Dp, 0) by have := HW.out; rwa [hkx, List.take_length] at this)
      have hk3 : ¬ ((f + k : Nat) : Int) * 256 < (t.size : Int) := by
        have h1 := HL.out
        have h2 : ¬ f + k < nP t := by omega
        rw [nP_lt] at h2
        omega
      obtain ⟨i, hi⟩ : ∃ i, i = f + k := ⟨_, rfl⟩
      rw [← hi] at hk3 ⊢
      have hib : i ≤ 2000000 := by have := HL.out; omega
      clear hi hkx hlt
      have hsy := esync_any wr B m Dp vw vi vc1 cl1 fk1 kp1 (by omega) hB hr1 HIp.out.1
      obtain ⟨c0, c1, c2, c3, c4, cf⟩ := hvr.cells
      go_wp2_with fail
      refine hsy.mono ?_
      rintro e w2 ⟨rfl, hN2⟩
      have hN3 := RNext.step ho1 hq1 hN2
      have hv3 := VAt.rnext hvr hr1 hN2
      clear hsy hN2 c0 c1 c2 c3 c4 cf
      have HIs := hid (show Inv Dp.sync.1 ∧ Dp.sync.1.Good from ⟨HIp.out.1.sync, HIp.out.2.sync⟩)
      have hops2 : Dp.sync.1.ops + 700 < 4611686018427387904 := by have := Dp.sync_ops; omega
      have HLY2 := hid (show LY = if Dp.sync.2 ≠ 0 then Dp.sync else if (Dp.sync.1.write ((comV n a t).num % 2 : Nat) (comT (comV n a t))).2 ≠ 0 then Dp.sync.1.write ((comV n a t).num % 2 : Nat) (comT (comV n a t)) else (Dp.sync.1.write ((comV n a t).num % 2 : Nat) (comT (comV n a t))).1.sync by
        rw [HLY.out, HLAY.out, HW2.out, if_neg (by simp)])
      generalize Dp.sync = R at *
      obtain ⟨D2, e2⟩ := R
      simp only at hN3 HIs hops2 HLY2 ⊢
      by_cases h0 : e2 = 0
      · subst h0
        have HLY3 := hid (HLY2.out.trans (if_neg (by simp)))
        clear HLY2 HLY HLAY HW HW2 HL HTK HI HGD hr1 ho1 hq1 hvr HIp HN
        obtain ⟨N1, hN1, hN1b, hN1c⟩ : ∃ N1 : Nat, N1 = (n + 1) % 18446744073709551616 ∧ IntKind.u64.wrap ((n : Int) + 1) = (N1 : Int) ∧ N1 < 18446744073709551616 := ⟨_, rfl, by simp only [IntKind.wrap, IntKind.signed, IntKind.bits]; simp, Nat.mod_lt _ (by omega)⟩
        obtain ⟨S, hS1⟩ : ∃ S : Nat, sumOf t = (S : Int) := ⟨(sumOf t).toNat, by have := sum_lt t; omega⟩
        have hSb : S < 4294967296 := by have := sum_lt t; omega
        have hsm := fun v => vsum_any t v (by omega)
        rw [hS1] at hsm
        have HCT := hid (comV_text n a t)
        rw [hS1, ← hN1] at HCT
        simp only [Int.toNat_natCast] at HCT
        have hnum2 : (comV n a t).num % 2 = N1 % 2 := by rw [hN1]; rfl
        have HCM := hid (show comT (comV n a t) = ⟨(comL (comV n a t)).toArray⟩ ++ ⟨(beL (sumOf ⟨(comL (comV n a t)).toArray⟩).toNat 4).toArray⟩ by unfold comT; rw [arr_app])
        rw [hnum2] at HLY3
        generalize comT (comV n a t) = CT at *
        generalize (⟨(comL (comV n a t)).toArray⟩ : ByteArray) = C0 at *
        have z1 : (⟨(beL N1 8).toArray⟩ : ByteArray).size = 8 := by rw [size_list, beL_len]
        have z2 : (⟨(beL a 1).toArray⟩ : ByteArray).size = 1 := by rw [size_list, beL_len]
        have z3 : (⟨(beL t.size 4).toArray⟩ : ByteArray).size = 4 := by rw [size_list, beL_len]
        have z4 : (⟨(beL S 4).toArray⟩ : ByteArray).size = 4 := by rw [size_list, beL_len]
        have wd1 := fun v => vwide_any v N1 8 hN1c (by omega)
        have wd2 := fun v => vwide_any v a 1 (by omega) (by omega)
        have wd3 := fun v => vwide_any v t.size 4 (by omega) (by omega)
        have wd4 := fun v => vwide_any v S 4 (by omega) (by omega)
        generalize (⟨(beL N1 8).toArray⟩ : ByteArray) = A1 at *
        generalize (⟨(beL a 1).toArray⟩ : ByteArray) = A2 at *
        generalize (⟨(beL t.size 4).toArray⟩ : ByteArray) = A3 at *
        generalize (⟨(beL S 4).toArray⟩ : ByteArray) = A4 at *
        have y1 : (A1 ++ A2).size = 9 := by rw [ByteArray.size_append]; omega
        have y2 : (A1 ++ A2 ++ A3).size = 13 := by rw [ByteArray.size_append]; omega
        have y3 : (A1 ++ A2 ++ A3 ++ A4).size = 17 := by rw [ByteArray.size_append]; omega
        have p1 : ∀ v, (Op.stringOp .add A1 A2).run Tryz.prog v = .ok (.string (A1 ++ A2)) v := fun v => run_string_add_sum v _ _ (by omega)
        have p2 : ∀ v, (Op.stringOp .add (A1 ++ A2) A3).run Tryz.prog v = .ok (.string (A1 ++ A2 ++ A3)) v := fun v => run_string_add_sum v _ _ (by omega)
        have p3 : ∀ v, (Op.stringOp .add (A1 ++ A2 ++ A3) A4).run Tryz.prog v = .ok (.string (A1 ++ A2 ++ A3 ++ A4)) v := fun v => run_string_add_sum v _ _ (by omega)
        have hC0 : A1 ++ A2 ++ A3 ++ A4 = C0 := HCT.out.symm
        rw [hC0] at p3 y3
        clear HCT
        generalize A1 ++ A2 ++ A3 = A123 at *
        generalize A1 ++ A2 = A12 at *
        have hcs : IntKind.u64.wrap (S : Int) = (S : Int) := by simp only [IntKind.wrap, IntKind.signed, IntKind.bits]; simp; omega
        have hca : IntKind.u64.wrap (a : Int) = (a : Int) := by simp only [IntKind.wrap, IntKind.signed, IntKind.bits]; simp; omega
        have hct : IntKind.u64.wrap (t.size : Int) = (t.size : Int) := by simp only [IntKind.wrap, IntKind.signed, IntKind.bits]; simp; omega
        have HN3 := hid hN3
        obtain ⟨vc2, cl2, fk2, kp2, hr2, ho2, hq2⟩ := hN3
        obtain ⟨c0, c1, c2, c3, c4, cf⟩ := hv3.cells
        have HN1 := hid hN1
        clear hN1
        go_wp2_with fail
        refine (wd1 w2).mono ?_
        rintro e w3 ⟨rfl, b3⟩
        go_wp2_with fail
        refine (wd2 w3).mono ?_
        rintro e w4 ⟨rfl, b4'⟩
        have b4 := vchain b3 b4'
        go_wp2_with fail
        refine (wd3 w4).mono ?_
        rintro e w5 ⟨rfl, b5'⟩
        have b5 := vchain b4 b5'
        go_wp2_with fail
        refine (hsm w5).mono ?_
        rintro e w5 ⟨rfl, rfl⟩
        go_wp2_with fail
        refine (wd4 w5).mono ?_
        rintro e w6 ⟨rfl, b6'⟩
        have b6 := vchain b5 b6'
        clear b3 b4' b4 b5' b5 b6' wd1 wd2 wd3 wd4 hsm c0 c1 c2 c3 c4 cf
        have hv6 := hv3.below b6
        have hr6 := hr2.below b6
        have hq6 : Kf (Sr m vw vi vc) B w w6 := ⟨hq2.bel.trans (b6.mono (by have := hq2.bel.size; omega)), fun i hi hn => (b6.block i (by have := hq2.bel.size; omega)).trans (hq2.oth i hi hn)⟩
        clear hv3 hr2 hq2 p1 p2 p3 b6
        obtain ⟨S2, hS2⟩ : ∃ S2 : Nat, sumOf C0 = (S2 : Int) := ⟨(sumOf C0).toNat, by have := sum_lt C0; omega⟩
        have hS2b : S2 < 4294967296 := by have := sum_lt C0; omega
        have hsm := fun v => vsum_any C0 v (by omega)
        rw [hS2] at hsm HCM
        simp only [Int.toNat_natCast] at HCM
        have wd := fun v => vwide_any v S2 4 (by omega) (by omega)
        have zz : (⟨(beL S2 4).toArray⟩ : ByteArray).size = 4 := by rw [size_list, beL_len]
        generalize (⟨(beL S2 4).toArray⟩ : ByteArray) = A5 at *
        have p4 : ∀ v, (Op.stringOp .add C0 A5).run Tryz.prog v = .ok (.string (C0 ++ A5)) v := fun v => run_string_add_sum v _ _ (by omega)
        rw [← HCM.out] at p4
        clear HCM hS2
        have hcs2 : IntKind.u64.wrap (S2 : Int) = (S2 : Int) := by simp only [IntKind.wrap, IntKind.signed, IntKind.bits]; simp; omega
        obtain ⟨pz, hpz, hpz2, hpz3⟩ : ∃ pz : Nat, pz = N1 % 2 ∧ Int.tmod (N1 : Int) 2 = (pz : Int) ∧ pz < 2 := ⟨_, rfl, rfl, by omega⟩
        rw [← hpz] at HLY3
        clear hpz
        have hcp : IntKind.i64.wrap (pz : Int) = (pz : Int) := by rw [IntKind.wrap_i64]; omega
        have HWR := hid (fun v (h : Below w6.heap.size w6 v) => ewrite_any v B m D2 vw vi vc2 cl2 fk2 kp2 (pz : Int) CT (by omega) hB (hr6.below h) HIs.out.1)
        have HS6 := hid (show ∀ X, Below w6.heap.size w6 X → X.cell? ⟨r, 0, none⟩ = some (.pointer (some ⟨m, 0, none⟩)) ∧ X.cell? ⟨r, 2, none⟩ = some (.int .u64 (n : Int)) from fun X h => ⟨(hv6.below h).cells.1, (hv6.below h).cells.2.2.1⟩)
        have C1 : Below w6.heap.size w6 w6.drew := (Below.refl _ _).drew
        have HSW := hid (show ∀ X Y E, Below w6.heap.size w6 X → RNext B m vw vi vc2 E X Y → (Y.cell? ⟨r, 0, none⟩ = some (.pointer (some ⟨m, 0, none⟩)) ∧ Y.cell? ⟨r, 2, none⟩ = some (.int .u64 (n : Int))) ∧ VAt Y r m t0 n a0 er ∧ RNext B m vw vi vc E w Y from fun X Y E h k => by
          have hv := VAt.rnext (hv6.below h) (hr6.below h) k
          have hs6 := hq6.bel.size
          exact ⟨⟨hv.cells.1, hv.cells.2.2.1⟩, hv, RNext.step ho2 ⟨hq6.bel.trans (h.mono (by omega)), fun i hi hn => (h.block i (by omega)).trans (hq6.oth i hi hn)⟩ k⟩)
        clear hv6 hr6 hq6
        go_wp2_with fail
        go_region_held3 (fun X => X.cell? ⟨r, 0, none⟩ = some (.pointer (some ⟨m, 0, none⟩)) ∧ X.cell? ⟨r, 2, none⟩ = some (.int .u64 (n : Int))) (first | exact hSw | exact HS6.out _ C2 | exact HS6.out _ C1) (first
          | (go_at_call 20; have gk := C2; refine (HWR.out _ C2).mono ?_; rintro e X3 ⟨rfl, hN4⟩; have hsw := HSW.out _ _ _ C2 hN4; have hSw := hsw.1)
          | (go_at_call 99; refine (wd _).mono ?_; rintro e X2 ⟨rfl, hb2⟩; have C2 := C1.trans (hb2.mono C1.size))
          | (go_at_call 71; refine (hsm _).mono ?_; rintro e X1 ⟨rfl, rfl⟩))
        have hv7 := hsw.2.1
        have hN7 := hsw.2.2
        have HI7 := hid (HIs.out.1.write HIs.out.2 (pz : Int) CT)
        have hops7 : (D2.write (pz : Int) CT).1.ops + 600 < 4611686018427387904 := by have := D2.write_ops (pz : Int) CT; omega
        clear hsw hSw hN4 gk C1 C2 hb2 HSW HS6 HWR hsm wd p4
        generalize D2.write (pz : Int) CT = R at *
        obtain ⟨D3, e3⟩ := R
        simp only at hN7 HI7 hops7 HLY3 ⊢
        by_cases h3 : e3 = 0
        · subst h3
          have HLY4 := hid (HLY3.out.trans (if_neg (by simp)))
          obtain ⟨vc7, cl7, fk7, kp7, hr7, ho7, hq7⟩ := hN7
          have hsy := esync_any X3 B m D3 vw vi vc7 cl7 fk7 kp7 (by omega) hB hr7 HI7.out
          obtain ⟨c0, c1, c2, c3, c4, cf⟩ := hv7.cells
          go_wp2_with fail
          refine hsy.mono ?_
          rintro e w8 ⟨rfl, hN8⟩
          have hN9 := RNext.step ho7 hq7 hN8
          go_wp2
          go_ret
          rw [HLY4.out]
          exact ⟨rfl, hN9⟩
        · have HE := hid (show LY = (D3, e3) by rw [HLY3.out, if_pos h3])
          go_wp2
          go_ret
          rw [HE.out]
          exact ⟨rfl, hN7⟩
      · have HE := hid (show LY = (D2, e2) by rw [HLY2.out, if_pos h0])
        go_wp2
        go_ret
        rw [HE.out]
        exact ⟨rfl, hN3⟩
end Go.Proofs.YtjldlmonccgopaaGreat
/- The document's wal: become, Append, Checkpoint. -/
namespace Go.Proofs.YtjldlmonccgopaaGreat
open Go.RowKit
set_option linter.unusedVariables false
set_option maxRecDepth 100000
set_option linter.unusedSimpArgs false

/-- The log that the document's fields tell of. -/
def VL (t : ByteArray) (n a : Nat) (er : Int) : Lg := ⟨⟨n, a, t.size, sumOf t⟩, tailT t, er⟩
/-- Behind a call of the document's log. -/
def VNext (B r m : Nat) (vw vi vc : Value) (D' : Dsk) (t : ByteArray) (n a : Nat) (er : Int) (w w' : World) : Prop :=
  VAt w' r m t n a er ∧ ∃ vc' cl' fk' keep', RAt w' m D' vw vi vc' cl' fk' keep' ∧ (∀ g, vc'.ownBlock = some g → vc.ownBlock = some g ∨ w.heap.size ≤ g) ∧ Kf (fun k => Sr m vw vi vc k ∨ k = r) B w w'
theorem VNext.of {B r m : Nat} {vw vi vc : Value} {D D' : Dsk} {t : ByteArray} {n a : Nat} {er : Int} {w w' : World} {cl fk : Int} {keep : Nat} (hv : VAt w r m t n a er) (d : RAt w m D vw vi vc cl fk keep) (h : RNext B m vw vi vc D' w w') : VNext B r m vw vi vc D' t n a er w w' := by
  have h' := VAt.rnext hv d h
  obtain ⟨v1, c1, f1, k1, r1, o1, q1⟩ := h
  exact ⟨h', v1, c1, f1, k1, r1, o1, q1.bel, fun i hi hn => q1.oth i hi fun e => hn (Or.inl e)⟩
theorem RAt.far {w : World} {b k r : Nat} {D : Dsk} {vw vi vc : Value} {cl fk : Int} {keep : Nat} {v : Value} (d : RAt w b D vw vi vc cl fk keep) (hr : ¬ Sr b vw vi vc r) : RAt (w.setCell ⟨r, k, none⟩ v) b D vw vi vc cl fk keep :=
  have hs : ∀ {base : Nat} {e : TypeId} {u : Value} {n : Nat} {xs : List Value}, w.ownsRow base e 1 u n xs → u.ownBlock ≠ some r → (w.setCell ⟨r, k, none⟩ v).ownsRow base e 1 u n xs := fun h hn => ownsRow_same h fun g hg => Below.heap_setCell w ⟨r, k, none⟩ v g (fun e => hn (by rw [hg]; exact congrArg some e))
  ⟨(Below.heap_setCell w ⟨r, k, none⟩ v b (fun e => hr (Or.inl e.symm))).trans d.blk, hs d.was fun e => hr (Or.inr (Or.inl e)), hs d.is fun e => hr (Or.inr (Or.inr (Or.inl e))), hs d.ca fun e => hr (Or.inr (Or.inr (Or.inr e))), d.ne, d.good, d.cl, d.fk, d.kp⟩
/-- A field of the log is written. -/
theorem VNext.set {B r m : Nat} {vw vi vc : Value} {D' : Dsk} {t t2 : ByteArray} {n a n2 a2 : Nat} {er er2 : Int} {w w' : World} (h : VNext B r m vw vi vc D' t n a er w w') (hB : B ≤ r) (k : Nat) (v : Value) (he : ([Value.pointer (some ⟨m, 0, none⟩), .string t, .int .u64 (n : Int), .int .i64 (a : Int), .int .i64 er] : List Value).set k v = [.pointer (some ⟨m, 0, none⟩), .string t2, .int .u64 (n2 : Int), .int .i64 (a2 : Int), .int .i64 er2]) : VNext B r m vw vi vc D' t2 n2 a2 er2 w (w'.setCell ⟨r, k, none⟩ v) := by
  obtain ⟨h1, v1, c1, f1, k1, r1, o1, q1⟩ := h
  have hs := set_at (L := [_, _, _, _, _]) (k := k) (v := v) h1.blk
  rw [he] at hs
  exact ⟨⟨hs⟩, v1, c1, f1, k1, r1.far (vat_off h1 r1), o1, q1.set (Or.inr rfl) hB v⟩
theorem VNext.refl {B r m : Nat} {vw vi vc : Value} {D : Dsk} {t : ByteArray} {n a : Nat} {er : Int} {w : World} {cl fk : Int} {keep : Nat} (hv : VAt w r m t n a er) (d : RAt w m D vw vi vc cl fk keep) : VNext B r m vw vi vc D t n a er w w := VNext.of hv d (RNext.refl d)
set_option maxHeartbeats 4000000 in
/-- become, where it lays. -/
theorem vbecome_lay (w : World) (B r m : Nat) (D : Dsk) (vw vi vc : Value) (cl fk : Int) (keep : Nat) (t0 : ByteArray) (n a0 : Nat) (t : ByteArray) (a f : Nat) (hB : B ≤ m) (hBr : B ≤ r) (ha : a ≤ 1) (hf : f ≤ 1048576) (ht : t.size ≤ 32512) (hn : n < 18446744073709551616) (ho : D.ops + 1000 < 4611686018427387904) (hd : RAt w m D vw vi vc cl fk keep) (hinv : Inv D) (hv : VAt w r m t0 n a0 0) :
    Calls Tryz.prog 59 #[.pointer (some ⟨r, 0, none⟩), .string t, .int .i64 (a : Int), .int .i64 (f : Int)] w fun e w' => e = .returned (.int .i64 (D.lay (vps a t f) ((comV n a t).num % 2) (comT (comV n a t))).2) ∧ ((D.lay (vps a t f) ((comV n a t).num % 2) (comT (comV n a t))).2 = 0 → VNext B r m vw vi vc (D.lay (vps a t f) ((comV n a t).num % 2) (comT (comV n a t))).1 t ((n + 1) % 18446744073709551616) a 0 w w') ∧ ((D.lay (vps a t f) ((comV n a t).num % 2) (comT (comV n a t))).2 ≠ 0 → VNext B r m vw vi vc (D.lay (vps a t f) ((comV n a t).num % 2) (comT (comV n a t))).1 t0 n a0 (D.lay (vps a t f) ((comV n a t).num % 2) (comT (comV n a t))).2 w w') := by
  have hly := vlay_any w B r m D vw vi vc cl fk keep t0 n a0 0 t a f hB ha hf ht hn ho hd hinv hv
  generalize D.lay (vps a t f) ((comV n a t).num % 2) (comT (comV n a t)) = R at *
  obtain ⟨D2, e2⟩ := R
  simp only at hly ⊢
  have hx : ¬ (32512 : Int) < (t.size : Int) := by omega
  have HV := hid hv
  have HD := hid hd
  obtain ⟨c0, c1, c2, c3, c4, cf⟩ := hv.cells
  clear hd hv hinv
  have hN1b : IntKind.u64.wrap ((n : Int) + 1) = (((n + 1) % 18446744073709551616 : Nat) : Int) := by simp only [IntKind.wrap, IntKind.signed, IntKind.bits]; simp
  generalize (n + 1) % 18446744073709551616 = N1 at *
  go_enter Tryz.func59, Tryz.ntmps59
  go_wp2_with fail
  refine hly.mono ?_
  rintro e w1 ⟨rfl, hN⟩
  have h1 := VNext.of HV.out HD.out hN
  have h2 := h1.set hBr 4 (.int .i64 e2) rfl
  clear hly hN c0 c1 c2 c3 c4 cf
  obtain ⟨x0, x1, x2, x3, x4, xf⟩ := h1.1.cells
  by_cases h0 : e2 = 0
  · subst h0
    have h3 := h2.set hBr 1 (.string t) rfl
    have h4 := h3.set hBr 3 (.int .i64 (a : Int)) rfl
    have h5 := h4.set hBr 2 (.int .u64 (N1 : Int)) rfl
    have H5 := hid h5
    clear h1 h2 h3 h4 h5
    go_wp2
    go_ret
    first
      | exact ⟨rfl, H5.out⟩
      | exact ⟨rfl, fun _ => H5.out, fun k => absurd rfl k⟩
  · have H2 := hid h2
    clear h1 h2
    go_wp2
    go_ret
    first
      | exact ⟨rfl, H2.out⟩
      | exact ⟨rfl, fun k => absurd k h0, fun _ => H2.out⟩
set_option maxHeartbeats 4000000 in
/-- become, where it does not. -/
theorem vbecome_no (w : World) (r m : Nat) (t0 : ByteArray) (n a0 : Nat) (er : Int) (t : ByteArray) (a f : Nat) (hts : t.size ≤ maxLen) (h : er ≠ 0 ∨ 32512 < t.size) (hv : VAt w r m t0 n a0 er) :
    Calls Tryz.prog 59 #[.pointer (some ⟨r, 0, none⟩), .string t, .int .i64 (a : Int), .int .i64 (f : Int)] w fun e w' => e = .returned (.int .i64 (if er ≠ 0 then er else 50)) ∧ w' = w := by
  obtain ⟨c0, c1, c2, c3, c4, cf⟩ := hv.cells
  unfold maxLen at hts
  by_cases h0 : er = 0
  · subst h0
    have hx : (32512 : Int) < (t.size : Int) := by rcases h with h | h; (· exact absurd rfl h); omega
    rw [if_neg (by simp)]
    go_enter Tryz.func59, Tryz.ntmps59
    go_wp2
    go_ret
    exact ⟨rfl, rfl⟩
  · rw [if_pos h0]
    go_enter Tryz.func59, Tryz.ntmps59
    go_wp2
    go_ret
    exact ⟨rfl, rfl⟩
end Go.Proofs.YtjldlmonccgopaaGreat
/- The document's wal: Append, Checkpoint, as the program's. -/
namespace Go.Proofs.YtjldlmonccgopaaGreat
open Go.RowKit
set_option linter.unusedVariables false
set_option maxRecDepth 100000
set_option linter.unusedSimpArgs false

theorem pc_bt (T : ByteArray) (i k : Nat) (h : k < (pc T i).size) : bt (pc T i) k = bt T (256 * i + k) := by
  have hs : (pc T i).size = min T.size (256 * (i + 1)) - 256 * i := by unfold pc; rw [ByteArray.size_extract]; omega
  exact pc_at T i k (by omega) (by omega)
theorem pc_size_eq (T : ByteArray) (i : Nat) : (pc T i).size = min T.size (256 * (i + 1)) - 256 * i := by unfold pc; rw [ByteArray.size_extract]; omega
theorem pc_tail (t s : ByteArray) (j : Nat) : pc (tailT t ++ s) j = pc (t ++ s) (t.size / 256 + j) := by
  have h1 := tailT_size t
  have h2 : (tailT t ++ s).size = t.size % 256 + s.size := by rw [ByteArray.size_append, h1]
  have h3 : (t ++ s).size = t.size + s.size := ByteArray.size_append
  have e1 := pc_size_eq (tailT t ++ s) j
  have e2 := pc_size_eq (t ++ s) (t.size / 256 + j)
  refine ext_bt (by omega) fun k hk => ?_
  rw [pc_bt _ _ _ hk, pc_bt _ _ _ (by omega), tail_at _ _ _ (by omega)]
  congr 1; omega
theorem chg_vps (n a : Nat) (t s : ByteArray) (sm : Int) : chg ⟨n, a, t.size, sm⟩ (tailT t) s = vps a (t ++ s) (if s.size = 0 then 1048576 else t.size / 256) ∨ 32512 < t.size + s.size := by
  by_cases hb : 32512 < t.size + s.size
  · exact Or.inr hb
  · left
    have h3 : (t ++ s).size = t.size + s.size := ByteArray.size_append
    have h4 : nP (t ++ s) = (t.size + s.size + 255) / 256 := by unfold nP; rw [h3]
    unfold chg vps
    by_cases hs : s.size = 0
    · rw [if_pos hs, if_pos hs, show nP (t ++ s) - 1048576 = 0 by omega]
      rfl
    · rw [if_neg hs, if_neg hs]
      have h5 : nP (tailT t ++ s) = nP (t ++ s) - t.size / 256 := by
        rw [h4]; unfold nP; rw [ByteArray.size_append, tailT_size]; omega
      unfold pcs
      rw [h5]
      refine List.map_congr_left fun j _ => ?_
      rw [pc_tail]
      simp only [Prod.mk.injEq, and_true]
      omega
theorem chg_vps0 (n a : Nat) (s : ByteArray) (sm : Int) : chg ⟨n, a, 0, sm⟩ ByteArray.empty s = vps a s 0 := by
  unfold chg vps
  by_cases hs : s.size = 0
  · rw [if_pos hs, show nP s - 0 = 0 by unfold nP; omega]
    rfl
  · rw [if_neg hs, ByteArray.empty_append]
    unfold pcs
    refine List.map_congr_left fun j _ => ?_
    simp
theorem comNext_V (n a : Nat) (t s : ByteArray) : comNext ⟨n, a, t.size, sumOf t⟩ s = comV n a (t ++ s) := by
  unfold comNext comV
  rw [ByteArray.size_append, sumOf_on]
theorem comNext_V0 (n a : Nat) (s : ByteArray) : comNext ⟨n, a, 0, 2166136261⟩ s = comV n a s := by
  unfold comNext comV
  simp [sumOf]
theorem vl_append (D : Dsk) (t s : ByteArray) (n a : Nat) (er : Int) : (VL t n a er).append D s =
    if er ≠ 0 then (D, VL t n a er, er) else if 32512 < (t ++ s).size then (D, VL t n a er, 50)
    else if (D.lay (vps a (t ++ s) (if s.size = 0 then 1048576 else t.size / 256)) ((comV n a (t ++ s)).num % 2) (comT (comV n a (t ++ s)))).2 ≠ 0 then ((D.lay (vps a (t ++ s) (if s.size = 0 then 1048576 else t.size / 256)) ((comV n a (t ++ s)).num % 2) (comT (comV n a (t ++ s)))).1, VL t n a (D.lay (vps a (t ++ s) (if s.size = 0 then 1048576 else t.size / 256)) ((comV n a (t ++ s)).num % 2) (comT (comV n a (t ++ s)))).2, (D.lay (vps a (t ++ s) (if s.size = 0 then 1048576 else t.size / 256)) ((comV n a (t ++ s)).num % 2) (comT (comV n a (t ++ s)))).2)
    else ((D.lay (vps a (t ++ s) (if s.size = 0 then 1048576 else t.size / 256)) ((comV n a (t ++ s)).num % 2) (comT (comV n a (t ++ s)))).1, VL (t ++ s) ((n + 1) % 18446744073709551616) a 0, 0) := by
  have hsz : (t ++ s).size = t.size + s.size := ByteArray.size_append
  unfold Lg.append Lg.step
  simp only [VL]
  by_cases he : er = 0
  · have hne : ¬ er ≠ 0 := by simp [he]
    have hX : (32512 < (t ++ s).size) = (32512 < t.size + s.size) := by rw [hsz]
    simp only [hne, ite_false, hX, if_false]
    by_cases hf : 32512 < t.size + s.size
    · simp only [hf, if_true]
    · simp only [hf, if_false]
      have hc := (chg_vps n a t s (sumOf t)).resolve_right hf
      simp only [hc, comNext_V, tail_tail]
      generalize D.lay (vps a (t ++ s) (if s.size = 0 then 1048576 else t.size / 256)) ((comV n a (t ++ s)).num % 2) (comT (comV n a (t ++ s))) = R
      by_cases h : R.2 = 0
      · simp only [ne_eq, h, not_true_eq_false, if_false]
        rfl
      · simp only [ne_eq, h, not_false_eq_true, if_true]
  · simp only [ne_eq, he, not_false_eq_true, ite_true, if_true]
theorem vl_check (D : Dsk) (t s : ByteArray) (n a : Nat) (er : Int) : (VL t n a er).checkpoint D s =
    if er ≠ 0 then (D, VL t n a er, er) else if 32512 < s.size then (D, VL t n a er, 50)
    else if (D.lay (vps (1 - a) s 0) ((comV n (1 - a) s).num % 2) (comT (comV n (1 - a) s))).2 ≠ 0 then ((D.lay (vps (1 - a) s 0) ((comV n (1 - a) s).num % 2) (comT (comV n (1 - a) s))).1, VL t n a (D.lay (vps (1 - a) s 0) ((comV n (1 - a) s).num % 2) (comT (comV n (1 - a) s))).2, (D.lay (vps (1 - a) s 0) ((comV n (1 - a) s).num % 2) (comT (comV n (1 - a) s))).2)
    else ((D.lay (vps (1 - a) s 0) ((comV n (1 - a) s).num % 2) (comT (comV n (1 - a) s))).1, VL s ((n + 1) % 18446744073709551616) (1 - a) 0, 0) := by
  unfold Lg.checkpoint Lg.step
  simp only [VL]
  by_cases he : er = 0
  · have hne : ¬ er ≠ 0 := by simp [he]
    simp only [hne, ite_false, Nat.zero_add, if_false]
    by_cases hf : 32512 < s.size
    · simp only [hf, if_true]
    · simp only [hf, if_false]
      simp only [chg_vps0, comNext_V0, ByteArray.empty_append]
      generalize D.lay (vps (1 - a) s 0) ((comV n (1 - a) s).num % 2) (comT (comV n (1 - a) s)) = R
      by_cases h : R.2 = 0
      · simp only [ne_eq, h, not_true_eq_false, if_false]
        rfl
      · simp only [ne_eq, h, not_false_eq_true, if_true]
  · simp only [ne_eq, he, not_false_eq_true, ite_true, if_true]
end Go.Proofs.YtjldlmonccgopaaGreat
/- The document's wal: Append, Checkpoint, walked. -/
namespace Go.Proofs.YtjldlmonccgopaaGreat
open Go.RowKit
set_option linter.unusedVariables false
set_option maxRecDepth 100000
set_option linter.unusedSimpArgs false

/-- What is behind become. -/
structure VSt where
  D : Dsk
  t : ByteArray
  n : Nat
  a : Nat
  er : Int
  E : Int
def bec (D : Dsk) (t0 : ByteArray) (n a0 : Nat) (er : Int) (t : ByteArray) (a f : Nat) : VSt :=
  if er ≠ 0 then ⟨D, t0, n, a0, er, er⟩ else if 32512 < t.size then ⟨D, t0, n, a0, er, 50⟩
  else if (D.lay (vps a t f) ((comV n a t).num % 2) (comT (comV n a t))).2 ≠ 0 then ⟨(D.lay (vps a t f) ((comV n a t).num % 2) (comT (comV n a t))).1, t0, n, a0, (D.lay (vps a t f) ((comV n a t).num % 2) (comT (comV n a t))).2, (D.lay (vps a t f) ((comV n a t).num % 2) (comT (comV n a t))).2⟩
  else ⟨(D.lay (vps a t f) ((comV n a t).num % 2) (comT (comV n a t))).1, t, (n + 1) % 18446744073709551616, a, 0, 0⟩
theorem vbecome_any (w : World) (B r m : Nat) (D : Dsk) (vw vi vc : Value) (cl fk : Int) (keep : Nat) (t0 : ByteArray) (n a0 : Nat) (er : Int) (t : ByteArray) (a f : Nat) (hB : B ≤ m) (hBr : B ≤ r) (ha : a ≤ 1) (hf : f ≤ 1048576) (hts : t.size ≤ maxLen) (hn : n < 18446744073709551616) (ho : D.ops + 1000 < 4611686018427387904) (hd : RAt w m D vw vi vc cl fk keep) (hinv : Inv D) (hv : VAt w r m t0 n a0 er) :
    Calls Tryz.prog 59 #[.pointer (some ⟨r, 0, none⟩), .string t, .int .i64 (a : Int), .int .i64 (f : Int)] w fun e w' => e = .returned (.int .i64 (bec D t0 n a0 er t a f).E) ∧ VNext B r m vw vi vc (bec D t0 n a0 er t a f).D (bec D t0 n a0 er t a f).t (bec D t0 n a0 er t a f).n (bec D t0 n a0 er t a f).a (bec D t0 n a0 er t a f).er w w' := by
  by_cases he : er = 0
  · subst he
    by_cases hx : 32512 < t.size
    · have e1 : bec D t0 n a0 0 t a f = ⟨D, t0, n, a0, 0, 50⟩ := by simp [bec, hx]
      rw [e1]
      refine (vbecome_no w r m t0 n a0 0 t a f hts (Or.inr hx) hv).mono ?_
      rintro e w' ⟨rfl, rfl⟩
      exact ⟨by simp, VNext.refl hv hd⟩
    · refine (vbecome_lay w B r m D vw vi vc cl fk keep t0 n a0 t a f hB hBr ha hf (by omega) hn ho hd hinv hv).mono ?_
      rintro e w' ⟨rfl, h1, h2⟩
      by_cases h : (D.lay (vps a t f) ((comV n a t).num % 2) (comT (comV n a t))).2 = 0
      · have e1 : bec D t0 n a0 0 t a f = ⟨(D.lay (vps a t f) ((comV n a t).num % 2) (comT (comV n a t))).1, t, (n + 1) % 18446744073709551616, a, 0, 0⟩ := by simp [bec, hx, h]
        rw [e1, h]
        exact ⟨rfl, h1 h⟩
      · have e1 : bec D t0 n a0 0 t a f = ⟨(D.lay (vps a t f) ((comV n a t).num % 2) (comT (comV n a t))).1, t0, n, a0, (D.lay (vps a t f) ((comV n a t).num % 2) (comT (comV n a t))).2, (D.lay (vps a t f) ((comV n a t).num % 2) (comT (comV n a t))).2⟩ := by simp [bec, hx, h]
        rw [e1]
        exact ⟨rfl, h2 h⟩
  · have e1 : bec D t0 n a0 er t a f = ⟨D, t0, n, a0, er, er⟩ := by simp [bec, he]
    rw [e1]
    refine (vbecome_no w r m t0 n a0 er t a f hts (Or.inl he) hv).mono ?_
    rintro e w' ⟨rfl, rfl⟩
    exact ⟨by simp [he], VNext.refl hv hd⟩
theorem VNext.drew {B r m : Nat} {vw vi vc : Value} {D : Dsk} {t : ByteArray} {n a : Nat} {er : Int} {w w' : World} (h : VNext B r m vw vi vc D t n a er w.drew w') : VNext B r m vw vi vc D t n a er w w' ∧ VNext B r m vw vi vc D t n a er w w'.drew := by
  obtain ⟨h1, v1, c1, f1, k1, r1, o1, q1⟩ := h
  exact ⟨⟨h1, v1, c1, f1, k1, r1, o1, ⟨(Below.refl B w).drew.trans q1.bel, q1.oth⟩⟩, ⟨h1.drew, v1, c1, f1, k1, r1.drew, o1, ⟨((Below.refl B w).drew.trans q1.bel).drew, q1.oth⟩⟩⟩
/-- What Append comes to. -/
def vapp (D : Dsk) (t : ByteArray) (n a : Nat) (er : Int) (s : ByteArray) : VSt := bec D t n a er (t ++ s) a (if s.size = 0 then 1048576 else t.size / 256)
def vchk (D : Dsk) (t : ByteArray) (n a : Nat) (er : Int) (s : ByteArray) : VSt := bec D t n a er s (1 - a) 0
theorem vapp_is (D : Dsk) (t : ByteArray) (n a : Nat) (er : Int) (s : ByteArray) : (VL t n a er).append D s = ((vapp D t n a er s).D, VL (vapp D t n a er s).t (vapp D t n a er s).n (vapp D t n a er s).a (vapp D t n a er s).er, (vapp D t n a er s).E) := by
  rw [vl_append]
  unfold vapp bec
  generalize D.lay (vps a (t ++ s) (if s.size = 0 then 1048576 else t.size / 256)) ((comV n a (t ++ s)).num % 2) (comT (comV n a (t ++ s))) = R
  by_cases he : er = 0
  · by_cases hP : 32512 < (t ++ s).size
    · simp only [he, hP, ne_eq, not_true_eq_false, if_true, if_false]
    · by_cases hR : R.2 = 0
      · simp only [he, hP, hR, ne_eq, not_true_eq_false, if_true, if_false]
      · simp only [he, hP, hR, ne_eq, not_true_eq_false, not_false_eq_true, if_true, if_false]
  · simp only [he, ne_eq, not_false_eq_true, if_true]
theorem vchk_is (D : Dsk) (t : ByteArray) (n a : Nat) (er : Int) (s : ByteArray) : (VL t n a er).checkpoint D s = ((vchk D t n a er s).D, VL (vchk D t n a er s).t (vchk D t n a er s).n (vchk D t n a er s).a (vchk D t n a er s).er, (vchk D t n a er s).E) := by
  rw [vl_check]
  unfold vchk bec
  generalize D.lay (vps (1 - a) s 0) ((comV n (1 - a) s).num % 2) (comT (comV n (1 - a) s)) = R
  by_cases he : er = 0
  · by_cases hP : 32512 < s.size
    · simp only [he, hP, ne_eq, not_true_eq_false, if_true, if_false]
    · by_cases hR : R.2 = 0
      · simp only [he, hP, hR, ne_eq, not_true_eq_false, if_true, if_false]
      · simp only [he, hP, hR, ne_eq, not_true_eq_false, not_false_eq_true, if_true, if_false]
  · simp only [he, ne_eq, not_false_eq_true, if_true]
structure VFit (t : ByteArray) (n a : Nat) : Prop where
  t : t.size ≤ 32512
  n : n < 18446744073709551616
  a : a ≤ 1
theorem bec_fit {D : Dsk} {t0 : ByteArray} {n a0 : Nat} {er : Int} {t : ByteArray} {a f : Nat} (h : VFit t0 n a0) (ha : a ≤ 1) : VFit (bec D t0 n a0 er t a f).t (bec D t0 n a0 er t a f).n (bec D t0 n a0 er t a f).a := by
  unfold bec
  split
  · exact h
  · split
    · exact h
    · split
      · exact h
      · exact ⟨by simp only; omega, Nat.mod_lt _ (by omega), ha⟩
set_option maxHeartbeats 4000000 in
theorem vappend_any (w : World) (B r m : Nat) (D : Dsk) (vw vi vc : Value) (cl fk : Int) (keep : Nat) (t : ByteArray) (n a : Nat) (er : Int) (s : ByteArray) (hB : B ≤ m) (hBr : B ≤ r) (hfit : VFit t n a) (hs : s.size ≤ 1099511627776) (ho : D.ops + 1000 < 4611686018427387904) (hd : RAt w m D vw vi vc cl fk keep) (hinv : Inv D) (hv : VAt w r m t n a er) :
    Calls Tryz.prog 36 #[.pointer (some ⟨r, 0, none⟩), .string s] w fun e w' => e = .returned (.int .i64 (vapp D t n a er s).E) ∧ VNext B r m vw vi vc (vapp D t n a er s).D (vapp D t n a er s).t (vapp D t n a er s).n (vapp D t n a er s).a (vapp D t n a er s).er w w' := by
  have ht := hfit.t
  have hts : (t ++ s).size = t.size + s.size := ByteArray.size_append
  obtain ⟨F, hF, hF2⟩ : ∃ F : Nat, F = (if s.size = 0 then 1048576 else t.size / 256) ∧ F ≤ 1048576 := ⟨_, rfl, by split <;> omega⟩
  have hst := vbecome_any w.drew B r m D vw vi vc cl fk keep t n a er (t ++ s) a F hB hBr hfit.a hF2 (by unfold maxLen; omega) hfit.n ho hd.drew hinv hv.drew
  have HUP := hid (fun D2 t2 n2 a2 e2 w2 => VNext.drew (B := B) (r := r) (m := m) (vw := vw) (vi := vi) (vc := vc) (D := D2) (t := t2) (n := n2) (a := a2) (er := e2) (w := w) (w' := w2))
  have hV : vapp D t n a er s = bec D t n a er (t ++ s) a F := by rw [hF]; rfl
  rw [hV]
  generalize bec D t n a er (t ++ s) a F = R at *
  obtain ⟨c0, c1, c2, c3, c4, cf⟩ := hv.cells
  have hsum : ∀ v, (Op.stringOp .add t s).run Tryz.prog v = .ok (.string (t ++ s)) v := fun v => run_string_add_sum v _ _ (by omega)
  have hdv : Int.tdiv (t.size : Int) 256 = ((t.size / 256 : Nat) : Int) := by simp
  clear hd hv hinv hV
  by_cases h0 : s.size = 0
  · rw [if_pos h0] at hF
    subst hF
    go_enter Tryz.func36, Tryz.ntmps36
    go_wp2_with fail
    go_region_with ((go_at_call 59; refine hst.mono ?_; rintro e w2 ⟨rfl, hN⟩))
    all_goals
      simp only [List.getElem_toArray, List.getElem_cons_zero, List.getElem_cons_succ, Act.put, List.setIfInBounds_toArray, List.set_cons_succ, List.set_cons_zero]
      have hN1 := HUP.out _ _ _ _ _ _ hN
      go_wp2
      go_ret
      first
        | exact ⟨rfl, hN1.1⟩
        | exact ⟨rfl, hN1.2⟩
  · rw [if_neg h0] at hF
    rw [← hF] at hdv
    clear hF
    go_enter Tryz.func36, Tryz.ntmps36
    go_wp2_with fail
    go_region_with ((go_at_call 59; refine hst.mono ?_; rintro e w2 ⟨rfl, hN⟩))
    all_goals
      simp only [List.getElem_toArray, List.getElem_cons_zero, List.getElem_cons_succ, Act.put, List.setIfInBounds_toArray, List.set_cons_succ, List.set_cons_zero]
      have hN1 := HUP.out _ _ _ _ _ _ hN
      go_wp2
      go_ret
      first
        | exact ⟨rfl, hN1.1⟩
        | exact ⟨rfl, hN1.2⟩
set_option maxHeartbeats 4000000 in
theorem vcheck_any (w : World) (B r m : Nat) (D : Dsk) (vw vi vc : Value) (cl fk : Int) (keep : Nat) (t : ByteArray) (n a : Nat) (er : Int) (s : ByteArray) (hB : B ≤ m) (hBr : B ≤ r) (hfit : VFit t n a) (hs : s.size ≤ 1099511627776) (ho : D.ops + 1000 < 4611686018427387904) (hd : RAt w m D vw vi vc cl fk keep) (hinv : Inv D) (hv : VAt w r m t n a er) :
    Calls Tryz.prog 38 #[.pointer (some ⟨r, 0, none⟩), .string s] w fun e w' => e = .returned (.int .i64 (vchk D t n a er s).E) ∧ VNext B r m vw vi vc (vchk D t n a er s).D (vchk D t n a er s).t (vchk D t n a er s).n (vchk D t n a er s).a (vchk D t n a er s).er w w' := by
  have hst := vbecome_any w B r m D vw vi vc cl fk keep t n a er s (1 - a) 0 hB hBr (by omega) (by omega) (by unfold maxLen; omega) hfit.n ho hd hinv hv
  have ha := hfit.a
  unfold vchk
  generalize bec D t n a er s (1 - a) 0 = R at *
  obtain ⟨c0, c1, c2, c3, c4, cf⟩ := hv.cells
  obtain ⟨q, hq, hq2⟩ : ∃ q : Nat, (1 : Int) - (a : Int) = (q : Int) ∧ q = 1 - a := ⟨1 - a, by omega, rfl⟩
  rw [← hq2] at hst
  clear hd hv hinv hq2
  go_enter Tryz.func38, Tryz.ntmps38
  go_wp2_with fail
  refine hst.mono ?_
  rintro e w2 ⟨rfl, hN⟩
  go_wp2
  go_ret
  exact ⟨rfl, hN⟩
end Go.Proofs.YtjldlmonccgopaaGreat
/- The program's disk and log, and the document's, beside one another. -/
namespace Go.Proofs.YtjldlmonccgopaaGreat
open Go.RowKit
set_option linter.unusedVariables false
set_option maxRecDepth 100000
set_option linter.unusedSimpArgs false

/-- A step of the program's side, which may write one block p more. -/
theorem Two.dstep {w w' : World} {B b c p : Nat} {D D' E : Dsk} {sl vw vi vc : Value} {cl fk : Int} {keep : Nat} {x : Array Value} {T : TypeId} {fz : Nat × Nat} {S : Nat → Prop} (h : Two w b c D E sl vw vi vc cl fk keep) (hp : w.heap[p]? = some (.cells x T fz)) (t1 : T ≠ 62) (t2 : T ≠ 9) (t3 : T ≠ 3) (hS : ∀ k, S k → Sd b sl k ∨ k = p)
    (k : DS S B b sl D' w w') : ∃ sl', Two w' b c D' E sl' vw vi vc cl fk keep := by
  obtain ⟨sl', h1, h2, h3⟩ := k
  have hO : ∀ g c' t fz, w.heap[g]? = some (.cells c' t fz) → t ≠ 57 → t ≠ T → ¬ Sd b sl g → ¬ S g := by
    intro g c' t fz hg n1 n2 n3 hs
    rcases hS g hs with e | e
    · exact n3 e
    · exact kind_ne hg hp n2 e
  have hStr : ∀ v base e n xs, w.ownsRow base e 1 v n xs → e = 9 → ∀ g, v.ownBlock = some g → ¬ S g := by
    intro v base e n xs hv he g hg
    obtain ⟨c', fz, hc⟩ := own_kind hv g hg
    subst he
    exact hO g _ _ _ hc (by decide) (fun e => t2 e.symm) (h.d.out hc (by decide) (by decide))
  have hvc : ∀ g, vc.ownBlock = some g → ¬ S g := by
    intro g hg
    obtain ⟨c', fz, hc⟩ := own_kind h.r.ca g hg
    refine hO g _ _ _ hc (by decide) (fun e => t3 e.symm) fun hs => ?_
    rcases hs with e | e
    · exact kind_ne hc h.d.blk (by decide) e
    · exact h.ne g e hg
  refine ⟨sl', h1, ⟨(h3.oth c (lt_of_block h.r.blk) (hO c _ _ _ h.r.blk (by decide) (fun e => t1 e.symm) (h.d.out h.r.blk (by decide) (by decide)))).trans h.r.blk, own_kf h.r.was h3 (hStr _ _ _ _ _ h.r.was rfl), own_kf h.r.is h3 (hStr _ _ _ _ _ h.r.is rfl), own_kf h.r.ca h3 hvc, h.r.ne, h.r.good, h.r.cl, h.r.fk, h.r.kp⟩, fun g hg e => ?_⟩
  rcases h2 g hg with e2 | e2
  · exact h.ne g e2 e
  · obtain ⟨c', fz, hc⟩ := own_kind h.r.ca g e
    have := lt_of_block hc
    omega
/-- A step of the document's side, which may write one block p more. -/
theorem Two.rstep {w w' : World} {B b c p : Nat} {D E E' : Dsk} {sl vw vi vc : Value} {cl fk : Int} {keep : Nat} {x : Array Value} {T : TypeId} {fz : Nat × Nat} {S : Nat → Prop} (h : Two w b c D E sl vw vi vc cl fk keep) (hp : w.heap[p]? = some (.cells x T fz)) (t1 : T ≠ 57) (t3 : T ≠ 3) (hS : ∀ k, S k → Sr c vw vi vc k ∨ k = p)
    (k : ∃ vc' cl' fk' keep', RAt w' c E' vw vi vc' cl' fk' keep' ∧ (∀ g, vc'.ownBlock = some g → vc.ownBlock = some g ∨ w.heap.size ≤ g) ∧ Kf S B w w') : ∃ vc' cl' fk' keep', Two w' b c D E' sl vw vi vc' cl' fk' keep' := by
  obtain ⟨vc', cl', fk', keep', h1, h2, h3⟩ := k
  have hsl : ∀ g, sl.ownBlock = some g → ¬ S g := by
    intro g hg hs
    obtain ⟨c', fz, hc⟩ := own_kind h.d.own g hg
    rcases hS g hs with (e | e | e | e) | e
    · exact kind_ne hc h.r.blk (by decide) e
    · exact own_ne h.r.was hc (by decide) e
    · exact own_ne h.r.is hc (by decide) e
    · exact h.ne g hg e
    · exact kind_ne hc hp (fun e => t3 e.symm) e
  have hb : ¬ S b := fun hs => by
    rcases hS b hs with e | e
    · exact h.r.out h.d.blk (by decide) (by decide) (by decide) e
    · exact kind_ne h.d.blk hp (fun e => t1 e.symm) e
  refine ⟨vc', cl', fk', keep', ⟨(h3.oth b (lt_of_block h.d.blk) hb).trans h.d.blk, own_kf h.d.own h3 hsl, h.d.good⟩, h1, fun g hg e => ?_⟩
  rcases h2 g e with e2 | e2
  · exact h.ne g hg e2
  · obtain ⟨c', fz, hc⟩ := own_kind h.d.own g hg
    have := lt_of_block hc
    omega
/-- Both sides: disks in b and c, logs in l and r. -/
structure Pr (B : Nat) (w0 w : World) (b l c r : Nat) (D : Dsk) (L : Lg) (E : Dsk) (t : ByteArray) (n a : Nat) (er : Int) : Prop where
  two : ∃ sl vw vi vc cl fk keep, Two w b c D E sl vw vi vc cl fk keep
  log : LgAt w l b L
  vat : VAt w r c t n a er
  bel : Below B w0 w
  hb : B ≤ b
  hl : B ≤ l
  hc : B ≤ c
  hr : B ≤ r
theorem Pr.below {B : Nat} {w0 w w' : World} {b l c r : Nat} {D : Dsk} {L : Lg} {E : Dsk} {t : ByteArray} {n a : Nat} {er : Int} (h : Pr B w0 w b l c r D L E t n a er) (k : Below w.heap.size w w') : Pr B w0 w' b l c r D L E t n a er := by
  obtain ⟨sl, vw, vi, vc, cl, fk, keep, h2⟩ := h.two
  have := lt_of_block h2.d.blk
  have := h.hb
  exact ⟨⟨sl, vw, vi, vc, cl, fk, keep, h2.below k⟩, LogAt.below h.log k (lt_of_block (LogAt.blk h.log)), h.vat.below k, h.bel.trans (k.mono (by omega)), h.hb, h.hl, h.hc, h.hr⟩
theorem Pr.lnext {B : Nat} {w0 w w' : World} {b l c r : Nat} {D D' : Dsk} {L L' : Lg} {E : Dsk} {t : ByteArray} {n a : Nat} {er : Int} {sl vw vi vc : Value} {cl fk : Int} {keep : Nat} (h : Pr B w0 w b l c r D L E t n a er) (h2 : Two w b c D E sl vw vi vc cl fk keep) (k : LNext B b l sl D' L' w w') : Pr B w0 w' b l c r D' L' E t n a er := by
  obtain ⟨k1, k2⟩ := k
  obtain ⟨sl', hT⟩ := h2.dstep (LogAt.blk h.log) (by decide) (by decide) (by decide) (fun k e => e) k2
  obtain ⟨_, _, _, kf⟩ := k2
  have hr : ¬ Sl b l sl r := fun e => by
    rcases e with e | e
    · exact h2.d.out h.vat.blk (by decide) (by decide) e
    · exact kind_ne h.vat.blk (LogAt.blk h.log) (by decide) e
  exact ⟨⟨sl', vw, vi, vc, cl, fk, keep, hT⟩, k1, ⟨(kf.oth r (lt_of_block h.vat.blk) hr).trans h.vat.blk⟩, h.bel.trans kf.bel, h.hb, h.hl, h.hc, h.hr⟩
theorem Pr.vnext {B : Nat} {w0 w w' : World} {b l c r : Nat} {D : Dsk} {L : Lg} {E E' : Dsk} {t t' : ByteArray} {n a n' a' : Nat} {er er' : Int} {sl vw vi vc : Value} {cl fk : Int} {keep : Nat} (h : Pr B w0 w b l c r D L E t n a er) (h2 : Two w b c D E sl vw vi vc cl fk keep) (k : VNext B r c vw vi vc E' t' n' a' er' w w') : Pr B w0 w' b l c r D L E' t' n' a' er' := by
  obtain ⟨k1, k2⟩ := k
  obtain ⟨vc', cl', fk', keep', hT⟩ := h2.rstep h.vat.blk (by decide) (by decide) (fun k e => e) k2
  obtain ⟨_, _, _, _, _, _, kf⟩ := k2
  have hl : ¬ (Sr c vw vi vc l ∨ l = r) := fun e => by
    rcases e with e | e
    · exact h2.r.out (LogAt.blk h.log) (by decide) (by decide) (by decide) e
    · exact kind_ne (LogAt.blk h.log) h.vat.blk (by decide) e
  exact ⟨⟨sl, vw, vi, vc', cl', fk', keep', hT⟩, ⟨(kf.oth l (lt_of_block (LogAt.blk h.log)) hl).trans (LogAt.blk h.log)⟩, k1, h.bel.trans kf.bel, h.hb, h.hl, h.hc, h.hr⟩
theorem Pr.dnext {B : Nat} {w0 w w' : World} {b l c r : Nat} {D D' : Dsk} {L : Lg} {E : Dsk} {t : ByteArray} {n a : Nat} {er : Int} {sl vw vi vc : Value} {cl fk : Int} {keep : Nat} (h : Pr B w0 w b l c r D L E t n a er) (h2 : Two w b c D E sl vw vi vc cl fk keep) (k : DNext B b sl D' w w') : Pr B w0 w' b l c r D' L E t n a er := by
  have hlg := log_off h.log h2.d
  obtain ⟨sl', q1, q2, kf⟩ := k
  exact h.lnext h2 ⟨⟨(kf.oth l (lt_of_block (LogAt.blk h.log)) hlg).trans (LogAt.blk h.log)⟩, sl', q1, q2, kf.bel, fun i hi hn => kf.oth i hi fun e => hn (Or.inl e)⟩
theorem Pr.rnext {B : Nat} {w0 w w' : World} {b l c r : Nat} {D : Dsk} {L : Lg} {E E' : Dsk} {t : ByteArray} {n a : Nat} {er : Int} {sl vw vi vc : Value} {cl fk : Int} {keep : Nat} (h : Pr B w0 w b l c r D L E t n a er) (h2 : Two w b c D E sl vw vi vc cl fk keep) (k : RNext B c vw vi vc E' w w') : Pr B w0 w' b l c r D L E' t n a er := h.vnext h2 (VNext.of h.vat h2.r k)
/-- Other blocks lie as they lay. -/
def Kt (w w' : World) : Prop := ∀ (p : Nat) (x : Array Value) (T : TypeId) (fz : Nat × Nat), w.heap[p]? = some (Obj.cells x T fz) → T ≠ 57 → T ≠ 3 → T ≠ 93 → T ≠ 62 → T ≠ 9 → T ≠ 83 → w'.heap[p]? = w.heap[p]?
theorem Kt.of_below {w w' : World} (k : Below w.heap.size w w') : Kt w w' := fun p x T fz hp _ _ _ _ _ _ => k.block p (lt_of_block hp)
theorem Kt.trans {u v w : World} (h : Kt u v) (k : Kt v w) : Kt u w := fun p x T fz hp h1 h2 h3 h4 h5 h6 =>
  have e := h p x T fz hp h1 h2 h3 h4 h5 h6
  (k p x T fz (e.trans hp) h1 h2 h3 h4 h5 h6).trans e
theorem Kt.refl (w : World) : Kt w w := fun _ _ _ _ _ _ _ _ _ _ _ => rfl
theorem Pr.lkt {B : Nat} {w0 w w' : World} {b l c r : Nat} {D D' : Dsk} {L L' : Lg} {E : Dsk} {t : ByteArray} {n a : Nat} {er : Int} {sl vw vi vc : Value} {cl fk : Int} {keep : Nat} (h : Pr B w0 w b l c r D L E t n a er) (h2 : Two w b c D E sl vw vi vc cl fk keep) (k : LNext B b l sl D' L' w w') : Kt w w' := fun p x T fz hp h1 h2' h3 h4 h5 h6 => by
  obtain ⟨_, _, _, _, kf⟩ := k
  refine kf.oth p (lt_of_block hp) fun e => ?_
  rcases e with e | e
  · exact h2.d.out hp h1 h2' e
  · exact kind_ne hp (LogAt.blk h.log) h3 e
theorem Pr.dkt {B : Nat} {w w' : World} {b c : Nat} {D D' E : Dsk} {sl vw vi vc : Value} {cl fk : Int} {keep : Nat} (h2 : Two w b c D E sl vw vi vc cl fk keep) (k : DNext B b sl D' w w') : Kt w w' := fun p x T fz hp h1 h2' h3 h4 h5 h6 => by
  obtain ⟨_, _, _, kf⟩ := k
  exact kf.oth p (lt_of_block hp) (h2.d.out hp h1 h2')
theorem Pr.vkt {B : Nat} {w0 w w' : World} {b l c r : Nat} {D : Dsk} {L : Lg} {E E' : Dsk} {t t' : ByteArray} {n a n' a' : Nat} {er er' : Int} {sl vw vi vc : Value} {cl fk : Int} {keep : Nat} (h : Pr B w0 w b l c r D L E t n a er) (h2 : Two w b c D E sl vw vi vc cl fk keep) (k : VNext B r c vw vi vc E' t' n' a' er' w w') : Kt w w' := fun p x T fz hp h1 h2' h3 h4 h5 h6 => by
  obtain ⟨_, _, _, _, _, _, _, kf⟩ := k
  refine kf.oth p (lt_of_block hp) fun e => ?_
  rcases e with e | e
  · exact h2.r.out hp h4 h2' h5 e
  · exact kind_ne hp h.vat.blk h6 e
theorem Pr.rkt {B : Nat} {w w' : World} {b c : Nat} {D E E' : Dsk} {sl vw vi vc : Value} {cl fk : Int} {keep : Nat} (h2 : Two w b c D E sl vw vi vc cl fk keep) (k : RNext B c vw vi vc E' w w') : Kt w w' := fun p x T fz hp h1 h2' h3 h4 h5 h6 => by
  obtain ⟨_, _, _, _, _, _, kf⟩ := k
  exact kf.oth p (lt_of_block hp) (h2.r.out hp h4 h2' h5)
end Go.Proofs.YtjldlmonccgopaaGreat
