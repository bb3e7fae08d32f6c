/- The document's disk: Crash, raw. -/
import Derived.Test.YthcefjkpiaecjaaEBase
namespace Go.Proofs.Ythcefjkpiaecjaa
open Go.RowKit
set_option linter.unusedVariables false
set_option maxRecDepth 100000
set_option linter.unusedSimpArgs false

theorem Inv.lose (D : Dsk) (keep : Nat) : Inv (D.lose keep) := fun i _ _ => rfl
/-- What a call makes of the document's disk. -/
def RNext (B b : Nat) (vw vi vc : Value) (D' : Dsk) (w w' : World) : Prop := ∃ vc' cl' fk' keep', RAt w' b D' vw vi vc' cl' fk' keep' ∧ (∀ g, vc'.ownBlock = some g → vc.ownBlock = some g ∨ w.heap.size ≤ g) ∧ Kf (Sr b vw vi vc) B w w'
set_option maxHeartbeats 2000000 in
theorem elose_any (w : World) (B b : Nat) (D : Dsk) (vw vi vc : Value) (cl fk : Int) (kp0 keep : Nat) (hk : keep < 18446744073709551616) (hB : B ≤ b) (h : RAt w b D vw vi vc cl fk kp0) (hinv : Inv D) (hd : D.dead = false) :
    Calls Try.prog 18 #[.pointer (some ⟨b, 0, none⟩), .int .u64 (keep : Int)] w fun e w' => e = .returned (.tuple #[]) ∧ RNext B b vw vi vc (D.lose keep) w w' := by
  obtain ⟨gw, cw, rfl, hw1, hw2⟩ := own_pos h.was (by omega)
  obtain ⟨gi, ci, rfl, hi1, hi2⟩ := own_pos h.is (by omega)
  have Bw : B ≤ gw := Nat.le_trans hB (h.was.lt gw rfl).1
  have Bi : B ≤ gi := Nat.le_trans hB (h.is.lt gi rfl).1
  have hdd : w.cell? ⟨b, 9, none⟩ = some (.bool false) := by have := h.cell 9 _ rfl; rwa [hd] at this
  obtain ⟨sa, sc, rfl⟩ := own_slice h.ca
  have hsm := h.good.small
  have hG := h.good
  go_enter Try.func18, Try.ntmps18
  go_wp2
  go_loopw [4] (fun i W => ∃ (k : Nat) (X : List ByteArray), k ≤ D.ca.length ∧ i = .int .i64 k ∧ IsMid D keep k X ∧ RAt W b { D with la := loseL keep D.wr (D.ca.take k) 0 D.la, wr := X } (.slice (some ⟨gw, 0, none⟩) 256 cw) (.slice (some ⟨gi, 0, none⟩) 256 ci) (.slice sa D.ca.length sc) cl fk kp0 ∧ Kf (Sr b (.slice (some ⟨gw, 0, none⟩) 256 cw) (.slice (some ⟨gi, 0, none⟩) 256 ci) (.slice sa D.ca.length sc)) B w W) (fun i _ => D.ca.length - (intOf i).toNat)
  case atStart => exact ⟨0, D.wr, Nat.zero_le _, rfl, mid_start keep h.good, h, Kf.refl _ _ _⟩
  case round =>
    obtain ⟨k, X, hkl, rfl, hmid, hd1, kp⟩ := hrel
    clear h hdd
    have c2 := hd1.cell 2 _ rfl
    have HM := hid hmid
    clear hmid
    by_cases hlt : k < D.ca.length
    · obtain ⟨gc, cc, hsv, hc1, hc2⟩ := own_pos hd1.ca (by show 0 < D.ca.length; omega)
      simp only [Value.slice.injEq] at hsv
      obtain ⟨rfl, _, rfl⟩ := hsv
      have hx := ints_at hd1.ca k hlt
      simp only at hx
      have hmem : D.ca.getD k 0 < 256 := hd1.good.lt _ (mem_getD.2 ⟨k, hlt, rfl⟩)
      have c0 := hd1.cell 0 _ rfl
      have c1 := hd1.cell 1 _ rfl
      have hwl := hd1.good.wl
      have hll := hd1.good.ll
      simp only at hwl hll
      have s1 := row_at hd1.is (D.ca.getD k 0) (by simp only; omega)
      have s0 := row_at hd1.was (D.ca.getD k 0) (by simp only; omega)
      simp only at s0 s1
      have f1 := hd1.is.frozenAt (D.ca.getD k 0)
      have f0 := hd1.was.frozenAt (D.ca.getD k 0)
      have ht := kbit_test keep k hk
      cases hb : kbit keep k
      · rw [hb] at ht
        have HN := hid (mid_drop HM.out hG hlt hb)
        have HS := hid (show loseL keep D.wr (D.ca.take (k + 1)) 0 D.la = loseL keep D.wr (D.ca.take k) 0 D.la by rw [mid_snoc keep hlt, hb]; simp)
        have hd2 := (hd1.set_is (D.ca.getD k 0) ((loseL keep D.wr (D.ca.take k) 0 D.la).getD (D.ca.getD k 0) ByteArray.empty)).drew
        have kp2 := (kp.set (k := D.ca.getD k 0) (b := gi) (Or.inr (Or.inr (Or.inl rfl))) Bi (.string ((loseL keep D.wr (D.ca.take k) 0 D.la).getD (D.ca.getD k 0) ByteArray.empty))).drew
        clear hb HM
        generalize D.ca.getD k 0 = x at *
        generalize (loseL keep D.wr (D.ca.take k) 0 D.la).getD x ByteArray.empty = p0 at *
        generalize X.getD x ByteArray.empty = p1 at *
        go_wp2
        go_region
        generalize (wr.setCell ⟨gi, x, none⟩ (.string p0)).drew = wq at *
        clear hd1 kp c0 c1 c2 s0 s1 f0 f1 hx
        go_wp2
        go_roundw
        case rel => exact ⟨k + 1, X.set x p0, by omega, by go_num, HN.out, by rw [HS.out]; exact hd2, kp2⟩
        case measure => simp [intOf]; omega
      · rw [hb] at ht
        have HE := hid (mid_keep HM.out hG hlt hb)
        have HS := hid (show loseL keep D.wr (D.ca.take (k + 1)) 0 D.la = (loseL keep D.wr (D.ca.take k) 0 D.la).set (D.ca.getD k 0) (X.getD (D.ca.getD k 0) ByteArray.empty) by rw [mid_snoc keep hlt, hb, HE.out.1]; simp)
        have hd2 := (hd1.set_was (D.ca.getD k 0) (X.getD (D.ca.getD k 0) ByteArray.empty)).drew
        have kp2 := (kp.set (k := D.ca.getD k 0) (b := gw) (Or.inr (Or.inl rfl)) Bw (.string (X.getD (D.ca.getD k 0) ByteArray.empty))).drew
        have HN := hid HE.out.2
        clear hb HM HE
        generalize D.ca.getD k 0 = x at *
        generalize (loseL keep D.wr (D.ca.take k) 0 D.la).getD x ByteArray.empty = p0 at *
        generalize X.getD x ByteArray.empty = p1 at *
        go_wp2
        go_region
        generalize (wr.setCell ⟨gw, x, none⟩ (.string p1)).drew = wq at *
        clear hd1 kp c0 c1 c2 s0 s1 f0 f1 hx
        go_wp2
        go_roundw
        case rel => exact ⟨k + 1, X, by omega, by go_num, HN.out, by rw [HS.out]; exact hd2, kp2⟩
        case measure => simp [intOf]; omega
    · have hk' : k = D.ca.length := by omega
      subst hk'
      have hX := mid_end HM.out hinv hG
      rw [List.take_length] at hd1
      subst hX
      have HL := hid (hG.lose keep)
      have c4 := hd1.cell 4 _ rfl
      have c5 := hd1.cell 5 _ rfl
      have c6 := hd1.cell 6 _ rfl
      have c7 := hd1.cell 7 _ rfl
      have c9 := hd1.cell 9 _ rfl
      have fr := hd1.free
      have hfin : RNext B b (.slice (some ⟨gw, 0, none⟩) 256 cw) (.slice (some ⟨gi, 0, none⟩) 256 ci) (.slice sa D.ca.length sc) (D.lose keep) w ((((((wr.setCell ⟨b, 2, none⟩ (.slice none 0 0)).setCell ⟨b, 4, none⟩ (.bool false)).setCell ⟨b, 5, none⟩ (.int .i64 0)).setCell ⟨b, 6, none⟩ (.bool false)).setCell ⟨b, 7, none⟩ (.int .i64 0)).setCell ⟨b, 9, none⟩ (.bool true)) := by
        have r2 : RAt (wr.setCell ⟨b, 2, none⟩ (.slice none 0 0)) b { D with la := loseL keep D.wr D.ca 0 D.la, wr := loseL keep D.wr D.ca 0 D.la, ca := [] } (.slice (some ⟨gw, 0, none⟩) 256 cw) (.slice (some ⟨gi, 0, none⟩) 256 ci) (.slice none 0 0) cl fk kp0 :=
          ⟨set_at hd1.blk, ownsRow_setCell_other hd1.was (own_ne hd1.was hd1.blk (by decide)) _, ownsRow_setCell_other hd1.is (own_ne hd1.is hd1.blk (by decide)) _, World.ownsRow_nil _ _ _ _, hd1.ne, { hd1.good with nd := by simp, lt := by simp }, hd1.cl, hd1.fk, hd1.kp⟩
        have r4 := r2.set (D' := { D with la := loseL keep D.wr D.ca 0 D.la, wr := loseL keep D.wr D.ca 0 D.la, ca := [], cg := false, cl := 0 }) (cl' := cl) (fk' := fk) (keep' := kp0) 4 (.bool false) rfl rfl rfl rfl { r2.good with cl := by simp, c0 := by simp } (by simp) r2.fk r2.kp
        have r5 := r4.set (D' := { D with la := loseL keep D.wr D.ca 0 D.la, wr := loseL keep D.wr D.ca 0 D.la, ca := [], cg := false, cl := 0 }) (cl' := 0) (fk' := fk) (keep' := kp0) 5 (.int .i64 0) rfl rfl rfl rfl r4.good (by simp) r4.fk r4.kp
        have r6 := r5.set (D' := { D with la := loseL keep D.wr D.ca 0 D.la, wr := loseL keep D.wr D.ca 0 D.la, ca := [], cg := false, cl := 0, fg := false, fk := 0 }) (cl' := 0) (fk' := fk) (keep' := kp0) 6 (.bool false) rfl rfl rfl rfl { r5.good with fk := by simp, f0 := by simp } (by simp) (by simp) r5.kp
        have r7 := r6.set (D' := { D with la := loseL keep D.wr D.ca 0 D.la, wr := loseL keep D.wr D.ca 0 D.la, ca := [], cg := false, cl := 0, fg := false, fk := 0 }) (cl' := 0) (fk' := 0) (keep' := kp0) 7 (.int .i64 0) rfl rfl rfl rfl r6.good (by simp) (by simp) r6.kp
        have r9 := r7.set (D' := D.lose keep) (cl' := 0) (fk' := 0) (keep' := kp0) 9 (.bool true) rfl rfl rfl rfl HL.out (by simp [Dsk.lose, Dsk.forget]) (by simp [Dsk.lose, Dsk.forget]) r7.kp
        exact ⟨_, _, _, _, r9, fun g hg => by simp [Value.ownBlock] at hg, (((((kp.set (Or.inl rfl) hB _).set (Or.inl rfl) hB _).set (Or.inl rfl) hB _).set (Or.inl rfl) hB _).set (Or.inl rfl) hB _).set (Or.inl rfl) hB _⟩
      go_wp2
      exact bodyPost_end (results_none rfl _ _ _) rfl ⟨rfl, hfin⟩
end Go.Proofs.Ythcefjkpiaecjaa
