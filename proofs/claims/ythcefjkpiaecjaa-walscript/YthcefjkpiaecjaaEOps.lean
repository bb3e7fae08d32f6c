/- The document's disk: Write, Sync, Read, Cut, Fail, Crash, Power. -/
import Derived.Test.YthcefjkpiaecjaaERaw
namespace Go.Proofs.Ythcefjkpiaecjaa
open Go.RowKit
set_option linter.unusedVariables false
set_option maxRecDepth 100000
set_option linter.unusedSimpArgs false

theorem Inv.begin {D : Dsk} (h : Inv D) : Inv D.begin.1 := by
  unfold Dsk.begin
  split
  · exact h
  · split
    · exact h
    · split
      · exact Inv.lose D _
      · split
        · exact h
        · exact h
theorem Inv.put {D : Dsk} (h : Inv D) (hl : D.wr.length = 256) (i : Nat) (hi : i < 256) (s : ByteArray) : Inv (D.put i s) := by
  intro j hj hn
  have hmem : i ∈ (D.put i s).ca := by
    simp only [Dsk.put]
    split
    · assumption
    · simp
  have hne : j ≠ i := fun e => hn (by rw [e]; exact hmem)
  show (D.wr.set i s).getD j ByteArray.empty = D.la.getD j ByteArray.empty
  rw [getD_set (by omega), if_neg hne]
  refine h j hj fun hm => hn ?_
  simp only [Dsk.put]
  split
  · exact hm
  · exact List.mem_append_left _ hm
theorem Inv.synced (D : Dsk) : Inv D.synced := fun i _ _ => rfl
theorem Inv.write {D : Dsk} (h : Inv D) (hg : D.Good) (i : Int) (s : ByteArray) : Inv (D.write i s).1 := by
  unfold Dsk.write
  split
  · exact h
  · split
    · exact h
    · split
      · exact h.begin.put hg.begin.wl _ (by omega) _
      · exact h.begin
theorem Inv.sync {D : Dsk} (h : Inv D) : Inv D.sync.1 := by
  unfold Dsk.sync
  split
  · exact Inv.synced _
  · exact h.begin
theorem Inv.crash {D : Dsk} (h : Inv D) (keep : Nat) : Inv (D.crash keep) := by
  unfold Dsk.crash
  split
  · exact h
  · exact Inv.lose D keep
theorem Inv.new : Inv Dsk.new := fun i _ _ => rfl
theorem RNext.refl {w : World} {B b : Nat} {D : Dsk} {vw vi vc : Value} {cl fk : Int} {keep : Nat} (h : RAt w b D vw vi vc cl fk keep) : RNext B b vw vi vc D w w := ⟨vc, cl, fk, keep, h, fun g hg => Or.inl hg, Kf.refl _ _ _⟩
theorem eread_any (w : World) (b : Nat) (D : Dsk) (vw vi vc : Value) (cl fk : Int) (keep : Nat) (i : Int) (h : RAt w b D vw vi vc cl fk keep) :
    Calls Try.prog 45 #[.pointer (some ⟨b, 0, none⟩), .int .i64 i] w fun e w' => e = .returned (.tuple #[.string (D.read i), .int .i64 (readE i)]) ∧ w' = w := by
  obtain ⟨gi, ci, rfl, hi1, hi2⟩ := own_pos h.is (by omega)
  have c1 := h.cell 1 _ rfl
  rcases (show i < 0 ∨ (0 ≤ i ∧ 256 ≤ i) ∨ (0 ≤ i ∧ i < 256) by omega) with hi | ⟨hi, hi'⟩ | ⟨hi, hi'⟩
  · rw [show D.read i = ByteArray.empty by unfold Dsk.read; rw [if_pos (Or.inl hi)], show readE i = 40 by unfold readE; rw [if_pos (Or.inl hi)]]
    go_enter Try.func45, Try.ntmps45
    go_wp2
    go_ret2
    exact ⟨rfl, rfl⟩
  · rw [show D.read i = ByteArray.empty by unfold Dsk.read; rw [if_pos (Or.inr hi')], show readE i = 40 by unfold readE; rw [if_pos (Or.inr hi')]]
    go_enter Try.func45, Try.ntmps45
    go_wp2
    go_ret2
    exact ⟨rfl, rfl⟩
  · obtain ⟨n, rfl⟩ : ∃ n : Nat, i = n := ⟨i.toNat, by omega⟩
    rw [read_in D n (by omega), readE_in n (by omega)]
    have s1 := row_at h.is n (by rw [h.good.wl]; omega)
    generalize D.wr.getD n ByteArray.empty = s at *
    go_enter Try.func45, Try.ntmps45
    go_wp2
    go_ret2
    exact ⟨rfl, rfl⟩
theorem ecrash_any (w : World) (B b : Nat) (D : Dsk) (vw vi vc : Value) (cl fk : Int) (kp0 keep : Nat) (hk : keep < 18446744073709551616) (hB : B ≤ b) (h : RAt w b D vw vi vc cl fk kp0) (hinv : Inv D) :
    Calls Try.prog 18 #[.pointer (some ⟨b, 0, none⟩), .int .u64 (keep : Int)] w fun e w' => e = .returned (.tuple #[]) ∧ RNext B b vw vi vc (D.crash keep) w w' := by
  cases hd : D.dead
  · rw [show D.crash keep = D.lose keep by simp [Dsk.crash, hd]]
    exact elose_any w B b D vw vi vc cl fk kp0 keep hk hB h hinv hd
  · rw [show D.crash keep = D by simp [Dsk.crash, hd]]
    have c9 := h.cell 9 _ rfl
    rw [hd] at c9
    go_enter Try.func18, Try.ntmps18
    go_wp2
    exact bodyPost_ret (results_none rfl _ _ _) rfl ⟨rfl, RNext.refl h⟩
theorem epower_any (w : World) (B b : Nat) (D : Dsk) (vw vi vc : Value) (cl fk : Int) (kp0 : Nat) (hB : B ≤ b) (h : RAt w b D vw vi vc cl fk kp0) :
    Calls Try.prog 22 #[.pointer (some ⟨b, 0, none⟩)] w fun e w' => e = .returned (.tuple #[]) ∧ RNext B b vw vi vc D.power w w' := by
  have c4 := h.cell 4 _ rfl
  have c5 := h.cell 5 _ rfl
  have c6 := h.cell 6 _ rfl
  have c7 := h.cell 7 _ rfl
  have c9 := h.cell 9 _ rfl
  have c10 := h.cell 10 _ rfl
  have fr := h.free
  have o1 := own_ne h.was h.blk (by decide)
  have o2 := own_ne h.is h.blk (by decide)
  have o3 := own_ne h.ca h.blk (by decide)
  have hfin : RNext B b vw vi vc D.power w ((((((w.setCell ⟨b, 9, none⟩ (.bool false)).setCell ⟨b, 10, none⟩ (.bool false)).setCell ⟨b, 4, none⟩ (.bool false)).setCell ⟨b, 5, none⟩ (.int .i64 0)).setCell ⟨b, 6, none⟩ (.bool false)).setCell ⟨b, 7, none⟩ (.int .i64 0)) := by
    refine ⟨vc, 0, 0, kp0, ⟨?_, ?_, ?_, ?_, h.ne, h.good.power, by simp [Dsk.power, Dsk.forget], by simp [Dsk.power, Dsk.forget], h.kp⟩, fun g hg => Or.inl hg, ((((((Kf.refl _ _ _).set (Or.inl rfl) hB _).set (Or.inl rfl) hB _).set (Or.inl rfl) hB _).set (Or.inl rfl) hB _).set (Or.inl rfl) hB _).set (Or.inl rfl) hB _⟩
    · rw [set_at (set_at (set_at (set_at (set_at (set_at h.blk)))))]
      simp [rlist, Dsk.power, Dsk.forget]
    · exact ownsRow_setCell_other (ownsRow_setCell_other (ownsRow_setCell_other (ownsRow_setCell_other (ownsRow_setCell_other (ownsRow_setCell_other h.was o1 _) o1 _) o1 _) o1 _) o1 _) o1 _
    · exact ownsRow_setCell_other (ownsRow_setCell_other (ownsRow_setCell_other (ownsRow_setCell_other (ownsRow_setCell_other (ownsRow_setCell_other h.is o2 _) o2 _) o2 _) o2 _) o2 _) o2 _
    · exact ownsRow_setCell_other (ownsRow_setCell_other (ownsRow_setCell_other (ownsRow_setCell_other (ownsRow_setCell_other (ownsRow_setCell_other h.ca o3 _) o3 _) o3 _) o3 _) o3 _) o3 _
  go_enter Try.func22, Try.ntmps22
  go_wp2
  exact bodyPost_end (results_none rfl _ _ _) rfl ⟨rfl, hfin⟩
theorem efail_any (w : World) (B b : Nat) (D : Dsk) (vw vi vc : Value) (cl fk : Int) (kp0 : Nat) (n : Int) (hn : -9223372036854775808 ≤ n ∧ n < 9223372036854775808) (hB : B ≤ b) (h : RAt w b D vw vi vc cl fk kp0) :
    Calls Try.prog 16 #[.pointer (some ⟨b, 0, none⟩), .int .i64 n] w fun e w' => e = .returned (.tuple #[]) ∧ RNext B b vw vi vc (D.fail n) w w' := by
  have c6 := h.cell 6 _ rfl
  have c7 := h.cell 7 _ rfl
  have fr := h.free
  have o1 := own_ne h.was h.blk (by decide)
  have o2 := own_ne h.is h.blk (by decide)
  have o3 := own_ne h.ca h.blk (by decide)
  have hfin : ∀ q : Int, q = n.toNat → RNext B b vw vi vc (D.fail n) w ((w.setCell ⟨b, 6, none⟩ (.bool true)).setCell ⟨b, 7, none⟩ (.int .i64 q)) := by
    rintro q rfl
    refine ⟨vc, cl, n.toNat, kp0, ⟨?_, ownsRow_setCell_other (ownsRow_setCell_other h.was o1 _) o1 _, ownsRow_setCell_other (ownsRow_setCell_other h.is o2 _) o2 _, ownsRow_setCell_other (ownsRow_setCell_other h.ca o3 _) o3 _, h.ne, h.good.fail n hn.2, h.cl, fun _ => rfl, h.kp⟩, fun g hg => Or.inl hg, ((Kf.refl _ _ _).set (Or.inl rfl) hB _).set (Or.inl rfl) hB _⟩
    rw [set_at (set_at h.blk)]
    rfl
  have HF := hid hfin
  clear hfin
  rcases (show n < 0 ∨ 0 < n ∨ n ≤ 0 ∧ 0 ≤ n by omega) with hs | hs | ⟨hs, hs'⟩
  all_goals
    go_enter Try.func16, Try.ntmps16
    go_wp2
    exact bodyPost_end (results_none rfl _ _ _) rfl ⟨rfl, HF.out _ (by omega)⟩
theorem ecut_any (w : World) (B b : Nat) (D : Dsk) (vw vi vc : Value) (cl fk : Int) (kp0 : Nat) (n : Int) (keep : Nat) (hn : -9223372036854775808 ≤ n ∧ n < 9223372036854775808) (hk : keep < 18446744073709551616) (hB : B ≤ b) (h : RAt w b D vw vi vc cl fk kp0) :
    Calls Try.prog 14 #[.pointer (some ⟨b, 0, none⟩), .int .i64 n, .int .u64 (keep : Int)] w fun e w' => e = .returned (.tuple #[]) ∧ RNext B b vw vi vc (D.cut n keep) w w' := by
  have c4 := h.cell 4 _ rfl
  have c5 := h.cell 5 _ rfl
  have c8 := h.cell 8 _ rfl
  have fr := h.free
  have o1 := own_ne h.was h.blk (by decide)
  have o2 := own_ne h.is h.blk (by decide)
  have o3 := own_ne h.ca h.blk (by decide)
  have hfin : ∀ q : Int, q = n.toNat → RNext B b vw vi vc (D.cut n keep) w (((w.setCell ⟨b, 4, none⟩ (.bool true)).setCell ⟨b, 5, none⟩ (.int .i64 q)).setCell ⟨b, 8, none⟩ (.int .u64 (keep : Int))) := by
    rintro q rfl
    refine ⟨vc, n.toNat, fk, keep, ⟨?_, ownsRow_setCell_other (ownsRow_setCell_other (ownsRow_setCell_other h.was o1 _) o1 _) o1 _, ownsRow_setCell_other (ownsRow_setCell_other (ownsRow_setCell_other h.is o2 _) o2 _) o2 _, ownsRow_setCell_other (ownsRow_setCell_other (ownsRow_setCell_other h.ca o3 _) o3 _) o3 _, h.ne, h.good.cut n keep hn.2 hk, fun _ => ⟨rfl, rfl⟩, h.fk, hk⟩, fun g hg => Or.inl hg, (((Kf.refl _ _ _).set (Or.inl rfl) hB _).set (Or.inl rfl) hB _).set (Or.inl rfl) hB _⟩
    rw [set_at (set_at (set_at h.blk))]
    rfl
  have HF := hid hfin
  clear hfin
  rcases (show n < 0 ∨ 0 < n ∨ n ≤ 0 ∧ 0 ≤ n by omega) with hs | hs | ⟨hs, hs'⟩
  all_goals
    go_enter Try.func14, Try.ntmps14
    go_wp2
    exact bodyPost_end (results_none rfl _ _ _) rfl ⟨rfl, HF.out _ (by omega)⟩
end Go.Proofs.Ythcefjkpiaecjaa
