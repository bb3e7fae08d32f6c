/- The document's disk: raw. -/
import Derived.Test.YthcefjkpiaecjaaECrash
namespace Go.Proofs.Ythcefjkpiaecjaa
open Go.RowKit
set_option linter.unusedVariables false
set_option maxRecDepth 100000
set_option linter.unusedSimpArgs false

set_option maxHeartbeats 2000000 in
theorem raw_any (w : World) (B b : Nat) (D : Dsk) (vw vi vc : Value) (cl fk : Int) (keep : Nat) (ho : D.ops < 4611686018427387904) (hB : B ≤ b) (h : RAt w b D vw vi vc cl fk keep) (hinv : Inv D) :
    Calls Try.prog 37 #[.pointer (some ⟨b, 0, none⟩)] w fun e w' => e = .returned (.int .i64 D.begin.2) ∧ RNext B b vw vi vc D.begin.1 w w' := by
  have c3 := h.cell 3 _ rfl
  have c4 := h.cell 4 _ rfl
  have c5 := h.cell 5 _ rfl
  have c6 := h.cell 6 _ rfl
  have c7 := h.cell 7 _ rfl
  have c8 := h.cell 8 _ rfl
  have c9 := h.cell 9 _ rfl
  have c10 := h.cell 10 _ rfl
  have fr := h.free
  have hg := h.good
  have same : ∀ g, vc.ownBlock = some g → vc.ownBlock = some g ∨ w.heap.size ≤ g := fun g hg => Or.inl hg
  have HSA := hid same
  clear same
  cases hd : D.dead
  · rw [hd] at c9
    cases hf : D.fl
    · rw [hf] at c10
      by_cases hcut : D.cg = true ∧ D.cl = 0
      · obtain ⟨h1, h2⟩ := hcut
        obtain ⟨rfl, rfl⟩ := h.cl h1
        rw [h1] at c4
        rw [h2] at c5
        have HE := hid (show D.begin = (D.lose D.keep, 43) by simp [Dsk.begin, hd, hf, h1, h2])
        simp only [Int.natCast_zero, Int.cast_ofNat_Int] at c5
        go_enter Try.func37, Try.ntmps37
        go_wp2_with fail
        refine (elose_any w B b D vw vi vc _ _ _ D.keep h.kp hB h hinv hd).mono ?_
        rintro e w2 ⟨rfl, h2⟩
        go_wp2
        go_ret
        rw [HE.out]
        exact ⟨rfl, h2⟩
      · have hc : D.cg = false ∨ (D.cg = true ∧ (cl == 0) = false ∧ cl = D.cl) := by
          cases e : D.cg
          · exact Or.inl rfl
          · refine Or.inr ⟨rfl, beq_eq_false_iff_ne.2 ?_, (h.cl e).1⟩
            rw [(h.cl e).1]
            intro e2
            exact hcut ⟨e, by omega⟩
        by_cases hfail : D.fg = true ∧ D.fk = 0
        · obtain ⟨h1, h2⟩ := hfail
          obtain rfl := h.fk h1
          rw [h1] at c6
          rw [h2] at c7
          have HE := hid (show D.begin = ({ D with fl := true }, 42) by
            have e : (D.cg && D.cl == 0) = false := by
              rcases hc with e | ⟨e1, e2, e3⟩
              · simp [e]
              · rw [e3] at e2; simp at e2; simp [e2]
            simp [Dsk.begin, hd, hf, e, h1, h2])
          have hn : RNext B b vw vi vc { D with fl := true } w (w.setCell ⟨b, 10, none⟩ (.bool true)) := ⟨vc, _, _, _, h.set (D' := { D with fl := true }) (cl' := cl) (keep' := keep) 10 (.bool true) rfl rfl rfl rfl { h.good with } h.cl h.fk h.kp, HSA.out, (Kf.refl _ _ _).set (Or.inl rfl) hB _⟩
          simp only [Int.natCast_zero, Int.cast_ofNat_Int] at c7
          clear h2 hcut
          rcases hc with e | ⟨e1, e2, e3⟩
          · rw [e] at c4
            go_enter Try.func37, Try.ntmps37
            go_wp2
            go_ret
            rw [HE.out]
            exact ⟨rfl, hn⟩
          · rw [e1] at c4
            clear e3
            go_enter Try.func37, Try.ntmps37
            go_wp2
            go_ret
            rw [HE.out]
            exact ⟨rfl, hn⟩
        · have hq : D.fg = false ∨ (D.fg = true ∧ (fk == 0) = false ∧ fk = D.fk) := by
            cases e : D.fg
            · exact Or.inl rfl
            · refine Or.inr ⟨rfl, beq_eq_false_iff_ne.2 ?_, h.fk e⟩
              rw [h.fk e]
              intro e2
              exact hfail ⟨e, by omega⟩
          have HE := hid (show D.begin = ({ D with ops := D.ops + 1, cl := D.cl - 1, fk := D.fk - 1 }, 0) by
            have e : (D.cg && D.cl == 0) = false := by
              rcases hc with e | ⟨e1, e2, e3⟩
              · simp [e]
              · rw [e3] at e2; simp at e2; simp [e2]
            have e' : (D.fg && D.fk == 0) = false := by
              rcases hq with e | ⟨e1, e2, e3⟩
              · simp [e]
              · rw [e3] at e2; simp at e2; simp [e2]
            simp [Dsk.begin, hd, hf, e, e'])
          have G := hid (show Dsk.Good { D with ops := D.ops + 1, cl := D.cl - 1, fk := D.fk - 1 } by have := hg.begin; rwa [HE.out] at this)
          have hn : ∀ cl' fk' : Int, (D.cg = true → cl' = (D.cl - 1 : Nat)) → (D.fg = true → fk' = (D.fk - 1 : Nat)) → RNext B b vw vi vc { D with ops := D.ops + 1, cl := D.cl - 1, fk := D.fk - 1 } w (((w.setCell ⟨b, 5, none⟩ (.int .i64 cl')).setCell ⟨b, 7, none⟩ (.int .i64 fk')).setCell ⟨b, 3, none⟩ (.int .i64 ((D.ops : Int) + 1))) := by
            intro cl' fk' g1 g2
            have e1 : (((w.setCell ⟨b, 5, none⟩ (.int .i64 cl')).setCell ⟨b, 7, none⟩ (.int .i64 fk')).setCell ⟨b, 3, none⟩ (.int .i64 ((D.ops : Int) + 1))).heap[b]? = some (.cells (rlist { D with ops := D.ops + 1, cl := D.cl - 1, fk := D.fk - 1 } vw vi vc cl' fk' keep).toArray 59 (0, 0)) := by
              rw [set_at (set_at (set_at h.blk))]
              simp [rlist]
            have o1 := own_ne h.was h.blk (by decide)
            have o2 := own_ne h.is h.blk (by decide)
            have o3 := own_ne h.ca h.blk (by decide)
            exact ⟨vc, cl', fk', keep, ⟨e1, ownsRow_setCell_other (ownsRow_setCell_other (ownsRow_setCell_other h.was o1 _) o1 _) o1 _, ownsRow_setCell_other (ownsRow_setCell_other (ownsRow_setCell_other h.is o2 _) o2 _) o2 _, ownsRow_setCell_other (ownsRow_setCell_other (ownsRow_setCell_other h.ca o3 _) o3 _) o3 _, h.ne, G.out, fun e => ⟨g1 e, (h.cl e).2⟩, g2, h.kp⟩, HSA.out, (((Kf.refl _ _ _).set (Or.inl rfl) hB _).set (Or.inl rfl) hB _).set (Or.inl rfl) hB _⟩
          have HN := hid hn
          clear hn hcut hfail
          rcases hc with e | ⟨e1, e2, e3⟩
          all_goals rcases hq with q | ⟨q1, q2, q3⟩
          · rw [e] at c4
            rw [q] at c6
            go_enter Try.func37, Try.ntmps37
            go_wp2
            go_ret
            rw [HE.out]
            exact ⟨rfl, HN.out _ _ (by simp [e]) (by simp [q])⟩
          · rw [e] at c4
            rw [q1] at c6
            subst q3
            have p3 : D.fk ≠ 0 := by intro e; rw [e] at q2; simp at q2
            have p4 := hg.fk
            go_enter Try.func37, Try.ntmps37
            go_wp2
            go_ret
            rw [HE.out]
            exact ⟨rfl, HN.out _ _ (by simp [e]) (fun _ => by omega)⟩
          · rw [e1] at c4
            rw [q] at c6
            subst e3
            have p1 : D.cl ≠ 0 := by intro e; rw [e] at e2; simp at e2
            have p2 := hg.cl
            go_enter Try.func37, Try.ntmps37
            go_wp2
            go_ret
            rw [HE.out]
            exact ⟨rfl, HN.out _ _ (fun _ => by omega) (by simp [q])⟩
          · rw [e1] at c4
            rw [q1] at c6
            subst e3
            have p1 : D.cl ≠ 0 := by intro e; rw [e] at e2; simp at e2
            have p2 := hg.cl
            subst q3
            have p3 : D.fk ≠ 0 := by intro e; rw [e] at q2; simp at q2
            have p4 := hg.fk
            go_enter Try.func37, Try.ntmps37
            go_wp2
            go_ret
            rw [HE.out]
            exact ⟨rfl, HN.out _ _ (fun _ => by omega) (fun _ => by omega)⟩
    · rw [hf] at c10
      have HE := hid (show D.begin = (D, 42) by simp [Dsk.begin, hd, hf])
      go_enter Try.func37, Try.ntmps37
      go_wp2
      go_ret
      rw [HE.out]
      exact ⟨rfl, vc, _, _, _, h, HSA.out, Kf.refl _ _ _⟩
  · rw [hd] at c9
    have HE := hid (show D.begin = (D, 43) by simp [Dsk.begin, hd])
    go_enter Try.func37, Try.ntmps37
    go_wp2
    go_ret
    rw [HE.out]
    exact ⟨rfl, vc, _, _, _, h, HSA.out, Kf.refl _ _ _⟩
end Go.Proofs.Ythcefjkpiaecjaa
