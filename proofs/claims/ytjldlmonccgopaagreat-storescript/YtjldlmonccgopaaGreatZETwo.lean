/- Both disks beside one another. -/
import Derived.Test.YtjldlmonccgopaaGreatPk19
namespace Go.Proofs.YtjldlmonccgopaaGreat
open Go.RowKit
set_option linter.unusedVariables false
set_option maxRecDepth 100000
set_option linter.unusedSimpArgs false

/-- The program's disk D in block b, the document's E in block c. -/
structure Two (w : World) (b c : Nat) (D E : Dsk) (sl vw vi vc : Value) (cl fk : Int) (keep : Nat) : Prop where
  d : DiskAt w b D sl
  r : RAt w c E vw vi vc cl fk keep
  ne : ∀ g, sl.ownBlock = some g → vc.ownBlock ≠ some g
theorem own_kf {S : Nat → Prop} {B : Nat} {w w' : World} {base : Nat} {e : TypeId} {v : Value} {n : Nat} {xs : List Value} (h : w.ownsRow base e 1 v n xs) (k : Kf S B w w') (hs : ∀ g, v.ownBlock = some g → ¬ S g) : w'.ownsRow base e 1 v n xs := by
  obtain ⟨h1, h2⟩ := h
  refine ⟨h1, ?_⟩
  rcases h2 with h2 | ⟨g, cap, cur, hv, hb, hh, r⟩
  · exact Or.inl h2
  · exact Or.inr ⟨g, cap, cur, hv, hb, (k.oth g (lt_of_block hh) (hs g (by rw [hv]; rfl))).trans hh, r⟩
theorem kind_ne {w : World} {p q : Nat} {c c' : Array Value} {t t' : TypeId} {fz fz' : Nat × Nat} (h : w.heap[p]? = some (.cells c t fz)) (h' : w.heap[q]? = some (.cells c' t' fz')) (hne : t ≠ t') : p ≠ q := by
  intro e
  rw [e, h'] at h
  simp only [Option.some.injEq, Obj.cells.injEq] at h
  exact hne h.2.1.symm
/-- What is no part of the program's disk. -/
theorem DiskAt.out {w : World} {b p : Nat} {D : Dsk} {sl : Value} {c : Array Value} {t : TypeId} {fz : Nat × Nat} (h : DiskAt w b D sl) (hp : w.heap[p]? = some (.cells c t fz)) (h1 : t ≠ 57) (h2 : t ≠ 3) : ¬ Sd b sl p := by
  rintro (e | e)
  · exact kind_ne hp h.blk h1 e
  · exact own_ne h.own hp (fun x => h2 x.symm) e
theorem RAt.out {w : World} {b p : Nat} {D : Dsk} {vw vi vc : Value} {cl fk : Int} {keep : Nat} {c : Array Value} {t : TypeId} {fz : Nat × Nat} (h : RAt w b D vw vi vc cl fk keep) (hp : w.heap[p]? = some (.cells c t fz)) (h1 : t ≠ 62) (h2 : t ≠ 3) (h3 : t ≠ 9) : ¬ Sr b vw vi vc p := by
  rintro (e | e | e | e)
  · exact kind_ne hp h.blk h1 e
  · exact own_ne h.was hp (fun x => h3 x.symm) e
  · exact own_ne h.is hp (fun x => h3 x.symm) e
  · exact own_ne h.ca hp (fun x => h2 x.symm) e
theorem Two.dcall {w w' : World} {B b c : Nat} {D D' E : Dsk} {sl vw vi vc : Value} {cl fk : Int} {keep : Nat} (h : Two w b c D E sl vw vi vc cl fk keep) (k : DNext B b sl D' w w') : ∃ sl', Two w' b c D' E sl' vw vi vc cl fk keep := by
  obtain ⟨sl', h1, h2, h3⟩ := k
  have hS : ∀ v base e n xs, w.ownsRow base e 1 v n xs → e = 9 → ∀ g, v.ownBlock = some g → ¬ Sd b sl g := by
    intro v base e n xs hv he g hg
    obtain ⟨c', fz, hc⟩ := own_kind hv g hg
    subst he
    exact h.d.out hc (by decide) (by decide)
  have hvc : ∀ g, vc.ownBlock = some g → ¬ Sd b sl g := by
    intro g hg hs
    rcases hs with e | e
    · obtain ⟨c', fz, hc⟩ := own_kind h.r.ca g hg
      exact kind_ne hc h.d.blk (by decide) e
    · exact h.ne g e hg
  refine ⟨sl', h1, ⟨(h3.oth c (lt_of_block h.r.blk) (h.d.out h.r.blk (by decide) (by decide))).trans h.r.blk, own_kf h.r.was h3 (hS _ _ _ _ _ h.r.was rfl), own_kf h.r.is h3 (hS _ _ _ _ _ h.r.is rfl), own_kf h.r.ca h3 hvc, h.r.ne, h.r.good, h.r.cl, h.r.fk, h.r.kp⟩, fun g hg e => ?_⟩
  rcases h2 g hg with e2 | e2
  · exact h.ne g e2 e
  · obtain ⟨c', fz, hc⟩ := own_kind h.r.ca g e
    have := lt_of_block hc
    omega
theorem Two.rcall {w w' : World} {B b c : Nat} {D E E' : Dsk} {sl vw vi vc : Value} {cl fk : Int} {keep : Nat} (h : Two w b c D E sl vw vi vc cl fk keep) (k : RNext B c vw vi vc E' w w') : ∃ vc' cl' fk' keep', Two w' b c D E' sl vw vi vc' cl' fk' keep' := by
  obtain ⟨vc', cl', fk', keep', h1, h2, h3⟩ := k
  have hsl : ∀ g, sl.ownBlock = some g → ¬ Sr c vw vi vc g := by
    intro g hg hs
    obtain ⟨c', fz, hc⟩ := own_kind h.d.own g hg
    rcases hs with e | e | e | e
    · exact kind_ne hc h.r.blk (by decide) e
    · exact own_ne h.r.was hc (by decide) e
    · exact own_ne h.r.is hc (by decide) e
    · exact h.ne g hg e
  refine ⟨vc', cl', fk', keep', ⟨(h3.oth b (lt_of_block h.d.blk) (h.r.out h.d.blk (by decide) (by decide) (by decide))).trans h.d.blk, own_kf h.d.own h3 hsl, h.d.good⟩, h1, fun g hg e => ?_⟩
  rcases h2 g e with e2 | e2
  · exact h.ne g hg e2
  · obtain ⟨c', fz, hc⟩ := own_kind h.d.own g hg
    have := lt_of_block hc
    omega
theorem DNext.bel {w w' : World} {B b : Nat} {sl : Value} {D' : Dsk} (k : DNext B b sl D' w w') : Below B w w' := by obtain ⟨_, _, _, h3⟩ := k; exact h3.bel
theorem RNext.bel {w w' : World} {B b : Nat} {vw vi vc : Value} {D' : Dsk} (k : RNext B b vw vi vc D' w w') : Below B w w' := by obtain ⟨_, _, _, _, _, _, h3⟩ := k; exact h3.bel
theorem Two.dbox {w w' : World} {B b c p : Nat} {D D' E : Dsk} {sl vw vi vc : Value} {cl fk : Int} {keep : Nat} {x : Array Value} {t : TypeId} {fz : Nat × Nat} (h : Two w b c D E sl vw vi vc cl fk keep) (k : DNext B b sl D' w w') (hp : w.heap[p]? = some (.cells x t fz)) (h1 : t ≠ 57) (h2 : t ≠ 3) : w'.heap[p]? = some (.cells x t fz) := by
  obtain ⟨_, _, _, h3⟩ := k
  exact (h3.oth p (lt_of_block hp) (h.d.out hp h1 h2)).trans hp
theorem Two.rbox {w w' : World} {B b c p : Nat} {D E E' : Dsk} {sl vw vi vc : Value} {cl fk : Int} {keep : Nat} {x : Array Value} {t : TypeId} {fz : Nat × Nat} (h : Two w b c D E sl vw vi vc cl fk keep) (k : RNext B c vw vi vc E' w w') (hp : w.heap[p]? = some (.cells x t fz)) (h1 : t ≠ 62) (h2 : t ≠ 3) (h3 : t ≠ 9) : w'.heap[p]? = some (.cells x t fz) := by
  obtain ⟨_, _, _, _, _, _, h4⟩ := k
  exact (h4.oth p (lt_of_block hp) (h.r.out hp h1 h2 h3)).trans hp
theorem Two.below {w w' : World} {b c : Nat} {D E : Dsk} {sl vw vi vc : Value} {cl fk : Int} {keep : Nat} (h : Two w b c D E sl vw vi vc cl fk keep) (hb : Below w.heap.size w w') : Two w' b c D E sl vw vi vc cl fk keep := ⟨h.d.below hb, h.r.below hb, h.ne⟩
theorem Two.drew {w : World} {b c : Nat} {D E : Dsk} {sl vw vi vc : Value} {cl fk : Int} {keep : Nat} (h : Two w b c D E sl vw vi vc cl fk keep) : Two w.drew b c D E sl vw vi vc cl fk keep := ⟨h.d.drew, h.r.drew, h.ne⟩
end Go.Proofs.YtjldlmonccgopaaGreat
