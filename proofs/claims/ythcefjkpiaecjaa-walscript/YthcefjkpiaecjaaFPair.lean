/- The program's disk and log, and the document's, beside one another. -/
import Derived.Test.YthcefjkpiaecjaaETwo
import Derived.Test.YthcefjkpiaecjaaVCalls
import Derived.Test.YthcefjkpiaecjaaWLaw
namespace Go.Proofs.Ythcefjkpiaecjaa
open Go.RowKit
set_option linter.unusedVariables false
set_option maxRecDepth 100000
set_option linter.unusedSimpArgs false

/-- A step of the program's side, which may write one block p more. -/
theorem Two.dstep {w w' : World} {B b c p : Nat} {D D' E : Dsk} {sl vw vi vc : Value} {cl fk : Int} {keep : Nat} {x : Array Value} {T : TypeId} {fz : Nat × Nat} {S : Nat → Prop} (h : Two w b c D E sl vw vi vc cl fk keep) (hp : w.heap[p]? = some (.cells x T fz)) (t1 : T ≠ 59) (t2 : T ≠ 9) (t3 : T ≠ 3) (hS : ∀ k, S k → Sd b sl k ∨ k = p)
    (k : DS S B b sl D' w w') : ∃ sl', Two w' b c D' E sl' vw vi vc cl fk keep := by
  obtain ⟨sl', h1, h2, h3⟩ := k
  have hO : ∀ g c' t fz, w.heap[g]? = some (.cells c' t fz) → t ≠ 54 → t ≠ T → ¬ Sd b sl g → ¬ S g := by
    intro g c' t fz hg n1 n2 n3 hs
    rcases hS g hs with e | e
    · exact n3 e
    · exact kind_ne hg hp n2 e
  have hStr : ∀ v base e n xs, w.ownsRow base e 1 v n xs → e = 9 → ∀ g, v.ownBlock = some g → ¬ S g := by
    intro v base e n xs hv he g hg
    obtain ⟨c', fz, hc⟩ := own_kind hv g hg
    subst he
    exact hO g _ _ _ hc (by decide) (fun e => t2 e.symm) (h.d.out hc (by decide) (by decide))
  have hvc : ∀ g, vc.ownBlock = some g → ¬ S g := by
    intro g hg
    obtain ⟨c', fz, hc⟩ := own_kind h.r.ca g hg
    refine hO g _ _ _ hc (by decide) (fun e => t3 e.symm) fun hs => ?_
    rcases hs with e | e
    · exact kind_ne hc h.d.blk (by decide) e
    · exact h.ne g e hg
  refine ⟨sl', h1, ⟨(h3.oth c (lt_of_block h.r.blk) (hO c _ _ _ h.r.blk (by decide) (fun e => t1 e.symm) (h.d.out h.r.blk (by decide) (by decide)))).trans h.r.blk, own_kf h.r.was h3 (hStr _ _ _ _ _ h.r.was rfl), own_kf h.r.is h3 (hStr _ _ _ _ _ h.r.is rfl), own_kf h.r.ca h3 hvc, h.r.ne, h.r.good, h.r.cl, h.r.fk, h.r.kp⟩, fun g hg e => ?_⟩
  rcases h2 g hg with e2 | e2
  · exact h.ne g e2 e
  · obtain ⟨c', fz, hc⟩ := own_kind h.r.ca g e
    have := lt_of_block hc
    omega
/-- A step of the document's side, which may write one block p more. -/
theorem Two.rstep {w w' : World} {B b c p : Nat} {D E E' : Dsk} {sl vw vi vc : Value} {cl fk : Int} {keep : Nat} {x : Array Value} {T : TypeId} {fz : Nat × Nat} {S : Nat → Prop} (h : Two w b c D E sl vw vi vc cl fk keep) (hp : w.heap[p]? = some (.cells x T fz)) (t1 : T ≠ 54) (t3 : T ≠ 3) (hS : ∀ k, S k → Sr c vw vi vc k ∨ k = p)
    (k : ∃ vc' cl' fk' keep', RAt w' c E' vw vi vc' cl' fk' keep' ∧ (∀ g, vc'.ownBlock = some g → vc.ownBlock = some g ∨ w.heap.size ≤ g) ∧ Kf S B w w') : ∃ vc' cl' fk' keep', Two w' b c D E' sl vw vi vc' cl' fk' keep' := by
  obtain ⟨vc', cl', fk', keep', h1, h2, h3⟩ := k
  have hsl : ∀ g, sl.ownBlock = some g → ¬ S g := by
    intro g hg hs
    obtain ⟨c', fz, hc⟩ := own_kind h.d.own g hg
    rcases hS g hs with (e | e | e | e) | e
    · exact kind_ne hc h.r.blk (by decide) e
    · exact own_ne h.r.was hc (by decide) e
    · exact own_ne h.r.is hc (by decide) e
    · exact h.ne g hg e
    · exact kind_ne hc hp (fun e => t3 e.symm) e
  have hb : ¬ S b := fun hs => by
    rcases hS b hs with e | e
    · exact h.r.out h.d.blk (by decide) (by decide) (by decide) e
    · exact kind_ne h.d.blk hp (fun e => t1 e.symm) e
  refine ⟨vc', cl', fk', keep', ⟨(h3.oth b (lt_of_block h.d.blk) hb).trans h.d.blk, own_kf h.d.own h3 hsl, h.d.good⟩, h1, fun g hg e => ?_⟩
  rcases h2 g e with e2 | e2
  · exact h.ne g hg e2
  · obtain ⟨c', fz, hc⟩ := own_kind h.d.own g hg
    have := lt_of_block hc
    omega
/-- Both sides: disks in b and c, logs in l and r. -/
structure Pr (B : Nat) (w0 w : World) (b l c r : Nat) (D : Dsk) (L : Lg) (E : Dsk) (t : ByteArray) (n a : Nat) (er : Int) : Prop where
  two : ∃ sl vw vi vc cl fk keep, Two w b c D E sl vw vi vc cl fk keep
  log : LgAt w l b L
  vat : VAt w r c t n a er
  bel : Below B w0 w
  hb : B ≤ b
  hl : B ≤ l
  hc : B ≤ c
  hr : B ≤ r
theorem Pr.below {B : Nat} {w0 w w' : World} {b l c r : Nat} {D : Dsk} {L : Lg} {E : Dsk} {t : ByteArray} {n a : Nat} {er : Int} (h : Pr B w0 w b l c r D L E t n a er) (k : Below w.heap.size w w') : Pr B w0 w' b l c r D L E t n a er := by
  obtain ⟨sl, vw, vi, vc, cl, fk, keep, h2⟩ := h.two
  have := lt_of_block h2.d.blk
  have := h.hb
  exact ⟨⟨sl, vw, vi, vc, cl, fk, keep, h2.below k⟩, LogAt.below h.log k (lt_of_block (LogAt.blk h.log)), h.vat.below k, h.bel.trans (k.mono (by omega)), h.hb, h.hl, h.hc, h.hr⟩
theorem Pr.lnext {B : Nat} {w0 w w' : World} {b l c r : Nat} {D D' : Dsk} {L L' : Lg} {E : Dsk} {t : ByteArray} {n a : Nat} {er : Int} {sl vw vi vc : Value} {cl fk : Int} {keep : Nat} (h : Pr B w0 w b l c r D L E t n a er) (h2 : Two w b c D E sl vw vi vc cl fk keep) (k : LNext B b l sl D' L' w w') : Pr B w0 w' b l c r D' L' E t n a er := by
  obtain ⟨k1, k2⟩ := k
  obtain ⟨sl', hT⟩ := h2.dstep (LogAt.blk h.log) (by decide) (by decide) (by decide) (fun k e => e) k2
  obtain ⟨_, _, _, kf⟩ := k2
  have hr : ¬ Sl b l sl r := fun e => by
    rcases e with e | e
    · exact h2.d.out h.vat.blk (by decide) (by decide) e
    · exact kind_ne h.vat.blk (LogAt.blk h.log) (by decide) e
  exact ⟨⟨sl', vw, vi, vc, cl, fk, keep, hT⟩, k1, ⟨(kf.oth r (lt_of_block h.vat.blk) hr).trans h.vat.blk⟩, h.bel.trans kf.bel, h.hb, h.hl, h.hc, h.hr⟩
theorem Pr.vnext {B : Nat} {w0 w w' : World} {b l c r : Nat} {D : Dsk} {L : Lg} {E E' : Dsk} {t t' : ByteArray} {n a n' a' : Nat} {er er' : Int} {sl vw vi vc : Value} {cl fk : Int} {keep : Nat} (h : Pr B w0 w b l c r D L E t n a er) (h2 : Two w b c D E sl vw vi vc cl fk keep) (k : VNext B r c vw vi vc E' t' n' a' er' w w') : Pr B w0 w' b l c r D L E' t' n' a' er' := by
  obtain ⟨k1, k2⟩ := k
  obtain ⟨vc', cl', fk', keep', hT⟩ := h2.rstep h.vat.blk (by decide) (by decide) (fun k e => e) k2
  obtain ⟨_, _, _, _, _, _, kf⟩ := k2
  have hl : ¬ (Sr c vw vi vc l ∨ l = r) := fun e => by
    rcases e with e | e
    · exact h2.r.out (LogAt.blk h.log) (by decide) (by decide) (by decide) e
    · exact kind_ne (LogAt.blk h.log) h.vat.blk (by decide) e
  exact ⟨⟨sl, vw, vi, vc', cl', fk', keep', hT⟩, ⟨(kf.oth l (lt_of_block (LogAt.blk h.log)) hl).trans (LogAt.blk h.log)⟩, k1, h.bel.trans kf.bel, h.hb, h.hl, h.hc, h.hr⟩
theorem Pr.dnext {B : Nat} {w0 w w' : World} {b l c r : Nat} {D D' : Dsk} {L : Lg} {E : Dsk} {t : ByteArray} {n a : Nat} {er : Int} {sl vw vi vc : Value} {cl fk : Int} {keep : Nat} (h : Pr B w0 w b l c r D L E t n a er) (h2 : Two w b c D E sl vw vi vc cl fk keep) (k : DNext B b sl D' w w') : Pr B w0 w' b l c r D' L E t n a er := by
  have hlg := log_off h.log h2.d
  obtain ⟨sl', q1, q2, kf⟩ := k
  exact h.lnext h2 ⟨⟨(kf.oth l (lt_of_block (LogAt.blk h.log)) hlg).trans (LogAt.blk h.log)⟩, sl', q1, q2, kf.bel, fun i hi hn => kf.oth i hi fun e => hn (Or.inl e)⟩
theorem Pr.rnext {B : Nat} {w0 w w' : World} {b l c r : Nat} {D : Dsk} {L : Lg} {E E' : Dsk} {t : ByteArray} {n a : Nat} {er : Int} {sl vw vi vc : Value} {cl fk : Int} {keep : Nat} (h : Pr B w0 w b l c r D L E t n a er) (h2 : Two w b c D E sl vw vi vc cl fk keep) (k : RNext B c vw vi vc E' w w') : Pr B w0 w' b l c r D L E' t n a er := h.vnext h2 (VNext.of h.vat h2.r k)
/-- Other blocks lie as they lay. -/
def Kt (w w' : World) : Prop := ∀ (p : Nat) (x : Array Value) (T : TypeId) (fz : Nat × Nat), w.heap[p]? = some (Obj.cells x T fz) → T ≠ 54 → T ≠ 3 → T ≠ 67 → T ≠ 59 → T ≠ 9 → T ≠ 45 → w'.heap[p]? = w.heap[p]?
theorem Kt.of_below {w w' : World} (k : Below w.heap.size w w') : Kt w w' := fun p x T fz hp _ _ _ _ _ _ => k.block p (lt_of_block hp)
theorem Kt.trans {u v w : World} (h : Kt u v) (k : Kt v w) : Kt u w := fun p x T fz hp h1 h2 h3 h4 h5 h6 =>
  have e := h p x T fz hp h1 h2 h3 h4 h5 h6
  (k p x T fz (e.trans hp) h1 h2 h3 h4 h5 h6).trans e
theorem Kt.refl (w : World) : Kt w w := fun _ _ _ _ _ _ _ _ _ _ _ => rfl
theorem Pr.lkt {B : Nat} {w0 w w' : World} {b l c r : Nat} {D D' : Dsk} {L L' : Lg} {E : Dsk} {t : ByteArray} {n a : Nat} {er : Int} {sl vw vi vc : Value} {cl fk : Int} {keep : Nat} (h : Pr B w0 w b l c r D L E t n a er) (h2 : Two w b c D E sl vw vi vc cl fk keep) (k : LNext B b l sl D' L' w w') : Kt w w' := fun p x T fz hp h1 h2' h3 h4 h5 h6 => by
  obtain ⟨_, _, _, _, kf⟩ := k
  refine kf.oth p (lt_of_block hp) fun e => ?_
  rcases e with e | e
  · exact h2.d.out hp h1 h2' e
  · exact kind_ne hp (LogAt.blk h.log) h3 e
theorem Pr.dkt {B : Nat} {w w' : World} {b c : Nat} {D D' E : Dsk} {sl vw vi vc : Value} {cl fk : Int} {keep : Nat} (h2 : Two w b c D E sl vw vi vc cl fk keep) (k : DNext B b sl D' w w') : Kt w w' := fun p x T fz hp h1 h2' h3 h4 h5 h6 => by
  obtain ⟨_, _, _, kf⟩ := k
  exact kf.oth p (lt_of_block hp) (h2.d.out hp h1 h2')
theorem Pr.vkt {B : Nat} {w0 w w' : World} {b l c r : Nat} {D : Dsk} {L : Lg} {E E' : Dsk} {t t' : ByteArray} {n a n' a' : Nat} {er er' : Int} {sl vw vi vc : Value} {cl fk : Int} {keep : Nat} (h : Pr B w0 w b l c r D L E t n a er) (h2 : Two w b c D E sl vw vi vc cl fk keep) (k : VNext B r c vw vi vc E' t' n' a' er' w w') : Kt w w' := fun p x T fz hp h1 h2' h3 h4 h5 h6 => by
  obtain ⟨_, _, _, _, _, _, _, kf⟩ := k
  refine kf.oth p (lt_of_block hp) fun e => ?_
  rcases e with e | e
  · exact h2.r.out hp h4 h2' h5 e
  · exact kind_ne hp h.vat.blk h6 e
theorem Pr.rkt {B : Nat} {w w' : World} {b c : Nat} {D E E' : Dsk} {sl vw vi vc : Value} {cl fk : Int} {keep : Nat} (h2 : Two w b c D E sl vw vi vc cl fk keep) (k : RNext B c vw vi vc E' w w') : Kt w w' := fun p x T fz hp h1 h2' h3 h4 h5 h6 => by
  obtain ⟨_, _, _, _, _, _, kf⟩ := k
  exact kf.oth p (lt_of_block hp) (h2.r.out hp h4 h2' h5)
end Go.Proofs.Ythcefjkpiaecjaa
