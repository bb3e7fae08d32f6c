/- The document's wal: lay. -/
import Derived.Test.YthcefjkpiaecjaaVOpen
import Derived.Test.YthcefjkpiaecjaaWStep
namespace Go.Proofs.Ythcefjkpiaecjaa
open Go.RowKit
set_option linter.unusedVariables false
set_option maxRecDepth 100000
set_option linter.unusedSimpArgs false

/-- What is written of a text from a sector on. -/
def vps (a : Nat) (t : ByteArray) (f : Nat) : List (Nat × ByteArray) := (List.range (nP t - f)).map fun j => (2 + a * 127 + (f + j), pc t (f + j))
theorem vps_len (a : Nat) (t : ByteArray) (f : Nat) : (vps a t f).length = nP t - f := by simp [vps]
theorem vps_take (a : Nat) (t : ByteArray) (f k : Nat) (h : k < nP t - f) : (vps a t f).take (k + 1) = (vps a t f).take k ++ [(2 + a * 127 + (f + k), pc t (f + k))] := by
  rw [List.take_add_one]
  congr 1
  simp [vps, h]
theorem RNext.trans {B b : Nat} {vw vi vc : Value} {D1 D2 : Dsk} {w w1 w2 : World} (h : RNext B b vw vi vc D1 w w1) (k : ∀ vc1 cl fk keep, RAt w1 b D1 vw vi vc1 cl fk keep → RNext B b vw vi vc1 D2 w1 w2) : RNext B b vw vi vc D2 w w2 := by
  obtain ⟨v1, c1, f1, k1, r1, o1, q1⟩ := h
  obtain ⟨v2, c2, f2, k2, r2, o2, q2⟩ := k v1 c1 f1 k1 r1
  have hs := q1.bel.size
  refine ⟨v2, c2, f2, k2, r2, fun g hg => ?_, q1.bel.trans q2.bel, fun i hi hn => (q2.oth i (by omega) fun e => ?_).trans (q1.oth i hi hn)⟩
  · rcases o2 g hg with e | e
    · exact o1 g e
    · right; omega
  · rcases e with e | e | e | e
    · exact hn (Or.inl e)
    · exact hn (Or.inr (Or.inl e))
    · exact hn (Or.inr (Or.inr (Or.inl e)))
    · rcases o1 i e with e | e
      · exact hn (Or.inr (Or.inr (Or.inr e)))
      · omega
theorem RNext.step {B b : Nat} {vw vi vc vc1 : Value} {D2 : Dsk} {w w1 w2 : World} (o1 : ∀ g, vc1.ownBlock = some g → vc.ownBlock = some g ∨ w.heap.size ≤ g) (q1 : Kf (Sr b vw vi vc) B w w1) (k : RNext B b vw vi vc1 D2 w1 w2) : RNext B b vw vi vc D2 w w2 := by
  obtain ⟨v2, c2, f2, k2, r2, o2, q2⟩ := k
  have hs := q1.bel.size
  refine ⟨v2, c2, f2, k2, r2, fun g hg => ?_, q1.bel.trans q2.bel, fun i hi hn => (q2.oth i (by omega) fun e => ?_).trans (q1.oth i hi hn)⟩
  · rcases o2 g hg with e | e
    · exact o1 g e
    · right; omega
  · rcases e with e | e | e | e
    · exact hn (Or.inl e)
    · exact hn (Or.inr (Or.inl e))
    · exact hn (Or.inr (Or.inr (Or.inl e)))
    · rcases o1 i e with e | e
      · exact hn (Or.inr (Or.inr (Or.inr e)))
      · omega
theorem RNext.more {B b : Nat} {vw vi vc : Value} {D1 : Dsk} {w w1 w2 : World} (h : RNext B b vw vi vc D1 w w1) (k : Below w1.heap.size w1 w2) (hB : B ≤ w.heap.size) : RNext B b vw vi vc D1 w w2 := by
  obtain ⟨v1, c1, f1, k1, r1, o1, q1⟩ := h
  have hs := q1.bel.size
  exact ⟨v1, c1, f1, k1, r1.below k, o1, q1.bel.trans (k.mono (by omega)), fun i hi hn => (k.block i (by omega)).trans (q1.oth i hi hn)⟩
theorem RNext.up {B b : Nat} {vw vi vc : Value} {D1 : Dsk} {w w1 w2 : World} (h : RNext B b vw vi vc D1 w1 w2) (k : Below w.heap.size w w1) (hB : B ≤ w.heap.size) : RNext B b vw vi vc D1 w w2 := by
  obtain ⟨v1, c1, f1, k1, r1, o1, q1⟩ := h
  have hs := k.size
  exact ⟨v1, c1, f1, k1, r1, fun g hg => (o1 g hg).imp id (fun e => by omega), (k.mono hB).trans q1.bel, fun i hi hn => (q1.oth i (by omega) hn).trans (k.block i hi)⟩
theorem vat_off {w : World} {r m b : Nat} {t : ByteArray} {n a : Nat} {er : Int} {D : Dsk} {vw vi vc : Value} {cl fk : Int} {keep : Nat} (h : VAt w r m t n a er) (d : RAt w b D vw vi vc cl fk keep) : ¬ Sr b vw vi vc r := fun e => by
  rcases e with e | e | e | e
  · have h1 := h.blk
    rw [e, d.blk] at h1
    simp at h1
  · obtain ⟨c', fz, hc'⟩ := own_kind d.was r e
    rw [h.blk] at hc'
    simp at hc'
  · obtain ⟨c', fz, hc'⟩ := own_kind d.is r e
    rw [h.blk] at hc'
    simp at hc'
  · obtain ⟨c', fz, hc'⟩ := own_kind d.ca r e
    rw [h.blk] at hc'
    simp at hc'
theorem VAt.rnext {w w' : World} {r m b B : Nat} {t : ByteArray} {n a : Nat} {er : Int} {D D' : Dsk} {vw vi vc : Value} {cl fk : Int} {keep : Nat} (h : VAt w r m t n a er) (d : RAt w b D vw vi vc cl fk keep) (k : RNext B b vw vi vc D' w w') : VAt w' r m t n a er := by
  obtain ⟨_, _, _, _, _, _, q⟩ := k
  exact ⟨(q.oth r (lt_of_block h.blk) (vat_off h d)).trans h.blk⟩
theorem Inv.wrs : ∀ (xs : List (Nat × ByteArray)) {D : Dsk}, Inv D → D.Good → Inv (wrs D xs).1 ∧ (wrs D xs).1.Good
  | [], D, h, g => ⟨h, g⟩
  | x :: xs, D, h, g => by
    simp only [Go.Proofs.Ythcefjkpiaecjaa.wrs]
    split
    · exact Inv.wrs xs (h.write g x.1 x.2) (g.write x.1 x.2)
    · exact ⟨h.write g x.1 x.2, g.write x.1 x.2⟩
theorem one_byte (a : Nat) : beL a 1 = [UInt8.ofNat a] := by simp [beL]
theorem arr_app (x y : List UInt8) : (⟨x.toArray⟩ : ByteArray) ++ ⟨y.toArray⟩ = ⟨(x ++ y).toArray⟩ := by
  apply ByteArray.ext
  simp [ByteArray.data_append]
/-- The commit that a text comes to. -/
def comV (n a : Nat) (t : ByteArray) : Com := ⟨(n + 1) % 18446744073709551616, a, t.size, sumOf t⟩
theorem comV_text (n a : Nat) (t : ByteArray) : (⟨(comL (comV n a t)).toArray⟩ : ByteArray) = ⟨(beL ((n + 1) % 18446744073709551616) 8).toArray⟩ ++ ⟨(beL a 1).toArray⟩ ++ ⟨(beL t.size 4).toArray⟩ ++ ⟨(beL (sumOf t).toNat 4).toArray⟩ := by
  rw [arr_app, arr_app, arr_app, one_byte]
  simp [comL, comV]
end Go.Proofs.Ythcefjkpiaecjaa
