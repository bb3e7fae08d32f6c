/- A disk in memory. -/
import Derived.Test.YtjldlmonccgopaaGreatRows
import Derived.Test.YtjldlmonccgopaaGreatPk0
import Derived.WalkKit
import Derived.WalkSpells
import Derived.WalkLawsBesides
import Derived.Deep.WholeRow
import Derived.Lib.OthersKept
namespace Go.Proofs.YtjldlmonccgopaaGreat
open Go.RowKit
set_option linter.unusedVariables false
set_option linter.unusedSimpArgs false

theorem hid {p : Prop} (h : p) : Hid p := h
def ints (L : List Nat) : List Value := L.map fun x : Nat => Value.int .i64 (x : Int)
def strs (L : List ByteArray) : List Value := L.map Value.string
/-- The cells of a disk, sl being the slice of what is cached. -/
def dlist (D : Dsk) (sl : Value) : List Value := strs D.wr ++ (strs D.la ++ [sl, .int .i64 (D.ops : Int), .bool D.dead, .bool D.fl, .bool D.cg, .int .i64 (D.cl : Int), .bool D.fg, .int .i64 (D.fk : Int), .int .u64 (D.keep : Int)])
/-- In block b lies the disk D. -/
structure DiskAt (w : World) (b : Nat) (D : Dsk) (sl : Value) : Prop where
  blk : w.heap[b]? = some (.cells (dlist D sl).toArray 57 (0, 0))
  own : w.ownsRow b 3 1 sl D.ca.length (ints D.ca)
  good : D.Good
def DiskIs (w : World) (b : Nat) (D : Dsk) : Prop := ∃ sl, DiskAt w b D sl
theorem cell_at {w : World} {b : Nat} {L : List Value} {t : TypeId} {fz : Nat × Nat} (h : w.heap[b]? = some (.cells L.toArray t fz)) (k : Nat) (v : Value) (hk : L[k]? = some v) : w.cell? ⟨b, k, none⟩ = some v := by
  rw [cell_of_row _ _ k _ _ _ h]; simpa using hk
theorem free_at {w : World} {b : Nat} {L : List Value} {t : TypeId} (h : w.heap[b]? = some (.cells L.toArray t (0, 0))) (k : Nat) : w.frozen? ⟨b, k, none⟩ = false := by simp [World.frozen?, h]
theorem set_at {w : World} {b k : Nat} {L : List Value} {v : Value} {t : TypeId} {fz : Nat × Nat} (h : w.heap[b]? = some (.cells L.toArray t fz)) : (w.setCell ⟨b, k, none⟩ v).heap[b]? = some (.cells (L.set k v).toArray t fz) := by
  have hlt := lt_of_block h
  have h' : w.heap[b] = .cells L.toArray t fz := by simpa [Array.getElem?_eq_getElem hlt] using h
  show (w.heap.modify b _)[b]? = _
  simp [Array.getElem_modify, hlt, h']
theorem dl_wr {D : Dsk} (h : D.wr.length = 256) (sl : Value) (i : Nat) (hi : i < 256) : (dlist D sl)[i]? = some (.string (D.wr.getD i ByteArray.empty)) := by
  have hi' : i < D.wr.length := by omega
  simp [dlist, strs, List.getElem?_append_left, hi', List.getElem?_eq_getElem hi']
theorem dl_la {D : Dsk} (h : D.wr.length = 256) (h' : D.la.length = 256) (sl : Value) (i : Nat) (hi : i < 256) : (dlist D sl)[256 + i]? = some (.string (D.la.getD i ByteArray.empty)) := by
  have hi' : i < D.la.length := by omega
  have e : 256 + i - (strs D.wr).length = i := by simp [strs]; omega
  rw [dlist, List.getElem?_append_right (by simp [strs]; omega), e, List.getElem?_append_left (by simpa [strs] using hi')]
  simp [strs, hi', List.getElem?_eq_getElem hi']
theorem dl_tail {D : Dsk} (h : D.wr.length = 256) (h' : D.la.length = 256) (sl : Value) (j : Nat) : (dlist D sl)[512 + j]? = [sl, Value.int .i64 (D.ops : Int), .bool D.dead, .bool D.fl, .bool D.cg, .int .i64 (D.cl : Int), .bool D.fg, .int .i64 (D.fk : Int), .int .u64 (D.keep : Int)][j]? := by
  have e : 512 + j - (strs D.wr).length - (strs D.la).length = j := by simp [strs]; omega
  rw [dlist, List.getElem?_append_right (by simp [strs]; omega), List.getElem?_append_right (by simp [strs]; omega), e]
theorem dset_tail {D : Dsk} (h : D.wr.length = 256) (h' : D.la.length = 256) (sl : Value) (j : Nat) (v : Value) : (dlist D sl).set (512 + j) v = strs D.wr ++ (strs D.la ++ [sl, Value.int .i64 (D.ops : Int), .bool D.dead, .bool D.fl, .bool D.cg, .int .i64 (D.cl : Int), .bool D.fg, .int .i64 (D.fk : Int), .int .u64 (D.keep : Int)].set j v) := by
  have e : 512 + j - (strs D.wr).length - (strs D.la).length = j := by simp [strs]; omega
  rw [dlist, List.set_append_right _ _ (by simp [strs]; omega), List.set_append_right _ _ (by simp [strs]; omega), e]
theorem dset_wr {D : Dsk} (h : D.wr.length = 256) (sl : Value) (i : Nat) (hi : i < 256) (s : ByteArray) : (dlist D sl).set i (.string s) = dlist { D with wr := D.wr.set i s } sl := by
  rw [dlist, List.set_append_left _ _ (by simp [strs]; omega)]
  simp [dlist, strs, List.map_set]
theorem dset_la {D : Dsk} (h : D.wr.length = 256) (h' : D.la.length = 256) (sl : Value) (i : Nat) (hi : i < 256) (s : ByteArray) : (dlist D sl).set (256 + i) (.string s) = dlist { D with la := D.la.set i s } sl := by
  have e : 256 + i - (strs D.wr).length = i := by simp [strs]; omega
  rw [dlist, List.set_append_right _ _ (by simp [strs]; omega), e, List.set_append_left _ _ (by simp [strs]; omega)]
  simp [dlist, strs, List.map_set]
theorem DiskAt.ne {w : World} {b : Nat} {D : Dsk} {sl : Value} (h : DiskAt w b D sl) : sl.ownBlock ≠ some b := by
  rcases h.own.2 with ⟨rfl, _⟩ | ⟨g, cap, cur, rfl, _, hh, _⟩
  · simp [Value.ownBlock]
  · simp only [Value.ownBlock, ne_eq, Option.some.injEq]
    intro e1
    rw [e1, h.blk] at hh
    simp only [Option.some.injEq, Obj.cells.injEq] at hh
    exact absurd hh.2.1 (by decide)
/-- A store into the disk's block. -/
theorem DiskAt.set {w : World} {b k : Nat} {D D' : Dsk} {sl v : Value} (h : DiskAt w b D sl) (e : (dlist D sl).set k v = dlist D' sl) (hc : D'.ca = D.ca) (hg : D'.Good) : DiskAt (w.setCell ⟨b, k, none⟩ v) b D' sl :=
  ⟨by rw [← e]; exact set_at h.blk, by rw [hc]; exact ownsRow_setCell_other h.own h.ne v, hg⟩
theorem ownsRow_below {w w' : World} {base : Nat} {e : TypeId} {size : Nat} {v : Value} {n : Nat} {xs : List Value} (h : w.ownsRow base e size v n xs) (hb : Below w.heap.size w w') : w'.ownsRow base e size v n xs := by
  obtain ⟨h1, h2⟩ := h
  refine ⟨h1, ?_⟩
  rcases h2 with h2 | ⟨g, cap, cur, hv, hg, hh, r⟩
  · exact Or.inl h2
  · exact Or.inr ⟨g, cap, cur, hv, hg, by rw [hb.block g (Array.getElem?_eq_some_iff.1 hh).1]; exact hh, r⟩
theorem DiskAt.below {w w' : World} {b : Nat} {D : Dsk} {sl : Value} (h : DiskAt w b D sl) (hb : Below w.heap.size w w') : DiskAt w' b D sl :=
  ⟨(hb.block b (lt_of_block h.blk)).trans h.blk, ownsRow_below h.own hb, h.good⟩
theorem DiskIs.below {w w' : World} {b : Nat} {D : Dsk} (h : DiskIs w b D) (hb : Below w.heap.size w w') : DiskIs w' b D := by
  obtain ⟨sl, h⟩ := h
  exact ⟨sl, h.below hb⟩
/-- The same with the nine last cells apart. -/
structure DA (w : World) (b : Nat) (W L : List ByteArray) (T : List Value) (sl : Value) (ca : List Nat) : Prop where
  blk : w.heap[b]? = some (.cells (strs W ++ (strs L ++ T)).toArray 57 (0, 0))
  own : w.ownsRow b 3 1 sl ca.length (ints ca)
  wl : W.length = 256
  ll : L.length = 256
def dtail (D : Dsk) (sl : Value) : List Value := [sl, .int .i64 (D.ops : Int), .bool D.dead, .bool D.fl, .bool D.cg, .int .i64 (D.cl : Int), .bool D.fg, .int .i64 (D.fk : Int), .int .u64 (D.keep : Int)]
theorem DiskAt.da {w : World} {b : Nat} {D : Dsk} {sl : Value} (h : DiskAt w b D sl) : DA w b D.wr D.la (dtail D sl) sl D.ca := ⟨h.blk, h.own, h.good.wl, h.good.ll⟩
theorem DA.disk {w : World} {b : Nat} {D : Dsk} {sl : Value} (h : DA w b D.wr D.la (dtail D sl) sl D.ca) (hg : D.Good) : DiskAt w b D sl := ⟨h.blk, h.own, hg⟩
theorem DA.ne {w : World} {b : Nat} {W L : List ByteArray} {T : List Value} {sl : Value} {ca : List Nat} (h : DA w b W L T sl ca) : sl.ownBlock ≠ some b := by
  rcases h.own.2 with ⟨rfl, _⟩ | ⟨g, cap, cur, rfl, _, hh, _⟩
  · simp [Value.ownBlock]
  · simp only [Value.ownBlock, ne_eq, Option.some.injEq]
    intro e1
    rw [e1, h.blk] at hh
    simp only [Option.some.injEq, Obj.cells.injEq] at hh
    exact absurd hh.2.1 (by decide)
theorem DA.set {w : World} {b : Nat} {W L : List ByteArray} {T : List Value} {sl : Value} {ca : List Nat} (h : DA w b W L T sl ca) (j : Nat) (v : Value) : DA (w.setCell ⟨b, 512 + j, none⟩ v) b W L (T.set j v) sl ca := by
  refine ⟨?_, ownsRow_setCell_other h.own h.ne v, h.wl, h.ll⟩
  have e : 512 + j - (strs W).length - (strs L).length = j := by simp [strs, h.wl, h.ll]; omega
  have hl := h.wl
  have hl' := h.ll
  rw [set_at h.blk, List.set_append_right _ _ (by simp [strs]; omega), List.set_append_right _ _ (by simp [strs]; omega), e]
theorem DA.cell {w : World} {b : Nat} {W L : List ByteArray} {T : List Value} {sl : Value} {ca : List Nat} (h : DA w b W L T sl ca) (j : Nat) (v : Value) (hv : T[j]? = some v) : w.cell? ⟨b, 512 + j, none⟩ = some v := by
  have hl := h.wl
  have hl' := h.ll
  have e : 512 + j - (strs W).length - (strs L).length = j := by simp [strs]; omega
  refine cell_at h.blk _ _ ?_
  rw [List.getElem?_append_right (by simp [strs]; omega), List.getElem?_append_right (by simp [strs]; omega), e, hv]
theorem DA.free {w : World} {b : Nat} {W L : List ByteArray} {T : List Value} {sl : Value} {ca : List Nat} (h : DA w b W L T sl ca) (k : Nat) : w.frozen? ⟨b, k, none⟩ = false := free_at h.blk k
theorem DA.below {w w' : World} {b : Nat} {W L : List ByteArray} {T : List Value} {sl : Value} {ca : List Nat} (h : DA w b W L T sl ca) (hb : Below w.heap.size w w') : DA w' b W L T sl ca :=
  ⟨(hb.block b (lt_of_block h.blk)).trans h.blk, ownsRow_below h.own hb, h.wl, h.ll⟩
/-- What a call on the disk in block b leaves as it was: all but that block and rows of ints; and all that lies below B. -/
structure Kp (B b : Nat) (w w' : World) : Prop where
  bel : Below B w w'
  oth : Lib.OthersKept 3 (some b) w w'
theorem Kp.refl (B b : Nat) (w : World) : Kp B b w w := ⟨Below.refl _ _, Lib.OthersKept.refl _ _ _⟩
theorem Kp.trans {B b : Nat} {u v w : World} (h : Kp B b u v) (k : Kp B b v w) : Kp B b u w := ⟨h.bel.trans k.bel, h.oth.trans k.oth⟩
theorem Kp.set {B b k : Nat} {u w : World} (h : Kp B b u w) (hB : B ≤ b) (v : Value) : Kp B b u (w.setCell ⟨b, k, none⟩ v) := ⟨h.bel.setCell (p := ⟨b, k, none⟩) hB v, h.oth.setCell ⟨b, k, none⟩ rfl v⟩
theorem Kp.drew {B b : Nat} {u w : World} (h : Kp B b u w) : Kp B b u w.drew := ⟨h.bel.drew, h.oth.drew⟩
theorem Kp.alloc {B b : Nat} {u w : World} (h : Kp B b u w) (hB : B ≤ w.heap.size) (o : Obj) : Kp B b u (w.alloc o) := ⟨h.bel.alloc hB o, h.oth.alloc o⟩
theorem Kp.of_below {B b : Nat} {u w : World} (h : Below u.heap.size u w) (hB : B ≤ u.heap.size) : Kp B b u w :=
  ⟨h.mono hB, fun k o hk _ _ => (h.block k (lt_of_block hk)).trans hk⟩
/-- Of what was there all stands but the blocks of S; and all that lies below B. -/
structure Kf (S : Nat → Prop) (B : Nat) (w w' : World) : Prop where
  bel : Below B w w'
  oth : ∀ k, k < w.heap.size → ¬ S k → w'.heap[k]? = w.heap[k]?
theorem Kf.refl (S : Nat → Prop) (B : Nat) (w : World) : Kf S B w w := ⟨Below.refl _ _, fun _ _ _ => rfl⟩
theorem Kf.trans {S : Nat → Prop} {B : Nat} {u v w : World} (h : Kf S B u v) (k : Kf S B v w) : Kf S B u w := ⟨h.bel.trans k.bel, fun i hi hs => (k.oth i (by have := h.bel.size; omega) hs).trans (h.oth i hi hs)⟩
theorem Kf.set {S : Nat → Prop} {B b k : Nat} {u w : World} (h : Kf S B u w) (hS : S b) (hB : B ≤ b) (v : Value) : Kf S B u (w.setCell ⟨b, k, none⟩ v) :=
  ⟨h.bel.setCell (p := ⟨b, k, none⟩) hB v, fun i hi hs => (Below.heap_setCell w ⟨b, k, none⟩ v i (fun e => hs (by rw [e]; exact hS))).trans (h.oth i hi hs)⟩
theorem Kf.drew {S : Nat → Prop} {B : Nat} {u w : World} (h : Kf S B u w) : Kf S B u w.drew := ⟨h.bel.drew, h.oth⟩
theorem Kf.of_below {S : Nat → Prop} {B : Nat} {u w : World} (h : Below u.heap.size u w) (hB : B ≤ u.heap.size) : Kf S B u w := ⟨h.mono hB, fun k hk _ => h.block k hk⟩
theorem Kf.size {S : Nat → Prop} {B : Nat} {u w : World} (h : Kf S B u w) : u.heap.size ≤ w.heap.size := h.bel.size
theorem Kf.below {S : Nat → Prop} {B : Nat} {u w x : World} (h : Kf S B u w) (hB : B ≤ w.heap.size) (k : Below w.heap.size w x) : Kf S B u x := h.trans (Kf.of_below k hB)
theorem Kf.alloc {S : Nat → Prop} {B : Nat} {u w : World} (h : Kf S B u w) (hB : B ≤ w.heap.size) (o : Obj) : Kf S B u (w.alloc o) := h.below hB ((Below.refl _ _).alloc (Nat.le_refl _) o)
theorem Kf.grown {S : Nat → Prop} {B : Nat} {u w w' : World} {row : Option Nat} (h : Kf S B u w) (hg : w.grownBy w' row) (hB : B ≤ w.heap.size) (hr : ∀ k, row = some k → B ≤ k) (hs : ∀ k, row = some k → S k ∨ u.heap.size ≤ k) : Kf S B u w' :=
  ⟨h.bel.grown hg hB hr, fun i hi hn => (hg.block i (by have := h.bel.size; omega) (fun e => by rcases hs i e.symm with h1 | h1; exact hn h1; omega)).trans (h.oth i hi hn)⟩
/-- The blocks of a disk. -/
def Sd (b : Nat) (sl : Value) : Nat → Prop := fun k => k = b ∨ sl.ownBlock = some k
theorem own_kind {w : World} {base : Nat} {e : TypeId} {v : Value} {n : Nat} {xs : List Value} (h : w.ownsRow base e 1 v n xs) : ∀ g, v.ownBlock = some g → ∃ c fz, w.heap[g]? = some (.cells c e fz) := by
  intro g hg
  rcases h.2 with ⟨rfl, _⟩ | ⟨g', cap, cur, rfl, _, hgg, _⟩
  · simp [Value.ownBlock] at hg
  · simp [Value.ownBlock] at hg
    subst hg
    exact ⟨cur, _, hgg⟩
theorem Kf.kp {B b : Nat} {w w' : World} {D : Dsk} {sl : Value} (k : Kf (Sd b sl) B w w') (h : DiskAt w b D sl) : Kp B b w w' :=
  ⟨k.bel, fun i o hi hb ho => (k.oth i (lt_of_block hi) (fun e => by
    rcases e with e | e
    · exact hb (by rw [e])
    · obtain ⟨c, fz, hc⟩ := own_kind h.own i e
      rw [hi] at hc
      exact ho c fz (Option.some.inj hc))).trans hi⟩
/-- What a call makes of the disk D in block b with the slice sl. -/
def DNext (B b : Nat) (sl : Value) (D' : Dsk) (w w' : World) : Prop := ∃ sl', DiskAt w' b D' sl' ∧ (∀ g, sl'.ownBlock = some g → sl.ownBlock = some g ∨ w.heap.size ≤ g) ∧ Kf (Sd b sl) B w w'
theorem DNext.old {B b : Nat} {sl : Value} {D D' : Dsk} {w w' : World} (k : DNext B b sl D' w w') (h : DiskAt w b D sl) : DiskIs w' b D' ∧ Kp B b w w' := by
  obtain ⟨sl', h1, _, h3⟩ := k
  exact ⟨⟨sl', h1⟩, h3.kp h⟩
theorem Kp.size {B b : Nat} {u w : World} (h : Kp B b u w) : u.heap.size ≤ w.heap.size := h.bel.size
end Go.Proofs.YtjldlmonccgopaaGreat
