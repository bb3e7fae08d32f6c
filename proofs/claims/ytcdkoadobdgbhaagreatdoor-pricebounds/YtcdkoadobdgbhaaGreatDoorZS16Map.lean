/- result: a map in memory, as the row of its entries; a map from names to counts. -/
import Derived.Test.YtcdkoadobdgbhaaGreatDoorPk14
import Derived.Maps.OwnSet
import Derived.DeepKeys4
import Derived.WideKeyEntry
namespace Go.Proofs.YtcdkoadobdgbhaaGreatDoor
open Go.RowKit Go.MapKept
open Go.Maps (Keyed string_keyed)
open Go.ChangeMaps (setBlock heap_setBlock_same heap_setBlock_other modify_eq_set)
set_option linter.unusedVariables false
set_option maxRecDepth 100000
set_option linter.unusedSimpArgs false

def keyV (who : ByteArray) (s : Int) : Value := .agg #[.string who, .int .i64 s]
/-- Block b is a map of the entries es. -/
structure MapAt (k : TypeId) (w : World) (b : Nat) (es : Array MapEntry) (clock : Nat) : Prop where
  blk : w.heap[b]? = some (.map es clock)
  stamped : Stamped es clock
  keys : ∀ x ∈ es.toList, ∃ l, keyOf Tryz.prog k x.key = some l
theorem MapAt.to {k : TypeId} {w w' : World} {b : Nat} {es : Array MapEntry} {clock : Nat} (h : MapAt k w b es clock) (hb : w'.heap[b]? = w.heap[b]?) : MapAt k w' b es clock := ⟨hb.trans h.blk, h.stamped, h.keys⟩
/-- A map from names to numbers: f tells what each name has. -/
def Cnt (w : World) (b : Nat) (f : ByteArray → Int → Int) : Prop :=
  ∃ es clock, MapAt 107 w b es clock ∧ (∀ x ∈ es.toList, ∃ a s, x.key = keyV a s ∧ x.val = .int .i64 (f a s)) ∧ ∀ a s, (∀ x ∈ es.toList, x.key ≠ keyV a s) → f a s = 0
theorem Cnt.to {w w' : World} {b : Nat} {f : ByteArray → Int → Int} (h : Cnt w b f) (hb : w'.heap[b]? = w.heap[b]?) : Cnt w' b f := by
  obtain ⟨es, cl, h1, h2, h3⟩ := h
  exact ⟨es, cl, h1.to hb, h2, h3⟩
theorem Cnt.lt {w : World} {b : Nat} {f : ByteArray → Int → Int} (h : Cnt w b f) : b < w.heap.size := by
  obtain ⟨es, cl, h1, h2, h3⟩ := h
  exact lt_of_block h1.blk
theorem Cnt.below {w w' : World} {b : Nat} {f : ByteArray → Int → Int} (h : Cnt w b f) (k : Below w.heap.size w w') : Cnt w' b f := h.to (k.block b h.lt)
theorem Cnt.blk {w : World} {b : Nat} {f : ByteArray → Int → Int} (h : Cnt w b f) : ∃ es c, w.heap[b]? = some (.map es c) := by
  obtain ⟨es, cl, h1, h2, h3⟩ := h
  exact ⟨es, cl, h1.blk⟩
theorem Cnt.set_heap {w : World} {b : Nat} {f : ByteArray → Int → Int} (ho : Cnt w b f) (es : Array MapEntry) (c : Nat) (i : Nat) (hi : i ≠ b) : (setBlock w b (.map es c)).heap[i]? = w.heap[i]? := by
  obtain ⟨es', c', h⟩ := ho.blk
  exact heap_setBlock_other h _ hi
theorem Cnt.other {w : World} {b c : Nat} {f g : ByteArray → Int → Int} (h : Cnt w b f) (hne : b ≠ c) (ho : Cnt w c g) (es : Array MapEntry) (cl : Nat) : Cnt (setBlock w c (.map es cl)) b f :=
  h.to (ho.set_heap es cl b hne)
theorem Cnt.cell {w : World} {b : Nat} {f : ByteArray → Int → Int} (ho : Cnt w b f) (es : Array MapEntry) (c : Nat) {p : Addr} {v : Value} (hp : w.cell? p = some v) (hne : p.block ≠ b) : (setBlock w b (.map es c)).cell? p = some v := by
  rw [← hp]
  exact World.cell?_of_block (ho.set_heap es c _ hne)
/-- All is as it was but the map's own block. -/
structure MFr (b : Nat) (w w' : World) : Prop where
  os : w'.os = w.os
  tape : w'.tape = w.tape
  output : w'.output = w.output
  size : w'.heap.size = w.heap.size
  block : ∀ i, i ≠ b → w'.heap[i]? = w.heap[i]?
theorem MFr.below {b B : Nat} {w0 w w' : World} (h : MFr b w w') (k : Below B w0 w) (hb : B ≤ b) : Below B w0 w' :=
  ⟨h.os.trans k.os, h.tape.trans k.tape, h.output.trans k.output, by rw [h.size]; exact k.size, fun i hi => (h.block i (by omega)).trans (k.block i hi)⟩
theorem MFr.cell {b : Nat} {w w' : World} (h : MFr b w w') {p : Addr} {v : Value} (hp : w.cell? p = some v) (hne : p.block ≠ b) : w'.cell? p = some v := by
  rw [← hp]
  exact World.cell?_of_block (h.block _ hne)
end Go.Proofs.YtcdkoadobdgbhaaGreatDoor
