/- wal: two disks, and a log of each. -/
import Derived.Test.YtchhllbegokihaaWSumS
namespace Go.Proofs.Ytchhllbegokihaa
open Go.RowKit
set_option linter.unusedVariables false
set_option maxRecDepth 100000
set_option linter.unusedSimpArgs false

/-- A disk in block b with the slice sl, and a log of it in block l. -/
structure Pr (w : World) (b l : Nat) (D : Dsk) (L : Lg) (sl : Value) : Prop where
  disk : DiskAt w b D sl
  log : LgAt w l b L
theorem disk_log {w : World} {b l b' : Nat} {D : Dsk} {L : Lg} {sl : Value} (h : DiskAt w b D sl) (k : LgAt w l b' L) : b ≠ l := fun e => by
  have h1 := h.blk
  rw [e, LogAt.blk k] at h1
  simp at h1
theorem own_log {w : World} {b l b' : Nat} {D : Dsk} {L : Lg} {sl : Value} (h : DiskAt w b D sl) (k : LgAt w l b' L) : sl.ownBlock ≠ some l := fun e => by
  obtain ⟨c', fz, hc'⟩ := own_kind h.own l e
  rw [LogAt.blk k] at hc'
  simp at hc'
theorem own_disk {w : World} {b b' : Nat} {D E : Dsk} {sl sm : Value} (h : DiskAt w b D sl) (k : DiskAt w b' E sm) : sl.ownBlock ≠ some b' := fun e => by
  obtain ⟨c', fz, hc'⟩ := own_kind h.own b' e
  rw [k.blk] at hc'
  simp at hc'
/-- Two such, apart. -/
structure Tw (B : Nat) (w0 w : World) (a x : Nat) (D : Dsk) (L : Lg) (b y : Nat) (E : Dsk) (M : Lg) : Prop where
  ex : ∃ sl sm, Pr w a x D L sl ∧ Pr w b y E M sm ∧ ∀ g, sl.ownBlock = some g → sm.ownBlock ≠ some g
  ab : a ≠ b
  xy : x ≠ y
  bel : Below B w0 w
  ha : B ≤ a
  hb : B ≤ b
  hx : B ≤ x
  hy : B ≤ y
theorem Tw.swap {B : Nat} {w0 w : World} {a x : Nat} {D : Dsk} {L : Lg} {b y : Nat} {E : Dsk} {M : Lg} (h : Tw B w0 w a x D L b y E M) : Tw B w0 w b y E M a x D L := by
  obtain ⟨sl, sm, h1, h2, h3⟩ := h.ex
  exact ⟨⟨sm, sl, h2, h1, fun g h4 h5 => h3 g h5 h4⟩, h.ab.symm, h.xy.symm, h.bel, h.hb, h.ha, h.hy, h.hx⟩
theorem Tw.next {B : Nat} {w0 w w' : World} {a x : Nat} {D D' : Dsk} {L L' : Lg} {b y : Nat} {E : Dsk} {M : Lg} {sl sm : Value} (h : Tw B w0 w a x D L b y E M) (h1 : Pr w a x D L sl) (h2 : Pr w b y E M sm) (h3 : ∀ g, sl.ownBlock = some g → sm.ownBlock ≠ some g) (k : LNext B a x sl D' L' w w') : Tw B w0 w' a x D' L' b y E M := by
  obtain ⟨k1, sl', k2, k3, k4⟩ := k
  have hn : ∀ g, g = b ∨ sm.ownBlock = some g ∨ g = y → ¬ Sl a x sl g := fun g hg e => by
    rcases e with (e | e) | e
    · rcases hg with rfl | hg | rfl
      · exact h.ab e.symm
      · rw [e] at hg; exact own_disk h2.disk h1.disk hg
      · exact disk_log h1.disk h2.log e.symm
    · rcases hg with rfl | hg | rfl
      · exact own_disk h1.disk h2.disk e
      · exact h3 g e hg
      · exact own_log h1.disk h2.log e
    · rcases hg with rfl | hg | rfl
      · exact disk_log h2.disk h1.log e
      · rw [e] at hg; exact own_log h2.disk h1.log hg
      · exact h.xy e.symm
  have hlt : ∀ g, sm.ownBlock = some g → g < w.heap.size := fun g hg => (h2.disk.own.lt g hg).2
  refine ⟨⟨sl', sm, ⟨k2, k1⟩, ⟨h2.disk.same fun g hg => ?_, ⟨(k4.oth y (lt_of_block (LogAt.blk h2.log)) (hn y (Or.inr (Or.inr rfl)))).trans (LogAt.blk h2.log)⟩⟩, fun g hg hm => ?_⟩, h.ab, h.xy, h.bel.trans k4.bel, h.ha, h.hb, h.hx, h.hy⟩
  · rcases hg with rfl | hg
    · exact k4.oth g (lt_of_block h2.disk.blk) (hn g (Or.inl rfl))
    · exact k4.oth g (hlt g hg) (hn g (Or.inr (Or.inl hg)))
  · rcases k3 g hg with e | e
    · exact h3 g e hm
    · have := hlt g hm; omega
theorem Tw.below {B : Nat} {w0 w w' : World} {a x : Nat} {D : Dsk} {L : Lg} {b y : Nat} {E : Dsk} {M : Lg} (h : Tw B w0 w a x D L b y E M) (k : Below w.heap.size w w') : Tw B w0 w' a x D L b y E M := by
  obtain ⟨sl, sm, h1, h2, h3⟩ := h.ex
  exact ⟨⟨sl, sm, ⟨h1.disk.below k, LogAt.below h1.log k (lt_of_block (LogAt.blk h1.log))⟩, ⟨h2.disk.below k, LogAt.below h2.log k (lt_of_block (LogAt.blk h2.log))⟩, h3⟩, h.ab, h.xy, h.bel.trans (k.mono (by have := lt_of_block h1.disk.blk; have := h.ha; omega)), h.ha, h.hb, h.hx, h.hy⟩
theorem t_append {B : Nat} {w0 w : World} {a x : Nat} {D : Dsk} {L : Lg} {b y : Nat} {E : Dsk} {M : Lg} (h : Tw B w0 w a x D L b y E M) (s : ByteArray) (hf : L.c.Fit) (ht : L.tail.size ≤ 32512) (hs : s.size ≤ 1099511627776) (ho : D.ops + 1000 < 4611686018427387904) :
    Calls Try.prog 11 #[.pointer (some ⟨x, 0, none⟩), .string s] w fun e w' => e = .returned (.int .i64 (L.append D s).2.2) ∧ Tw B w0 w' a x (L.append D s).1 (L.append D s).2.1 b y E M := by
  obtain ⟨sl, sm, h1, h2, h3⟩ := h.ex
  exact (append_any w B x a D sl L s hf ht hs ho h.ha h.hx h1.disk h1.log).mono fun e w' ⟨e1, e2⟩ => ⟨e1, h.next h1 h2 h3 e2⟩
theorem t_check {B : Nat} {w0 w : World} {a x : Nat} {D : Dsk} {L : Lg} {b y : Nat} {E : Dsk} {M : Lg} (h : Tw B w0 w a x D L b y E M) (s : ByteArray) (hf : L.c.Fit) (hs : s.size ≤ 1099511627776) (ho : D.ops + 1000 < 4611686018427387904) :
    Calls Try.prog 16 #[.pointer (some ⟨x, 0, none⟩), .string s] w fun e w' => e = .returned (.int .i64 (L.checkpoint D s).2.2) ∧ Tw B w0 w' a x (L.checkpoint D s).1 (L.checkpoint D s).2.1 b y E M := by
  obtain ⟨sl, sm, h1, h2, h3⟩ := h.ex
  exact (checkpoint_any w B x a D sl L s hf hs ho h.ha h.hx h1.disk h1.log).mono fun e w' ⟨e1, e2⟩ => ⟨e1, h.next h1 h2 h3 e2⟩
theorem t_len {B : Nat} {w0 w : World} {a x : Nat} {D : Dsk} {L : Lg} {b y : Nat} {E : Dsk} {M : Lg} (h : Tw B w0 w a x D L b y E M) :
    Calls Try.prog 12 #[.pointer (some ⟨x, 0, none⟩)] w fun e w' => e = .returned (.int .i64 (L.c.len : Int)) ∧ w' = w := by
  obtain ⟨sl, sm, h1, h2, h3⟩ := h.ex
  exact len_any w x a L h1.log
theorem t_open {B : Nat} {w0 w : World} {a x : Nat} {D : Dsk} {L : Lg} {b y : Nat} {E : Dsk} {M : Lg} (h : Tw B w0 w a x D L b y E M) (hz : Sz D.wr) :
    Calls Try.prog 10 #[.pointer (some ⟨a, 0, none⟩)] w fun e w' => ∃ l' c t, e = .returned (.tuple #[.pointer (some ⟨l', 0, none⟩), .string t, .int .i64 0]) ∧ Tells D.wr c t ∧ Tw B w0 w' a x D L b y E M := by
  obtain ⟨sl, sm, h1, h2, h3⟩ := h.ex
  refine (open_any w a D hz ⟨sl, h1.disk⟩).mono ?_
  rintro e w' ⟨⟨l', c, t, k1, k2, k3, k4⟩, hb⟩
  exact ⟨l', c, t, k1, k2, h.below hb⟩
set_option maxHeartbeats 1000000 in
/-- A new disk, whose slice is nil. -/
theorem new_at (w : World) :
    Calls Try.prog 9 #[] w fun e w' => e = .returned (.pointer (some ⟨w.heap.size, 0, none⟩)) ∧ DiskAt w' w.heap.size Dsk.new (.slice none 0 0) ∧ Below w.heap.size w w' := by
  go_enter Try.func9, Try.ntmps9
  obtain ⟨C, hC, hB⟩ : ∃ C, (∀ w, (zeroValue 63).run Try.prog w = .ok (.agg C) w) ∧ Hid (C = (dlist Dsk.new (.slice none 0 0)).toArray) := ⟨_, (zero_of_info new_info).1, rfl⟩
  go_wp2
  go_ret
  refine ⟨rfl, ⟨?_, World.ownsRow_nil _ _ _ _, Dsk.good_new⟩, (Below.refl _ _).alloc (Nat.le_refl _) _⟩
  rw [← hB.out]
  exact heap_alloc_last w _
end Go.Proofs.Ytchhllbegokihaa
