/- store: what the laws call. -/
import Derived.Test.YtfpifjejooineaaOOpen
import Derived.Test.YtfpifjejooineaaWFault
namespace Go.Proofs.Ytfpifjejooineaa.Rc
open Go.RowKit
set_option linter.unusedVariables false
set_option maxRecDepth 100000
set_option linter.unusedSimpArgs false

/-- A log whose text is t on a disk that does what it is told, behind at most n calls. -/
structure Hc (D : Dsk) (L : Lg) (t : ByteArray) (n : Nat) : Prop where
  hl : Hl D L t
  calm : Calm D
  ops : D.ops ≤ 300 * n
  num : L.c.num ≤ n
theorem nP_le {tl s : ByteArray} (h : tl.size + s.size ≤ 33000) : nP (tl ++ s) ≤ 130 := by unfold nP; rw [ByteArray.size_append]; omega
theorem chg_len {c : Com} {tl s : ByteArray} (h : tl.size + s.size ≤ 33000) : (chg c tl s).length ≤ 130 := by
  unfold chg
  split
  · simp
  · simp only [pcs, List.length_map, List.length_range]; exact nP_le h
theorem Hc.append {D : Dsk} {L : Lg} {t s : ByteArray} {n : Nat} (h : Hc D L t n) (hs : t.size + s.size ≤ 32512) (hn : n ≤ 1000000000) : (L.append D s).2.2 = 0 ∧ Hc (L.append D s).1 (L.append D s).2.1 (t ++ s) (n + 1) := by
  obtain ⟨e1, e2, e3, e4⟩ := h.hl.len
  have hnum := h.num
  have hops := h.ops
  have hts : L.tail.size = L.c.len % 256 := by rw [h.hl.tail, tailT_size, e1]
  have hc := append_calm (s := s) h.calm h.hl.er e3 hts (by omega)
  have hl := chg_len (c := L.c) (tl := L.tail) (s := s) (by omega)
  obtain ⟨_, _, ⟨a1, a2, a3, a4⟩ | ⟨a1, _⟩⟩ := h.hl.append (s := s) hs (by omega)
  · refine ⟨a1, a2, hc.2.1, by rw [hc.2.2.1]; omega, ?_⟩
    rw [a4]
    show (L.c.num + 1) % 18446744073709551616 ≤ _
    omega
  · exact absurd hc.1 a1
theorem Hc.check {D : Dsk} {L : Lg} {t s : ByteArray} {n : Nat} (h : Hc D L t n) (hs : s.size ≤ 32512) (hn : n ≤ 1000000000) : (L.checkpoint D s).2.2 = 0 ∧ Hc (L.checkpoint D s).1 (L.checkpoint D s).2.1 s (n + 1) := by
  have hnum := h.num
  have hops := h.ops
  have hc := checkpoint_calm (s := s) h.calm h.hl.er hs
  obtain ⟨_, _, ⟨a1, a2, a3, a4⟩ | ⟨a1, _⟩⟩ := h.hl.checkpoint (s := s) hs (by omega)
  · exact ⟨a1, a2, hc.2.1, by have := hc.2.2; omega, by rw [a4]; omega⟩
  · exact absurd hc.1 a1
theorem Hc.full {D : Dsk} {L : Lg} {t s : ByteArray} {n : Nat} (h : Hc D L t n) (hs : 32512 < t.size + s.size) : L.append D s = (D, L, 50) := append_full h.hl hs
theorem Hc.fit {D : Dsk} {L : Lg} {t : ByteArray} {n : Nat} (h : Hc D L t n) (hn : n ≤ 1000000000) : L.c.Fit ∧ L.tail.size ≤ 32512 ∧ D.ops + 1000 < 4611686018427387904 ∧ L.c.len = t.size ∧ t.size ≤ 32512 := by
  obtain ⟨e1, e2, e3, e4⟩ := h.hl.len
  have hops := h.ops
  exact ⟨e3, e4, by omega, e1, e2⟩
theorem hc_new : Hc Dsk.new ⟨com0, tailT ByteArray.empty, 0⟩ ByteArray.empty 0 := ⟨⟨rfl, ok_new, rfl, Dsk.good_new, sz_new⟩, calm_new, Nat.le_refl _, Nat.le_refl _⟩
/-- What a log tells that is opened where one lies as it should. -/
theorem Hc.tells {D : Dsk} {L : Lg} {t t0 : ByteArray} {c0 : Com} {n : Nat} (h : Hc D L t n) (k : Tells D.wr c0 t0) : t0 = t ∧ c0 = L.c ∧ Hc D ⟨c0, tailT t0, 0⟩ t n := by
  obtain ⟨e1, e2, e3⟩ := open_hl h.hl.ok h.hl.good h.hl.sz k
  exact ⟨e1, e2, e3, h.calm, h.ops, by rw [e2]; exact h.num⟩
/-- A disk in b, a log in l and a store in s; all below B lies as it lay in w0. -/
structure So (B : Nat) (w0 w : World) (b l s : Nat) (D : Dsk) (L : Lg) (m : Nat) : Prop where
  st : St B w0 w b l D L
  sat : StoreAt w s l m
  hs : B ≤ s
theorem So.next {B : Nat} {w0 w w' : World} {b l s m m' : Nat} {D D' : Dsk} {L L' : Lg} {sl : Value} (h : So B w0 w b l s D L m) (k : SNext B b l s sl D' L' m' w w') : So B w0 w' b l s D' L' m' := by
  obtain ⟨h1, h2, sl', h3, _, h5⟩ := k
  exact ⟨⟨⟨sl', h3⟩, h2, h.st.bel.trans h5.bel, h.st.hb, h.st.hl⟩, h1, h.hs⟩
theorem So.below {B : Nat} {w0 w w' : World} {b l s m : Nat} {D : Dsk} {L : Lg} (h : So B w0 w b l s D L m) (k : Below w.heap.size w w') : So B w0 w' b l s D L m := ⟨h.st.below k, h.sat.below k, h.hs⟩
theorem St.low {B B1 : Nat} {w0 w w' : World} {b l : Nat} {D : Dsk} {L : Lg} (h : St B w0 w b l D L) (hB : B1 ≤ w.heap.size) (hb : b < B1) (hc : ∀ sl g, DiskAt w b D sl → sl.ownBlock = some g → g < B1) (hl : l < B1) (hBB : B ≤ B1) (k : Below B1 w w') : St B w0 w' b l D L := by
  obtain ⟨sl, hd⟩ := h.disk
  refine ⟨⟨sl, (k.block b hb).trans hd.blk, ownsRow_same hd.own fun g hg => k.block g (hc sl g hd hg), hd.good⟩, LogAt.below h.log k hl, h.bel.trans (k.mono hBB), h.hb, h.hl⟩
theorem o_add {B : Nat} {w0 w : World} {b l s m n : Nat} {D : Dsk} {L : Lg} {t : ByteArray} (h : So B w0 w b l s D L m) (c : Hc D L t n) (hn : n ≤ 1000000000) (hm : m ≤ 1099511627776) (v : Value) (R : List Rec) (hR : R.length ≤ 1048576) (hv : IsRecs w v R) :
    Calls Try.prog 16 #[.pointer (some ⟨s, 0, none⟩), v] w fun e w' => e = .returned (.int .i64 (laid D L m (L.append D (allT R)) m R).2.2.2) ∧ So B w0 w' b l s (laid D L m (L.append D (allT R)) m R).1 (laid D L m (L.append D (allT R)) m R).2.1 (laid D L m (L.append D (allT R)) m R).2.2.1 := by
  obtain ⟨sl, hd⟩ := h.st.disk
  obtain ⟨f1, f2, f3, _⟩ := c.fit hn
  exact (Add_any w B s l b m D sl L v R hR hm f1 f2 f3 h.st.hb h.st.hl h.hs hd h.st.log h.sat hv).mono fun e w' ⟨h1, h2⟩ => ⟨h1, h.next h2⟩
theorem o_replace {B : Nat} {w0 w : World} {b l s m n : Nat} {D : Dsk} {L : Lg} {t : ByteArray} (h : So B w0 w b l s D L m) (c : Hc D L t n) (hn : n ≤ 1000000000) (hm : m ≤ 1099511627776) (v : Value) (R : List Rec) (hR : R.length ≤ 1048576) (hv : IsRecs w v R) :
    Calls Try.prog 17 #[.pointer (some ⟨s, 0, none⟩), v] w fun e w' => e = .returned (.int .i64 (laid D L m (L.checkpoint D (allT R)) 0 R).2.2.2) ∧ So B w0 w' b l s (laid D L m (L.checkpoint D (allT R)) 0 R).1 (laid D L m (L.checkpoint D (allT R)) 0 R).2.1 (laid D L m (L.checkpoint D (allT R)) 0 R).2.2.1 := by
  obtain ⟨sl, hd⟩ := h.st.disk
  obtain ⟨f1, f2, f3, _⟩ := c.fit hn
  exact (Replace_any w B s l b m D sl L v R hR hm f1 f2 f3 h.st.hb h.st.hl h.hs hd h.st.log h.sat hv).mono fun e w' ⟨h1, h2⟩ => ⟨h1, h.next h2⟩
theorem o_len {B : Nat} {w0 w : World} {b l s m : Nat} {D : Dsk} {L : Lg} (h : So B w0 w b l s D L m) : Calls Try.prog 14 #[.pointer (some ⟨s, 0, none⟩)] w fun e w' => e = .returned (.int .i64 (m : Int)) ∧ w' = w := olen_any w s l m h.sat
theorem o_room {B : Nat} {w0 w : World} {b l s m n : Nat} {D : Dsk} {L : Lg} {t : ByteArray} (h : So B w0 w b l s D L m) (c : Hc D L t n) (hn : n ≤ 1000000000) : Calls Try.prog 15 #[.pointer (some ⟨s, 0, none⟩)] w fun e w' => e = .returned (.int .i64 (32512 - t.size : Nat)) ∧ w' = w := by
  obtain ⟨f1, f2, f3, f4, f5⟩ := c.fit hn
  rw [← f4]
  exact oroom_any w s l m b L h.st.log f1.len h.sat
/-- A new disk, and a store of it. -/
theorem o_first (w0 w : World) (B b : Nat) (hB : B ≤ b) (hd : DiskIs w b Dsk.new) (hbel : Below B w0 w) :
    Calls Try.prog 12 #[.pointer (some ⟨b, 0, none⟩)] w fun e w' => (∃ s l v, e = .returned (.tuple #[.pointer (some ⟨s, 0, none⟩), v, .int .i64 0]) ∧ IsRecs w' v [] ∧ So B w0 w' b l s Dsk.new ⟨com0, tailT ByteArray.empty, 0⟩ 0) ∧ Below w.heap.size w w' := by
  have hlt : B ≤ w.heap.size := by obtain ⟨sl, hd⟩ := hd; have := lt_of_block hd.blk; omega
  refine (oopen_any w b Dsk.new (sz_new.now Dsk.good_new) hd).mono ?_
  rintro e w' ⟨⟨c, t, hT, L, n, hD, h⟩, hb⟩
  obtain ⟨rfl, rfl, k⟩ := open_hl ok_new Dsk.good_new sz_new hT
  have hn : n = 0 := by have := hD.le; simpa [of_len] using this
  have hL : L = [] := by have := hD.few; rw [hn] at this; exact List.eq_nil_of_length_eq_zero (by omega)
  subst hn hL
  rcases h with ⟨h1, _⟩ | ⟨_, s, l, v, h1, h2, h3, h4, h5, h6⟩
  · simp at h1
  · exact ⟨⟨s, l, v, h1, h6.recs, ⟨hd.below hb, h4, hbel.trans (hb.mono hlt), hB, by omega⟩, h5, by omega⟩, hb⟩
end Go.Proofs.Ytfpifjejooineaa.Rc
