/- store: Open. -/
import Derived.Test.YtfpifjejooineaaOLay
import Derived.Test.YtfpifjejooineaaRcDec
import Derived.Test.YtfpifjejooineaaWSumS
namespace Go.Proofs.Ytfpifjejooineaa.Rc
open Go.RowKit
set_option linter.unusedVariables false
set_option maxRecDepth 100000
set_option linter.unusedSimpArgs false

theorem store_new (w : World) (l m : Nat) : StoreAt (w.alloc (Obj.cells #[.pointer (some ⟨l, 0, none⟩), .int .i64 (m : Int)] 79)) w.heap.size l m := ⟨heap_alloc_last w _⟩
theorem tells_size {V : List ByteArray} {c : Com} {t : ByteArray} (h : Tells V c t) : t.size ≤ 32512 := by
  obtain ⟨h1, h2, _⟩ := Tells.fit h
  have := h1.len
  omega
/-- What Open answers: the text t of the log is records, or not. -/
def Opens (w w' : World) (b : Nat) (c : Com) (t : ByteArray) (e : Ending) : Prop :=
  ∃ (L : List Rec) (n : Nat), Dec (Bs.of t) L n ∧ ((n < t.size ∧ e = .returned (.tuple #[.pointer none, .slice none 0 0, .int .i64 51])) ∨
    (n = t.size ∧ ∃ s l v, e = .returned (.tuple #[.pointer (some ⟨s, 0, none⟩), v, .int .i64 0]) ∧ w.heap.size ≤ s ∧ w.heap.size ≤ l ∧ LogAt w' l b c (tailT t) 0 ∧ StoreAt w' s l L.length ∧ Row w' w.heap.size v L))
set_option maxHeartbeats 4000000 in
theorem oopen_any (w : World) (b : Nat) (D : Dsk) (hz : Sz D.wr) (hd : DiskIs w b D) :
    Calls Try.prog 12 #[.pointer (some ⟨b, 0, none⟩)] w fun e w' => (∃ c t, Tells D.wr c t ∧ Opens w w' b c t e) ∧ Below w.heap.size w w' := by
  go_enter Try.func12, Try.ntmps12
  go_wp2_with fail
  refine (open_any w b D hz hd).mono ?_
  rintro e w1 ⟨⟨l, c, t, rfl, hT, hL, hl⟩, b1⟩
  have hts := tells_size hT
  go_wp2_with fail
  refine (decode_any w1 t (by omega)).mono ?_
  rintro e w2 ⟨v, L, n, rfl, hD, hR, b2⟩
  have hnle : n ≤ t.size := by have := hD.le; rwa [of_len] at this
  have bw := chain2 b1 b2
  have HD := hid hD
  have HR := hid hR
  have hLn := hD.few
  have HT := hid hT
  obtain ⟨a, cc, rfl, hLl⟩ := hR.recs.slice
  have HL := hid hL
  clear hD hR hT hL
  by_cases hn : n < t.size
  · go_wp2
    refine bodyPost_ret (v := .tuple #[.pointer none, .slice none 0 0, .int .i64 51]) (by simp [results, Try.results12, go_sem]) rfl ?_
    exact ⟨⟨c, t, HT.out, L, n, HD.out, Or.inl ⟨hn, rfl⟩⟩, bw⟩
  · have hne : n = t.size := by omega
    have ba := (Below.refl w2.heap.size w2).alloc (Nat.le_refl _) (Obj.cells #[.pointer (some ⟨l, 0, none⟩), .int .i64 (L.length : Int)] 79)
    have bw2 := chain2 bw ba
    have hS := store_new w2 l L.length
    have HR2 := hid ((HR.out.below ba))
    have HL2 := hid (LogAt.below (LogAt.below HL.out b2 (lt_of_block (LogAt.blk HL.out))) ba (by have := lt_of_block (LogAt.blk HL.out); have := b2.size; omega))
    have h1 := b1.size
    have h2 := b2.size
    have HNE := hid hne
    clear hne
    go_wp2
    refine bodyPost_ret (v := .tuple #[.pointer (some ⟨w2.heap.size, 0, none⟩), .slice a L.length cc, .int .i64 0]) (by simp [results, Try.results12, go_sem]) rfl ?_
    exact ⟨⟨c, t, HT.out, L, n, HD.out, Or.inr ⟨HNE.out, w2.heap.size, l, _, rfl, by omega, by omega, HL2.out, hS, HR2.out.mono h1⟩⟩, bw2⟩
end Go.Proofs.Ytfpifjejooineaa.Rc
