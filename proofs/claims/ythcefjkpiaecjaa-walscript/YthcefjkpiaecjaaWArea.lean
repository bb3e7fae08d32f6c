/- wal: areaText. -/
import Derived.Test.YthcefjkpiaecjaaWParse
import Derived.Test.YthcefjkpiaecjaaShelf
namespace Go.Proofs.Ythcefjkpiaecjaa
open Go.RowKit
set_option linter.unusedVariables false
set_option maxRecDepth 100000
set_option linter.unusedSimpArgs false

theorem builder_below {T e : TypeId} {B b : Nat} {bs : List Value} {w w' : World} (h : Lib.IsBuilderF T e B b bs w) (hb : Below w.heap.size w w') : Lib.IsBuilderF T e B b bs w' := by
  have key : ∀ p, Lib.BuilderAtF T e B b p bs w → Lib.BuilderAtF T e B b p bs w' := by
    rintro p ⟨h1, v, h2, ⟨h3, h4⟩, h5⟩
    refine ⟨h1, v, by rw [hb.block b (lt_of_block h2)]; exact h2, ⟨h3, ?_⟩, h5⟩
    rcases h4 with h4 | ⟨g, cap, cur, fz, hv, hg, hh, r⟩
    · exact Or.inl h4
    · exact Or.inr ⟨g, cap, cur, fz, hv, hg, by rw [hb.block g (lt_of_block hh)]; exact hh, r⟩
  exact h.elim (fun x => Or.inl (key _ x)) (fun x => Or.inr (key _ x))
theorem builder_new (w : World) : Lib.IsBuilderF 92 5 w.heap.size w.heap.size (Lib.byteCells []) (w.alloc (Obj.cells #[.pointer none, .slice none 0 0] 92)) :=
  Or.inl ⟨Nat.le_refl _, .slice none 0 0, heap_alloc_last _ _, ⟨rfl, Or.inl ⟨rfl, rfl⟩⟩, by simp [Value.ownBlock]⟩
/-- What a builder may still take. -/
def bleft (b : Nat) (w : World) : Nat := match w.cell? ⟨b, 1, none⟩ with | some (.slice _ n _) => 40000 - n | _ => 0
theorem bleft_eq {T e : TypeId} {B b : Nat} {bs : List Value} {w : World} (h : Lib.IsBuilderF T e B b bs w) : bleft b w = 40000 - bs.length := by
  have key : ∀ p, Lib.BuilderAtF T e B b p bs w → bleft b w = 40000 - bs.length := by
    rintro p ⟨h1, v, h2, ⟨h3, h4⟩, h5⟩
    have hc := cell_at (L := [_, _]) h2 1 _ rfl
    unfold bleft
    rw [hc]
    rcases h4 with ⟨rfl, h4⟩ | ⟨g, cap, cur, fz, rfl, _⟩
    · simp at h4; simp [h4]
    · rfl
  exact h.elim (key _) (key _)
/-- All sectors are no longer than they may be. -/
def Sz (V : List ByteArray) : Prop := ∀ i, (V.getD i ByteArray.empty).size ≤ 256
/-- The first sectors of an area, filled up. -/
def ArL (V : List ByteArray) (a : Nat) (l : List UInt8) : Prop := ∀ j (h : j < l.length), (l[j]'h).toNat = ab V a j
theorem repeat_zero : ∀ c, Lib.repeatL [0] c = List.replicate c 0
  | 0 => rfl
  | c + 1 => by
    show [0] ++ Lib.repeatL [0] c = _
    rw [repeat_zero c]; rfl
theorem ArL.next {V : List ByteArray} {a k : Nat} {l : List UInt8} {s : ByteArray} (h : ArL V a l) (hl : l.length = 256 * k) (hs : V.getD (2 + a * 127 + k) ByteArray.empty = s) (hz : s.size ≤ 256) :
    ArL V a (l ++ s.data.toList ++ Lib.repeatL [0] (256 - s.size)) ∧ (l ++ s.data.toList ++ Lib.repeatL [0] (256 - s.size)).length = 256 * (k + 1) := by
  have hsl : s.data.toList.length = s.size := rfl
  have hlen : (l ++ s.data.toList ++ Lib.repeatL [0] (256 - s.size)).length = 256 * (k + 1) := by
    rw [List.length_append, List.length_append, repeat_zero, List.length_replicate, hl, hsl]; omega
  refine ⟨fun j hj => ?_, hlen⟩
  rw [hlen] at hj
  by_cases h1 : j < l.length
  · rw [List.getElem_append_left (by rw [List.length_append]; omega), List.getElem_append_left h1]
    exact h j h1
  · obtain ⟨r, rfl⟩ : ∃ r, j = 256 * k + r := ⟨j - 256 * k, by omega⟩
    have e1 : (256 * k + r) / 256 = k := by omega
    have e2 : (256 * k + r) % 256 = r := by omega
    unfold ab
    rw [e1, e2, hs]
    by_cases h2 : r < s.size
    · rw [List.getElem_append_left (by rw [List.length_append, hsl]; omega), List.getElem_append_right (by omega)]
      have e3 : 256 * k + r - l.length = r := by omega
      simp only [e3]
      rw [← bt_at s r h2]
      rfl
    · rw [List.getElem_append_right (by rw [List.length_append, hsl]; omega)]
      simp only [repeat_zero, List.getElem_replicate]
      unfold bt
      rw [dif_neg h2]; rfl
set_option maxHeartbeats 4000000 in
theorem areaText_any (w : World) (b : Nat) (D : Dsk) (a n : Nat) (ha : a ≤ 1) (hn : n ≤ 32512) (hz : Sz D.wr) (hd : DiskIs w b D) :
    Calls Try.prog 43 #[.pointer (some ⟨b, 0, none⟩), .int .i64 (a : Int), .int .i64 (n : Int)] w fun e w' => (∃ t, e = .returned (.string t) ∧ t.size = n ∧ Lies D.wr a t) ∧ Below w.heap.size w w' := by
  have hB0 := builder_new w
  have b0 : Below w.heap.size w (w.alloc (Obj.cells #[.pointer none, .slice none 0 0] 92)) := (Below.refl _ _).alloc (Nat.le_refl _) _
  go_enter Try.func43, Try.ntmps43
  go_wp2_with fail
  generalize (w.alloc (Obj.cells #[Value.pointer none, .slice none 0 0] 92)) = W at *
  go_loopw [8] (fun _ wr => ∃ (k : Nat) (l : List UInt8), 256 * k < n + 256 ∧ l.length = 256 * k ∧ ArL D.wr a l ∧ Lib.IsBuilderF 92 5 w.heap.size w.heap.size (Lib.byteCells l) wr ∧ Below w.heap.size w wr) (fun _ wr => bleft w.heap.size wr)
  case atStart => exact ⟨0, [], by omega, rfl, fun j hj => by simp at hj, hB0, b0⟩
  case round =>
    obtain ⟨k, l, hk, hl, hA, hB, hb⟩ := hrel
    clear hB0 b0
    have HA := hid hA
    clear hA
    have hlb : (Lib.byteCells l).length = 256 * k := by rw [Lib.byteCells_length, hl]
    have hlen := fun v (h : Lib.IsBuilderF 92 5 w.heap.size w.heap.size (Lib.byteCells l) v) => Try.Builder_Len_f w.heap.size w.heap.size (Lib.byteCells l) v h
    rw [hlb] at hlen
    have hleft := bleft_eq hB
    rw [hlb] at hleft
    have hdr := hd.below hb
    go_wp2_with fail
    refine (hlen wr hB).mono ?_
    rintro e w' ⟨rfl, rfl⟩
    by_cases hlt : 256 * k < n
    · obtain ⟨s, hs⟩ : ∃ s, D.wr.getD (2 + a * 127 + k) ByteArray.empty = s := ⟨_, rfl⟩
      have hss : s.size ≤ 256 := by rw [← hs]; exact hz _
      have hk256 : 2 + a * 127 + k < 256 := by omega
      have hrd := read_any w' b D ((2 + a * 127 + 256 * k / 256 : Nat) : Int) hdr
      rw [show 2 + a * 127 + 256 * k / 256 = 2 + a * 127 + k by omega, read_in D _ hk256, readE_in _ hk256, hs] at hrd
      have hse := sectorAt_any w' a (256 * k) ha (by omega)
      rw [show 2 + a * 127 + 256 * k / 256 = 2 + a * 127 + k by omega] at hse
      have hlt' : ((256 * k : Nat) : Int) < (n : Int) := by omega
      have HN := hid (HA.out.next hl hs hss)
      clear hs
      generalize 2 + a * 127 + k = q at *
      obtain ⟨m, hm⟩ : ∃ m, m = 256 * k := ⟨_, rfl⟩
      rw [← hm] at hlen hse hlt' ⊢
      have HM := hid hm
      clear hm
      go_wp2_with fail
      refine (hlen w' hB).mono ?_
      rintro e w' ⟨rfl, rfl⟩
      clear hlen
      go_wp2_with fail
      refine hse.mono ?_
      rintro e w' ⟨rfl, rfl⟩
      clear hse
      go_wp2_with fail
      refine hrd.mono ?_
      rintro e w' ⟨rfl, rfl⟩
      clear hrd
      have hbs := hb.size
      go_wp2_with fail
      refine (Try.Builder_WriteString_k w.heap.size w.heap.size (Lib.byteCells l) s w' hB (by rw [hlb]; omega) hbs).mono ?_
      rintro e w2 ⟨rfl, hB2, hb2, _⟩
      have hB2' : Lib.IsBuilderF 92 5 w.heap.size w.heap.size (Lib.byteCells (l ++ s.data.toList)) w2 := Or.inr (by rw [Lib.byteCells_append]; exact hB2)
      have hbw2 := hb.trans hb2
      have hbs2 := hbw2.size
      clear hB2 hb2
      obtain ⟨z, hz1⟩ : ∃ z : Nat, (256 : Int) - (s.size : Int) = z := ⟨256 - s.size, by omega⟩
      have HZ := hid (show z = 256 - s.size by omega)
      go_wp2_with fail
      refine (Try.strings_Repeat ⟨#[0]⟩ z w2 (by omega) (by have : (⟨#[0]⟩ : ByteArray).size = 1 := rfl; rw [this]; omega)).mono ?_
      rintro e w3 ⟨rfl, hb3⟩
      have hB3 := builder_below hB2' hb3
      have hbw3 := hbw2.trans (hb3.mono hbs2)
      obtain ⟨y, hy⟩ : ∃ y, y = (⟨(Lib.repeatL (⟨#[0]⟩ : ByteArray).data.toList z).toArray⟩ : ByteArray) := ⟨_, rfl⟩
      rw [← hy]
      have hyl : y.size = z := by rw [hy]; show (Lib.repeatL [0] z).toArray.size = _; simp [repeat_zero]
      have hyc : Lib.strCells y = Lib.byteCells (Lib.repeatL [0] z) := by rw [hy]; rfl
      have HY := hid hyc
      have hbs3 := hbw3.size
      clear hy hyc hb3 hB2' hbw2
      have hl2 : (Lib.byteCells (l ++ s.data.toList)).length = 256 * k + s.size := by rw [Lib.byteCells_length, List.length_append, hl]; rfl
      go_wp2_with fail
      refine (Try.Builder_WriteString_k w.heap.size w.heap.size (Lib.byteCells (l ++ s.data.toList)) y w3 hB3 (by rw [hl2]; omega) hbs3).mono ?_
      rintro e w4 ⟨rfl, hB4, hb4, _⟩
      have hB4' : Lib.IsBuilderF 92 5 w.heap.size w.heap.size (Lib.byteCells (l ++ s.data.toList ++ Lib.repeatL [0] (256 - s.size))) w4 := Or.inr (by rw [Lib.byteCells_append (l ++ s.data.toList), ← HZ.out, ← HY.out]; exact hB4)
      have hbw4 := hbw3.trans hb4
      have hleft2 := bleft_eq hB4'
      rw [Lib.byteCells_length, HN.out.2] at hleft2
      clear hB4 hb4 hB3 hbw3
      go_wp2
      go_roundw
      case rel => exact ⟨k + 1, _, by omega, HN.out.2, HN.out.1, hB4', hbw4⟩
      case measure => rw [hleft2, hleft]; omega
    · have hlt' : ¬ ((256 * k : Nat) : Int) < (n : Int) := by omega
      obtain ⟨m, hm⟩ : ∃ m, m = 256 * k := ⟨_, rfl⟩
      rw [← hm] at hlen hlt' ⊢
      have HM := hid hm
      have hnm : n ≤ m := by omega
      clear hm
      go_wp2_with fail
      refine (Try.Builder_String_any_k w.heap.size w.heap.size l w' hB hb.size).mono ?_
      rintro e w2 ⟨rfl, _, hb2, _⟩
      have hbw2 := hb.trans hb2
      obtain ⟨t, ht⟩ : ∃ t : ByteArray, t = ⟨l.toArray⟩ := ⟨_, rfl⟩
      rw [← ht]
      have hts : t.size = m := by rw [ht, size_list, hl, HM.out]
      have HT := hid ht
      clear ht
      have HL := hid (show (t.extract 0 n).size = n ∧ Lies D.wr a (t.extract 0 n) from by
        have h1 : (t.extract 0 n).size = n := by rw [ByteArray.size_extract]; omega
        refine ⟨h1, fun j hj => ?_⟩
        rw [h1] at hj
        rw [bt_extract t 0 n j (by omega) (by omega), Nat.zero_add, HT.out, bt_list l j (by rw [hl, ← HM.out]; omega)]
        exact HA.out j _)
      go_wp2
      go_ret
      exact ⟨⟨_, rfl, HL.out.1, HL.out.2⟩, hbw2⟩
end Go.Proofs.Ythcefjkpiaecjaa
