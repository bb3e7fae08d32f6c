/- WArea, WOpen. -/
import Derived.Test.YtjldlmonccgopaaGreatPk17
import Derived.Test.YtjldlmonccgopaaGreatZShelf
/- wal: areaText. -/
namespace Go.Proofs.YtjldlmonccgopaaGreat
open Go.RowKit
set_option linter.unusedVariables false
set_option maxRecDepth 100000
set_option linter.unusedSimpArgs false

theorem builder_below {T e : TypeId} {B b : Nat} {bs : List Value} {w w' : World} (h : Lib.IsBuilderF T e B b bs w) (hb : Below w.heap.size w w') : Lib.IsBuilderF T e B b bs w' := by
  have key : ∀ p, Lib.BuilderAtF T e B b p bs w → Lib.BuilderAtF T e B b p bs w' := by
    rintro p ⟨h1, v, h2, ⟨h3, h4⟩, h5⟩
    refine ⟨h1, v, by rw [hb.block b (lt_of_block h2)]; exact h2, ⟨h3, ?_⟩, h5⟩
    rcases h4 with h4 | ⟨g, cap, cur, fz, hv, hg, hh, r⟩
    · exact Or.inl h4
    · exact Or.inr ⟨g, cap, cur, fz, hv, hg, by rw [hb.block g (lt_of_block hh)]; exact hh, r⟩
  exact h.elim (fun x => Or.inl (key _ x)) (fun x => Or.inr (key _ x))
theorem builder_new (w : World) : Lib.IsBuilderF 124 5 w.heap.size w.heap.size (Lib.byteCells []) (w.alloc (Obj.cells #[.pointer none, .slice none 0 0] 124)) :=
  Or.inl ⟨Nat.le_refl _, .slice none 0 0, heap_alloc_last _ _, ⟨rfl, Or.inl ⟨rfl, rfl⟩⟩, by simp [Value.ownBlock]⟩
/-- What a builder may still take. -/
def bleft (b : Nat) (w : World) : Nat := match w.cell? ⟨b, 1, none⟩ with | some (.slice _ n _) => 40000 - n | _ => 0
theorem bleft_eq {T e : TypeId} {B b : Nat} {bs : List Value} {w : World} (h : Lib.IsBuilderF T e B b bs w) : bleft b w = 40000 - bs.length := by
  have key : ∀ p, Lib.BuilderAtF T e B b p bs w → bleft b w = 40000 - bs.length := by
    rintro p ⟨h1, v, h2, ⟨h3, h4⟩, h5⟩
    have hc := cell_at (L := [_, _]) h2 1 _ rfl
    unfold bleft
    rw [hc]
    rcases h4 with ⟨rfl, h4⟩ | ⟨g, cap, cur, fz, rfl, _⟩
    · simp at h4; simp [h4]
    · rfl
  exact h.elim (key _) (key _)
/-- All sectors are no longer than they may be. -/
def Sz (V : List ByteArray) : Prop := ∀ i, (V.getD i ByteArray.empty).size ≤ 256
/-- The first sectors of an area, filled up. -/
def ArL (V : List ByteArray) (a : Nat) (l : List UInt8) : Prop := ∀ j (h : j < l.length), (l[j]'h).toNat = ab V a j
theorem repeat_zero : ∀ c, Lib.repeatL [0] c = List.replicate c 0
  | 0 => rfl
  | c + 1 => by
    show [0] ++ Lib.repeatL [0] c = _
    rw [repeat_zero c]; rfl
theorem ArL.next {V : List ByteArray} {a k : Nat} {l : List UInt8} {s : ByteArray} (h : ArL V a l) (hl : l.length = 256 * k) (hs : V.getD (2 + a * 127 + k) ByteArray.empty = s) (hz : s.size ≤ 256) :
    ArL V a (l ++ s.data.toList ++ Lib.repeatL [0] (256 - s.size)) ∧ (l ++ s.data.toList ++ Lib.repeatL [0] (256 - s.size)).length = 256 * (k + 1) := by
  have hsl : s.data.toList.length = s.size := rfl
  have hlen : (l ++ s.data.toList ++ Lib.repeatL [0] (256 - s.size)).length = 256 * (k + 1) := by
    rw [List.length_append, List.length_append, repeat_zero, List.length_replicate, hl, hsl]; omega
  refine ⟨fun j hj => ?_, hlen⟩
  rw [hlen] at hj
  by_cases h1 : j < l.length
  · rw [List.getElem_append_left (by rw [List.length_append]; omega), List.getElem_append_left h1]
    exact h j h1
  · obtain ⟨r, rfl⟩ : ∃ r, j = 256 * k + r := ⟨j - 256 * k, by omega⟩
    have e1 : (256 * k + r) / 256 = k := by omega
    have e2 : (256 * k + r) % 256 = r := by omega
    unfold ab
    rw [e1, e2, hs]
    by_cases h2 : r < s.size
    · rw [List.getElem_append_left (by rw [List.length_append, hsl]; omega), List.getElem_append_right (by omega)]
      have e3 : 256 * k + r - l.length = r := by omega
      simp only [e3]
      rw [← bt_at s r h2]
      rfl
    · rw [List.getElem_append_right (by rw [List.length_append, hsl]; omega)]
      simp only [repeat_zero, List.getElem_replicate]
      unfold bt
      rw [dif_neg h2]; rfl
set_option maxHeartbeats 4000000 in
theorem areaText_any (w : World) (b : Nat) (D : Dsk) (a n : Nat) (ha : a ≤ 1) (hn : n ≤ 32512) (hz : Sz D.wr) (hd : DiskIs w b D) :
    Calls Tryz.prog 65 #[.pointer (some ⟨b, 0, none⟩), .int .i64 (a : Int), .int .i64 (n : Int)] w fun e w' => (∃ t, e = .returned (.string t) ∧ t.size = n ∧ Lies D.wr a t) ∧ Below w.heap.size w w' := by
  have hB0 := builder_new w
  have b0 : Below w.heap.size w (w.alloc (Obj.cells #[.pointer none, .slice none 0 0] 124)) := (Below.refl _ _).alloc (Nat.le_refl _) _
  go_enter Tryz.func65, Tryz.ntmps65
  go_wp2_with fail
  generalize (w.alloc (Obj.cells #[Value.pointer none, .slice none 0 0] 124)) = W at *
  go_loopw [8] (fun _ wr => ∃ (k : Nat) (l : List UInt8), 256 * k < n + 256 ∧ l.length = 256 * k ∧ ArL D.wr a l ∧ Lib.IsBuilderF 124 5 w.heap.size w.heap.size (Lib.byteCells l) wr ∧ Below w.heap.size w wr) (fun _ wr => bleft w.heap.size wr)
  case atStart => exact ⟨0, [], by omega, rfl, fun j hj => by simp at hj, hB0, b0⟩
  case round =>
    obtain ⟨k, l, hk, hl, hA, hB, hb⟩ := hrel
    clear hB0 b0
    have HA := hid hA
    clear hA
    have hlb : (Lib.byteCells l).length = 256 * k := by rw [Lib.byteCells_length, hl]
    have hlen := fun v (h : Lib.IsBuilderF 124 5 w.heap.size w.heap.size (Lib.byteCells l) v) => Tryz.Builder_Len_f w.heap.size w.heap.size (Lib.byteCells l) v h
    rw [hlb] at hlen
    have hleft := bleft_eq hB
    rw [hlb] at hleft
    have hdr := hd.below hb
    go_wp2_with fail
    refine (hlen wr hB).mono ?_
    rintro e w' ⟨rfl, rfl⟩
    by_cases hlt : 256 * k < n
    · obtain ⟨s, hs⟩ : ∃ s, D.wr.getD (2 + a * 127 + k) ByteArray.empty = s := ⟨_, rfl⟩
      have hss : s.size ≤ 256 := by rw [← hs]; exact hz _
      have hk256 : 2 + a * 127 + k < 256 := by omega
      have hrd := read_any w' b D ((2 + a * 127 + 256 * k / 256 : Nat) : Int) hdr
      rw [show 2 + a * 127 + 256 * k / 256 = 2 + a * 127 + k by omega, read_in D _ hk256, readE_in _ hk256, hs] at hrd
      have hse := sectorAt_any w' a (256 * k) ha (by omega)
      rw [show 2 + a * 127 + 256 * k / 256 = 2 + a * 127 + k by omega] at hse
      have hlt' : ((256 * k : Nat) : Int) < (n : Int) := by omega
      have HN := hid (HA.out.next hl hs hss)
      clear hs
      generalize 2 + a * 127 + k = q at *
      obtain ⟨m, hm⟩ : ∃ m, m = 256 * k := ⟨_, rfl⟩
      rw [← hm] at hlen hse hlt' ⊢
      have HM := hid hm
      clear hm
      go_wp2_with fail
      refine (hlen w' hB).mono ?_
      rintro e w' ⟨rfl, rfl⟩
      clear hlen
      go_wp2_with fail
      refine hse.mono ?_
      rintro e w' ⟨rfl, rfl⟩
      clear hse
      go_wp2_with fail
      refine hrd.mono ?_
      rintro e w' ⟨rfl, rfl⟩
      clear hrd
      have hbs := hb.size
      go_wp2_with fail
      refine (Tryz.Builder_WriteString_k w.heap.size w.heap.size (Lib.byteCells l) s w' hB (by rw [hlb]; omega) hbs).mono ?_
      rintro e w2 ⟨rfl, hB2, hb2, _⟩
      have hB2' : Lib.IsBuilderF 124 5 w.heap.size w.heap.size (Lib.byteCells (l ++ s.data.toList)) w2 := Or.inr (by rw [Lib.byteCells_append]; exact hB2)
      have hbw2 := hb.trans hb2
      have hbs2 := hbw2.size
      clear hB2 hb2
      obtain ⟨z, hz1⟩ : ∃ z : Nat, (256 : Int) - (s.size : Int) = z := ⟨256 - s.size, by omega⟩
      have HZ := hid (show z = 256 - s.size by omega)
      go_wp2_with fail
      refine (Tryz.strings_Repeat ⟨#[0]⟩ z w2 (by omega) (by have : (⟨#[0]⟩ : ByteArray).size = 1 := rfl; rw [this]; omega)).mono ?_
      rintro e w3 ⟨rfl, hb3⟩
      have hB3 := builder_below hB2' hb3
      have hbw3 := hbw2.trans (hb3.mono hbs2)
      obtain ⟨y, hy⟩ : ∃ y, y = (⟨(Lib.repeatL (⟨#[0]⟩ : ByteArray).data.toList z).toArray⟩ : ByteArray) := ⟨_, rfl⟩
      rw [← hy]
      have hyl : y.size = z := by rw [hy]; show (Lib.repeatL [0] z).toArray.size = _; simp [repeat_zero]
      have hyc : Lib.strCells y = Lib.byteCells (Lib.repeatL [0] z) := by rw [hy]; rfl
      have HY := hid hyc
      have hbs3 := hbw3.size
      clear hy hyc hb3 hB2' hbw2
      have hl2 : (Lib.byteCells (l ++ s.data.toList)).length = 256 * k + s.size := by rw [Lib.byteCells_length, List.length_append, hl]; rfl
      go_wp2_with fail
      refine (Tryz.Builder_WriteString_k w.heap.size w.heap.size (Lib.byteCells (l ++ s.data.toList)) y w3 hB3 (by rw [hl2]; omega) hbs3).mono ?_
      rintro e w4 ⟨rfl, hB4, hb4, _⟩
      have hB4' : Lib.IsBuilderF 124 5 w.heap.size w.heap.size (Lib.byteCells (l ++ s.data.toList ++ Lib.repeatL [0] (256 - s.size))) w4 := Or.inr (by rw [Lib.byteCells_append (l ++ s.data.toList), ← HZ.out, ← HY.out]; exact hB4)
      have hbw4 := hbw3.trans hb4
      have hleft2 := bleft_eq hB4'
      rw [Lib.byteCells_length, HN.out.2] at hleft2
      clear hB4 hb4 hB3 hbw3
      go_wp2
      go_roundw
      case rel => exact ⟨k + 1, _, by omega, HN.out.2, HN.out.1, hB4', hbw4⟩
      case measure => rw [hleft2, hleft]; omega
    · have hlt' : ¬ ((256 * k : Nat) : Int) < (n : Int) := by omega
      obtain ⟨m, hm⟩ : ∃ m, m = 256 * k := ⟨_, rfl⟩
      rw [← hm] at hlen hlt' ⊢
      have HM := hid hm
      have hnm : n ≤ m := by omega
      clear hm
      go_wp2_with fail
      refine (Tryz.Builder_String_any_k w.heap.size w.heap.size l w' hB hb.size).mono ?_
      rintro e w2 ⟨rfl, _, hb2, _⟩
      have hbw2 := hb.trans hb2
      obtain ⟨t, ht⟩ : ∃ t : ByteArray, t = ⟨l.toArray⟩ := ⟨_, rfl⟩
      rw [← ht]
      have hts : t.size = m := by rw [ht, size_list, hl, HM.out]
      have HT := hid ht
      clear ht
      have HL := hid (show (t.extract 0 n).size = n ∧ Lies D.wr a (t.extract 0 n) from by
        have h1 : (t.extract 0 n).size = n := by rw [ByteArray.size_extract]; omega
        refine ⟨h1, fun j hj => ?_⟩
        rw [h1] at hj
        rw [bt_extract t 0 n j (by omega) (by omega), Nat.zero_add, HT.out, bt_list l j (by rw [hl, ← HM.out]; omega)]
        exact HA.out j _)
      go_wp2
      go_ret
      exact ⟨⟨_, rfl, HL.out.1, HL.out.2⟩, hbw2⟩
end Go.Proofs.YtjldlmonccgopaaGreat
/- wal: rightCommit, Open. -/
namespace Go.Proofs.YtjldlmonccgopaaGreat
open Go.RowKit
set_option linter.unusedVariables false
set_option maxRecDepth 100000
set_option linter.unusedSimpArgs false

theorem parse_any (w : World) (s : ByteArray) (hs : s.size ≤ maxLen) :
    Calls Tryz.prog 64 #[.string s] w fun e w' => ((∃ c, IsCom s c ∧ e = .returned (.tuple #[cv c, .bool true])) ∨ ((∀ c, ¬ IsCom s c) ∧ e = .returned (.tuple #[cv comZ, .bool false]))) ∧ Below w.heap.size w w' := by
  by_cases h : s.size = 21
  · exact parse_long w s h
  · exact (parse_short w s hs h).mono fun e w' ⟨h1, h2⟩ => ⟨Or.inr ⟨fun c k => h k.size, h1⟩, h2⟩
set_option maxHeartbeats 4000000 in
theorem rightCommit_any (w : World) (b : Nat) (D : Dsk) (i : Nat) (hi : i ≤ 1) (hz : Sz D.wr) (hd : DiskIs w b D) :
    Calls Tryz.prog 50 #[.pointer (some ⟨b, 0, none⟩), .int .i64 (i : Int)] w fun e w' => (∃ c t, e = .returned (.tuple #[cv c, .string t]) ∧ Right0 D.wr i c t) ∧ Below w.heap.size w w' := by
  have hrd := fun v h => read_any v b D (i : Int) h
  rw [read_in D _ (by omega), readE_in _ (by omega)] at hrd
  obtain ⟨s, hs⟩ : ∃ s, D.wr.getD i ByteArray.empty = s := ⟨_, rfl⟩
  rw [hs] at hrd
  have hss : s.size ≤ 256 := by rw [← hs]; exact hz _
  have HS := hid hs
  clear hs
  go_enter Tryz.func50, Tryz.ntmps50
  go_wp2_with fail
  have q0 := Box4.new w 88 (.int .u64 0) (.int .i64 0) (.int .i64 0) (.int .u32 0)
  have B0 := (Below.refl w.heap.size w).alloc (Nat.le_refl _) (Obj.cells #[.int .u64 0, .int .i64 0, .int .i64 0, .int .u32 0] 88)
  generalize w.alloc (Obj.cells #[Value.int .u64 0, .int .i64 0, .int .i64 0, .int .u32 0] 88) = W at *
  refine (hrd W (hd.below B0)).mono ?_
  rintro e w' ⟨rfl, rfl⟩
  go_wp2_with fail
  refine (parse_any w' s (by unfold maxLen; omega)).mono ?_
  rintro e w1 ⟨hcase, b1⟩
  have hW := lt_of_block q0.blk
  have q1 := q0.below b1 hW
  have B1 := B0.trans (b1.mono B0.size)
  clear hrd q0 b1
  rcases hcase with ⟨c, hc, rfl⟩ | ⟨hno, rfl⟩
  · have HC := hid hc
    have hf := hc.fit
    have hf1 := hf.area
    have hf2 := hf.len
    have hf3 := hf.sum
    have hf4 := hf.num
    clear hc
    unfold cv
    go_wp2_with fail
    have q2 := Box4.new w1 88 (.int .u64 (c.num : Int)) (.int .i64 (c.area : Int)) (.int .i64 (c.len : Int)) (.int .u32 c.sum)
    have b2 := (Below.refl w1.heap.size w1).alloc (Nat.le_refl _) (Obj.cells #[.int .u64 (c.num : Int), .int .i64 (c.area : Int), .int .i64 (c.len : Int), .int .u32 c.sum] 88)
    generalize w1.alloc (Obj.cells #[.int .u64 (c.num : Int), .int .i64 (c.area : Int), .int .i64 (c.len : Int), .int .u32 c.sum] 88) = X at *
    have hw1 := lt_of_block q1.blk
    have B2 := B1.trans (b2.mono B1.size)
    have r2 := q1.below b2 hw1
    have hX := lt_of_block q2.blk
    refine (areaText_any X b D c.area c.len hf1 hf2 hz (hd.below B2)).mono ?_
    rintro e w3 ⟨⟨t, rfl, ht, hl⟩, b3⟩
    have q3 := q2.below b3 hX
    have r3 := r2.below b3 (by omega)
    have B3 := B2.trans (b3.mono B2.size)
    clear q2 r2 q1 b2 b3
    have hsum := fun v => wsum_any t v (by omega)
    have hts : t.size ≤ 32512 := by omega
    have HL := hid (And.intro ht hl)
    clear ht hl
    have hw1lt : w.heap.size < w1.heap.size := hw1
    by_cases hS : sumOf t = c.sum
    · have HR := hid (show Right D.wr i c t from ⟨by rw [HS.out]; exact HC.out, HL.out.1, HL.out.2, hS⟩)
      rw [hS] at hsum
      have d3 := q3.c3
      go_wp2_with fail
      go_quiet ((go_at_call 66; exact Calls.quiet_of_same (hsum _)))
      have q4 := q3.drewN nq
      have r4 := r3.drewN nq
      have B4 := below_dn B3 nq
      generalize w3.drewN nq = w4 at *
      clear q3 r3 B3 d3
      have r5 := r4.set (.int .u64 (c.num : Int)) (.int .i64 (c.area : Int)) (.int .i64 (c.len : Int)) (.int .u32 c.sum)
      have B5 := below4 B4 (Nat.le_refl _) (.int .u64 (c.num : Int)) (.int .i64 (c.area : Int)) (.int .i64 (c.len : Int)) (.int .u32 c.sum)
      obtain ⟨_, d0, d1, d2, d3, dr⟩ := q4
      obtain ⟨_, c0, c1, c2, c3, fr⟩ := r4
      go_wp2
      obtain ⟨_, g0, g1, g2, g3, _⟩ := r5
      exact bodyPost_ret (v := .tuple #[.agg #[.int .u64 (c.num : Int), .int .i64 (c.area : Int), .int .i64 (c.len : Int), .int .u32 c.sum], .string t]) (by simp [results, Tryz.results50, go_sem, g0, g1, g2, g3]) rfl ⟨⟨c, t, rfl, Or.inl HR.out⟩, B5⟩
    · have HN := hid (show ∀ c t, ¬ Right D.wr i c t from fun c' t' k => by
        have e1 : c = c' := HC.out.unique (by rw [← HS.out]; exact k.com)
        subst e1
        have e2 : t = t' := HL.out.2.unique k.lies (HL.out.1.trans k.size.symm)
        subst e2
        exact hS k.sum)
      have hS' : (sumOf t == c.sum) = false := beq_eq_false_iff_ne.2 hS
      have HS' := hid hS
      generalize sumOf t = st at *
      clear hS
      have d3 := q3.c3
      go_wp2_with fail
      go_quiet ((go_at_call 66; exact Calls.quiet_of_same (hsum _)))
      have r4 := r3.drewN nq
      have B4 := below_dn B3 nq
      generalize w3.drewN nq = w4 at *
      clear q3 r3 B3 d3
      have r5 := r4.set (.int .u64 0) (.int .i64 0) (.int .i64 0) (.int .u32 2166136261)
      have B5 := below4 B4 (Nat.le_refl _) (.int .u64 0) (.int .i64 0) (.int .i64 0) (.int .u32 2166136261)
      obtain ⟨_, c0, c1, c2, c3, fr⟩ := r4
      go_wp2_with fail
      refine (wsum_nil w4).mono ?_
      rintro e w' ⟨rfl, rfl⟩
      go_wp2
      obtain ⟨_, g0, g1, g2, g3, _⟩ := r5
      exact bodyPost_ret (v := .tuple #[.agg #[.int .u64 0, .int .i64 0, .int .i64 0, .int .u32 2166136261], .string ⟨#[]⟩]) (by simp [results, Tryz.results50, go_sem, g0, g1, g2, g3]) rfl ⟨⟨com0, ByteArray.empty, rfl, Or.inr ⟨HN.out, rfl, rfl⟩⟩, B5⟩
  · have HN := hid (show ∀ c t, ¬ Right D.wr i c t from fun c t k => hno c (by rw [← HS.out]; exact k.com))
    clear hno
    have b2 := (Below.refl w1.heap.size w1).alloc (Nat.le_refl _) (Obj.cells #[.int .u64 0, .int .i64 0, .int .i64 0, .int .u32 0] 88)
    unfold cv comZ
    go_wp2_with fail
    generalize w1.alloc (Obj.cells #[Value.int .u64 0, .int .i64 0, .int .i64 0, .int .u32 0] 88) = X at *
    have hw1 := lt_of_block q1.blk
    have B2 := B1.trans (b2.mono B1.size)
    have r2 := q1.below b2 hw1
    clear q1 b2
    refine (wsum_nil X).mono ?_
    rintro e w' ⟨rfl, rfl⟩
    have r4 := r2.set (.int .u64 0) (.int .i64 0) (.int .i64 0) (.int .u32 2166136261)
    have B4 := below4 B2 (Nat.le_refl _) (.int .u64 0) (.int .i64 0) (.int .i64 0) (.int .u32 2166136261)
    obtain ⟨_, c0, c1, c2, c3, fr⟩ := r2
    go_wp2
    obtain ⟨_, g0, g1, g2, g3, _⟩ := r4
    exact bodyPost_ret (v := .tuple #[.agg #[.int .u64 0, .int .i64 0, .int .i64 0, .int .u32 2166136261], .string ⟨#[]⟩]) (by simp [results, Tryz.results50, go_sem, g0, g1, g2, g3]) rfl ⟨⟨com0, ByteArray.empty, rfl, Or.inr ⟨HN.out, rfl, rfl⟩⟩, B4⟩
theorem keep4c {W w' : World} {b : Nat} {v0 v1 v2 v3 : Value} (d : W.cell? ⟨b, 0, none⟩ = some v0 ∧ W.cell? ⟨b, 1, none⟩ = some v1 ∧ W.cell? ⟨b, 2, none⟩ = some v2 ∧ W.cell? ⟨b, 3, none⟩ = some v3) (hb : b < W.heap.size) (h : Below W.heap.size W w') : w'.cell? ⟨b, 0, none⟩ = some v0 ∧ w'.cell? ⟨b, 1, none⟩ = some v1 ∧ w'.cell? ⟨b, 2, none⟩ = some v2 ∧ w'.cell? ⟨b, 3, none⟩ = some v3 :=
  ⟨(h.cell hb).trans d.1, (h.cell hb).trans d.2.1, (h.cell hb).trans d.2.2.1, (h.cell hb).trans d.2.2.2⟩
/-- A log in block l: its disk in block b, its last commit, its tail, its error. -/
structure LogAt (w : World) (l b : Nat) (c : Com) (tail : ByteArray) (er : Int) : Prop where
  blk : w.heap[l]? = some (.cells #[.pointer (some ⟨b, 0, none⟩), .int .u64 (c.num : Int), .int .i64 (c.area : Int), .int .i64 (c.len : Int), .int .u32 c.sum, .string tail, .int .i64 er] 93 (0, 0))
theorem LogAt.below {w w' : World} {l b : Nat} {c : Com} {tail : ByteArray} {er : Int} (h : LogAt w l b c tail er) {B : Nat} (k : Below B w w') (hl : l < B) : LogAt w' l b c tail er := ⟨(k.block l hl).trans h.blk⟩
set_option maxHeartbeats 4000000 in
theorem open_any (w : World) (b : Nat) (D : Dsk) (hz : Sz D.wr) (hd : DiskIs w b D) :
    Calls Tryz.prog 29 #[.pointer (some ⟨b, 0, none⟩)] w fun e w' => (∃ l c t, e = .returned (.tuple #[.pointer (some ⟨l, 0, none⟩), .string t, .int .i64 0]) ∧ Tells D.wr c t ∧ LogAt w' l b c (tailT t) 0 ∧ w.heap.size ≤ l) ∧ Below w.heap.size w w' := by
  go_enter Tryz.func29, Tryz.ntmps29
  go_wp2_with fail
  refine (rightCommit_any w b D 0 (by omega) hz hd).mono ?_
  rintro e w1 ⟨⟨c0, t0, rfl, hR0⟩, b1⟩
  have hf0 := hR0.fit
  have HR0 := hid hR0
  clear hR0
  unfold cv
  go_wp2_with fail
  have q1 := Box4.new w1 88 (.int .u64 (c0.num : Int)) (.int .i64 (c0.area : Int)) (.int .i64 (c0.len : Int)) (.int .u32 c0.sum)
  have b2 := (Below.refl w1.heap.size w1).alloc (Nat.le_refl _) (Obj.cells #[.int .u64 (c0.num : Int), .int .i64 (c0.area : Int), .int .i64 (c0.len : Int), .int .u32 c0.sum] 88)
  generalize w1.alloc (Obj.cells #[.int .u64 (c0.num : Int), .int .i64 (c0.area : Int), .int .i64 (c0.len : Int), .int .u32 c0.sum] 88) = X at *
  have B1 := b1.trans (b2.mono b1.size)
  have hX := lt_of_block q1.blk
  have hs1 := b1.size
  clear b1 b2
  refine (rightCommit_any X b D 1 (by omega) hz (hd.below B1)).mono ?_
  rintro e w2 ⟨⟨c1, t1, rfl, hR1⟩, b2⟩
  have hf1 := hR1.fit
  have HR1 := hid hR1
  clear hR1
  have q2 := q1.below b2 hX
  have B2 := B1.trans (b2.mono B1.size)
  clear q1 b2 B1
  unfold cv
  have HF0 := hid hf0
  have HF1 := hid hf1
  have n0 := hf0.1.num
  have n1 := hf1.1.num
  clear hf0 hf1
  have p0 := Box4.new w2 88 (.int .u64 (c1.num : Int)) (.int .i64 (c1.area : Int)) (.int .i64 (c1.len : Int)) (.int .u32 c1.sum)
  have b3 := (Below.refl w2.heap.size w2).alloc (Nat.le_refl _) (Obj.cells #[.int .u64 (c1.num : Int), .int .i64 (c1.area : Int), .int .i64 (c1.len : Int), .int .u32 c1.sum] 88)
  have hw2 := lt_of_block q2.blk
  have q3 := q2.below b3 hw2
  have B3 := B2.trans (b3.mono B2.size)
  have hY := lt_of_block p0.blk
  have hne : ¬ w1.heap.size = w2.heap.size := by omega
  have q2' := q2
  obtain ⟨_, a0, a1, a2, a3, ar⟩ := q2
  by_cases hlt : c0.num < c1.num
  · have hlt' : (c0.num : Int) < (c1.num : Int) := by omega
    go_wp2_with fail
    have r3 := q2'.set (.int .u64 (c1.num : Int)) (.int .i64 (c1.area : Int)) (.int .i64 (c1.len : Int)) (.int .u32 c1.sum)
    have B3' := below4 B2 (by omega : w.heap.size ≤ w1.heap.size) (.int .u64 (c1.num : Int)) (.int .i64 (c1.area : Int)) (.int .i64 (c1.len : Int)) (.int .u32 c1.sum)
    generalize (((w2.setCell ⟨w1.heap.size, 0, none⟩ (.int .u64 (c1.num : Int))).setCell ⟨w1.heap.size, 1, none⟩ (.int .i64 (c1.area : Int))).setCell ⟨w1.heap.size, 2, none⟩ (.int .i64 (c1.len : Int))).setCell ⟨w1.heap.size, 3, none⟩ (.int .u32 c1.sum) = Z at *
    have B4 := B3'.alloc B3'.size (Obj.cells #[.int .u64 (c1.num : Int), .int .i64 (c1.area : Int), .int .i64 (c1.len : Int), .int .u32 c1.sum] 88)
    have r4 := r3.below ((Below.refl Z.heap.size Z).alloc (Nat.le_refl _) (Obj.cells #[.int .u64 (c1.num : Int), .int .i64 (c1.area : Int), .int .i64 (c1.len : Int), .int .u32 c1.sum] 88)) (lt_of_block r3.blk)
    generalize Z.alloc (Obj.cells #[.int .u64 (c1.num : Int), .int .i64 (c1.area : Int), .int .i64 (c1.len : Int), .int .u32 c1.sum] 88) = Y at *
    have hYlt := lt_of_block r4.blk
    clear q3 B3 p0 b3
    obtain ⟨_, d0, d1, d2, d3, dr⟩ := r4
    have hT := tailOf_any
    have hts : t1.size ≤ maxLen := by unfold maxLen; have := HF1.out.1.len; have := HF1.out.2.1; omega
    have HT := hid (show Tells D.wr c1 t1 from ⟨_, _, _, _, HR0.out, HR1.out, by rw [if_pos hlt]⟩)
    go_region_held3 (fun w' => w'.cell? ⟨w1.heap.size, 0, none⟩ = some (.int .u64 (c1.num : Int)) ∧ w'.cell? ⟨w1.heap.size, 1, none⟩ = some (.int .i64 (c1.area : Int)) ∧ w'.cell? ⟨w1.heap.size, 2, none⟩ = some (.int .i64 (c1.len : Int)) ∧ w'.cell? ⟨w1.heap.size, 3, none⟩ = some (.int .u32 c1.sum)) (first | exact ⟨d0, d1, d2, d3⟩ | (refine keep4c ⟨d0, d1, d2, d3⟩ hYlt ?_; first | exact (Below.refl _ _).drew | exact (Below.refl _ _).alloc (Nat.le_refl _) _ | exact ((Below.refl _ _).drew).alloc (Nat.le_refl _) _ | exact ((Below.refl _ _).alloc (Nat.le_refl _) _).drew)) ((go_at_call 51; refine (tailOf_any _ t1 hts).mono ?_; rintro e w' ⟨rfl, rfl⟩))
    have hLog : LogAt (Y.alloc (Obj.cells #[.pointer (some ⟨b, 0, none⟩), .int .u64 (c1.num : Int), .int .i64 (c1.area : Int), .int .i64 (c1.len : Int), .int .u32 c1.sum, .string (tailT t1), .int .i64 0] 93)).drew Y.heap.size b c1 (tailT t1) 0 := ⟨heap_alloc_last Y _⟩
    have B5 := (B4.alloc B4.size (Obj.cells #[.pointer (some ⟨b, 0, none⟩), .int .u64 (c1.num : Int), .int .i64 (c1.area : Int), .int .i64 (c1.len : Int), .int .u32 c1.sum, .string (tailT t1), .int .i64 0] 93)).drew
    have hYs := B4.size
    go_wp2
    exact bodyPost_ret (v := .tuple #[.pointer (some ⟨Y.heap.size, 0, none⟩), .string t1, .int .i64 0]) (by simp [results, Tryz.results29, go_sem]) rfl ⟨⟨_, _, _, rfl, HT.out, hLog, hYs⟩, B5⟩
  · have hlt' : ¬ (c0.num : Int) < (c1.num : Int) := by omega
    go_wp2_with fail
    have r4 := q3
    generalize (w2.alloc (Obj.cells #[.int .u64 (c1.num : Int), .int .i64 (c1.area : Int), .int .i64 (c1.len : Int), .int .u32 c1.sum] 88)) = Y at *
    have hYlt := lt_of_block r4.blk
    have B4 := B3
    clear q3 p0 b3
    obtain ⟨_, d0, d1, d2, d3, dr⟩ := r4
    have hT := tailOf_any
    have hts : t0.size ≤ maxLen := by unfold maxLen; have := HF0.out.1.len; have := HF0.out.2.1; omega
    have HT := hid (show Tells D.wr c0 t0 from ⟨_, _, _, _, HR0.out, HR1.out, by rw [if_neg hlt]⟩)
    go_region_held3 (fun w' => w'.cell? ⟨w1.heap.size, 0, none⟩ = some (.int .u64 (c0.num : Int)) ∧ w'.cell? ⟨w1.heap.size, 1, none⟩ = some (.int .i64 (c0.area : Int)) ∧ w'.cell? ⟨w1.heap.size, 2, none⟩ = some (.int .i64 (c0.len : Int)) ∧ w'.cell? ⟨w1.heap.size, 3, none⟩ = some (.int .u32 c0.sum)) (first | exact ⟨d0, d1, d2, d3⟩ | (refine keep4c ⟨d0, d1, d2, d3⟩ hYlt ?_; first | exact (Below.refl _ _).drew | exact (Below.refl _ _).alloc (Nat.le_refl _) _ | exact ((Below.refl _ _).drew).alloc (Nat.le_refl _) _ | exact ((Below.refl _ _).alloc (Nat.le_refl _) _).drew)) ((go_at_call 51; refine (tailOf_any _ t0 hts).mono ?_; rintro e w' ⟨rfl, rfl⟩))
    have hLog : LogAt (Y.alloc (Obj.cells #[.pointer (some ⟨b, 0, none⟩), .int .u64 (c0.num : Int), .int .i64 (c0.area : Int), .int .i64 (c0.len : Int), .int .u32 c0.sum, .string (tailT t0), .int .i64 0] 93)).drew Y.heap.size b c0 (tailT t0) 0 := ⟨heap_alloc_last Y _⟩
    have B5 := (B4.alloc B4.size (Obj.cells #[.pointer (some ⟨b, 0, none⟩), .int .u64 (c0.num : Int), .int .i64 (c0.area : Int), .int .i64 (c0.len : Int), .int .u32 c0.sum, .string (tailT t0), .int .i64 0] 93)).drew
    have hYs := B4.size
    go_wp2
    exact bodyPost_ret (v := .tuple #[.pointer (some ⟨Y.heap.size, 0, none⟩), .string t0, .int .i64 0]) (by simp [results, Tryz.results29, go_sem]) rfl ⟨⟨_, _, _, rfl, HT.out, hLog, hYs⟩, B5⟩
end Go.Proofs.YtjldlmonccgopaaGreat
