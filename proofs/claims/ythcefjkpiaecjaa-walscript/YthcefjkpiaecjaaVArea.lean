/- The document's wal: the bytes of an area. -/
import Derived.Test.YthcefjkpiaecjaaVBytes
namespace Go.Proofs.Ythcefjkpiaecjaa
open Go.RowKit
set_option linter.unusedVariables false
set_option maxRecDepth 100000
set_option linter.unusedSimpArgs false

theorem zeros_cells (k : Nat) : List.replicate k (Value.int .u8 0) = Lib.byteCells (Lib.repeatL [0] k) := by rw [repeat_zero]; simp [Lib.byteCells]
set_option maxHeartbeats 4000000 in
theorem vbytes_any (w : World) (b : Nat) (D : Dsk) (a : Nat) (ha : a ≤ 1) (hz : Sz D.wr) (hd : RIs w b D) :
    Calls Try.prog 48 #[.pointer (some ⟨b, 0, none⟩), .int .i64 (a : Int)] w fun e w' => (∃ t, e = .returned (.string t) ∧ t.size = 32512 ∧ Lies D.wr a t) ∧ Below w.heap.size w w' := by
  obtain ⟨i0, hi, hz0, hz1, hz2⟩ := info_parts info_u8
  have o0 : (w.alloc (Obj.cells #[] 5)).ownsRow w.heap.size 5 1 (.slice (some ⟨w.heap.size, 0, none⟩) 0 0) 0 (Lib.byteCells []) := World.ownsRow_made w #[] 0 (Nat.le_refl _) (Nat.zero_le _) (by simp)
  have b0 := (Below.refl w.heap.size w).alloc (Nat.le_refl _) (Obj.cells #[] 5)
  go_enter Try.func48, Try.ntmps48
  go_wp2
  generalize w.alloc (Obj.cells #[] 5) = W at *
  go_loopw [5, 6] (fun v c wr => ∃ (k g cap : Nat) (l : List UInt8), k ≤ 127 ∧ c = .int .i64 (k : Int) ∧ v = .slice (some ⟨g, 0, none⟩) (256 * k) cap ∧ l.length = 256 * k ∧ Hid (ArL D.wr a l) ∧ wr.ownsRow w.heap.size 5 1 v (256 * k) (Lib.byteCells l) ∧ Below w.heap.size w wr) (fun _ c _ => 127 - (intOf c).toNat)
  case atStart => exact ⟨0, _, _, [], Nat.zero_le _, rfl, rfl, rfl, fun j hj => by simp at hj, o0, b0⟩
  case round =>
    obtain ⟨k, g, cap, l, hk, rfl, rfl, hl, HA, o1, b1⟩ := hrel
    clear o0 b0
    have sz1 := b1.size
    by_cases hlt : k < 127
    · obtain ⟨s, hs⟩ : ∃ s, D.wr.getD (2 + a * 127 + k) ByteArray.empty = s := ⟨_, rfl⟩
      have hss : s.size ≤ 256 := by rw [← hs]; exact hz _
      have hk256 : 2 + a * 127 + k < 256 := by omega
      have hrd := rread_any wr b D ((2 + a * 127 + k : Nat) : Int) (hd.below b1)
      rw [read_in D _ hk256, readE_in _ hk256, hs] at hrd
      have HN := hid (HA.out.next hl hs hss)
      clear hs
      have hq : (2 : Int) + 127 * (a : Int) + (k : Int) = ((2 + a * 127 + k : Nat) : Int) := by omega
      generalize 2 + a * 127 + k = q at *
      go_wp2_with fail
      refine hrd.mono ?_
      rintro e w1 ⟨rfl, rfl⟩
      clear hrd
      obtain ⟨m, hm⟩ : ∃ m, m = 256 * k := ⟨_, rfl⟩
      rw [← hm] at o1 ⊢
      have HM := hid hm
      have hmb : m ≤ 32512 := by omega
      clear hm
      go_wp2_with (at_builtin; refine Lib.wpList_append_own_string _ rfl _ _ 90 9 rfl w.heap.size 5 i0 Try.underlying90 Try.underlying9 hi hz0 hz1 hz2 _ _ _ rfl o1 s rfl (by unfold maxLen; omega) (by omega) (by omega) ?_)
      intro v2 w2 o2 gr2 n2
      have b2 : Below w.heap.size w w2 := b1.grown gr2 (by omega) (fun q hq => (o1.lt q hq).1)
      obtain ⟨g2, c2, rfl⟩ : ∃ g' c', v2 = .slice (some ⟨g', 0, none⟩) (m + s.size) c' := by
        rcases o2.2 with ⟨h1, h2⟩ | ⟨g', c', _, h1, _⟩
        · exact absurd h1 n2
        · exact ⟨g', c', h1⟩
      have sz2 := b2.size
      obtain ⟨z, hz1'⟩ : ∃ z : Nat, (256 : Int) - (s.size : Int) = z := ⟨256 - s.size, by omega⟩
      have HZ := hid (show z = 256 - s.size by omega)
      have hz256 : z ≤ 256 := by omega
      obtain ⟨v3, w3, hr3, o3, gr3, g3, c3, rfl⟩ := run_append_zeros w2 w.heap.size g2 (m + s.size) c2 z 90 _ o2 (by omega) sz2
      have b3 : Below w.heap.size w w3 := b2.grown gr3 sz2 (fun q hq => (o2.lt q hq).1)
      have o4 : w3.ownsRow w.heap.size 5 1 (.slice (some ⟨g3, 0, none⟩) (256 * (k + 1)) c3) (256 * (k + 1)) (Lib.byteCells (l ++ s.data.toList ++ Lib.repeatL [0] (256 - s.size))) := by
        rw [show 256 * (k + 1) = m + s.size + z by have := HM.out; have := HZ.out; omega, Lib.byteCells_append, Lib.byteCells_append, ← HZ.out, ← zeros_cells]
        exact o3
      have hlz : m + s.size + z = 256 * (k + 1) := by have := HM.out; have := HZ.out; omega
      rw [hlz] at hr3
      clear o1 o2 o3 gr2 gr3 n2 b1 b2 hlz
      go_wp2_with (at_builtin; refine Lib.wpList_append_run _ rfl _ _ _ _ rfl _ _ rfl rfl _ _ hr3 ?_)
      go_wp2
      go_roundw
      case rel => exact ⟨k + 1, g3, c3, _, by omega, by go_num, rfl, HN.out.2, HN.out.1, o4, b3⟩
      case measure => simp [intOf]; omega
    · obtain rfl : k = 127 := by omega
      have hcv := bytes_conv (w := wr) (base := w.heap.size) (g := g) (cap := cap) (l := l) (by rw [hl]; exact o1)
      rw [hl] at hcv
      have HT := hid (show (⟨l.toArray⟩ : ByteArray).size = 32512 ∧ Lies D.wr a ⟨l.toArray⟩ from ⟨by rw [size_list, hl], fun j hj => by
        rw [size_list] at hj
        rw [bt_list l j hj]
        exact HA.out j hj⟩)
      generalize (⟨l.toArray⟩ : ByteArray) = t at *
      clear o1 hl
      go_wp2
      go_ret
      exact ⟨⟨_, rfl, HT.out.1, HT.out.2⟩, b1⟩
end Go.Proofs.Ythcefjkpiaecjaa
