/- VBytes, VArea, VCommit, VOpen. -/
import Derived.Test.YtjldlmonccgopaaGreatZVZero
import Derived.Test.YtjldlmonccgopaaGreatPk25
import Derived.Test.YtjldlmonccgopaaGreatPk19
import Derived.Laws.Bits64b
import Derived.Lib.AppendStr
import Derived.Test.YtjldlmonccgopaaGreatPk17
/- The document's wal: wide, number, bytes. -/
namespace Go.Proofs.YtjldlmonccgopaaGreat
open Go.RowKit
set_option linter.unusedVariables false
set_option maxRecDepth 100000
set_option linter.unusedSimpArgs false

/-- The document's disk in block b is D. -/
def RIs (w : World) (b : Nat) (D : Dsk) : Prop := ∃ vw vi vc cl fk keep, RAt w b D vw vi vc cl fk keep
theorem RIs.below {w w' : World} {b : Nat} {D : Dsk} (h : RIs w b D) (k : Below w.heap.size w w') : RIs w' b D := by
  obtain ⟨vw, vi, vc, cl, fk, keep, h⟩ := h
  exact ⟨vw, vi, vc, cl, fk, keep, h.below k⟩
theorem rread_any (w : World) (b : Nat) (D : Dsk) (i : Int) (h : RIs w b D) :
    Calls Tryz.prog 69 #[.pointer (some ⟨b, 0, none⟩), .int .i64 i] w fun e w' => e = .returned (.tuple #[.string (D.read i), .int .i64 (readE i)]) ∧ w' = w := by
  obtain ⟨vw, vi, vc, cl, fk, keep, h⟩ := h
  exact eread_any w b D vw vi vc cl fk keep i h
set_option maxHeartbeats 800000 in
theorem vnumber_any (w : World) (s : ByteArray) (hs : s.size ≤ 8) :
    Calls Tryz.prog 70 #[.string s] w fun e w' => e = .returned (.int .u64 (be s 0 s.size : Int)) ∧ w' = w := by
  go_enter Tryz.func70, Tryz.ntmps70
  go_wp2
  go_loop [3, 4] (fun u i => ∃ k : Nat, k ≤ s.size ∧ i = .int .i64 k ∧ u = .int .u64 (be s 0 k : Int)) (fun u i => s.size - (intOf i).toNat)
  case atStart => exact ⟨0, Nat.zero_le _, rfl, rfl⟩
  case round =>
    obtain ⟨k, hk, rfl, rfl⟩ := hrel
    by_cases hlt : k < s.size
    · have ek := bt_at s k hlt
      have hb := bt_lt s k
      have hn : be s 0 k < 72057594037927936 := Nat.lt_of_lt_of_le (be_lt s 0 k) (Nat.pow_le_pow_right (n := 256) (by omega) (show k ≤ 7 by omega))
      have HF := hid (show be s 0 (k + 1) = be s 0 k * 256 + bt s k by rw [be, Nat.zero_add])
      generalize be s 0 k = u at *
      go_wp2
      go_round
      case rel => 
        exact ⟨k + 1, by omega, by go_num, by rw [HF.out, or256 u _ hn hb]⟩
      case measure => simp [intOf]; omega
    · obtain rfl : k = s.size := by omega
      go_wp2
      go_ret
      exact ⟨rfl, rfl⟩
set_option maxHeartbeats 1600000 in
theorem vwide_any (w : World) (n K : Nat) (hn : n < 18446744073709551616) (hK : K ≤ 8) :
    Calls Tryz.prog 99 #[.int .u64 (n : Int), .int .i64 (K : Int)] w fun e w' => e = .returned (.string ⟨(beL n K).toArray⟩) ∧ Below w.heap.size w w' := by
  obtain ⟨i0, hi, hz0, hz1, hz2⟩ := info_parts info_u8
  have o0 : (w.alloc (Obj.cells #[] 5)).ownsRow w.heap.size 5 1 (.slice (some ⟨w.heap.size, 0, none⟩) 0 0) 0 (Lib.byteCells []) := World.ownsRow_made w #[] 0 (Nat.le_refl _) (Nat.zero_le _) (by simp)
  have b0 := (Below.refl w.heap.size w).alloc (Nat.le_refl _) (Obj.cells #[] 5)
  go_enter Tryz.func99, Tryz.ntmps99
  go_wp2
  generalize w.alloc (Obj.cells #[] 5) = W at *
  go_loopw [5, 6] (fun v c wr => ∃ k g cap : Nat, k ≤ K ∧ c = .int .i64 ((K : Int) - 1 - k) ∧ v = .slice (some ⟨g, 0, none⟩) k cap ∧ wr.ownsRow w.heap.size 5 1 v k (Lib.byteCells ((beL n K).take k)) ∧ Below w.heap.size w wr) (fun _ c _ => (intOf c + 1).toNat)
  case atStart => exact ⟨0, _, _, Nat.zero_le _, by simp, rfl, by simpa using o0, b0⟩
  case round =>
    obtain ⟨k, g, cap, hk, rfl, rfl, hown1, hb1⟩ := hrel
    clear o0 b0
    have hsz := hb1.size
    by_cases hlt : k < K
    · have hge : (0 : Int) ≤ (K : Int) - 1 - k := by omega
      obtain ⟨q, hq⟩ : ∃ q : Nat, (8 : Int) * ((K : Int) - 1 - k) = q := ⟨8 * (K - 1 - k), by omega⟩
      have HQ := hid (show q = 8 * (K - 1 - k) by omega)
      have hq64 : q < 64 := by omega
      obtain ⟨x, hx⟩ : ∃ x, x = UInt8.ofNat (n / 256 ^ (K - 1 - k)) := ⟨_, rfl⟩
      have HX := hid hx
      have hxn : (x.toNat : Int) = (n : Int) / 2 ^ q % 256 := by
        rw [hx, UInt8.toNat_ofNat', HQ.out, show (2 : Int) ^ (8 * (K - 1 - k)) = ((256 ^ (K - 1 - k) : Nat) : Int) by rw [Int.pow_mul]; simp]
        omega
      have HXN := hid hxn
      clear hx hxn
      go_wp2_with (at_builtin; refine wpList_append_own _ rfl _ _ 102 rfl w.heap.size 5 i0 (.int .u8 0) 1 1 Tryz.underlying102 hi hz0 hz1 hz2 rfl (by decide) _ _ _ rfl (hown1.alloc _) ⟨wr.heap.size, 0, none⟩ 1 1 [.int .u8 ((n : Int) / 2 ^ q % 256)] rfl rfl (by intro j u hu; match j, hu with | 0, hu => simp at hu; subst hu; simp [Addr.add]) (by intro u hu; simp at hu; subst hu; rfl) (by unfold maxLen; omega) (by omega) (by simp; omega) ?_)
      intro v' w1 hown3 hgrow hnil
      have hb3 : Below w.heap.size w w1 := (hb1.alloc (by omega) _).grown hgrow (by simp; omega) (fun q hq => (hown1.lt q hq).1)
      have hown4 : w1.ownsRow w.heap.size 5 1 v' (k + 1) (Lib.byteCells ((beL n K).take (k + 1))) := by
        rw [beL_succ n K k hlt, ← HX.out, Lib.byteCells_append]
        rw [← HXN.out] at hown3
        exact hown3
      obtain ⟨g', c', rfl⟩ : ∃ g' c', v' = .slice (some ⟨g', 0, none⟩) (k + 1) c' := by
        rcases hown4.2 with ⟨h1, h2⟩ | ⟨g', c', _, h1, _⟩
        · omega
        · exact ⟨g', c', h1⟩
      clear hown3 hgrow hnil hown1 hb1
      go_wp2
      go_roundw
      case rel => exact ⟨k + 1, g', c', by omega, by go_num, rfl, hown4, hb3⟩
      case measure => simp [intOf]; omega
    · obtain rfl : k = K := by omega
      have hge : ¬ (0 : Int) ≤ (k : Int) - 1 - k := by omega
      have e : (beL n k).take k = beL n k := by rw [List.take_of_length_le (by rw [beL_len]; exact Nat.le_refl _)]
      have hcv := bytes_conv (w := wr) (base := w.heap.size) (g := g) (cap := cap) (l := beL n k) (by
        rw [e] at hown1
        rw [beL_len]; exact hown1)
      rw [beL_len] at hcv
      clear hown1
      go_wp2
      go_ret
      exact ⟨rfl, hb1⟩
end Go.Proofs.YtjldlmonccgopaaGreat
/- The document's wal: the bytes of an area. -/
namespace Go.Proofs.YtjldlmonccgopaaGreat
open Go.RowKit
set_option linter.unusedVariables false
set_option maxRecDepth 100000
set_option linter.unusedSimpArgs false

theorem zeros_cells (k : Nat) : List.replicate k (Value.int .u8 0) = Lib.byteCells (Lib.repeatL [0] k) := by rw [repeat_zero]; simp [Lib.byteCells]
set_option maxHeartbeats 4000000 in
theorem vbytes_any (w : World) (b : Nat) (D : Dsk) (a : Nat) (ha : a ≤ 1) (hz : Sz D.wr) (hd : RIs w b D) :
    Calls Tryz.prog 72 #[.pointer (some ⟨b, 0, none⟩), .int .i64 (a : Int)] w fun e w' => (∃ t, e = .returned (.string t) ∧ t.size = 32512 ∧ Lies D.wr a t) ∧ Below w.heap.size w w' := by
  obtain ⟨i0, hi, hz0, hz1, hz2⟩ := info_parts info_u8
  have o0 : (w.alloc (Obj.cells #[] 5)).ownsRow w.heap.size 5 1 (.slice (some ⟨w.heap.size, 0, none⟩) 0 0) 0 (Lib.byteCells []) := World.ownsRow_made w #[] 0 (Nat.le_refl _) (Nat.zero_le _) (by simp)
  have b0 := (Below.refl w.heap.size w).alloc (Nat.le_refl _) (Obj.cells #[] 5)
  go_enter Tryz.func72, Tryz.ntmps72
  go_wp2
  generalize w.alloc (Obj.cells #[] 5) = W at *
  go_loopw [5, 6] (fun v c wr => ∃ (k g cap : Nat) (l : List UInt8), k ≤ 127 ∧ c = .int .i64 (k : Int) ∧ v = .slice (some ⟨g, 0, none⟩) (256 * k) cap ∧ l.length = 256 * k ∧ Hid (ArL D.wr a l) ∧ wr.ownsRow w.heap.size 5 1 v (256 * k) (Lib.byteCells l) ∧ Below w.heap.size w wr) (fun _ c _ => 127 - (intOf c).toNat)
  case atStart => exact ⟨0, _, _, [], Nat.zero_le _, rfl, rfl, rfl, fun j hj => by simp at hj, o0, b0⟩
  case round =>
    obtain ⟨k, g, cap, l, hk, rfl, rfl, hl, HA, o1, b1⟩ := hrel
    clear o0 b0
    have sz1 := b1.size
    by_cases hlt : k < 127
    · obtain ⟨s, hs⟩ : ∃ s, D.wr.getD (2 + a * 127 + k) ByteArray.empty = s := ⟨_, rfl⟩
      have hss : s.size ≤ 256 := by rw [← hs]; exact hz _
      have hk256 : 2 + a * 127 + k < 256 := by omega
      have hrd := rread_any wr b D ((2 + a * 127 + k : Nat) : Int) (hd.below b1)
      rw [read_in D _ hk256, readE_in _ hk256, hs] at hrd
      have HN := hid (HA.out.next hl hs hss)
      clear hs
      have hq : (2 : Int) + 127 * (a : Int) + (k : Int) = ((2 + a * 127 + k : Nat) : Int) := by omega
      generalize 2 + a * 127 + k = q at *
      go_wp2_with fail
      refine hrd.mono ?_
      rintro e w1 ⟨rfl, rfl⟩
      clear hrd
      obtain ⟨m, hm⟩ : ∃ m, m = 256 * k := ⟨_, rfl⟩
      rw [← hm] at o1 ⊢
      have HM := hid hm
      have hmb : m ≤ 32512 := by omega
      clear hm
      go_wp2_with (at_builtin; refine Lib.wpList_append_own_string _ rfl _ _ 102 9 rfl w.heap.size 5 i0 Tryz.underlying102 Tryz.underlying9 hi hz0 hz1 hz2 _ _ _ rfl o1 s rfl (by unfold maxLen; omega) (by omega) (by omega) ?_)
      intro v2 w2 o2 gr2 n2
      have b2 : Below w.heap.size w w2 := b1.grown gr2 (by omega) (fun q hq => (o1.lt q hq).1)
      obtain ⟨g2, c2, rfl⟩ : ∃ g' c', v2 = .slice (some ⟨g', 0, none⟩) (m + s.size) c' := by
        rcases o2.2 with ⟨h1, h2⟩ | ⟨g', c', _, h1, _⟩
        · exact absurd h1 n2
        · exact ⟨g', c', h1⟩
      have sz2 := b2.size
      obtain ⟨z, hz1'⟩ : ∃ z : Nat, (256 : Int) - (s.size : Int) = z := ⟨256 - s.size, by omega⟩
      have HZ := hid (show z = 256 - s.size by omega)
      have hz256 : z ≤ 256 := by omega
      obtain ⟨v3, w3, hr3, o3, gr3, g3, c3, rfl⟩ := run_append_zeros w2 w.heap.size g2 (m + s.size) c2 z 102 _ o2 (by omega) sz2
      have b3 : Below w.heap.size w w3 := b2.grown gr3 sz2 (fun q hq => (o2.lt q hq).1)
      have o4 : w3.ownsRow w.heap.size 5 1 (.slice (some ⟨g3, 0, none⟩) (256 * (k + 1)) c3) (256 * (k + 1)) (Lib.byteCells (l ++ s.data.toList ++ Lib.repeatL [0] (256 - s.size))) := by
        rw [show 256 * (k + 1) = m + s.size + z by have := HM.out; have := HZ.out; omega, Lib.byteCells_append, Lib.byteCells_append, ← HZ.out, ← zeros_cells]
        exact o3
      have hlz : m + s.size + z = 256 * (k + 1) := by have := HM.out; have := HZ.out; omega
      rw [hlz] at hr3
      clear o1 o2 o3 gr2 gr3 n2 b1 b2 hlz
      go_wp2_with (at_builtin; refine Lib.wpList_append_run _ rfl _ _ _ _ rfl _ _ rfl rfl _ _ hr3 ?_)
      go_wp2
      go_roundw
      case rel => exact ⟨k + 1, g3, c3, _, by omega, by go_num, rfl, HN.out.2, HN.out.1, o4, b3⟩
      case measure => simp [intOf]; omega
    · obtain rfl : k = 127 := by omega
      have hcv := bytes_conv (w := wr) (base := w.heap.size) (g := g) (cap := cap) (l := l) (by rw [hl]; exact o1)
      rw [hl] at hcv
      have HT := hid (show (⟨l.toArray⟩ : ByteArray).size = 32512 ∧ Lies D.wr a ⟨l.toArray⟩ from ⟨by rw [size_list, hl], fun j hj => by
        rw [size_list] at hj
        rw [bt_list l j hj]
        exact HA.out j hj⟩)
      generalize (⟨l.toArray⟩ : ByteArray) = t at *
      clear o1 hl
      go_wp2
      go_ret
      exact ⟨⟨_, rfl, HT.out.1, HT.out.2⟩, b1⟩
end Go.Proofs.YtjldlmonccgopaaGreat
/- The document's wal: a commit. -/
namespace Go.Proofs.YtjldlmonccgopaaGreat
open Go.RowKit
set_option linter.unusedVariables false
set_option maxRecDepth 100000
set_option linter.unusedSimpArgs false

/-- The document's log in block r, its disk in block m. -/
structure VAt (w : World) (r m : Nat) (t : ByteArray) (n a : Nat) (er : Int) : Prop where
  blk : w.heap[r]? = some (.cells #[.pointer (some ⟨m, 0, none⟩), .string t, .int .u64 (n : Int), .int .i64 (a : Int), .int .i64 er] 83 (0, 0))
theorem VAt.cells {w : World} {r m : Nat} {t : ByteArray} {n a : Nat} {er : Int} (h : VAt w r m t n a er) : w.cell? ⟨r, 0, none⟩ = some (.pointer (some ⟨m, 0, none⟩)) ∧ w.cell? ⟨r, 1, none⟩ = some (.string t) ∧ w.cell? ⟨r, 2, none⟩ = some (.int .u64 (n : Int)) ∧ w.cell? ⟨r, 3, none⟩ = some (.int .i64 (a : Int)) ∧ w.cell? ⟨r, 4, none⟩ = some (.int .i64 er) ∧ ∀ k, w.frozen? ⟨r, k, none⟩ = false :=
  ⟨cell_at (L := [_, _, _, _, _]) h.blk 0 _ rfl, cell_at (L := [_, _, _, _, _]) h.blk 1 _ rfl, cell_at (L := [_, _, _, _, _]) h.blk 2 _ rfl, cell_at (L := [_, _, _, _, _]) h.blk 3 _ rfl, cell_at (L := [_, _, _, _, _]) h.blk 4 _ rfl, fun k => free_at (L := [_, _, _, _, _]) h.blk k⟩
theorem VAt.below {w w' : World} {r m : Nat} {t : ByteArray} {n a : Nat} {er : Int} (h : VAt w r m t n a er) (k : Below w.heap.size w w') : VAt w' r m t n a er := ⟨(k.block r (lt_of_block h.blk)).trans h.blk⟩
theorem vat_new (w : World) (m : Nat) (t : ByteArray) (n a : Nat) : VAt (w.alloc (Obj.cells #[.pointer (some ⟨m, 0, none⟩), .string t, .int .u64 (n : Int), .int .i64 (a : Int), .int .i64 0] 83)) w.heap.size m t n a 0 := ⟨heap_alloc_last w _⟩
theorem vchain {w a b : World} (h : Below w.heap.size w a) (k : Below a.heap.size a b) : Below w.heap.size w b := h.trans (k.mono h.size)
/-- What commit answers. -/
def CSays (w w' : World) (b : Nat) (V : List ByteArray) (i : Nat) (e : Ending) : Prop :=
  (∃ r c t, e = .returned (.tuple #[.pointer (some ⟨r, 0, none⟩), .bool true]) ∧ Right V i c t ∧ VAt w' r b t c.num c.area 0 ∧ w.heap.size ≤ r) ∨ (e = .returned (.tuple #[.pointer none, .bool false]) ∧ ∀ c t, ¬ Right V i c t)
set_option maxHeartbeats 4000000 in
theorem vcommit_any (w : World) (b : Nat) (D : Dsk) (i : Nat) (hi : i < 256) (hz : Sz D.wr) (hd : RIs w b D) :
    Calls Tryz.prog 54 #[.pointer (some ⟨b, 0, none⟩), .int .i64 (i : Int)] w fun e w' => CSays w w' b D.wr i e ∧ Below w.heap.size w w' := by
  obtain ⟨s, hs⟩ : ∃ s, D.wr.getD i ByteArray.empty = s := ⟨_, rfl⟩
  have hrd := rread_any w b D (i : Int) hd
  rw [read_in D _ hi, readE_in _ hi, hs] at hrd
  have HNO := hid (fun (h : ∀ c, ¬ IsCom s c) => show ∀ c t, ¬ Right D.wr i c t from fun c t k => h c (by have := k.com; rwa [hs] at this))
  have HR := hid (fun c t (h1 : IsCom s c) (h2 : t.size = c.len) (h3 : Lies D.wr c.area t) (h4 : sumOf t = c.sum) => show Right D.wr i c t from ⟨by rw [hs]; exact h1, h2, h3, h4⟩)
  have HU := hid (fun c (h1 : IsCom s c) u (h2 : u.size = c.len) (h3 : Lies D.wr c.area u) (h4 : ¬ sumOf u = c.sum) => show ∀ c t, ¬ Right D.wr i c t from fun d t k => by
    have k1 := k.com
    rw [hs] at k1
    have e := k1.unique h1
    subst e
    have e2 := k.lies.unique h3 (k.size.trans h2.symm)
    subst e2
    exact h4 k.sum)
  have hv := fun (a : Nat) (ha : a ≤ 1) v (h : RIs v b D) => vbytes_any v b D a ha hz h
  have HB := hid hv
  have HD := hid hd
  clear hs hd hv
  by_cases h : s.size = 21
  · have num : ∀ a b, a ≤ b → b ≤ 21 → b - a ≤ 8 → ∀ v, Calls Tryz.prog 70 #[.string (s.extract a b)] v fun e v' => e = .returned (.int .u64 (be s a (b - a) : Int)) ∧ v' = v := by
      intro a b h1 h2 h3 v
      have hsz : (s.extract a b).size = b - a := by rw [ByteArray.size_extract]; omega
      have := vnumber_any v (s.extract a b) (by omega)
      rwa [hsz, be_extract s a b (by omega) (b - a) (by omega)] at this
    have n1 := num 17 21 (by omega) (by omega) (by omega)
    have n2 := num 0 8 (by omega) (by omega) (by omega)
    have n3 := num 9 13 (by omega) (by omega) (by omega)
    have n4 := num 13 17 (by omega) (by omega) (by omega)
    simp only [Nat.reduceSub] at n1 n2 n3 n4
    clear num
    have s1 := fun v => vsum_any (s.extract 0 17) v (by rw [ByteArray.size_extract]; omega)
    rw [sum_extract s 17 (by omega)] at s1
    have hw := sumN_lt 2166136261 (by omega) s 17
    have HCom := hid (show ∀ c, IsCom s c → be s 0 8 = c.num ∧ bt s 8 = c.area ∧ be s 9 4 = c.len ∧ (be s 13 4 : Int) = c.sum ∧ (be s 17 4 : Int) = sumN 2166136261 s 17 ∧ c.num ≠ 0 ∧ c.area ≤ 1 ∧ c.len ≤ 32512 from fun c k => ⟨k.num, k.area, k.len, k.sum, k.own, k.num0, k.area1, k.len1⟩)
    have HMk := hid (show (be s 17 4 : Int) = sumN 2166136261 s 17 → be s 0 8 ≠ 0 → bt s 8 ≤ 1 → be s 9 4 ≤ 32512 → IsCom s ⟨be s 0 8, bt s 8, be s 9 4, be s 13 4⟩ from fun h1 h2 h3 h4 => ⟨h, rfl, rfl, rfl, rfl, h1, h2, h3, h4⟩)
    have l1 := be_lt s 0 8
    have l2 := be_lt s 9 4
    have l3 := be_lt s 13 4
    have l4 := be_lt s 17 4
    have l5 := bt_lt s 8
    have l6 := bt_at s 8 (by omega)
    simp only [Nat.reducePow] at l1 l2 l3 l4
    generalize sumN 2166136261 s 17 = S at *
    generalize be s 0 8 = bn at *
    generalize be s 9 4 = bl at *
    generalize be s 13 4 = bs at *
    generalize be s 17 4 = bo at *
    generalize bt s 8 = ba at *
    have hc : IntKind.u64.wrap S = S := by simp only [IntKind.wrap, IntKind.signed, IntKind.bits]; simp; omega
    have hlt8 : (8 : Int) < (s.size : Int) := by omega
    have h21 : ((s.size : Int) != 21) = false := by rw [h]; rfl
    go_enter Tryz.func54, Tryz.ntmps54
    go_wp2_with fail
    refine hrd.mono ?_
    rintro e w1 ⟨rfl, rfl⟩
    clear hrd
    go_wp2_with fail
    by_cases hS : (bo : Int) = S
    · have hS1 : ((bo : Int) != S) = false := by simp [hS]
      have HS := hid hS
      clear hS
      by_cases hba : ba ≤ 1
      · have hba1 : decide ((1 : Int) < (ba : Int)) = false := decide_eq_false (by omega)
        have HBA := hid hba
        clear hba
        go_quiet (first | (go_at_call 71; exact Calls.quiet_of_same (s1 _)) | (go_at_call 70; exact Calls.quiet_of_same (n1 _)))
        have bq := below_dn (Below.refl w1.heap.size w1) nq
        generalize w1.drewN nq = W at *
        clear hba1 hS1
        go_wp2_with fail
        refine (n2 W).mono ?_
        rintro e w2 ⟨rfl, rfl⟩
        go_wp2_with fail
        refine (n3 w2).mono ?_
        rintro e w2 ⟨rfl, rfl⟩
        clear n1 n2 n3 s1
        by_cases hok : bn ≠ 0 ∧ bl ≤ 32512
        · obtain ⟨k1, k3⟩ := hok
          have HIs := hid (HMk.out HS.out k1 HBA.out k3)
          have t1 : ¬ ((bn : Int) < 1) := by omega
          have t3 : ¬ ((32512 : Int) < (bl : Int)) := by omega
          have hbv := HB.out ba HBA.out w2 (HD.out.below bq)
          clear HMk HCom
          go_wp2_with fail
          refine hbv.mono ?_
          rintro e w3 ⟨⟨t, rfl, ht, hL⟩, b3⟩
          have hbl : (bl : Int) ≤ (t.size : Int) := by omega
          have hxs : (t.extract 0 bl).size = bl := by rw [ByteArray.size_extract]; omega
          have HX := hid (show Lies D.wr ba (t.extract 0 bl) from fun k hk => by
            rw [hxs] at hk
            rw [bt_extract t 0 bl k (by omega) (by omega), Nat.zero_add]
            exact hL k (by omega))
          have s2 := fun v => vsum_any (t.extract 0 bl) v (by omega)
          have hw2 := sum_lt (t.extract 0 bl)
          have HXS := hid hxs
          have bw3 := vchain bq b3
          clear hbv hL
          go_wp2_with fail
          refine (n4 w3).mono ?_
          rintro e w3 ⟨rfl, rfl⟩
          generalize t.extract 0 bl = x at *
          have hsx : IntKind.u64.wrap (sumOf x) = sumOf x := by simp only [IntKind.wrap, IntKind.signed, IntKind.bits]; simp; omega
          go_wp2_with fail
          refine (s2 w3).mono ?_
          rintro e w3 ⟨rfl, rfl⟩
          by_cases hsum : (bs : Int) = sumOf x
          · have hsum1 : ((bs : Int) != sumOf x) = false := by simp [hsum]
            have HRR := hid (HR.out ⟨bn, ba, bl, bs⟩ x HIs.out HXS.out HX.out hsum.symm)
            have ba := (Below.refl w3.heap.size w3).alloc (Nat.le_refl _) (Obj.cells #[.pointer (some ⟨b, 0, none⟩), .string x, .int .u64 (bn : Int), .int .i64 (ba : Int), .int .i64 0] 83)
            have bw4 := vchain bw3 ba
            have hsz := bw3.size
            have HS1 := hid hsum
            clear hsum
            go_wp2
            exact bodyPost_ret (v := .tuple #[.pointer (some ⟨w3.heap.size, 0, none⟩), .bool true]) (by simp [results, Tryz.results54, go_sem]) rfl ⟨Or.inl ⟨_, _, x, rfl, HRR.out, vat_new w3 b x bn _, by omega⟩, bw4⟩
          · have hsum1 : ((bs : Int) != sumOf x) = true := by simp [hsum]
            have HN := hid (HU.out ⟨bn, ba, bl, bs⟩ HIs.out x HXS.out HX.out (fun e => hsum e.symm))
            clear hsum
            go_wp2
            exact bodyPost_ret (v := .tuple #[.pointer none, .bool false]) (by simp [results, Tryz.results54, go_sem]) rfl ⟨Or.inr ⟨rfl, HN.out⟩, bw3⟩
        · have HN := hid (HNO.out fun c k => hok (by obtain ⟨a1, a2, a3, _, _, a4, a5, a6⟩ := HCom.out c k; rw [a1, a3]; exact ⟨a4, a6⟩))
          clear HMk HCom
          by_cases h0 : bn = 0
          · subst h0
            go_wp2
            exact bodyPost_ret (v := .tuple #[.pointer none, .bool false]) (by simp [results, Tryz.results54, go_sem]) rfl ⟨Or.inr ⟨rfl, HN.out⟩, bq⟩
          · have t1 : ¬ ((bn : Int) < 1) := by omega
            have t3 : (32512 : Int) < (bl : Int) := by omega
            go_wp2
            exact bodyPost_ret (v := .tuple #[.pointer none, .bool false]) (by simp [results, Tryz.results54, go_sem]) rfl ⟨Or.inr ⟨rfl, HN.out⟩, bq⟩
      · have hba1 : decide ((1 : Int) < (ba : Int)) = true := decide_eq_true (by omega)
        have HN := hid (HNO.out fun c k => hba (by obtain ⟨a1, a2, a3, _, _, a4, a5, a6⟩ := HCom.out c k; rw [a2]; exact a5))
        clear hba
        go_quiet (first | (go_at_call 71; exact Calls.quiet_of_same (s1 _)) | (go_at_call 70; exact Calls.quiet_of_same (n1 _)))
        have bq := below_dn (Below.refl w1.heap.size w1) nq
        generalize w1.drewN nq = W at *
        go_wp2
        exact bodyPost_ret (v := .tuple #[.pointer none, .bool false]) (by simp [results, Tryz.results54, go_sem]) rfl ⟨Or.inr ⟨rfl, HN.out⟩, bq⟩
    · have hS1 : ((bo : Int) != S) = true := by simp [hS]
      have HN := hid (HNO.out fun c k => hS (by obtain ⟨_, _, _, _, a, _⟩ := HCom.out c k; exact a))
      clear hS
      go_quiet (first | (go_at_call 71; exact Calls.quiet_of_same (s1 _)) | (go_at_call 70; exact Calls.quiet_of_same (n1 _)))
      have bq := below_dn (Below.refl w1.heap.size w1) nq
      generalize w1.drewN nq = W at *
      go_wp2
      exact bodyPost_ret (v := .tuple #[.pointer none, .bool false]) (by simp [results, Tryz.results54, go_sem]) rfl ⟨Or.inr ⟨rfl, HN.out⟩, bq⟩
  · have h21 : ((s.size : Int) != 21) = true := by simp; omega
    have HN := hid (HNO.out fun c k => h k.size)
    go_enter Tryz.func54, Tryz.ntmps54
    go_wp2_with fail
    refine hrd.mono ?_
    rintro e w1 ⟨rfl, rfl⟩
    clear hrd
    go_wp2_with fail
    go_quiet (fail)
    have bq := below_dn (Below.refl w1.heap.size w1) nq
    generalize w1.drewN nq = W at *
    go_wp2
    exact bodyPost_ret (v := .tuple #[.pointer none, .bool false]) (by simp [results, Tryz.results54, go_sem]) rfl ⟨Or.inr ⟨rfl, HN.out⟩, bq⟩
end Go.Proofs.YtjldlmonccgopaaGreat
/- The document's wal: Open. -/
namespace Go.Proofs.YtjldlmonccgopaaGreat
open Go.RowKit
set_option linter.unusedVariables false
set_option maxRecDepth 100000
set_option linter.unusedSimpArgs false

/-- What Open answers. -/
def VOpens (w w' : World) (b : Nat) (V : List ByteArray) (e : Ending) : Prop :=
  ∃ r c t, e = .returned (.tuple #[.pointer (some ⟨r, 0, none⟩), .string t, .int .i64 0]) ∧ Tells V c t ∧ VAt w' r b t c.num c.area 0 ∧ w.heap.size ≤ r
theorem VAt.drewN {w : World} {r m : Nat} {t : ByteArray} {n a : Nat} {er : Int} (h : VAt w r m t n a er) (k : Nat) : VAt (w.drewN k) r m t n a er := ⟨h.blk⟩
set_option maxHeartbeats 4000000 in
theorem vopen_any (w : World) (b : Nat) (D : Dsk) (hz : Sz D.wr) (hd : RIs w b D) :
    Calls Tryz.prog 31 #[.pointer (some ⟨b, 0, none⟩)] w fun e w' => VOpens w w' b D.wr e ∧ Below w.heap.size w w' := by
  have h0 := vcommit_any w b D 0 (by omega) hz hd
  have h1 := fun v (h : RIs v b D) => vcommit_any v b D 1 (by omega) hz h
  have H1 := hid h1
  have HD := hid hd
  clear h1 hd
  go_enter Tryz.func31, Tryz.ntmps31
  go_wp2_with fail
  refine h0.mono ?_
  rintro e w1 ⟨hc0, b1⟩
  have h1 := H1.out w1 (HD.out.below b1)
  clear h0
  rcases hc0 with ⟨r0, c0, t0, rfl, hR0, v0, hl0⟩ | ⟨rfl, hN0⟩
  · have HR0 := hid (show Right0 D.wr 0 c0 t0 from Or.inl hR0)
    have hf0 := hR0.com.fit.num
    clear hR0
    go_wp2_with fail
    refine h1.mono ?_
    rintro e w2 ⟨hc1, b2⟩
    have v0' := v0.below b2
    have bw := vchain b1 b2
    have s1 := b1.size
    clear h1 v0
    rcases hc1 with ⟨r1, c1, t1, rfl, hR1, v1, hl1⟩ | ⟨rfl, hN1⟩
    · have HR1 := hid (show Right0 D.wr 1 c1 t1 from Or.inl hR1)
      have hf1 := hR1.com.fit.num
      clear hR1
      obtain ⟨x0, x1, x2, x3, x4, xf⟩ := v0'.cells
      obtain ⟨y0, y1, y2, y3, y4, yf⟩ := v1.cells
      by_cases hlt : c0.num < c1.num
      · have HT := hid (show Tells D.wr c1 t1 from ⟨_, _, _, _, HR0.out, HR1.out, by rw [if_pos hlt]⟩)
        have hlt' : ¬ (c1.num : Int) ≤ (c0.num : Int) := by omega
        have hlt2 : decide ((c1.num : Int) ≤ (c0.num : Int)) = false := decide_eq_false (by omega)
        clear hlt
        go_wp2_with fail
        go_quiet (fail)
        have bq := below_dn bw nq
        have v2 := v1.drewN nq
        generalize w2.drewN nq = W at *
        obtain ⟨z0, z1, z2, z3, z4, zf⟩ := v2.cells
        clear x0 x1 x2 x3 x4 xf y0 y1 y2 y3 y4 yf
        go_wp2_with fail
        go_quiet (fail)
        have bq2 := below_dn bq nq
        have v3 := v2.drewN nq
        generalize W.drewN nq = W2 at *
        go_wp2
        exact bodyPost_ret (v := .tuple #[.pointer (some ⟨r1, 0, none⟩), .string t1, .int .i64 0]) (by simp [results, Tryz.results31, go_sem]) rfl ⟨⟨r1, c1, t1, rfl, HT.out, v3, by omega⟩, bq2⟩
      · have HT := hid (show Tells D.wr c0 t0 from ⟨_, _, _, _, HR0.out, HR1.out, by rw [if_neg hlt]⟩)
        have hlt' : (c1.num : Int) ≤ (c0.num : Int) := by omega
        have hlt2 : decide ((c1.num : Int) ≤ (c0.num : Int)) = true := decide_eq_true (by omega)
        clear hlt
        go_wp2_with fail
        go_quiet (fail)
        have bq := below_dn bw nq
        have v2 := v0'.drewN nq
        generalize w2.drewN nq = W at *
        obtain ⟨z0, z1, z2, z3, z4, zf⟩ := v2.cells
        clear x0 x1 x2 x3 x4 xf y0 y1 y2 y3 y4 yf
        go_wp2_with fail
        go_quiet (fail)
        have bq2 := below_dn bq nq
        have v3 := v2.drewN nq
        generalize W.drewN nq = W2 at *
        go_wp2
        exact bodyPost_ret (v := .tuple #[.pointer (some ⟨r0, 0, none⟩), .string t0, .int .i64 0]) (by simp [results, Tryz.results31, go_sem]) rfl ⟨⟨r0, c0, t0, rfl, HT.out, v3, by omega⟩, bq2⟩
    · have HT := hid (show Tells D.wr c0 t0 from ⟨_, _, _, _, HR0.out, Or.inr ⟨hN1, rfl, rfl⟩, by rw [if_neg (by show ¬ c0.num < 0; omega)]⟩)
      clear hN1
      go_wp2_with fail
      go_quiet (fail)
      have bq := below_dn bw nq
      have v2 := v0'.drewN nq
      generalize w2.drewN nq = W at *
      obtain ⟨z0, z1, z2, z3, z4, zf⟩ := v2.cells
      go_wp2_with fail
      go_quiet (fail)
      have bq2 := below_dn bq nq
      have v3 := v2.drewN nq
      generalize W.drewN nq = W2 at *
      go_wp2
      exact bodyPost_ret (v := .tuple #[.pointer (some ⟨r0, 0, none⟩), .string t0, .int .i64 0]) (by simp [results, Tryz.results31, go_sem]) rfl ⟨⟨r0, c0, t0, rfl, HT.out, v3, by omega⟩, bq2⟩
  · have HR0 := hid (show Right0 D.wr 0 com0 ByteArray.empty from Or.inr ⟨hN0, rfl, rfl⟩)
    clear hN0
    go_wp2_with fail
    refine h1.mono ?_
    rintro e w2 ⟨hc1, b2⟩
    have bw := vchain b1 b2
    have s1 := b1.size
    clear h1
    rcases hc1 with ⟨r1, c1, t1, rfl, hR1, v1, hl1⟩ | ⟨rfl, hN1⟩
    · have HT := hid (show Tells D.wr c1 t1 from ⟨_, _, _, _, HR0.out, Or.inl hR1, by rw [if_pos (by show 0 < c1.num; have := hR1.com.num0; omega)]⟩)
      clear hR1
      go_wp2_with fail
      go_quiet (fail)
      have bq := below_dn bw nq
      have v2 := v1.drewN nq
      generalize w2.drewN nq = W at *
      obtain ⟨z0, z1, z2, z3, z4, zf⟩ := v2.cells
      go_wp2_with fail
      go_quiet (fail)
      have bq2 := below_dn bq nq
      have v3 := v2.drewN nq
      generalize W.drewN nq = W2 at *
      go_wp2
      exact bodyPost_ret (v := .tuple #[.pointer (some ⟨r1, 0, none⟩), .string t1, .int .i64 0]) (by simp [results, Tryz.results31, go_sem]) rfl ⟨⟨r1, c1, t1, rfl, HT.out, v3, by omega⟩, bq2⟩
    · have HT := hid (show Tells D.wr com0 ByteArray.empty from ⟨_, _, _, _, HR0.out, Or.inr ⟨hN1, rfl, rfl⟩, by rw [if_neg (by show ¬ 0 < 0; omega)]⟩)
      clear hN1
      go_wp2_with fail
      go_quiet (fail)
      have bq := below_dn bw nq
      generalize w2.drewN nq = W at *
      have ba := (Below.refl W.heap.size W).alloc (Nat.le_refl _) (Obj.cells #[.pointer (some ⟨b, 0, none⟩), .string ⟨#[]⟩, .int .u64 0, .int .i64 0, .int .i64 0] 83)
      have bw4 := vchain bq ba
      have hsz := bq.size
      have vn := vat_new W b ⟨#[]⟩ 0 0
      go_wp2
      exact bodyPost_ret (v := .tuple #[.pointer (some ⟨W.heap.size, 0, none⟩), .string ⟨#[]⟩, .int .i64 0]) (by simp [results, Tryz.results31, go_sem]) rfl ⟨⟨_, com0, ByteArray.empty, rfl, HT.out, vn, hsz⟩, bw4⟩
end Go.Proofs.YtjldlmonccgopaaGreat
