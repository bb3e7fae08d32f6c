/- The document's wal: wide, number, bytes. -/
import Derived.Test.YthcefjkpiaecjaaVZero
import Derived.Test.YthcefjkpiaecjaaWArea
import Derived.Test.YthcefjkpiaecjaaENew
import Derived.Laws.Bits64b
import Derived.Lib.AppendStr
namespace Go.Proofs.Ythcefjkpiaecjaa
open Go.RowKit
set_option linter.unusedVariables false
set_option maxRecDepth 100000
set_option linter.unusedSimpArgs false

/-- The document's disk in block b is D. -/
def RIs (w : World) (b : Nat) (D : Dsk) : Prop := ∃ vw vi vc cl fk keep, RAt w b D vw vi vc cl fk keep
theorem RIs.below {w w' : World} {b : Nat} {D : Dsk} (h : RIs w b D) (k : Below w.heap.size w w') : RIs w' b D := by
  obtain ⟨vw, vi, vc, cl, fk, keep, h⟩ := h
  exact ⟨vw, vi, vc, cl, fk, keep, h.below k⟩
theorem rread_any (w : World) (b : Nat) (D : Dsk) (i : Int) (h : RIs w b D) :
    Calls Try.prog 45 #[.pointer (some ⟨b, 0, none⟩), .int .i64 i] w fun e w' => e = .returned (.tuple #[.string (D.read i), .int .i64 (readE i)]) ∧ w' = w := by
  obtain ⟨vw, vi, vc, cl, fk, keep, h⟩ := h
  exact eread_any w b D vw vi vc cl fk keep i h
set_option maxHeartbeats 800000 in
theorem vnumber_any (w : World) (s : ByteArray) (hs : s.size ≤ 8) :
    Calls Try.prog 46 #[.string s] w fun e w' => e = .returned (.int .u64 (be s 0 s.size : Int)) ∧ w' = w := by
  go_enter Try.func46, Try.ntmps46
  go_wp2
  go_loop [3, 4] (fun u i => ∃ k : Nat, k ≤ s.size ∧ i = .int .i64 k ∧ u = .int .u64 (be s 0 k : Int)) (fun u i => s.size - (intOf i).toNat)
  case atStart => exact ⟨0, Nat.zero_le _, rfl, rfl⟩
  case round =>
    obtain ⟨k, hk, rfl, rfl⟩ := hrel
    by_cases hlt : k < s.size
    · have ek := bt_at s k hlt
      have hb := bt_lt s k
      have hn : be s 0 k < 72057594037927936 := Nat.lt_of_lt_of_le (be_lt s 0 k) (Nat.pow_le_pow_right (n := 256) (by omega) (show k ≤ 7 by omega))
      have HF := hid (show be s 0 (k + 1) = be s 0 k * 256 + bt s k by rw [be, Nat.zero_add])
      generalize be s 0 k = u at *
      go_wp2
      go_round
      case rel => 
        exact ⟨k + 1, by omega, by go_num, by rw [HF.out, or256 u _ hn hb]⟩
      case measure => simp [intOf]; omega
    · obtain rfl : k = s.size := by omega
      go_wp2
      go_ret
      exact ⟨rfl, rfl⟩
set_option maxHeartbeats 1600000 in
theorem vwide_any (w : World) (n K : Nat) (hn : n < 18446744073709551616) (hK : K ≤ 8) :
    Calls Try.prog 67 #[.int .u64 (n : Int), .int .i64 (K : Int)] w fun e w' => e = .returned (.string ⟨(beL n K).toArray⟩) ∧ Below w.heap.size w w' := by
  obtain ⟨i0, hi, hz0, hz1, hz2⟩ := info_parts info_u8
  have o0 : (w.alloc (Obj.cells #[] 5)).ownsRow w.heap.size 5 1 (.slice (some ⟨w.heap.size, 0, none⟩) 0 0) 0 (Lib.byteCells []) := World.ownsRow_made w #[] 0 (Nat.le_refl _) (Nat.zero_le _) (by simp)
  have b0 := (Below.refl w.heap.size w).alloc (Nat.le_refl _) (Obj.cells #[] 5)
  go_enter Try.func67, Try.ntmps67
  go_wp2
  generalize w.alloc (Obj.cells #[] 5) = W at *
  go_loopw [5, 6] (fun v c wr => ∃ k g cap : Nat, k ≤ K ∧ c = .int .i64 ((K : Int) - 1 - k) ∧ v = .slice (some ⟨g, 0, none⟩) k cap ∧ wr.ownsRow w.heap.size 5 1 v k (Lib.byteCells ((beL n K).take k)) ∧ Below w.heap.size w wr) (fun _ c _ => (intOf c + 1).toNat)
  case atStart => exact ⟨0, _, _, Nat.zero_le _, by simp, rfl, by simpa using o0, b0⟩
  case round =>
    obtain ⟨k, g, cap, hk, rfl, rfl, hown1, hb1⟩ := hrel
    clear o0 b0
    have hsz := hb1.size
    by_cases hlt : k < K
    · have hge : (0 : Int) ≤ (K : Int) - 1 - k := by omega
      obtain ⟨q, hq⟩ : ∃ q : Nat, (8 : Int) * ((K : Int) - 1 - k) = q := ⟨8 * (K - 1 - k), by omega⟩
      have HQ := hid (show q = 8 * (K - 1 - k) by omega)
      have hq64 : q < 64 := by omega
      obtain ⟨x, hx⟩ : ∃ x, x = UInt8.ofNat (n / 256 ^ (K - 1 - k)) := ⟨_, rfl⟩
      have HX := hid hx
      have hxn : (x.toNat : Int) = (n : Int) / 2 ^ q % 256 := by
        rw [hx, UInt8.toNat_ofNat', HQ.out, show (2 : Int) ^ (8 * (K - 1 - k)) = ((256 ^ (K - 1 - k) : Nat) : Int) by rw [Int.pow_mul]; simp]
        omega
      have HXN := hid hxn
      clear hx hxn
      go_wp2_with (at_builtin; refine wpList_append_own _ rfl _ _ 90 rfl w.heap.size 5 i0 (.int .u8 0) 1 1 Try.underlying90 hi hz0 hz1 hz2 rfl (by decide) _ _ _ rfl (hown1.alloc _) ⟨wr.heap.size, 0, none⟩ 1 1 [.int .u8 ((n : Int) / 2 ^ q % 256)] rfl rfl (by intro j u hu; match j, hu with | 0, hu => simp at hu; subst hu; simp [Addr.add]) (by intro u hu; simp at hu; subst hu; rfl) (by unfold maxLen; omega) (by omega) (by simp; omega) ?_)
      intro v' w1 hown3 hgrow hnil
      have hb3 : Below w.heap.size w w1 := (hb1.alloc (by omega) _).grown hgrow (by simp; omega) (fun q hq => (hown1.lt q hq).1)
      have hown4 : w1.ownsRow w.heap.size 5 1 v' (k + 1) (Lib.byteCells ((beL n K).take (k + 1))) := by
        rw [beL_succ n K k hlt, ← HX.out, Lib.byteCells_append]
        rw [← HXN.out] at hown3
        exact hown3
      obtain ⟨g', c', rfl⟩ : ∃ g' c', v' = .slice (some ⟨g', 0, none⟩) (k + 1) c' := by
        rcases hown4.2 with ⟨h1, h2⟩ | ⟨g', c', _, h1, _⟩
        · omega
        · exact ⟨g', c', h1⟩
      clear hown3 hgrow hnil hown1 hb1
      go_wp2
      go_roundw
      case rel => exact ⟨k + 1, g', c', by omega, by go_num, rfl, hown4, hb3⟩
      case measure => simp [intOf]; omega
    · obtain rfl : k = K := by omega
      have hge : ¬ (0 : Int) ≤ (k : Int) - 1 - k := by omega
      have e : (beL n k).take k = beL n k := by rw [List.take_of_length_le (by rw [beL_len]; exact Nat.le_refl _)]
      have hcv := bytes_conv (w := wr) (base := w.heap.size) (g := g) (cap := cap) (l := beL n k) (by
        rw [e] at hown1
        rw [beL_len]; exact hown1)
      rw [beL_len] at hcv
      clear hown1
      go_wp2
      go_ret
      exact ⟨rfl, hb1⟩
end Go.Proofs.Ythcefjkpiaecjaa
