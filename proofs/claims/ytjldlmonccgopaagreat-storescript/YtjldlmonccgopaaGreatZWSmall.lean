/- wal: the small functions. -/
import Derived.Test.YtjldlmonccgopaaGreatPk2
import Derived.Test.YtjldlmonccgopaaGreatPk10
import Derived.Laws.Bits64b
import Derived.Lib.UnsafeStr
import Derived.Maps.AppendAt
namespace Go.Proofs.YtjldlmonccgopaaGreat
open Go.RowKit
set_option linter.unusedVariables false
set_option maxRecDepth 100000
set_option linter.unusedSimpArgs false

theorem or256 (u b : Nat) (hu : u < 72057594037927936) (hb : b < 256) : bits .or .u64 ((u : Int) * 256) (b : Int) = ((u * 256 + b : Nat) : Int) := by
  rw [show (u : Int) * 256 = ((u * 256 : Nat) : Int) by simp, bits_or_u64_nat _ _ (by omega) (by omega)]
  have := Nat.two_pow_add_eq_or_of_lt (i := 8) (b := b) hb u
  rw [Nat.mul_comm u 256]
  exact congrArg _ this.symm
theorem sectorAt_any (w : World) (a k : Nat) (ha : a ≤ 1) (hk : k ≤ 65536) :
    Calls Tryz.prog 83 #[.int .i64 (a : Int), .int .i64 (k : Int)] w fun e w' => e = .returned (.int .i64 ((2 + a * 127 + k / 256 : Nat) : Int)) ∧ w' = w := by
  go_enter Tryz.func83, Tryz.ntmps83
  go_wp2
  go_ret
  exact ⟨by go_num, rfl⟩
def tailT (t : ByteArray) : ByteArray := t.extract (t.size - t.size % 256) t.size
theorem tailOf_any (w : World) (t : ByteArray) (ht : t.size ≤ maxLen) :
    Calls Tryz.prog 51 #[.string t] w fun e w' => e = .returned (.string (tailT t)) ∧ w' = w := by
  unfold maxLen at ht
  go_enter Tryz.func51, Tryz.ntmps51
  go_wp2
  go_ret
  exact ⟨rfl, rfl⟩
set_option maxHeartbeats 800000 in
theorem numberOf_any (w : World) (s : ByteArray) (hs : s.size ≤ 8) :
    Calls Tryz.prog 81 #[.string s] w fun e w' => e = .returned (.int .u64 (be s 0 s.size : Int)) ∧ w' = w := by
  go_enter Tryz.func81, Tryz.ntmps81
  go_wp2
  go_loop [3, 7] (fun u i => ∃ k : Nat, k ≤ s.size ∧ i = .int .i64 k ∧ u = .int .u64 (be s 0 k : Int)) (fun u i => s.size - (intOf i).toNat)
  case atStart => exact ⟨0, Nat.zero_le _, rfl, rfl⟩
  case round =>
    obtain ⟨k, hk, rfl, rfl⟩ := hrel
    by_cases hlt : k < s.size
    · have ek := bt_at s k hlt
      have hb := bt_lt s k
      have hn : be s 0 k < 72057594037927936 := Nat.lt_of_lt_of_le (be_lt s 0 k) (Nat.pow_le_pow_right (n := 256) (by omega) (show k ≤ 7 by omega))
      have HF := hid (show be s 0 (k + 1) = be s 0 k * 256 + bt s k by rw [be, Nat.zero_add])
      generalize be s 0 k = u at *
      go_wp2
      go_round
      case rel => 
        exact ⟨k + 1, by omega, by go_num, by rw [HF.out, or256 u _ hn hb]⟩
      case measure => simp [intOf]; omega
    · obtain rfl : k = s.size := by omega
      go_wp2
      go_ret
      exact ⟨rfl, rfl⟩
theorem beL_succ (n K k : Nat) (h : k < K) : (beL n K).take (k + 1) = (beL n K).take k ++ [UInt8.ofNat (n / 256 ^ (K - 1 - k))] := by
  rw [List.take_add_one]
  congr 1
  simp [beL, h]
theorem info_u8 : (Tryz.prog.info? 5).map (fun i => (i.zero, i.size, i.bytes)) = some (some (.int .u8 0), 1, 1) := by kernel_rfl
set_option maxHeartbeats 1600000 in
theorem appendNumber_any (w : World) (B : Nat) (v : Value) (l : List UInt8) (n K : Nat) (hn : n < 18446744073709551616) (hK : K ≤ 8) (hl : l.length ≤ 1000) (hB : B ≤ w.heap.size) (hown : w.ownsRow B 5 1 v l.length (Lib.byteCells l)) :
    Calls Tryz.prog 105 #[v, .int .u64 (n : Int), .int .i64 (K : Int)] w fun e w' => (∃ v', e = .returned v' ∧ w'.ownsRow B 5 1 v' (l ++ beL n K).length (Lib.byteCells (l ++ beL n K))) ∧ Below B w w' := by
  obtain ⟨i0, hi, hz0, hz1, hz2⟩ := info_parts info_u8
  go_enter Tryz.func105, Tryz.ntmps105
  go_wp2
  go_loopw [0, 9] (fun v c wr => ∃ k : Nat, k ≤ K ∧ c = .int .i64 k ∧ wr.ownsRow B 5 1 v (l.length + k) (Lib.byteCells (l ++ (beL n K).take k)) ∧ Below B w wr) (fun _ c _ => K - (intOf c).toNat)
  case atStart => exact ⟨0, Nat.zero_le _, rfl, by simpa using hown, Below.refl _ _⟩
  case round =>
    obtain ⟨k, hk, rfl, hown1, hb1⟩ := hrel
    clear hown
    have hsz := hb1.size
    by_cases hlt : k < K
    · obtain ⟨q, hq⟩ : ∃ q : Nat, (8 : Int) * ((K : Int) - 1 - k) = q := ⟨8 * (K - 1 - k), by omega⟩
      have HQ := hid (show q = 8 * (K - 1 - k) by omega)
      have hq64 : q < 64 := by omega
      obtain ⟨x, hx⟩ : ∃ x, x = UInt8.ofNat (n / 256 ^ (K - 1 - k)) := ⟨_, rfl⟩
      have HX := hid hx
      have hxn : (x.toNat : Int) = (n : Int) / 2 ^ q % 256 := by
        rw [hx, UInt8.toNat_ofNat', HQ.out, show (2 : Int) ^ (8 * (K - 1 - k)) = ((256 ^ (K - 1 - k) : Nat) : Int) by rw [Int.pow_mul]; simp]
        omega
      have HXN := hid hxn
      clear hx hxn
      go_wp2_with (at_builtin; refine wpList_append_own _ rfl _ _ 102 rfl B 5 i0 (.int .u8 0) 1 1 Tryz.underlying102 hi hz0 hz1 hz2 rfl (by decide) _ _ _ rfl (hown1.alloc _) ⟨wr.heap.size, 0, none⟩ 1 1 [.int .u8 ((n : Int) / 2 ^ q % 256)] rfl rfl (by intro j u hu; match j, hu with | 0, hu => simp at hu; subst hu; simp [Addr.add]) (by intro u hu; simp at hu; subst hu; rfl) (by unfold maxLen; omega) (by omega) (by simp; omega) ?_)
      intro v' w1 hown3 hgrow hnil
      have hb3 : Below B w w1 := (hb1.alloc (by omega) _).grown hgrow (by simp; omega) (fun q hq => (hown1.lt q hq).1)
      have hown4 : w1.ownsRow B 5 1 v' (l.length + (k + 1)) (Lib.byteCells (l ++ (beL n K).take (k + 1))) := by
        rw [beL_succ n K k hlt, ← HX.out, ← List.append_assoc, Lib.byteCells_append, show l.length + (k + 1) = l.length + k + 1 by omega]
        rw [← HXN.out] at hown3
        exact hown3
      clear hown3 hgrow hnil hown1 hb1
      go_wp2
      go_roundw
      case rel => exact ⟨k + 1, by omega, by go_num, hown4, hb3⟩
      case measure => simp [intOf]; omega
    · obtain rfl : k = K := by omega
      have e : (beL n k).take k = beL n k := by rw [List.take_of_length_le (by rw [beL_len]; exact Nat.le_refl _)]
      have hown4 : wr.ownsRow B 5 1 u0 (l ++ beL n k).length (Lib.byteCells (l ++ beL n k)) := by
        rw [e] at hown1
        rw [List.length_append, beL_len]; exact hown1
      clear hown1
      obtain ⟨aa, ca, hv⟩ := own_slice hown4
      go_wp2
      go_ret
      exact ⟨⟨_, rfl, hown4⟩, hb1⟩
end Go.Proofs.YtjldlmonccgopaaGreat
