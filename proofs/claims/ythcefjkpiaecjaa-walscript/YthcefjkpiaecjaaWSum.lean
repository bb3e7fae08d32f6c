/- The sum of a text, the program's and the document's. -/
import Derived.Test.YthcefjkpiaecjaaRows
import Derived.Test.YthcefjkpiaecjaaTexts
import Derived.WalkKit
import Derived.WalkSpells
import Derived.WalkLawsBesides
namespace Go.Proofs.Ythcefjkpiaecjaa
open Go.RowKit
set_option linter.unusedVariables false
set_option maxRecDepth 100000
set_option linter.unusedSimpArgs false

theorem hid' {p : Prop} (h : p) : Hid p := h
/-- A byte more. -/
def fnv (n c : Int) : Int := bits BinOp.xor IntKind.u32 n c * 16777619 % 4294967296
/-- The sum n with the first k bytes of s behind it. -/
def sumN (n : Int) (s : ByteArray) : Nat → Int
  | 0 => n
  | k + 1 => fnv (sumN n s k) (bt s k)
def sumOf (s : ByteArray) : Int := sumN 2166136261 s s.size
set_option maxHeartbeats 800000 in
theorem sumOn_any (n : Int) (s : ByteArray) (w : World) (hs : s.size < 9223372036854775808) :
    Calls Try.prog 61 #[.int .u32 n, .string s] w fun e w' => e = .returned (.int .u32 (sumN n s s.size)) ∧ w' = w := by
  go_enter Try.func61, Try.ntmps61
  go_wp2
  go_loop [0, 8] (fun u i => ∃ k : Nat, k ≤ s.size ∧ i = .int .i64 k ∧ u = .int .u32 (sumN n s k)) (fun u i => s.size - (intOf i).toNat)
  case atStart => exact ⟨0, Nat.zero_le _, rfl, rfl⟩
  case round =>
    obtain ⟨k, hk, rfl, rfl⟩ := hrel
    by_cases hlt : k < s.size
    · have ek := bt_at s k hlt
      have hb := bt_lt s k
      have HF := hid' (show sumN n s (k + 1) = bits BinOp.xor IntKind.u32 (sumN n s k) (bt s k) * 16777619 % 4294967296 from rfl)
      generalize sumN n s k = u at *
      go_wp2
      go_round
      case rel => exact ⟨k + 1, by omega, by go_num, by rw [HF.out]⟩
      case measure => simp [intOf]; omega
    · obtain rfl : k = s.size := by omega
      go_wp2
      go_ret
      exact ⟨rfl, rfl⟩
theorem wsum_any (s : ByteArray) (w : World) (hs : s.size < 9223372036854775808) :
    Calls Try.prog 44 #[.string s] w fun e w' => e = .returned (.int .u32 (sumOf s)) ∧ w' = w := by
  go_enter Try.func44, Try.ntmps44
  go_wp2_with (go_at_call 61; refine (sumOn_any 2166136261 s w hs).mono ?_; rintro e w' ⟨rfl, rfl⟩)
  go_ret
  exact ⟨rfl, rfl⟩
set_option maxHeartbeats 800000 in
theorem vsum_any (s : ByteArray) (w : World) (hs : s.size < 9223372036854775808) :
    Calls Try.prog 47 #[.string s] w fun e w' => e = .returned (.int .u32 (sumOf s)) ∧ w' = w := by
  go_enter Try.func47, Try.ntmps47
  go_wp2
  go_loop [3, 4] (fun u i => ∃ k : Nat, k ≤ s.size ∧ i = .int .i64 k ∧ u = .int .u32 (sumN 2166136261 s k)) (fun u i => s.size - (intOf i).toNat)
  case atStart => exact ⟨0, Nat.zero_le _, rfl, rfl⟩
  case round =>
    obtain ⟨k, hk, rfl, rfl⟩ := hrel
    by_cases hlt : k < s.size
    · have ek := bt_at s k hlt
      have hb := bt_lt s k
      have HF := hid' (show sumN 2166136261 s (k + 1) = bits BinOp.xor IntKind.u32 (sumN 2166136261 s k) (bt s k) * 16777619 % 4294967296 from rfl)
      generalize sumN 2166136261 s k = u at *
      go_wp2
      go_round
      case rel => exact ⟨k + 1, by omega, by go_num, by rw [HF.out]⟩
      case measure => simp [intOf]; omega
    · obtain rfl : k = s.size := by omega
      go_wp2
      go_ret
      exact ⟨rfl, rfl⟩
theorem sumN_lt (n : Int) (hn : 0 ≤ n ∧ n < 4294967296) (s : ByteArray) : ∀ k, 0 ≤ sumN n s k ∧ sumN n s k < 4294967296
  | 0 => hn
  | k + 1 => by simp only [sumN, fnv]; omega
theorem sumN_app (n : Int) (s t : ByteArray) : ∀ k, k ≤ s.size → sumN n (s ++ t) k = sumN n s k
  | 0, _ => rfl
  | k + 1, h => by
    simp only [sumN]
    rw [sumN_app n s t k (by omega)]
    congr 2
    unfold bt
    rw [dif_pos (by rw [ByteArray.size_append]; omega), dif_pos (by omega)]
    congr 1
    exact ByteArray.getElem_append_left (by omega)
theorem bt_app_right (s t : ByteArray) (j : Nat) (h : j < t.size) : bt (s ++ t) (s.size + j) = bt t j := by
  unfold bt
  rw [dif_pos (by rw [ByteArray.size_append]; omega), dif_pos h]
  congr 1
  rw [ByteArray.getElem_append_right (by omega)]
  congr 1; omega
theorem bt_app_left (s t : ByteArray) (j : Nat) (h : j < s.size) : bt (s ++ t) j = bt s j := by
  unfold bt
  rw [dif_pos (by rw [ByteArray.size_append]; omega), dif_pos h]
  congr 1
  exact ByteArray.getElem_append_left (by omega)
theorem sumN_on (n : Int) (s t : ByteArray) : ∀ k, k ≤ t.size → sumN n (s ++ t) (s.size + k) = sumN (sumN n s s.size) t k
  | 0, _ => sumN_app n s t s.size (Nat.le_refl _)
  | k + 1, h => by
    rw [← Nat.add_assoc]
    simp only [sumN]
    rw [sumN_on n s t k (by omega), bt_app_right s t k (by omega)]
theorem sumOf_on (s t : ByteArray) : sumOf (s ++ t) = sumN (sumOf s) t t.size := by
  unfold sumOf
  rw [ByteArray.size_append]
  exact sumN_on _ s t t.size (Nat.le_refl _)
end Go.Proofs.Ythcefjkpiaecjaa
