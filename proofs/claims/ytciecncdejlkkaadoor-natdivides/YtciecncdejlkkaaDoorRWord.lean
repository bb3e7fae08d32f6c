/- The document's word and gcd. -/
import Derived.Test.YtciecncdejlkkaaDoorRAdd
import Derived.Test.YtciecncdejlkkaaDoorLaws
import Derived.Deep.LoopGhost
namespace Go.Proofs.YtciecncdejlkkaaDoor
open Go.RowKit
set_option linter.unusedVariables false
set_option maxRecDepth 100000
set_option linter.unusedSimpArgs false

theorem R.pv_lt_word {A : List Nat} (hA : R.Bd A) (h : A.length ≤ 2) : R.val A < 1000000000000000000 := by
  have h1 := R.val_lt hA
  have h2 : 1000000000 ^ A.length ≤ 1000000000 ^ 2 := Nat.pow_le_pow_right (by omega) h
  omega
theorem word_step {A : List Nat} {c j : Nat} (h : c * 1000000000 ^ (j + 1) + R.pv A (j + 1) = R.val A) : (c * 1000000000 + lg A j) * 1000000000 ^ j + R.pv A j = R.val A := by
  simp only [R.pv, Nat.pow_succ] at h
  rw [← h, Nat.add_mul, Nat.mul_assoc, Nat.mul_comm 1000000000 (1000000000 ^ j)]
  omega
theorem word_small {A : List Nat} {c j B : Nat} (h : c * 1000000000 ^ (j + 1) + R.pv A (j + 1) = R.val A) (hv : R.val A < B) : c * 1000000000 + lg A j < B := by
  have h1 := word_step h
  have hp : 0 < 1000000000 ^ j := Nat.pow_pos (by decide)
  have h2 : (c * 1000000000 + lg A j) * 1 ≤ (c * 1000000000 + lg A j) * 1000000000 ^ j := Nat.mul_le_mul_left _ hp
  omega
set_option maxHeartbeats 2000000 in
theorem rword_walk (w : World) (aa : Option Addr) (na ca : Nat) (A : List Nat) (hA : R.Bd A) (hna : na ≤ 1000000000) (hAl : A.length = na) (hv : R.val A < 18446744073709551616) (oa : w.ownsRow 0 3 1 (.slice aa na ca) na (i64s A)) :
    Calls Tryd.prog 63 #[.agg #[.slice aa na ca]] w fun e w' => e = .returned (.int .u64 ((R.val A : Nat) : Int)) ∧ Below w.heap.size w w' := by
  have HN := hid hAl
  clear hAl
  have hb := (Below.refl w.heap.size w).alloc (Nat.le_refl _) (Obj.cells #[Value.slice aa na ca] 29)
  have b1 := box_new w (Obj.cells #[Value.slice aa na ca] 29)
  go_enter Tryd.func63, Tryd.ntmps63
  go_wp2
  generalize w.alloc (Obj.cells #[Value.slice aa na ca] 29) = W at *
  have t1 := cell_of_one b1
  go_loopg [3, 4] na (fun k n i wr => ∃ c : Nat, n = .int .u64 c ∧ i = .int .i64 ((k : Int) - 1) ∧ k ≤ na ∧ Hid (c * 1000000000 ^ k + R.pv A k = R.val A) ∧ wr = W)
  case atStart => exact ⟨0, rfl, by first | rfl | go_num, Nat.le_refl _, hid (by rw [Nat.zero_mul, Nat.zero_add]; exact R.pv_val A na (by have := HN.out; omega)), rfl⟩
  case round =>
    obtain ⟨c, rfl, rfl, hk, HR, rfl⟩ := hrel
    cases gk with
    | zero =>
      have hR := HR.out
      simp only [Nat.pow_zero, Nat.mul_one, R.pv, Nat.add_zero] at hR
      have HE := hid hR
      clear hR HR
      have hneg : ¬ ((0 : Int) ≤ ((0 : Nat) : Int) - 1) := by omega
      go_wp2
      go_ret
      exact ⟨by rw [← HE.out]; rfl, hb⟩
    | succ j =>
      have e0 : (((j + 1 : Nat) : Int) - 1) = (j : Int) := by omega
      rw [e0]
      have hj : j < na := by omega
      obtain ⟨ga, rfl⟩ : ∃ ga, aa = some ⟨ga, 0, none⟩ := by
        rcases oa.2 with ⟨h', _⟩ | ⟨g, cap, cur, h', _⟩
        · simp at h'; omega
        · simp only [Value.slice.injEq] at h'; exact ⟨g, h'.1⟩
      have cA := i64s_at (ownsRow_below oa hb) j (by have := HN.out; omega)
      have hA9 := hA j
      have HS := hid (word_step HR.out)
      have hsm := word_small HR.out hv
      generalize lg A j = x at *
      obtain ⟨T, hT⟩ : ∃ T, c * 1000000000 + x = T := ⟨_, rfl⟩
      rw [hT] at hsm HS
      have hT2 : (c : Int) * 1000000000 + (x : Int) = (T : Int) := by omega
      have hc2 : c * 1000000000 < 18446744073709551616 := by omega
      clear hT HR e0
      go_wp2
      go_roundg j
      case rel => exact ⟨T, by go_num, by first | rfl | go_num, by omega, HS, rfl⟩
      case measure => omega
set_option maxHeartbeats 800000 in
theorem rgcdw_any (w : World) (x y : Nat) (hx : x < 18446744073709551616) (hy : y < 18446744073709551616) :
    Calls Tryd.prog 62 #[.int .u64 x, .int .u64 y] w fun e w' => e = .returned (.int .u64 ((Nat.gcd x y : Nat) : Int)) ∧ Below w.heap.size w w' := by
  go_enter Tryd.func62, Tryd.ntmps62
  go_wp2
  go_loopg [0, 1] y (fun k a b wr => ∃ p : Nat, a = .int .u64 p ∧ b = .int .u64 k ∧ p < 18446744073709551616 ∧ k < 18446744073709551616 ∧ Hid (Nat.gcd p k = Nat.gcd x y) ∧ Below w.heap.size w wr)
  case atStart => exact ⟨x, rfl, rfl, hx, hy, hid rfl, Below.refl _ _⟩
  case round =>
    obtain ⟨p, rfl, rfl, hp, hk, HG, hB⟩ := hrel
    rcases Nat.eq_zero_or_pos gk with h0 | h0
    · subst h0
      have hG := HG.out
      rw [Nat.gcd_zero_right] at hG
      have HG' := hid hG
      clear hG HG
      go_wp2
      go_ret
      exact ⟨by rw [HG'.out]; rfl, hB⟩
    · have h1 : 0 < (gk : Int) := by omega
      have hm := Nat.mod_lt p h0
      have hz : (gk : Int) ≠ 0 := by omega
      have e1 : ((p : Nat) : Int).tmod (gk : Int) = ((p % gk : Nat) : Int) := by rw [Int.tmod_eq_emod_of_nonneg (by omega)]; omega
      have HG2 := hid (show Nat.gcd gk (p % gk) = Nat.gcd x y by rw [← HG.out, Nat.gcd_comm gk, ← Nat.gcd_rec, Nat.gcd_comm])
      obtain ⟨r, hr⟩ : ∃ r, p % gk = r := ⟨_, rfl⟩
      rw [hr] at hm e1 HG2
      clear hr HG
      go_wp2
      go_quiet (fail)
      go_wp2
      go_roundg r
      case rel => exact ⟨gk, rfl, rfl, hk, by omega, HG2, by first | exact hB | exact below_drewN hB _ | exact hB.drew⟩
      case measure => omega
end Go.Proofs.YtciecncdejlkkaaDoor
