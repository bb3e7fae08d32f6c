/- Whole numbers: Cmp. -/
import Derived.Test.YtpajpfbgmgjnnaaGreatDoorPk18
namespace Go.Proofs.YtpajpfbgmgjnnaaGreatDoor
open Go.RowKit
set_option linter.unusedVariables false
set_option maxRecDepth 100000
set_option linter.unusedSimpArgs false
attribute [local go_sem ↓] Go.wp_at_zero Go.wp_at_succ

set_option maxHeartbeats 1000000 in
theorem ncmp_other (w : World) (aa ab : Option Addr) (la ca lb cb K K' : Nat) (x y : Int) (hbb : decide (x < 0) ≠ decide (y < 0)) (hK : K < 1000000000) (hK' : K' < 1000000000) (na0 : NumIs w (.agg #[.slice aa la ca, .bool (decide (x < 0))]) x K) (nb0 : NumIs w (.agg #[.slice ab lb cb, .bool (decide (y < 0))]) y K') :
    Calls Tryz.prog 18 #[.agg #[.slice aa la ca, .bool (decide (x < 0))], .agg #[.slice ab lb cb, .bool (decide (y < 0))]] w fun e w' => e = .returned (.int .i64 (Lib.compareInt (signZ x) (signZ y))) ∧ Below w.heap.size w w' := by
  have hbe : (decide (x < 0) == decide (y < 0)) = false := by simpa using hbb
  generalize hb1 : decide (x < 0) = b at *
  generalize hb2 : decide (y < 0) = b' at *
  have HB := hid (And.intro hb1 hb2)
  clear hb1 hb2
  have hx := boxed2_first w (Obj.cells #[.slice aa la ca, .bool b] 28) (Obj.cells #[.slice ab lb cb, .bool b'] 28)
  have hz := boxed2_second w (Obj.cells #[.slice aa la ca, .bool b] 28) (Obj.cells #[.slice ab lb cb, .bool b'] 28)
  have hB := boxed2 (Below.refl w.heap.size w) (Obj.cells #[.slice aa la ca, .bool b] 28) (Obj.cells #[.slice ab lb cb, .bool b'] 28)
  go_enter Tryz.func18, Tryz.ntmps18
  go_wp2_with fail
  generalize (w.alloc (Obj.cells #[.slice aa la ca, .bool b] 28)).alloc (Obj.cells #[.slice ab lb cb, .bool b'] 28) = W at *
  have t1 := two_cell0 hx
  have t2 := two_cell1 hx
  have t3 := two_cell0 hz
  have t4 := two_cell1 hz
  have B0 : Below W.heap.size W W.drew := (Below.refl _ _).drew
  have na := na0.below hB
  have nb := nb0.below hB
  clear hx hz
  go_region_held3 (fun w' => w'.cell? ⟨w.heap.size, 0, none⟩ = some (.slice aa la ca) ∧ w'.cell? ⟨w.heap.size, 1, none⟩ = some (.bool b) ∧ w'.cell? ⟨w.heap.size + 1, 0, none⟩ = some (.slice ab lb cb) ∧ w'.cell? ⟨w.heap.size + 1, 1, none⟩ = some (.bool b')) ((first | exact ⟨t1, t2, t3, t4⟩ | exact K1 | exact K2)) (first
    | (have gk := B2; go_at_call 54; refine (Tryz.cmp_Compare_int _ _ _).mono ?_; rintro e w3 ⟨rfl, rfl⟩)
    | (have gk := B1; go_at_call 28; refine (nsign_any _ _ _ _ (by omega) (nb.below B1)).mono ?_; rintro e w2 ⟨rfl, hb2⟩; have B2 := chain2 B1 hb2; have K2 := keepN t1 t2 t3 t4 B2)
    | (have gk := B0; go_at_call 28; refine (nsign_any _ _ _ _ (by omega) (na.below B0)).mono ?_; rintro e w1 ⟨rfl, hb1⟩; have B1 := chain2 B0 hb1; have K1 := keepN t1 t2 t3 t4 B1))
  go_wp2
  go_ret
  exact ⟨rfl, chain2 hB B2⟩
set_option maxHeartbeats 800000 in
theorem ncmp_below (w : World) (aa ab : Option Addr) (la ca lb cb m n K K' : Nat) (na0 : NatIs w (.agg #[.slice aa la ca]) m K) (nb0 : NatIs w (.agg #[.slice ab lb cb]) n K') :
    Calls Tryz.prog 18 #[.agg #[.slice aa la ca, .bool true], .agg #[.slice ab lb cb, .bool true]] w fun e w' => e = .returned (.int .i64 (cmpI n m)) ∧ Below w.heap.size w w' := by
  have hB := boxed2 (Below.refl w.heap.size w) (Obj.cells #[.slice aa la ca, .bool true] 28) (Obj.cells #[.slice ab lb cb, .bool true] 28)
  go_enter Tryz.func18, Tryz.ntmps18
  go_wp2_with fail
  refine (cmp_any _ _ _ _ _ _ _ (nb0.below hB) (na0.below hB)).mono ?_
  rintro e w1 ⟨rfl, hb1⟩
  have kB := chain2 hB hb1
  go_wp2
  go_ret
  exact ⟨rfl, kB⟩
set_option maxHeartbeats 800000 in
theorem ncmp_above (w : World) (aa ab : Option Addr) (la ca lb cb m n K K' : Nat) (na0 : NatIs w (.agg #[.slice aa la ca]) m K) (nb0 : NatIs w (.agg #[.slice ab lb cb]) n K') :
    Calls Tryz.prog 18 #[.agg #[.slice aa la ca, .bool false], .agg #[.slice ab lb cb, .bool false]] w fun e w' => e = .returned (.int .i64 (cmpI m n)) ∧ Below w.heap.size w w' := by
  have hB := boxed2 (Below.refl w.heap.size w) (Obj.cells #[.slice aa la ca, .bool false] 28) (Obj.cells #[.slice ab lb cb, .bool false] 28)
  go_enter Tryz.func18, Tryz.ntmps18
  go_wp2_with fail
  refine (cmp_any _ _ _ _ _ _ _ (na0.below hB) (nb0.below hB)).mono ?_
  rintro e w1 ⟨rfl, hb1⟩
  have kB := chain2 hB hb1
  go_wp2
  go_ret
  exact ⟨rfl, kB⟩
theorem cmpZ_signs {x y : Int} (h : decide (x < 0) ≠ decide (y < 0)) : Lib.compareInt (signZ x) (signZ y) = cmpZ x y := by
  unfold Lib.compareInt signZ cmpZ
  by_cases hx : x < 0 <;> by_cases hy : y < 0 <;> simp [hx, hy] at h ⊢ <;> (repeat' split) <;> omega
theorem cmpZ_below {x y : Int} (hx : x < 0) (hy : y < 0) : cmpI y.natAbs x.natAbs = cmpZ x y := by
  unfold cmpI cmpZ; (repeat' split) <;> omega
theorem cmpZ_above {x y : Int} (hx : ¬ x < 0) (hy : ¬ y < 0) : cmpI x.natAbs y.natAbs = cmpZ x y := by
  unfold cmpI cmpZ; (repeat' split) <;> omega
/-- Cmp. -/
theorem ncmp_any (w : World) (a b : Value) (x y : Int) (K K' : Nat) (hK : K < 1000000000) (hK' : K' < 1000000000) (ha : NumIs w a x K) (hb : NumIs w b y K') :
    Calls Tryz.prog 18 #[a, b] w fun e w' => e = .returned (.int .i64 (cmpZ x y)) ∧ Below w.heap.size w w' := by
  obtain ⟨aa, la, ca, rfl, na⟩ := ha
  obtain ⟨ab, lb, cb, rfl, nb⟩ := hb
  by_cases h : decide (x < 0) = decide (y < 0)
  · by_cases hx : x < 0
    · have hy : y < 0 := by by_cases hy : y < 0 <;> simp [hx, hy] at h ⊢
      rw [show decide (x < 0) = true by simp [hx], show decide (y < 0) = true by simp [hy], ← cmpZ_below hx hy]
      exact ncmp_below w aa ab la ca lb cb _ _ K K' na nb
    · have hy : ¬ y < 0 := by intro hy; simp [hx, hy] at h
      rw [show decide (x < 0) = false by simp; omega, show decide (y < 0) = false by simp; omega, ← cmpZ_above hx hy]
      exact ncmp_above w aa ab la ca lb cb _ _ K K' na nb
  · rw [← cmpZ_signs h]
    exact ncmp_other w aa ab la ca lb cb K K' x y h hK hK' ⟨aa, la, ca, rfl, na⟩ ⟨ab, lb, cb, rfl, nb⟩
end Go.Proofs.YtpajpfbgmgjnnaaGreatDoor
