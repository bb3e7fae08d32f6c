/- wal: parse. -/
import Derived.Test.YthcefjkpiaecjaaWCom
namespace Go.Proofs.Ythcefjkpiaecjaa
open Go.RowKit
set_option linter.unusedVariables false
set_option maxRecDepth 100000
set_option linter.unusedSimpArgs false

theorem below_dn {B : Nat} {w X : World} (h : Below B w X) (n : Nat) : Below B w (X.drewN n) := below_drewN h n
def comZ : Com := ⟨0, 0, 0, 0⟩
set_option maxHeartbeats 1600000 in
theorem parse_short (w : World) (s : ByteArray) (hs : s.size ≤ maxLen) (h : s.size ≠ 21) :
    Calls Try.prog 42 #[.string s] w fun e w' => e = .returned (.tuple #[cv comZ, .bool false]) ∧ Below w.heap.size w w' := by
  unfold maxLen at hs
  have h1 : ((s.size : Int) == 21) = false := beq_eq_false_iff_ne.2 (by omega)
  have h2 : ((s.size : Int) != 21) = true := by simp; omega
  unfold cv comZ
  have q0 := Box4.new w 62 (.int .u64 0) (.int .i64 0) (.int .i64 0) (.int .u32 0)
  have B0 := (Below.refl w.heap.size w).alloc (Nat.le_refl _) (Obj.cells #[.int .u64 0, .int .i64 0, .int .i64 0, .int .u32 0] 62)
  go_enter Try.func42, Try.ntmps42
  go_wp2_with fail
  generalize w.alloc (Obj.cells #[Value.int .u64 0, .int .i64 0, .int .i64 0, .int .u32 0] 62) = W at *
  go_quiet (fail)
  have q1 := q0.drewN nq
  have B1 := below_dn B0 nq
  have q2 := q1.set (.int .u64 0) (.int .i64 0) (.int .i64 0) (.int .u32 0)
  have B2 := below4 B1 (Nat.le_refl _) (.int .u64 0) (.int .i64 0) (.int .i64 0) (.int .u32 0)
  obtain ⟨_, c0, c1, c2, c3, fr⟩ := q1
  generalize W.drewN nq = W1 at *
  go_wp2
  obtain ⟨_, g0, g1, g2, g3, _⟩ := q2
  exact bodyPost_ret (v := .tuple #[.agg #[.int .u64 0, .int .i64 0, .int .i64 0, .int .u32 0], .bool false]) (by simp [results, Try.results42, go_sem, g0, g1, g2, g3]) rfl ⟨rfl, B2⟩
set_option maxHeartbeats 4000000 in
theorem parse_long (w : World) (s : ByteArray) (h : s.size = 21) :
    Calls Try.prog 42 #[.string s] w fun e w' => ((∃ c, IsCom s c ∧ e = .returned (.tuple #[cv c, .bool true])) ∨ ((∀ c, ¬ IsCom s c) ∧ e = .returned (.tuple #[cv comZ, .bool false]))) ∧ Below w.heap.size w w' := by
  have num : ∀ a b, a ≤ b → b ≤ 21 → b - a ≤ 8 → ∀ v, Calls Try.prog 55 #[.string (s.extract a b)] v fun e w' => e = .returned (.int .u64 (be s a (b - a) : Int)) ∧ w' = v := by
    intro a b hab hb h8 v
    have n1 := numberOf_any v (s.extract a b) (by rw [ByteArray.size_extract]; omega)
    rwa [show (s.extract a b).size = b - a by rw [ByteArray.size_extract]; omega, be_extract s a b (by omega) (b - a) (by omega)] at n1
  have n1 := num 17 21 (by omega) (by omega) (by omega)
  have n2 := num 0 8 (by omega) (by omega) (by omega)
  have n3 := num 9 13 (by omega) (by omega) (by omega)
  have n4 := num 13 17 (by omega) (by omega) (by omega)
  simp only [Nat.reduceSub] at n1 n2 n3 n4
  clear num
  have s1 := fun v => wsum_any (s.extract 0 17) v (by rw [ByteArray.size_extract]; omega)
  rw [sum_extract s 17 (by omega)] at s1
  have h21 : ((s.size : Int) == 21) = true := by rw [h]; rfl
  have hw := sumN_lt 2166136261 (by omega) s 17
  have HCom := hid (show ∀ c, IsCom s c → be s 0 8 = c.num ∧ bt s 8 = c.area ∧ be s 9 4 = c.len ∧ (be s 13 4 : Int) = c.sum ∧ (be s 17 4 : Int) = sumN 2166136261 s 17 ∧ c.num ≠ 0 ∧ c.area ≤ 1 ∧ c.len ≤ 32512 from fun c k => ⟨k.num, k.area, k.len, k.sum, k.own, k.num0, k.area1, k.len1⟩)
  have HMk := hid (show (be s 17 4 : Int) = sumN 2166136261 s 17 → be s 0 8 ≠ 0 → bt s 8 ≤ 1 → be s 9 4 ≤ 32512 → IsCom s ⟨be s 0 8, bt s 8, be s 9 4, be s 13 4⟩ from fun h1 h2 h3 h4 => ⟨h, rfl, rfl, rfl, rfl, h1, h2, h3, h4⟩)
  have l1 := be_lt s 0 8
  have l2 := be_lt s 9 4
  have l3 := be_lt s 13 4
  have l4 := be_lt s 17 4
  have l5 := bt_lt s 8
  have l6 := bt_at s 8 (by omega)
  simp only [Nat.reducePow] at l1 l2 l3 l4
  generalize sumN 2166136261 s 17 = S at *
  generalize be s 0 8 = bn at *
  generalize be s 9 4 = bl at *
  generalize be s 13 4 = bs at *
  generalize be s 17 4 = bo at *
  generalize bt s 8 = ba at *
  have hc : IntKind.u64.wrap S = S := by simp only [IntKind.wrap, IntKind.signed, IntKind.bits]; simp; omega
  have hlt8 : (8 : Int) < (s.size : Int) := by omega
  have q0 := Box4.new w 62 (.int .u64 0) (.int .i64 0) (.int .i64 0) (.int .u32 0)
  have B0 := (Below.refl w.heap.size w).alloc (Nat.le_refl _) (Obj.cells #[.int .u64 0, .int .i64 0, .int .i64 0, .int .u32 0] 62)
  go_enter Try.func42, Try.ntmps42
  go_wp2_with fail
  generalize w.alloc (Obj.cells #[Value.int .u64 0, .int .i64 0, .int .i64 0, .int .u32 0] 62) = W at *
  go_quiet (first | (go_at_call 44; exact Calls.quiet_of_same (s1 _)) | (go_at_call 55; exact Calls.quiet_of_same (n1 _)))
  have q1 := q0.drewN nq
  have B1 := below_dn B0 nq
  generalize W.drewN nq = W1 at *
  clear q0 B0
  by_cases hS : S = (bo : Int)
  · have hS1 : (S != (bo : Int)) = false := by simp [hS]
    rw [hS1]
    have HS := hid hS
    clear hS hS1 hw hc
    go_wp2_with fail
    go_quiet ((go_at_call 55; exact Calls.quiet_of_same (n2 _)))
    have q2 := q1.drewN nq
    have B2 := below_dn B1 nq
    generalize W1.drewN nq = W2 at *
    clear q1 B1
    go_wp2_with fail
    go_quiet (first | (go_at_call_of 55 (Value.string (s.extract 9 13)); exact Calls.quiet_of_same (n3 _)) | (go_at_call_of 55 (Value.string (s.extract 13 17)); exact Calls.quiet_of_same (n4 _)))
    have q3 := q2.drewN nq
    have B3 := below_dn B2 nq
    generalize W2.drewN nq = W3 at *
    clear q2 B2 n1 n2 n3 n4 s1
    by_cases hok : bn ≠ 0 ∧ ba ≤ 1 ∧ bl ≤ 32512
    · obtain ⟨k1, k2, k3⟩ := hok
      have HIs := hid (HMk.out HS.out.symm k1 k2 k3)
      clear HMk HCom
      have t1 : ((bn : Int) == 0) = false := beq_eq_false_iff_ne.2 (by omega)
      have t2 : decide ((1 : Int) < (ba : Int)) = false := decide_eq_false (by omega)
      have t3 : decide ((32512 : Int) < (bl : Int)) = false := decide_eq_false (by omega)
      have q4 := q3.set (.int .u64 (bn : Int)) (.int .i64 (ba : Int)) (.int .i64 (bl : Int)) (.int .u32 (bs : Int))
      have B4 := below4 B3 (Nat.le_refl _) (.int .u64 (bn : Int)) (.int .i64 (ba : Int)) (.int .i64 (bl : Int)) (.int .u32 (bs : Int))
      obtain ⟨_, c0, c1, c2, c3, fr⟩ := q3
      go_wp2
      obtain ⟨_, g0, g1, g2, g3, _⟩ := q4
      exact bodyPost_ret (v := .tuple #[.agg #[.int .u64 (bn : Int), .int .i64 (ba : Int), .int .i64 (bl : Int), .int .u32 (bs : Int)], .bool true]) (by simp [results, Try.results42, go_sem, g0, g1, g2, g3]) rfl ⟨Or.inl ⟨_, HIs.out, rfl⟩, B4⟩
    · have HNo := hid (show ∀ c, ¬ IsCom s c from fun c k => hok (by obtain ⟨a1, a2, a3, _, _, a4, a5, a6⟩ := HCom.out c k; rw [a1, a2, a3]; exact ⟨a4, a5, a6⟩))
      clear HMk HCom
      have q4 := q3.set (.int .u64 0) (.int .i64 0) (.int .i64 0) (.int .u32 0)
      have B4 := below4 B3 (Nat.le_refl _) (.int .u64 0) (.int .i64 0) (.int .i64 0) (.int .u32 0)
      obtain ⟨_, c0, c1, c2, c3, fr⟩ := q3
      rcases (show bn = 0 ∨ bn ≠ 0 ∧ 1 < ba ∨ bn ≠ 0 ∧ ¬ 1 < ba ∧ 32512 < bl by omega) with k | ⟨k1, k2⟩ | ⟨k1, k2, k3⟩
      · have t1 : ((bn : Int) == 0) = true := by rw [k]; rfl
        clear hok k
        go_wp2
        obtain ⟨_, g0, g1, g2, g3, _⟩ := q4
        exact bodyPost_ret (v := .tuple #[.agg #[.int .u64 0, .int .i64 0, .int .i64 0, .int .u32 0], .bool false]) (by simp [results, Try.results42, go_sem, g0, g1, g2, g3]) rfl ⟨Or.inr ⟨HNo.out, rfl⟩, B4⟩
      · have t1 : ((bn : Int) == 0) = false := beq_eq_false_iff_ne.2 (by omega)
        have t2 : decide ((1 : Int) < (ba : Int)) = true := decide_eq_true (by omega)
        clear hok
        go_wp2
        obtain ⟨_, g0, g1, g2, g3, _⟩ := q4
        exact bodyPost_ret (v := .tuple #[.agg #[.int .u64 0, .int .i64 0, .int .i64 0, .int .u32 0], .bool false]) (by simp [results, Try.results42, go_sem, g0, g1, g2, g3]) rfl ⟨Or.inr ⟨HNo.out, rfl⟩, B4⟩
      · have t1 : ((bn : Int) == 0) = false := beq_eq_false_iff_ne.2 (by omega)
        have t2 : decide ((1 : Int) < (ba : Int)) = false := decide_eq_false (by omega)
        have t3 : decide ((32512 : Int) < (bl : Int)) = true := decide_eq_true (by omega)
        clear hok
        go_wp2
        obtain ⟨_, g0, g1, g2, g3, _⟩ := q4
        exact bodyPost_ret (v := .tuple #[.agg #[.int .u64 0, .int .i64 0, .int .i64 0, .int .u32 0], .bool false]) (by simp [results, Try.results42, go_sem, g0, g1, g2, g3]) rfl ⟨Or.inr ⟨HNo.out, rfl⟩, B4⟩
  · have hS1 : (S != (bo : Int)) = true := by simp [hS]
    rw [hS1]
    have HS := hid hS
    clear hS hS1
    have q2 := q1.set (.int .u64 0) (.int .i64 0) (.int .i64 0) (.int .u32 0)
    have B2 := below4 B1 (Nat.le_refl _) (.int .u64 0) (.int .i64 0) (.int .i64 0) (.int .u32 0)
    obtain ⟨_, c0, c1, c2, c3, fr⟩ := q1
    go_wp2
    obtain ⟨_, g0, g1, g2, g3, _⟩ := q2
    exact bodyPost_ret (v := .tuple #[.agg #[.int .u64 0, .int .i64 0, .int .i64 0, .int .u32 0], .bool false]) (by simp [results, Try.results42, go_sem, g0, g1, g2, g3]) rfl ⟨Or.inr ⟨fun c k => HS.out ((HCom.out c k).2.2.2.2.1).symm, rfl⟩, B2⟩
end Go.Proofs.Ythcefjkpiaecjaa
