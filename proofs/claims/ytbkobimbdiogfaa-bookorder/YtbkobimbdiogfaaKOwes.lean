/- order: what an Ask may cost. -/
import Derived.Test.YtbkobimbdiogfaaKLine
import Derived.BigQuiet
import Derived.Deep.QuietTactic
namespace Go.Proofs.Ytbkobimbdiogfaa
open Go.RowKit
set_option linter.unusedVariables false
set_option maxRecDepth 100000
set_option linter.unusedSimpArgs false

def dear (b : Bool) (p q : Int) : Int := wrap64 (max (if b then p else wrap64 (-p)) 0 * q)
def sumW (L : List Int) : Int := L.foldl (fun a x => wrap64 (a + x)) 0
theorem sumW_succ (L : List Int) (k : Nat) (h : k < L.length) : sumW (L.take (k + 1)) = wrap64 (sumW (L.take k) + L[k]) := by
  unfold sumW
  rw [List.take_succ_eq_append_getElem h, List.foldl_append]; rfl
set_option maxHeartbeats 800000 in
theorem dearest_any (b : Bool) (p q : Int) (w : World) : Calls Try.prog 45 #[.bool b, .int .i64 p, .int .i64 q] w fun e w' => e = .returned (.int .i64 (dear b p q)) ∧ w' = w := by
  cases b
  · have hd : dear false p q = wrap64 (max (wrap64 (-p)) 0 * q) := by simp [dear]
    have h1 : ∀ r : Int, r < 0 → max r 0 = 0 := fun r h => by omega
    have h2 : ∀ r : Int, 0 ≤ r → max r 0 = r := fun r h => by omega
    have HD := hid hd
    clear hd
    go_enter Try.func45, Try.ntmps45
    go_wp2
    all_goals go_ret
    · exact ⟨by rw [HD.out, h1 _ h]; simp, rfl⟩
    · exact ⟨by rw [HD.out, h2 _ h]; rfl, rfl⟩
  · have hd : dear true p q = wrap64 (max p 0 * q) := by simp [dear]
    have h1 : ∀ r : Int, r < 0 → max r 0 = 0 := fun r h => by omega
    have h2 : ∀ r : Int, 0 ≤ r → max r 0 = r := fun r h => by omega
    have HD := hid hd
    clear hd
    go_enter Try.func45, Try.ntmps45
    go_wp2
    all_goals go_ret
    · exact ⟨by rw [HD.out, h1 _ h]; simp, rfl⟩
    · exact ⟨by rw [HD.out, h2 _ h]; rfl, rfl⟩
set_option maxHeartbeats 1600000 in
theorem sum_any (w : World) (v : Value) (L : List Int) (h : Ints w v L) : Calls Try.prog 46 #[v] w fun e w' => e = .returned (.int .i64 (sumW L)) ∧ w' = w := by
  obtain ⟨a, c, rfl, hlc, hcm⟩ := h.slice
  unfold maxLen at hcm
  go_enter Try.func46, Try.ntmps46
  go_wp2
  go_loopw [3, 8] (fun s i wr => ∃ k : Nat, k ≤ L.length ∧ s = .int .i64 (sumW (L.take k)) ∧ i = .int .i64 (k : Int) ∧ wr = w) (fun _ i _ => L.length - (intOf i).toNat)
  case atStart => exact ⟨0, Nat.zero_le _, rfl, rfl, rfl⟩
  case round =>
    obtain ⟨k, hk, rfl, rfl, rfl⟩ := hrel
    by_cases hlt : k < L.length
    · obtain ⟨b1, o1, d1, e1, l1, m1, f1⟩ := h.at k hlt
      simp only [Value.slice.injEq] at e1
      obtain ⟨rfl, _, rfl⟩ := e1
      unfold maxLen at m1
      have HS := hid (sumW_succ L k hlt)
      generalize L[k] = x at *
      generalize sumW (L.take k) = S at *
      go_wp2
      go_roundw
      case rel => exact ⟨k + 1, by omega, by rw [HS.out], by go_num, by simp⟩
      case measure => simp [intOf]; omega
    · obtain rfl : k = L.length := by omega
      rw [List.take_length]
      go_wp2
      go_ret
      exact ⟨rfl, rfl⟩
theorem ta_ss (x : Value) (w : World) : (Instr.typeAssert (.iface 92 x) 63 92 true).run Try.prog w = .ok (.tuple #[x, .bool true]) w := by kernel_rfl
theorem ta_bs (x : Value) (w : World) : (Instr.typeAssert (.iface 95 x) 63 92 true).run Try.prog w = .ok (.tuple #[.pointer none, .bool false]) w := by kernel_rfl
theorem ta_ls (x : Value) (w : World) : (Instr.typeAssert (.iface 89 x) 63 92 true).run Try.prog w = .ok (.tuple #[.pointer none, .bool false]) w := by kernel_rfl
theorem ta_cs (x : Value) (w : World) : (Instr.typeAssert (.iface 98 x) 63 92 true).run Try.prog w = .ok (.tuple #[.pointer none, .bool false]) w := by kernel_rfl
theorem ta_ns (w : World) : (Instr.typeAssert .nilIface 63 92 true).run Try.prog w = .ok (.tuple #[.pointer none, .bool false]) w := by kernel_rfl
theorem ta_bb (x : Value) (w : World) : (Instr.typeAssert (.iface 95 x) 63 95 true).run Try.prog w = .ok (.tuple #[x, .bool true]) w := by kernel_rfl
theorem ta_lb (x : Value) (w : World) : (Instr.typeAssert (.iface 89 x) 63 95 true).run Try.prog w = .ok (.tuple #[.pointer none, .bool false]) w := by kernel_rfl
theorem ta_cb (x : Value) (w : World) : (Instr.typeAssert (.iface 98 x) 63 95 true).run Try.prog w = .ok (.tuple #[.pointer none, .bool false]) w := by kernel_rfl
theorem ta_nb (w : World) : (Instr.typeAssert .nilIface 63 95 true).run Try.prog w = .ok (.tuple #[.pointer none, .bool false]) w := by kernel_rfl
set_option maxHeartbeats 3200000 in
theorem costOf_step (w : World) (b : Nat) (v0 v1 v2 v3 : Value) (buy : Bool) (q p : Int) (h : w.heap[b]? = some (.cells #[v0, v1, v2, v3, .bool buy, .int .i64 q, .int .i64 p] 94 (0, 0))) :
    Calls Try.prog 29 #[.iface 92 (.pointer (some ⟨b, 0, none⟩))] w fun e w' => e = .returned (.int .i64 (dear buy p q)) ∧ Below w.heap.size w w' := by
  have c4 := blk_cell h 4 (.bool buy) rfl
  have c5 := blk_cell h 5 (.int .i64 q) rfl
  have c6 := blk_cell h 6 (.int .i64 p) rfl
  have hd := fun v => dearest_any buy p q v
  generalize dear buy p q = d at *
  clear h
  have t1 := ta_ss
  go_enter Try.func29, Try.ntmps29
  go_wp2_with fail
  go_quiet ((go_at_call 45; exact Calls.quiet_of_same (hd _)))
  go_wp2
  go_ret
  exact ⟨rfl, below_dn (Below.refl _ _) _⟩
set_option maxHeartbeats 3200000 in
theorem costOf_block (w : World) (b : Nat) (v0 v1 v2 v6 v7 v : Value) (buy : Bool) (p : Int) (L : List Int) (hL : Ints w v L) (h : w.heap[b]? = some (.cells #[v0, v1, v2, .bool buy, .int .i64 p, v, v6, v7] 97 (0, 0))) :
    Calls Try.prog 29 #[.iface 95 (.pointer (some ⟨b, 0, none⟩))] w fun e w' => e = .returned (.int .i64 (dear buy p (sumW L))) ∧ Below w.heap.size w w' := by
  have c3 := blk_cell h 3 (.bool buy) rfl
  have c4 := blk_cell h 4 (.int .i64 p) rfl
  have c5 := blk_cell h 5 v rfl
  have hs := fun n => sum_any (w.drewN n) v L (hL.below (below_dn (Below.refl _ _) n))
  have hd := fun v => dearest_any buy p (sumW L) v
  generalize dear buy p (sumW L) = d at *
  generalize sumW L = S at *
  clear h
  have t1 := ta_bs
  have t2 := ta_bb
  go_enter Try.func29, Try.ntmps29
  go_wp2_with fail
  go_quiet (first | (go_at_call 46; exact Calls.quiet_of_same (hs _)) | (go_at_call 45; exact Calls.quiet_of_same (hd _)))
  go_wp2
  go_ret
  exact ⟨rfl, below_dn (Below.refl _ _) _⟩
theorem costOf_lock (w : World) (b : Nat) : Calls Try.prog 29 #[.iface 89 (.pointer (some ⟨b, 0, none⟩))] w fun e w' => e = .returned (.int .i64 0) ∧ w' = w := by
  have t1 := ta_ls
  have t2 := ta_lb
  go_enter Try.func29, Try.ntmps29
  go_wp2
  go_ret
  exact ⟨rfl, rfl⟩
theorem costOf_cancel (w : World) (b : Nat) : Calls Try.prog 29 #[.iface 98 (.pointer (some ⟨b, 0, none⟩))] w fun e w' => e = .returned (.int .i64 0) ∧ w' = w := by
  have t1 := ta_cs
  have t2 := ta_cb
  go_enter Try.func29, Try.ntmps29
  go_wp2
  go_ret
  exact ⟨rfl, rfl⟩
theorem costOf_none (w : World) : Calls Try.prog 29 #[.nilIface] w fun e w' => e = .returned (.int .i64 0) ∧ w' = w := by
  have t1 := ta_ns
  have t2 := ta_nb
  go_enter Try.func29, Try.ntmps29
  go_wp2
  go_ret
  exact ⟨rfl, rfl⟩
end Go.Proofs.Ytbkobimbdiogfaa
