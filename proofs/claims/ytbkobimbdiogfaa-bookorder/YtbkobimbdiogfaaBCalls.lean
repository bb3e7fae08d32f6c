/- book: New, Asks, Locked, mayLock, a name copied. -/
import Derived.Test.YtbkobimbdiogfaaBBook
import Derived.Test.YtbkobimbdiogfaaShelf
import Derived.BigQuiet
import Derived.Deep.QuietTactic
namespace Go.Proofs.Ytbkobimbdiogfaa
open Go.RowKit Go.MapKept
open Go.Maps (Keyed)
set_option linter.unusedVariables false
set_option maxRecDepth 100000
set_option linter.unusedSimpArgs false

set_option maxHeartbeats 800000 in
theorem sclone_any (s : ByteArray) (w : World) (h : s.size ≤ 1099511627776) : Calls Try.prog 31 #[.string s] w fun e w' => e = .returned (.string s) ∧ Below w.heap.size w w' := by
  have hc := Try.stringslite_Clone s w (by omega)
  clear h
  go_enter Try.func31, Try.ntmps31
  go_wp2_with fail
  refine hc.mono ?_
  rintro e w2 ⟨rfl, hb⟩
  go_wp2
  go_ret
  exact ⟨rfl, hb⟩
set_option maxHeartbeats 800000 in
theorem new_walk (w : World) : Calls Try.prog 12 #[] w fun e w' => e = .returned (.pointer (some ⟨w.heap.size + 1 + 1, 0, none⟩)) ∧ w' = ((w.alloc (.map #[] 0)).alloc (.map #[] 0)).alloc (.cells #[.map (some w.heap.size), .map (some (w.heap.size + 1))] 73) := by
  have hmm := @run_makeMap Try.prog
  go_enter Try.func12, Try.ntmps12
  go_wp2
  go_ret
  exact ⟨by simp, by simp⟩
/-- A new book: what lies from the old end of memory on is its own. -/
theorem new_any (w : World) : Calls Try.prog 12 #[] w fun e w' => ∃ v, e = .returned v ∧ Below w.heap.size w w' ∧ Bk (fun i => w.heap.size ≤ i ∧ i < w'.heap.size) w' v [] (fun _ => ps0) := by
  refine (new_walk w).mono ?_
  rintro e w' ⟨rfl, hw⟩
  have b1 := ((Below.refl w.heap.size w).alloc (Nat.le_refl _) (Obj.map #[] 0)).alloc (by simp) (Obj.map #[] 0)
  have b2 := b1.alloc (by simp; omega) (Obj.cells #[.map (some w.heap.size), .map (some (w.heap.size + 1))] 73)
  rw [← hw] at b2
  have hz : w'.heap.size = w.heap.size + 3 := by rw [hw]; simp
  have e1 : w'.heap[w.heap.size]? = some (.map #[] 0) := by
    rw [hw]
    exact (heap_alloc_old _ _ (by simp; omega)).trans ((heap_alloc_old _ _ (by simp)).trans (heap_alloc_last _ _))
  have e2 : w'.heap[w.heap.size + 1]? = some (.map #[] 0) := by
    rw [hw]
    exact (heap_alloc_old _ _ (by simp)).trans (heap_alloc2_new _ _ _)
  have e3 : w'.heap[w.heap.size + 1 + 1]? = some (.cells #[.map (some w.heap.size), .map (some (w.heap.size + 1))] 73 (0, 0)) := by
    rw [hw]
    have := heap_alloc2_new (w.alloc (.map #[] 0)) (.map #[] 0) (Obj.cells #[.map (some w.heap.size), .map (some (w.heap.size + 1))] 73)
    rwa [show (w.alloc (.map #[] 0)).heap.size = w.heap.size + 1 by simp] at this
  refine ⟨_, rfl, b2, fun i => if i = w.heap.size then .live else if i = w.heap.size + 1 then .accs else .book, w.heap.size + 1 + 1, w.heap.size, w.heap.size + 1, #[], #[], 0, 0, rfl, ?_⟩
  exact { ob := by omega, ol := by omega, oa := by omega, lt := fun i hi => hi.2, cb := by rw [if_neg (by omega), if_neg (by omega)], cl := if_pos rfl, cac := by rw [if_neg (by omega), if_pos rfl], box := e3
          live := ⟨e1, stamped_empty 0, by simp⟩, accs := ⟨e2, stamped_empty 0, by simp⟩, acc := by simp, names := by simp, nodup := List.nodup_nil
          rest := fun _ _ => rfl, sane := fun _ => sane0, lv := by simp, lives := by simp [ps0] }
theorem field_acc0 (a b c : Value) (w : World) : (Instr.field 76 (.agg #[a, b, c]) 0).run Try.prog w = .ok a w := by kernel_rfl
theorem field_acc1 (a b c : Value) (w : World) : (Instr.field 76 (.agg #[a, b, c]) 1).run Try.prog w = .ok b w := by kernel_rfl
theorem field_acc2 (a b c : Value) (w : World) : (Instr.field 76 (.agg #[a, b, c]) 2).run Try.prog w = .ok c w := by kernel_rfl
set_option maxHeartbeats 800000 in
theorem asks_any {O : Nat → Prop} {w : World} {v : Value} {N : List ByteArray} {S : ByteArray → Ps} (h : Bk O w v N S) (who : ByteArray) (hw : who.size ≤ 1099511627776) :
    Calls Try.prog 22 #[v, .string who] w fun e w' => e = .returned (.int .i64 (S who).asks) ∧ w' = w := by
  obtain ⟨C, bb, lb, ab, el, ea, cl, ca, rfl, hb⟩ := h
  obtain ⟨sv, ho, hl⟩ := hb.account who hw
  have hl := hl w rfl
  have c1 := hb.cell1
  generalize (S who).asks = A at *
  generalize (S who).locked = L at *
  clear hb ho hw
  have hf := field_acc1
  go_enter Try.func22, Try.ntmps22
  go_wp2
  go_ret
  exact ⟨rfl, rfl⟩
set_option maxHeartbeats 800000 in
theorem locked_any {O : Nat → Prop} {w : World} {v : Value} {N : List ByteArray} {S : ByteArray → Ps} (h : Bk O w v N S) (who : ByteArray) (hw : who.size ≤ 1099511627776) :
    Calls Try.prog 70 #[v, .string who] w fun e w' => e = .returned (.int .i64 (S who).locked) ∧ w' = w := by
  obtain ⟨C, bb, lb, ab, el, ea, cl, ca, rfl, hb⟩ := h
  obtain ⟨sv, ho, hl⟩ := hb.account who hw
  have hl := hl w rfl
  have c1 := hb.cell1
  generalize (S who).asks = A at *
  generalize (S who).locked = L at *
  clear hb ho hw
  have hf := field_acc0
  go_enter Try.func70, Try.ntmps70
  go_wp2
  go_ret
  exact ⟨rfl, rfl⟩
def lockE (n : Int) : Int := if n < 1 ∨ 1000000000 < n then 1 else 0
set_option maxHeartbeats 800000 in
theorem mayLock_any (n : Int) (w : World) : Calls Try.prog 47 #[.int .i64 n] w fun e w' => e = .returned (.int .i64 (lockE n)) ∧ w' = w := by
  have h1 : n < 1 → lockE n = 1 := fun h => if_pos (Or.inl h)
  have h2 : 1000000000 < n → lockE n = 1 := fun h => if_pos (Or.inr h)
  have h3 : ¬ n < 1 → ¬ 1000000000 < n → lockE n = 0 := fun a b => if_neg (by omega)
  go_enter Try.func47, Try.ntmps47
  by_cases ha : n < 1
  · go_wp2
    go_ret
    exact ⟨rfl, rfl⟩
  · have ha' : decide (n < 1) = false := by simpa using ha
    by_cases hb : 1000000000 < n
    · go_wp2
      go_ret
      exact ⟨rfl, rfl⟩
    · have hb' : decide (1000000000 < n) = false := by simpa using hb
      go_wp2
      go_ret
      exact ⟨rfl, rfl⟩
end Go.Proofs.Ytbkobimbdiogfaa
