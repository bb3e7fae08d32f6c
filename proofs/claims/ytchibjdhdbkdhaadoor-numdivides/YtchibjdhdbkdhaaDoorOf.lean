/- Of: a word's number. -/
import Derived.Test.YtchibjdhdbkdhaaDoorWalk1
namespace Go.Proofs.YtchibjdhdbkdhaaDoor
open Go.RowKit
set_option linter.unusedVariables false
set_option maxRecDepth 100000
set_option linter.unusedSimpArgs false

theorem two_val (a b : Nat) : val [a, b] = a + b * 4294967296 := by simp [val, pv, lg]
theorem two_bd (a b : Nat) (ha : a < 4294967296) (hb : b < 4294967296) : Bd [a, b] := by
  intro j
  match j with
  | 0 => simpa [lg] using ha
  | 1 => simpa [lg] using hb
  | j + 2 => simp [lg]
theorem boxed2' (w : World) (A B : Obj) : Below w.heap.size w ((w.alloc A).alloc B) := below_alloc' (below_alloc' (Below.refl _ _) (Nat.le_refl _) A) (Nat.le_refl _) B
set_option maxHeartbeats 400000 in
theorem of_any (n : Nat) (hn : n < 18446744073709551616) (w : World) :
    Calls Tryd.prog 26 #[.int .u64 n] w fun e w' => ∃ v, e = .returned v ∧ NatIs w' v n 2 ∧ Below w.heap.size w w' := by
  have hown : ((w.alloc (Obj.cells #[Value.slice none 0 0] 24)).alloc (Obj.cells #[Value.int .u32 ((n : Int) % 4294967296), Value.int .u32 ((n : Int) / 4294967296)] 73)).ownsRow (w.heap.size + 1) 73 1 (.slice (some ⟨w.heap.size + 1, 0, none⟩) 2 2) 2 (u32s [n % 4294967296, n / 4294967296]) := by
    have h := World.ownsRow_lit (base := w.heap.size + 1) (e := 73) (size := 1) (w.alloc (Obj.cells #[Value.slice none 0 0] 24)) #[Value.int .u32 ((n : Int) % 4294967296), Value.int .u32 ((n : Int) / 4294967296)] 2 (by simp) (by unfold maxLen; omega) (by simp)
    simpa [u32s] using h
  have hx : ((w.alloc (Obj.cells #[Value.slice none 0 0] 24)).alloc (Obj.cells #[Value.int .u32 ((n : Int) % 4294967296), Value.int .u32 ((n : Int) / 4294967296)] 73)).heap[w.heap.size]? = some (Obj.cells #[Value.slice none 0 0] 24) := box_alloc (box_new _ _) _
  have hb : Below w.heap.size w ((w.alloc (Obj.cells #[Value.slice none 0 0] 24)).alloc (Obj.cells #[Value.int .u32 ((n : Int) % 4294967296), Value.int .u32 ((n : Int) / 4294967296)] 73)) := boxed2' w _ _
  go_enter Tryd.func26, Tryd.ntmps26
  go_wp2_with fail
  generalize (w.alloc (Obj.cells #[Value.slice none 0 0] 24)).alloc (Obj.cells #[Value.int .u32 ((n : Int) % 4294967296), Value.int .u32 ((n : Int) / 4294967296)] 73) = W at *
  refine (trim_base W (w.heap.size + 1) _ [n % 4294967296, n / 4294967296] (two_bd _ _ (by omega) (by omega)) hown).mono ?_
  rintro e w' ⟨⟨v', M, rfl, hM, bM, tM, vM, lM⟩, rfl⟩
  obtain ⟨ao, cp, hv⟩ := Limbs.slice (ownsRow_base0 hM)
  rw [hv]
  rw [hv] at hM
  have HV := hid vM
  have hc := cell_of_one hx
  have hf := free_of_one hx
  have hM2 := ownsRow_setCell_below hM (a := ⟨w.heap.size, 0, none⟩) (by show w.heap.size < _; omega) (.slice ao M.length cp)
  have hB2 := hb.setCell (p := ⟨w.heap.size, 0, none⟩) (Nat.le_refl _) (.slice ao M.length cp)
  clear hv vM hx hM hown
  go_wp2
  refine bodyPost_ret (v := .agg #[.slice ao M.length cp]) (by simp [results, Tryd.results26, go_sem, hc]) rfl ⟨_, rfl, ⟨_, M, rfl, ownsRow_base0 hM2, bM, tM, ?_, lM⟩, hB2⟩
  rw [HV.out, two_val]; omega
theorem of_lit (n : Nat) (z : Int) (hz : z = (n : Int)) (hn : n < 18446744073709551616) (w : World) :
    Calls Tryd.prog 26 #[.int .u64 z] w fun e w' => ∃ v, e = .returned v ∧ NatIs w' v n 2 ∧ Below w.heap.size w w' := by
  subst hz; exact of_any n hn w
end Go.Proofs.YtchibjdhdbkdhaaDoor
