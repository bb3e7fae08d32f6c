/- The document's Of. -/
import Derived.Test.YteelnimchlgdmaaDoorRBase
import Derived.Test.YteelnimchlgdmaaDoorRParse
namespace Go.Proofs.YteelnimchlgdmaaDoor
open Go.RowKit
set_option linter.unusedVariables false
set_option maxRecDepth 100000
set_option linter.unusedSimpArgs false

def OfRel (n : Nat) (D : List Nat) (r : Nat) : Prop := R.Bd D ∧ n = R.pv D D.length + r * 1000000000 ^ D.length ∧ (r = 0 → Top D)
theorem OfRel.step {n : Nat} {D : List Nat} {r : Nat} (h : OfRel n D r) (hr : 0 < r) : OfRel n (D ++ [r % 1000000000]) (r / 1000000000) := by
  obtain ⟨h1, h2, h3⟩ := h
  refine ⟨fun j => ?_, ?_, fun hz hn => ?_⟩
  · rcases Nat.lt_trichotomy j D.length with e | e | e
    · rw [lg_append_old D _ j e]; exact h1 j
    · subst e; rw [lg_append_new]; omega
    · rw [lg_past _ j (by simp; omega)]; omega
  · rw [List.length_append, List.length_singleton]
    have e1 : R.pv (D ++ [r % 1000000000]) (D.length + 1) = R.pv D D.length + r % 1000000000 * 1000000000 ^ D.length := by
      simp only [R.pv]
      rw [R.pv_congr (M := D) (fun j hj => lg_append_old D _ j hj), lg_append_new]
    rw [e1, h2, Nat.pow_succ]
    have hd := Nat.div_add_mod r 1000000000
    generalize r / 1000000000 = q at *
    generalize r % 1000000000 = t at *
    generalize 1000000000 ^ D.length = p at *
    rw [← hd, Nat.add_mul, Nat.mul_comm p, ← Nat.mul_assoc, Nat.mul_comm q]
    omega
  · simp only [List.length_append, List.length_singleton, Nat.add_sub_cancel]
    rw [lg_append_new]
    omega
theorem OfRel.short {n : Nat} {D : List Nat} {r : Nat} (h : OfRel n D r) (hr : 0 < r) (hn : n < 18446744073709551616) : D.length < 3 := by
  obtain ⟨h1, h2, h3⟩ := h
  rcases Nat.lt_or_ge D.length 3 with e | e
  · exact e
  · have h6 : 1000000000 ^ 3 ≤ 1000000000 ^ D.length := Nat.pow_le_pow_right (by omega) e
    have h7 : 1 * 1000000000 ^ D.length ≤ r * 1000000000 ^ D.length := Nat.mul_le_mul_right _ hr
    have h8 : (1000000000 : Nat) ^ 3 = 1000000000000000000000000000 := by decide
    omega
set_option maxHeartbeats 1000000 in
theorem rof_any (n : Nat) (hn : n < 18446744073709551616) (w : World) :
    Calls Tryd.prog 34 #[.int .u64 n] w fun e w' => ∃ v, e = .returned v ∧ RefIs w' v n 3 ∧ Below w.heap.size w w' := by
  obtain ⟨i0, hi, hz0, hz1, hz2⟩ := info_parts Tryd.info3
  have hown0 : ((w.alloc (Obj.cells #[Value.slice none 0 0] 64)).alloc (Obj.cells #[] 3)).ownsRow (w.heap.size + 1) 3 1 (.slice (some ⟨w.heap.size + 1, 0, none⟩) 0 0) 0 (i64s []) := by
    have := World.ownsRow_made (base := w.heap.size + 1) (e := 3) (size := 1) (w.alloc (Obj.cells #[Value.slice none 0 0] 64)) #[] 0 (by simp) (by unfold maxLen; omega) (by simp)
    simpa [i64s] using this
  have hx : ((w.alloc (Obj.cells #[Value.slice none 0 0] 64)).alloc (Obj.cells #[] 3)).heap[w.heap.size]? = some (Obj.cells #[Value.slice none 0 0] 64) := box_alloc (box_new _ _) _
  have hb : Below w.heap.size w ((w.alloc (Obj.cells #[Value.slice none 0 0] 64)).alloc (Obj.cells #[] 3)) := below_alloc' (below_alloc' (Below.refl _ _) (Nat.le_refl _) _) (Nat.le_refl _) _
  have hs : ((w.alloc (Obj.cells #[Value.slice none 0 0] 64)).alloc (Obj.cells #[] 3)).heap.size = w.heap.size + 1 + 1 := by simp
  go_enter Tryd.func34, Tryd.ntmps34
  go_wp2
  have hs' : w.heap.size + 1 ≤ ((w.alloc (Obj.cells #[Value.slice none 0 0] 64)).alloc (Obj.cells #[] 3)).heap.size := by omega
  clear hs
  generalize (w.alloc (Obj.cells #[Value.slice none 0 0] 64)).alloc (Obj.cells #[] 3) = W at *
  go_loopw [0, 3] (fun c v wr => ∃ (r : Nat) (D : List Nat), c = .int .u64 r ∧ r < 18446744073709551616 ∧ OfRel n D r ∧ wr.ownsRow (w.heap.size + 1) 3 1 v D.length (i64s D) ∧ D.length ≤ 3 ∧ wr.heap[w.heap.size]? = some (Obj.cells #[Value.slice none 0 0] 64) ∧ Below w.heap.size w wr ∧ w.heap.size + 1 ≤ wr.heap.size) (fun c _ _ => (intOf c).toNat)
  case atStart => exact ⟨n, [], rfl, hn, ⟨by intro j; simp [lg], by simp [R.pv], fun _ h => by simp at h⟩, hown0, by simp, hx, hb, hs'⟩
  case round =>
    obtain ⟨r, D, rfl, hr64, hR, hown, hl, hx', hbw, hsw⟩ := hrel
    have HR := hid hR
    clear hR hown0 hx hb hs'
    by_cases h0 : 0 < r
    · have hD3 := HR.out.short h0 hn
      have HR2 := hid (HR.out.step h0)
      have hx9 : r % 1000000000 < 1000000000 := Nat.mod_lt _ (by omega)
      have hq9 : r / 1000000000 < r := by omega
      go_wp2_with (at_builtin; refine wpList_append_own _ rfl _ _ 36 rfl (w.heap.size + 1) 3 i0 (.int .i64 0) 1 8 Tryd.underlying36 hi hz0 hz1 hz2 rfl (by decide) _ _ _ rfl (hown.alloc _) ⟨wr.heap.size, 0, none⟩ 1 1 [.int .i64 ((r : Int) % 1000000000)] rfl rfl (by intro j u hu; match j, hu with | 0, hu => simp at hu; subst hu; simp [Addr.add]) (by intro u hu; simp at hu; subst hu; rfl) (by unfold maxLen; omega) (by omega) (by simp; omega) ?_)
      intro v' w1 hown2 hgrow hnil
      have hb2 : Below w.heap.size w w1 := (below_alloc' hbw (Nat.le_refl _) _).grown hgrow (by have := hbw.size; simp; omega) (fun q hq => by have := (hown.lt q hq).1; omega)
      have hx2 : w1.heap[w.heap.size]? = some (Obj.cells #[Value.slice none 0 0] 64) := by
        rw [hgrow.block w.heap.size (by simp; omega) (fun e => by have := (hown.lt _ e.symm).1; omega)]
        exact box_alloc hx' _
      have hs2 : w.heap.size + 1 ≤ w1.heap.size := by have := hgrow.size; simp at this; omega
      have hown3 : w1.ownsRow (w.heap.size + 1) 3 1 v' (D ++ [r % 1000000000]).length (i64s (D ++ [r % 1000000000])) := by simpa [i64s] using hown2
      clear hown2 hgrow hnil hown hbw hx' hsw
      go_wp2
      go_roundw
      case rel => exact ⟨r / 1000000000, D ++ [r % 1000000000], by go_num, by omega, HR2.out, hown3, by simp; omega, hx2, hb2, hs2⟩
      case measure => simp [intOf]; omega
    · have hr0 : r = 0 := by omega
      obtain ⟨ao, cap, hv⟩ := ints_slice hown
      have cz := cell_of_one hx'
      have fz := free_of_one hx'
      rw [hv] at hown ⊢
      have hM2 := own_box (ownsRow_base0 hown) hx' (by decide) (.slice ao D.length cap)
      have hB2 := hbw.setCell (p := ⟨w.heap.size, 0, none⟩) (Nat.le_refl _) (.slice ao D.length cap)
      have HF := hid (show R.Bd D ∧ Top D ∧ R.val D = n from by
        obtain ⟨h1, h2, h3⟩ := HR.out
        refine ⟨h1, h3 hr0, ?_⟩
        rw [hr0, Nat.zero_mul, Nat.add_zero] at h2
        exact h2.symm)
      have hr := cell_of_one (one_setCell (u := .slice ao D.length cap) hx')
      have HRr := hid hr
      clear hv hown hx' hr
      go_wp2
      exact bodyPost_ret (v := .agg #[.slice ao D.length cap]) (by simp [results, Tryd.results34, go_sem, HRr.out]) rfl ⟨_, rfl, ⟨_, D, rfl, hM2, HF.out.1, HF.out.2.1, HF.out.2.2, hl⟩, hB2⟩
end Go.Proofs.YteelnimchlgdmaaDoor
