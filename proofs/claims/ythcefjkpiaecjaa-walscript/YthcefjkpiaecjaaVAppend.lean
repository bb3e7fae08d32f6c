/- The document's wal: Append, Checkpoint, as the program's. -/
import Derived.Test.YthcefjkpiaecjaaVBecome
import Derived.Test.YthcefjkpiaecjaaWLog
namespace Go.Proofs.Ythcefjkpiaecjaa
open Go.RowKit
set_option linter.unusedVariables false
set_option maxRecDepth 100000
set_option linter.unusedSimpArgs false

theorem pc_bt (T : ByteArray) (i k : Nat) (h : k < (pc T i).size) : bt (pc T i) k = bt T (256 * i + k) := by
  have hs : (pc T i).size = min T.size (256 * (i + 1)) - 256 * i := by unfold pc; rw [ByteArray.size_extract]; omega
  exact pc_at T i k (by omega) (by omega)
theorem pc_size_eq (T : ByteArray) (i : Nat) : (pc T i).size = min T.size (256 * (i + 1)) - 256 * i := by unfold pc; rw [ByteArray.size_extract]; omega
theorem pc_tail (t s : ByteArray) (j : Nat) : pc (tailT t ++ s) j = pc (t ++ s) (t.size / 256 + j) := by
  have h1 := tailT_size t
  have h2 : (tailT t ++ s).size = t.size % 256 + s.size := by rw [ByteArray.size_append, h1]
  have h3 : (t ++ s).size = t.size + s.size := ByteArray.size_append
  have e1 := pc_size_eq (tailT t ++ s) j
  have e2 := pc_size_eq (t ++ s) (t.size / 256 + j)
  refine ext_bt (by omega) fun k hk => ?_
  rw [pc_bt _ _ _ hk, pc_bt _ _ _ (by omega), tail_at _ _ _ (by omega)]
  congr 1; omega
theorem chg_vps (n a : Nat) (t s : ByteArray) (sm : Int) : chg ⟨n, a, t.size, sm⟩ (tailT t) s = vps a (t ++ s) (if s.size = 0 then 1048576 else t.size / 256) ∨ 32512 < t.size + s.size := by
  by_cases hb : 32512 < t.size + s.size
  · exact Or.inr hb
  · left
    have h3 : (t ++ s).size = t.size + s.size := ByteArray.size_append
    have h4 : nP (t ++ s) = (t.size + s.size + 255) / 256 := by unfold nP; rw [h3]
    unfold chg vps
    by_cases hs : s.size = 0
    · rw [if_pos hs, if_pos hs, show nP (t ++ s) - 1048576 = 0 by omega]
      rfl
    · rw [if_neg hs, if_neg hs]
      have h5 : nP (tailT t ++ s) = nP (t ++ s) - t.size / 256 := by
        rw [h4]; unfold nP; rw [ByteArray.size_append, tailT_size]; omega
      unfold pcs
      rw [h5]
      refine List.map_congr_left fun j _ => ?_
      rw [pc_tail]
      simp only [Prod.mk.injEq, and_true]
      omega
theorem chg_vps0 (n a : Nat) (s : ByteArray) (sm : Int) : chg ⟨n, a, 0, sm⟩ ByteArray.empty s = vps a s 0 := by
  unfold chg vps
  by_cases hs : s.size = 0
  · rw [if_pos hs, show nP s - 0 = 0 by unfold nP; omega]
    rfl
  · rw [if_neg hs, ByteArray.empty_append]
    unfold pcs
    refine List.map_congr_left fun j _ => ?_
    simp
theorem comNext_V (n a : Nat) (t s : ByteArray) : comNext ⟨n, a, t.size, sumOf t⟩ s = comV n a (t ++ s) := by
  unfold comNext comV
  rw [ByteArray.size_append, sumOf_on]
theorem comNext_V0 (n a : Nat) (s : ByteArray) : comNext ⟨n, a, 0, 2166136261⟩ s = comV n a s := by
  unfold comNext comV
  simp [sumOf]
theorem vl_append (D : Dsk) (t s : ByteArray) (n a : Nat) (er : Int) : (VL t n a er).append D s =
    if er ≠ 0 then (D, VL t n a er, er) else if 32512 < (t ++ s).size then (D, VL t n a er, 50)
    else if (D.lay (vps a (t ++ s) (if s.size = 0 then 1048576 else t.size / 256)) ((comV n a (t ++ s)).num % 2) (comT (comV n a (t ++ s)))).2 ≠ 0 then ((D.lay (vps a (t ++ s) (if s.size = 0 then 1048576 else t.size / 256)) ((comV n a (t ++ s)).num % 2) (comT (comV n a (t ++ s)))).1, VL t n a (D.lay (vps a (t ++ s) (if s.size = 0 then 1048576 else t.size / 256)) ((comV n a (t ++ s)).num % 2) (comT (comV n a (t ++ s)))).2, (D.lay (vps a (t ++ s) (if s.size = 0 then 1048576 else t.size / 256)) ((comV n a (t ++ s)).num % 2) (comT (comV n a (t ++ s)))).2)
    else ((D.lay (vps a (t ++ s) (if s.size = 0 then 1048576 else t.size / 256)) ((comV n a (t ++ s)).num % 2) (comT (comV n a (t ++ s)))).1, VL (t ++ s) ((n + 1) % 18446744073709551616) a 0, 0) := by
  have hsz : (t ++ s).size = t.size + s.size := ByteArray.size_append
  unfold Lg.append Lg.step
  simp only [VL]
  by_cases he : er = 0
  · have hne : ¬ er ≠ 0 := by simp [he]
    have hX : (32512 < (t ++ s).size) = (32512 < t.size + s.size) := by rw [hsz]
    simp only [hne, ite_false, hX, if_false]
    by_cases hf : 32512 < t.size + s.size
    · simp only [hf, if_true]
    · simp only [hf, if_false]
      have hc := (chg_vps n a t s (sumOf t)).resolve_right hf
      simp only [hc, comNext_V, tail_tail]
      generalize D.lay (vps a (t ++ s) (if s.size = 0 then 1048576 else t.size / 256)) ((comV n a (t ++ s)).num % 2) (comT (comV n a (t ++ s))) = R
      by_cases h : R.2 = 0
      · simp only [ne_eq, h, not_true_eq_false, if_false]
        rfl
      · simp only [ne_eq, h, not_false_eq_true, if_true]
  · simp only [ne_eq, he, not_false_eq_true, ite_true, if_true]
theorem vl_check (D : Dsk) (t s : ByteArray) (n a : Nat) (er : Int) : (VL t n a er).checkpoint D s =
    if er ≠ 0 then (D, VL t n a er, er) else if 32512 < s.size then (D, VL t n a er, 50)
    else if (D.lay (vps (1 - a) s 0) ((comV n (1 - a) s).num % 2) (comT (comV n (1 - a) s))).2 ≠ 0 then ((D.lay (vps (1 - a) s 0) ((comV n (1 - a) s).num % 2) (comT (comV n (1 - a) s))).1, VL t n a (D.lay (vps (1 - a) s 0) ((comV n (1 - a) s).num % 2) (comT (comV n (1 - a) s))).2, (D.lay (vps (1 - a) s 0) ((comV n (1 - a) s).num % 2) (comT (comV n (1 - a) s))).2)
    else ((D.lay (vps (1 - a) s 0) ((comV n (1 - a) s).num % 2) (comT (comV n (1 - a) s))).1, VL s ((n + 1) % 18446744073709551616) (1 - a) 0, 0) := by
  unfold Lg.checkpoint Lg.step
  simp only [VL]
  by_cases he : er = 0
  · have hne : ¬ er ≠ 0 := by simp [he]
    simp only [hne, ite_false, Nat.zero_add, if_false]
    by_cases hf : 32512 < s.size
    · simp only [hf, if_true]
    · simp only [hf, if_false]
      simp only [chg_vps0, comNext_V0, ByteArray.empty_append]
      generalize D.lay (vps (1 - a) s 0) ((comV n (1 - a) s).num % 2) (comT (comV n (1 - a) s)) = R
      by_cases h : R.2 = 0
      · simp only [ne_eq, h, not_true_eq_false, if_false]
        rfl
      · simp only [ne_eq, h, not_false_eq_true, if_true]
  · simp only [ne_eq, he, not_false_eq_true, ite_true, if_true]
end Go.Proofs.Ythcefjkpiaecjaa
