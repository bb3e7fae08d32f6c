/- wal in plain terms: what Append and Checkpoint lay down. -/
import Derived.Test.YthcefjkpiaecjaaWPure
namespace Go.Proofs.Ythcefjkpiaecjaa
set_option linter.unusedVariables false
set_option linter.unusedSimpArgs false

theorem setAll_app (V : List ByteArray) (xs ys : List (Nat × ByteArray)) : setAll V (xs ++ ys) = setAll (setAll V xs) ys := by simp [setAll]
theorem setAll_pcs (V : List ByteArray) (i : Nat) (T : ByteArray) : ∀ k, i + k ≤ V.length → ∀ m, (setAll V (pcs i T k)).getD m ByteArray.empty = if i ≤ m ∧ m < i + k then pc T (m - i) else V.getD m ByteArray.empty
  | 0, _, m => by
    rw [if_neg (by omega)]; rfl
  | k + 1, h, m => by
    rw [pcs_succ, setAll_app]
    show ((setAll V (pcs i T k)).set (i + k) (pc T k)).getD m ByteArray.empty = _
    rw [getD_set (by rw [setAll_len]; omega), setAll_pcs V i T k (by omega) m]
    by_cases e : m = i + k
    · rw [if_pos e, if_pos (by omega), e]
      congr 1; omega
    · rw [if_neg e]
      by_cases h2 : i ≤ m ∧ m < i + k
      · rw [if_pos h2, if_pos (by omega)]
      · rw [if_neg h2, if_neg (by omega)]
theorem pc_size (T : ByteArray) (j : Nat) : (pc T j).size ≤ 256 := by
  unfold pc
  rw [ByteArray.size_extract]; omega
theorem pc_at (T : ByteArray) (j r : Nat) (hr : r < 256) (h : 256 * j + r < T.size) : bt (pc T j) r = bt T (256 * j + r) := by
  unfold pc
  exact bt_extract T (256 * j) _ r (by omega) (by omega)
theorem tailT_size (t : ByteArray) : (tailT t).size = t.size % 256 := by
  unfold tailT
  rw [ByteArray.size_extract]; omega
/-- The sectors that are written hold the text's bytes. -/
theorem tail_at (t s : ByteArray) (m : Nat) (h : m < (tailT t ++ s).size) : bt (tailT t ++ s) m = bt (t ++ s) (256 * (t.size / 256) + m) := by
  have hs := tailT_size t
  rw [ByteArray.size_append] at h
  by_cases h1 : m < (tailT t).size
  · rw [bt_app_left _ _ _ h1]
    unfold tailT
    rw [bt_extract t _ _ m (by omega) (by omega), bt_app_left _ _ _ (by omega)]
    congr 1; omega
  · obtain ⟨r, rfl⟩ : ∃ r, m = (tailT t).size + r := ⟨m - (tailT t).size, by omega⟩
    rw [bt_app_right _ _ _ (by omega), show 256 * (t.size / 256) + ((tailT t).size + r) = t.size + r by omega, bt_app_right _ _ _ (by omega)]
theorem mem_pcs {i : Nat} {T : ByteArray} {k : Nat} {x : Nat × ByteArray} (h : x ∈ pcs i T k) : ∃ j, j < k ∧ x = (i + j, pc T j) := by
  simp only [pcs, List.mem_map, List.mem_range] at h
  obtain ⟨j, hj, rfl⟩ := h
  exact ⟨j, hj, rfl⟩
/-- Append. -/
theorem append_lay {D : Dsk} {c : Com} {t s : ByteArray} (h : All (Ok · c t) D) (hg : D.Good) (hlen : c.len + s.size ≤ 32512) (hnum : c.num + 1 < 18446744073709551616) :
    (D.lay (chg c (tailT t) s) ((comNext c s).num % 2) (comT (comNext c s))).1.Good ∧ (((D.lay (chg c (tailT t) s) ((comNext c s).num % 2) (comT (comNext c s))).2 = 0 ∧ Ok (D.lay (chg c (tailT t) s) ((comNext c s).num % 2) (comT (comNext c s))).1.wr (comNext c s) (t ++ s) ∧ Flat (D.lay (chg c (tailT t) s) ((comNext c s).num % 2) (comT (comNext c s))).1) ∨ ((D.lay (chg c (tailT t) s) ((comNext c s).num % 2) (comT (comNext c s))).2 ≠ 0 ∧ All (fun V => Ok V c t ∨ Ok V (comNext c s) (t ++ s)) (D.lay (chg c (tailT t) s) ((comNext c s).num % 2) (comT (comNext c s))).1)) := by
  have hO := h.now hg
  have hts := hO.size
  have ha := hO.fit.area
  have hT := tailT_size t
  have hTs : (tailT t ++ s).size = t.size % 256 + s.size := by rw [ByteArray.size_append, hT]
  have hnP : nP (tailT t ++ s) = (t.size % 256 + s.size + 255) / 256 := by unfold nP; rw [hTs]
  have hel : ∀ x ∈ chg c (tailT t) s, ∃ j, j < nP (tailT t ++ s) ∧ x = (2 + c.area * 127 + t.size / 256 + j, pc (tailT t ++ s) j) := fun x hx => by
    unfold chg at hx
    split at hx
    · simp at hx
    · rw [← hts] at hx; exact mem_pcs hx
  have hidx : ∀ j, j < nP (tailT t ++ s) → 2 + c.area * 127 + t.size / 256 + j < 2 + c.area * 127 + 127 := fun j hj => by omega
  refine lay_ok h hg (fun x hx => ?_) (fun x hx V hV hok => ?_) ?_ (comNext_fit hO.fit hlen) (by rw [ByteArray.size_append, hts]; rfl) ?_ ?_
  · obtain ⟨j, hj, rfl⟩ := hel x hx
    have := hidx j hj
    exact ⟨by show 2 + c.area * 127 + t.size / 256 + j < 256; omega, pc_size _ _⟩
  · obtain ⟨j, hj, rfl⟩ := hel x hx
    have h2 := hidx j hj
    have hi : 2 + c.area * 127 + t.size / 256 + j < V.length := by omega
    refine hok.same (by rw [getD_set hi, if_neg (by omega)]) (by rw [getD_set hi, if_neg (by omega)]) (fun k hk => ?_)
    rw [hok.lies k hk]
    unfold ab
    rw [getD_set hi]
    by_cases e : 2 + c.area * 127 + k / 256 = 2 + c.area * 127 + t.size / 256 + j
    · rw [if_pos e]
      show ab V c.area k = bt (pc (tailT t ++ s) j) (k % 256)
      rw [← hok.lies k hk, pc_at _ _ _ (by omega) (by rw [hTs]; omega), tail_at _ _ _ (by rw [hTs]; omega), show 256 * (t.size / 256) + (256 * j + k % 256) = k by omega, bt_app_left _ _ _ hk]
    · rw [if_neg e]
  · show (c.num + 1) % 18446744073709551616 = _
    exact Nat.mod_eq_of_lt hnum
  · rw [sumOf_on, hO.sum]; rfl
  · intro k hk
    show bt (t ++ s) k = ab (setAll D.wr (chg c (tailT t) s)) c.area k
    rw [ByteArray.size_append] at hk
    by_cases hs0 : s.size = 0
    · have hch : chg c (tailT t) s = [] := by unfold chg; rw [if_pos hs0]
      rw [hch]
      rw [bt_app_left _ _ _ (by omega)]
      exact hO.lies k (by omega)
    · have hch : chg c (tailT t) s = pcs (2 + c.area * 127 + t.size / 256) (tailT t ++ s) (nP (tailT t ++ s)) := by unfold chg; rw [if_neg hs0, hts]
      rw [hch]
      unfold ab
      rw [setAll_pcs _ _ _ _ (by rw [hg.wl]; omega)]
      show _ = bt (if 2 + c.area * 127 + t.size / 256 ≤ 2 + c.area * 127 + k / 256 ∧ 2 + c.area * 127 + k / 256 < _ then _ else _) _
      by_cases hq : t.size / 256 ≤ k / 256
      · rw [if_pos ⟨by omega, by omega⟩, pc_at _ _ _ (by omega) (by rw [hTs]; omega), tail_at _ _ _ (by rw [hTs]; omega)]
        congr 1; omega
      · rw [if_neg (by omega), bt_app_left _ _ _ (by omega)]
        exact hO.lies k (by omega)
/-- Checkpoint. -/
theorem check_lay {D : Dsk} {c : Com} {t s : ByteArray} (h : All (Ok · c t) D) (hg : D.Good) (hlen : s.size ≤ 32512) (hnum : c.num + 1 < 18446744073709551616) (f : Com) (hf : f = ⟨c.num, 1 - c.area, 0, 2166136261⟩) :
    (D.lay (chg f ByteArray.empty s) ((comNext f s).num % 2) (comT (comNext f s))).1.Good ∧ (((D.lay (chg f ByteArray.empty s) ((comNext f s).num % 2) (comT (comNext f s))).2 = 0 ∧ Ok (D.lay (chg f ByteArray.empty s) ((comNext f s).num % 2) (comT (comNext f s))).1.wr (comNext f s) s ∧ Flat (D.lay (chg f ByteArray.empty s) ((comNext f s).num % 2) (comT (comNext f s))).1) ∨ ((D.lay (chg f ByteArray.empty s) ((comNext f s).num % 2) (comT (comNext f s))).2 ≠ 0 ∧ All (fun V => Ok V c t ∨ Ok V (comNext f s) s) (D.lay (chg f ByteArray.empty s) ((comNext f s).num % 2) (comT (comNext f s))).1)) := by
  have hO := h.now hg
  have hts := hO.size
  have ha := hO.fit.area
  have hl := hO.fit.len
  have hT : ByteArray.empty ++ s = s := ByteArray.empty_append
  have hfa : f.area = 1 - c.area := by rw [hf]
  have hfl : f.len = 0 := by rw [hf]
  have hfn : f.num = c.num := by rw [hf]
  have hfs : f.sum = 2166136261 := by rw [hf]
  have hff : f.Fit := ⟨by rw [hfn]; exact hO.fit.num, by omega, by omega, by rw [hfs]; omega⟩
  have hnP : nP s = (s.size + 255) / 256 := rfl
  have hel : ∀ x ∈ chg f ByteArray.empty s, ∃ j, j < nP s ∧ x = (2 + f.area * 127 + j, pc s j) := fun x hx => by
    unfold chg at hx
    split at hx
    · simp at hx
    · rw [hT, hfl] at hx; exact mem_pcs hx
  have hidx : ∀ j, j < nP s → 2 + f.area * 127 + j < 2 + f.area * 127 + 127 := fun j hj => by omega
  refine lay_ok h hg (fun x hx => ?_) (fun x hx V hV hok => ?_) ?_ (comNext_fit hff (by omega)) (by show s.size = f.len + s.size; omega) ?_ ?_
  · obtain ⟨j, hj, rfl⟩ := hel x hx
    have := hidx j hj
    exact ⟨by show 2 + f.area * 127 + j < 256; omega, pc_size _ _⟩
  · obtain ⟨j, hj, rfl⟩ := hel x hx
    have h2 := hidx j hj
    have hi : 2 + f.area * 127 + j < V.length := by omega
    refine hok.same (by rw [getD_set hi, if_neg (by omega)]) (by rw [getD_set hi, if_neg (by omega)]) (fun k hk => ?_)
    rw [hok.lies k hk]
    unfold ab
    rw [getD_set hi, if_neg (by omega)]
  · show (f.num + 1) % 18446744073709551616 = _
    rw [hfn]
    exact Nat.mod_eq_of_lt hnum
  · show _ = sumN f.sum s s.size
    rw [hfs]; rfl
  · intro k hk
    by_cases hs0 : s.size = 0
    · omega
    · have hch : chg f ByteArray.empty s = pcs (2 + f.area * 127) s (nP s) := by unfold chg; rw [if_neg hs0, hT, hfl, Nat.zero_div, Nat.add_zero]
      rw [hch]
      show _ = bt ((setAll D.wr _).getD (2 + f.area * 127 + k / 256) ByteArray.empty) (k % 256)
      rw [setAll_pcs _ _ _ _ (by rw [hg.wl]; omega), if_pos ⟨by omega, by omega⟩, pc_at _ _ _ (by omega) (by omega)]
      congr 1; omega
end Go.Proofs.Ythcefjkpiaecjaa
