/- TableauOne: plain parts. -/
import Derived.Test.YtgojlegknlalpaaGreatDoorPk43
import Derived.Test.YtgojlegknlalpaaGreatDoorZKPv
namespace Go.Proofs.YtgojlegknlalpaaGreatDoor
open Go.RowKit
set_option linter.unusedVariables false
set_option maxRecDepth 100000
set_option linter.unusedSimpArgs false

def f1k (t : Int) : Int := t.tmod 1000
theorem f1k_lt (t : Int) : -1000 < f1k t ∧ f1k t < 1000 := by
  unfold f1k
  have h1 := Int.tmod_lt_of_pos t (show (0 : Int) < 1000 by decide)
  have h2 := Int.lt_tmod_of_pos t (show (0 : Int) < 1000 by decide)
  omega
def capN (M : List (List Int)) : Nat := M.foldl (fun n r => max n (min r.length 60)) 0
theorem capN_succ (M : List (List Int)) (k : Nat) (h : k < M.length) : capN (M.take (k + 1)) = max (capN (M.take k)) (min M[k].length 60) := by
  unfold capN
  rw [List.take_succ_eq_append_getElem h, List.foldl_append]
  rfl
theorem capN_le (M : List (List Int)) : ∀ k, k ≤ M.length → capN (M.take k) ≤ 60
  | 0, _ => by simp [capN]
  | k + 1, h => by
    rw [capN_succ M k h]
    have := capN_le M k (by omega)
    omega
def wr0 (n R : Nat) (row : List Int) (k : Nat) : List Int := (row.take k).map f1k ++ List.replicate (n + R - k) 0
theorem wr0_len {n R k : Nat} {row : List Int} (h1 : k ≤ row.length) (h2 : k ≤ n) : (wr0 n R row k).length = n + R := by
  unfold wr0
  simp
  omega
theorem wr0_zero (n R : Nat) (row : List Int) : wr0 n R row 0 = List.replicate (n + R) 0 := by simp [wr0]
theorem wr0_succ {n R k : Nat} {row : List Int} (h1 : k < row.length) (h2 : k < n) : (wr0 n R row k).set k (f1k row[k]) = wr0 n R row (k + 1) := by
  have hl : ((row.take k).map f1k).length = k := by simp; omega
  unfold wr0
  rw [List.take_succ_eq_append_getElem h1, List.map_append, List.append_assoc, show n + R - k = (n + R - (k + 1)) + 1 by omega, List.replicate_succ, List.set_append, if_neg (by omega), hl, Nat.sub_self]
  rfl
def wrow (n R i : Nat) (row : List Int) : List Int := (wr0 n R row (min row.length n)).set (n + i) 1
theorem wrow_len (n R i : Nat) (row : List Int) : (wrow n R i row).length = n + R := by
  unfold wrow
  rw [List.length_set, wr0_len (by omega) (by omega)]
theorem wrow_at {n R i j : Nat} {row : List Int} (hi : i < R) (hj : j < R) : (wrow n R i row).getD (n + j) 0 = if j = i then 1 else 0 := by
  have hl := wrow_len n R i row
  have hl0 := wr0_len (n := n) (R := R) (k := min row.length n) (row := row) (by omega) (by omega)
  have h2 : n + j < (wr0 n R row (min row.length n)).length := by omega
  rw [getD_at (by omega)]
  unfold wrow
  rw [List.getElem_set]
  by_cases e : j = i
  · rw [if_pos (by omega), if_pos e]
  · rw [if_neg (by omega), if_neg e]
    unfold wr0
    rw [List.getElem_append_right (by simp; omega)]
    simp
theorem wrow_abs {n R i : Nat} {row : List Int} : ∀ t ∈ wrow n R i row, -1000 < t ∧ t < 1000 := by
  intro t ht
  unfold wrow at ht
  rcases List.mem_or_eq_of_mem_set ht with h | h
  · unfold wr0 at h
    rcases List.mem_append.1 h with h | h
    · obtain ⟨x, _, rfl⟩ := List.mem_map.1 h
      exact f1k_lt x
    · have := List.eq_of_mem_replicate h
      omega
  · omega
def wM (n R : Nat) (M : List (List Int)) (k : Nat) : List (List Int) := (List.range k).map (fun i => wrow n R i (M.getD i []))
def wB (n k : Nat) : List Int := (List.range k).map (fun i => ((n + i : Nat) : Int))
theorem wM_len (n R : Nat) (M : List (List Int)) (k : Nat) : (wM n R M k).length = k := by simp [wM]
theorem wB_len (n k : Nat) : (wB n k).length = k := by simp [wB]
theorem wM_succ (n R : Nat) (M : List (List Int)) (k : Nat) (h : k < M.length) : wM n R M (k + 1) = wM n R M k ++ [wrow n R k M[k]] := by
  unfold wM
  rw [List.range_succ, List.map_append, List.map_cons, List.map_nil, getD_at h]
theorem wB_succ (n k : Nat) : wB n (k + 1) = wB n k ++ [((n + k : Nat) : Int)] := by
  unfold wB
  rw [List.range_succ, List.map_append, List.map_cons, List.map_nil]
theorem wM_at {n R k i : Nat} {M : List (List Int)} (h : i < (wM n R M k).length) : (wM n R M k)[i] = wrow n R i (M.getD i []) := by
  unfold wM
  simp
theorem wB_at {n k i : Nat} (h : i < (wB n k).length) : (wB n k)[i] = ((n + i : Nat) : Int) := by
  unfold wB
  simp
theorem one_unw {n R : Nat} {M : List (List Int)} (hn : n ≤ 60) (hR : R ≤ 12) : unw (wM n R M R) (wB n R) = 0 := by
  have hlen : ∀ r ∈ wM n R M R, r.length = n + R := by
    intro r hr
    obtain ⟨i, hi, rfl⟩ := List.getElem_of_mem hr
    rw [wM_at hi, wrow_len]
  have hw : 0 < R → wid (wM n R M R) = n + R := fun h0 => by
    have hp : 0 < (wM n R M R).length := by rw [wM_len]; exact h0
    rw [wid_pos hp]
    exact hlen _ (List.getElem_mem hp)
  have hw0 : R = 0 → wid (wM n R M R) = 0 := fun h0 => wid_zero (by rw [wM_len]; exact h0)
  have hR0 : R = 0 → wM n R M R = [] := fun h0 => by subst h0; rfl
  unfold unw
  have h1 : ushp (wM n R M R) (wB n R) = true := by
    unfold ushp
    rw [Bool.and_eq_true, wM_len, wB_len]
    refine ⟨List.all_eq_true.2 fun r hr => ?_, by simp⟩
    have h0 : 0 < R := by
      rcases Nat.eq_zero_or_pos R with h | h
      · rw [hR0 h] at hr; simp at hr
      · exact h
    rw [hlen r hr, hw h0]
    simp
  rw [if_neg (by rw [h1]; decide), if_neg, if_neg]
  · have h3 : ucl (wB n R) (wid (wM n R M R)) = true := by
      unfold ucl
      refine List.all_eq_true.2 fun c hc => ?_
      obtain ⟨i, hi, rfl⟩ := List.getElem_of_mem hc
      rw [wB_at hi]
      rw [wB_len] at hi
      rw [hw (by omega)]
      simp
      omega
    rw [h3]
    decide
  · rintro (h | h | h)
    · rw [wM_len] at h; omega
    · rcases Nat.eq_zero_or_pos R with h0 | h0
      · rw [hw0 h0] at h; omega
      · rw [hw h0] at h; omega
    · obtain ⟨r, hr, hb⟩ := List.any_eq_true.1 h
      have hb2 : (r.any byd) = true := hb
      obtain ⟨t, ht, hb3⟩ := List.any_eq_true.1 hb2
      obtain ⟨i, hi, rfl⟩ := List.getElem_of_mem hr
      rw [wM_at hi] at ht
      have := wrow_abs t ht
      unfold byd at hb3
      simp at hb3
      omega
theorem one_com (T : List Int) : com 1 T = 1 := by
  have ok := com_ok (show (1 : Int) ≠ 0 by decide) T T.length (Nat.le_refl _)
  rw [List.take_length] at ok
  have h1 := Int.le_of_dvd (by decide) ok.dvd
  have h2 := ok.sign
  have h3 : (1 : Int).sign = 1 := rfl
  rw [h3] at h2
  have := Int.sign_eq_one_iff_pos.1 h2
  omega
theorem one_lowT (T : List Int) : lowT T 1 = T := by
  unfold lowT
  rw [one_com]
  simp
theorem one_lowB (T : List Int) : lowB T 1 = 1 := by
  unfold lowB
  rw [one_com]
  rfl
theorem zip_at {M : List (List Int)} {B : List Int} {i : Nat} (h : i < (uzip M B).length) (h1 : i < M.length) (h2 : i < B.length) : (uzip M B)[i] = (M[i], 1, B[i]) := by
  revert h
  unfold uzip
  intro h
  simp
/-- Solved already: the pivot changes nothing. -/
theorem one_piv {n R i : Nat} {M : List (List Int)} (hi : i < R) : pivA (uzip (wM n R M R) (wB n R)) i (n + i) = uzip (wM n R M R) (wB n R) := by
  have hl : (uzip (wM n R M R) (wB n R)).length = R := by rw [uzip_len (by rw [wM_len, wB_len]), wM_len]
  have hAi : i < (uzip (wM n R M R) (wB n R)).length := by rw [hl]; exact hi
  have at_ : ∀ j (hj : j < (uzip (wM n R M R) (wB n R)).length), (uzip (wM n R M R) (wB n R))[j] = (wrow n R j (M.getD j []), 1, ((n + j : Nat) : Int)) := fun j hj => by
    have hj' : j < R := by rw [← hl]; exact hj
    rw [zip_at hj (by rw [wM_len]; exact hj') (by rw [wB_len]; exact hj'), wM_at, wB_at]
  apply List.ext_getElem
  · rw [pivA_len]
  · intro j k1 k2
    have hj : j < R := by rw [← hl]; exact k2
    rw [pivA_at hAi k2 k1]
    have e1 : ((uzip (wM n R M R) (wB n R))[i]).1.getD (n + i) 0 = 1 := by
      rw [at_ i hAi, wrow_at hi hi, if_pos rfl]
    by_cases e : j = i
    · subst e
      rw [if_pos rfl, e1, one_lowT, one_lowB, at_ j k2]
    · rw [if_neg e]
      have e0 : ((uzip (wM n R M R) (wB n R))[j]).1.getD (n + i) 0 = 0 := by
        rw [at_ j k2, wrow_at hj hi, if_neg (fun q => e q.symm)]
      rw [e0]
      unfold clr
      rw [if_pos rfl]
theorem one_yes {n R i : Nat} {M : List (List Int)} {A' : List URw} {nn : Int} {m : Nat} (hi : i < R) (hI : PInv (uzip (wM n R M R) (wB n R)) (ucols (uzip (wM n R M R) (wB n R))) m) (h : PivS (uzip (wM n R M R) (wB n R)) (i : Int) ((n + i : Nat) : Int) nn A') : nn = 0 ∧ A' = uzip (wM n R M R) (wB n R) := by
  have hl : (uzip (wM n R M R) (wB n R)).length = R := by rw [uzip_len (by rw [wM_len, wB_len]), wM_len]
  have hAi : i < (uzip (wM n R M R) (wB n R)).length := by rw [hl]; exact hi
  have at_ : (uzip (wM n R M R) (wB n R))[i] = (wrow n R i (M.getD i []), 1, ((n + i : Nat) : Int)) := by
    rw [zip_at hAi (by rw [wM_len]; exact hi) (by rw [wB_len]; exact hi), wM_at, wB_at]
  have hc : ucols (uzip (wM n R M R) (wB n R)) = n + R := by
    rw [← hI.len _ (List.getElem_mem hAi), at_, wrow_len]
  have e1 : ((uzip (wM n R M R) (wB n R))[i]).1.getD (n + i) 0 = 1 := by
    rw [at_, wrow_at hi hi, if_pos rfl]
  rcases h with ⟨hu, _⟩ | ⟨i', k', hi', hk', hr, hc', hz, _⟩ | ⟨i', k', hi', hk', hr, hc', hz, rfl, rfl⟩
  · exfalso
    unfold uhs at hu
    simp at hu
    omega
  · exfalso
    obtain rfl : i = i' := by omega
    obtain rfl : k' = n + i := by omega
    rw [e1] at hz
    omega
  · obtain rfl : i = i' := by omega
    obtain rfl : k' = n + i := by omega
    exact ⟨rfl, one_piv hi⟩
theorem UTn.fit {w : World} {base tb : Nat} {A : List URw} {K c m : Nat} (h : UTn w base tb A K) (hI : PInv A c m) (hm : m ≠ 0) : UTn w base tb A (m / 9 + 1) := by
  obtain ⟨ra, rc, C, h1, h2⟩ := h
  refine ⟨ra, rc, C, h1, h2.own, h2.len, h2.six, fun i k1 k2 => ?_⟩
  obtain ⟨tv, p1, p2, p3, p4, e, hl⟩ := h2.is_ i k1 k2
  have ab := hI.abs _ (List.getElem_mem k2)
  exact ⟨tv, p1, p2, p3, p4, e, hl.fit hm ab.1 ab.2⟩
end Go.Proofs.YtgojlegknlalpaaGreatDoor
