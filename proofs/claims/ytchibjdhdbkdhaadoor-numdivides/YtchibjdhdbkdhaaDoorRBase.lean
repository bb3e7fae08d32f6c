/- The document's numbers in memory; its trim. -/
import Derived.Test.YtchibjdhdbkdhaaDoorWalk1
import Derived.Test.YtchibjdhdbkdhaaDoorRMath
namespace Go.Proofs.YtchibjdhdbkdhaaDoor
open Go.RowKit
set_option linter.unusedVariables false
set_option maxRecDepth 100000
set_option linter.unusedSimpArgs false

def i64s (L : List Nat) : List Value := L.map fun x : Nat => Value.int .i64 (x : Int)
theorem i64s_len (L : List Nat) : (i64s L).length = L.length := by simp [i64s]
theorem i64s_set (L : List Nat) (i x : Nat) : i64s (L.set i x) = (i64s L).set i (.int .i64 (x : Int)) := by simp [i64s, List.map_set]
theorem i64s_rep (n : Nat) : i64s (List.replicate n 0) = List.replicate n (.int .i64 0) := by simp [i64s]
theorem i64s_take (L : List Nat) (k : Nat) : i64s (L.take k) = (i64s L).take k := by simp [i64s, List.map_take]
theorem i64s_at {w : World} {base g n cap : Nat} {L : List Nat} (hown : w.ownsRow base 3 1 (.slice (some ⟨g, 0, none⟩) n cap) n (i64s L)) (k : Nat) (hk : k < L.length) :
    w.cell? ⟨g, k, none⟩ = some (.int .i64 (lg L k : Int)) := by
  have hn : (i64s L).length = n * 1 := hown.1
  have h := hown.cellAt k (by rw [← hn]; simpa [i64s] using hk)
  rw [h]; simp [i64s, lg, hk]
/-- v is the document's number n in memory, of at most K digits to the base of a thousand million. -/
def RefIs (w : World) (v : Value) (n K : Nat) : Prop := ∃ sl L, v = .agg #[sl] ∧ w.ownsRow 0 3 1 sl L.length (i64s L) ∧ R.Bd L ∧ Top L ∧ R.val L = n ∧ L.length ≤ K
theorem RefIs.below {w w' : World} {v : Value} {n K : Nat} (h : RefIs w v n K) (hb : Below w.heap.size w w') : RefIs w' v n K := by
  obtain ⟨sl, L, h1, h2, r⟩ := h
  exact ⟨sl, L, h1, ownsRow_below h2 hb, r⟩
theorem RefIs.mono {w : World} {v : Value} {n K K' : Nat} (h : RefIs w v n K) (hk : K ≤ K') : RefIs w v n K' := by
  obtain ⟨sl, L, h1, h2, h3, h4, h5, h6⟩ := h
  exact ⟨sl, L, h1, h2, h3, h4, h5, by omega⟩
set_option maxHeartbeats 400000 in
theorem rtrim_walk (w : World) (g n cap : Nat) (L : List Nat) (hn : L.length = n) (hl : n ≤ cap) (hcap : cap ≤ maxLen) (hg : g < w.heap.size) (hown : w.ownsRow 0 3 1 (.slice (some ⟨g, 0, none⟩) n cap) n (i64s L)) :
    Calls Tryd.prog 67 #[.slice (some ⟨g, 0, none⟩) n cap] w fun e w' => (∃ k, k ≤ n ∧ (∀ j, k ≤ j → lg L j = 0) ∧ (k ≠ 0 → lg L (k - 1) ≠ 0) ∧ 
      e = .returned (.agg #[.slice (some ⟨g, 0, none⟩) k cap])) ∧ Below w.heap.size w w' := by
  have hcell : ∀ o k, k < n → (w.alloc o).cell? ⟨g, k, none⟩ = some (.int .i64 (lg L k : Int)) := fun o k hk => i64s_at (World.ownsRow.alloc hown o) k (by omega)
  have HN := hid hn
  unfold maxLen at hcap
  clear hn hown
  go_enter Tryd.func67, Tryd.ntmps67
  go_wp2
  go_loop [0] (fun v => ∃ k : Nat, k ≤ n ∧ v = .slice (some ⟨g, 0, none⟩) k cap ∧ (∀ j, k ≤ j → lg L j = 0)) (fun v => match v with | .slice _ k _ => k | _ => 0)
  case atStart => exact ⟨n, Nat.le_refl _, rfl, by intro j hj; exact lg_past L j (by rw [HN.out]; exact hj)⟩
  case round =>
    obtain ⟨k, hk, rfl, hz⟩ := hrel
    have Hz := hid hz
    clear hz
    by_cases h0 : 0 < k
    · have hc := fun o => hcell o (k - 1) (by omega)
      obtain ⟨m, rfl⟩ : ∃ m, k = m + 1 := ⟨k - 1, by omega⟩
      simp only [Nat.add_sub_cancel] at hc
      clear hcell
      by_cases hlm : lg L m = 0
      · rw [hlm] at hc
        go_wp2
        go_round
        case rel => exact ⟨m, by omega, by go_num, fun j hj => by
          by_cases e : j = m
          · rw [e]; exact hlm
          · exact Hz.out j (by omega)⟩
        case measure => simp
      · have hlm' : ((lg L m : Int) == 0) = false := by simp; omega
        go_wp2
        exact bodyPost_ret (v := .agg #[.slice (some ⟨g, 0, none⟩) (m + 1) cap]) (by simp [results, Tryd.results67, go_sem]) rfl ⟨⟨m + 1, hk, Hz.out, fun _ => hlm, rfl⟩, (Below.refl _ _).alloc (Nat.le_refl _) _⟩
    · go_wp2
      exact bodyPost_ret (v := .agg #[.slice (some ⟨g, 0, none⟩) k cap]) (by simp [results, Tryd.results67, go_sem]) rfl ⟨⟨k, hk, Hz.out, fun h => absurd h (by omega), rfl⟩, (Below.refl _ _).alloc (Nat.le_refl _) _⟩
/-- The document's trim: the same number, without noughts at its end. -/
theorem rtrim_base (w : World) (base g cap : Nat) (L : List Nat) (hb : R.Bd L) (hown : w.ownsRow base 3 1 (.slice (some ⟨g, 0, none⟩) L.length cap) L.length (i64s L)) :
    Calls Tryd.prog 67 #[.slice (some ⟨g, 0, none⟩) L.length cap] w fun e w' => (∃ sl M, e = .returned (.agg #[sl]) ∧ w'.ownsRow base 3 1 sl M.length (i64s M) ∧ R.Bd M ∧ Top M ∧ R.val M = R.val L ∧ M.length ≤ L.length) ∧ Below w.heap.size w w' := by
  obtain ⟨h1, h2, h3⟩ : L.length ≤ cap ∧ cap ≤ maxLen ∧ g < w.heap.size := by
    rcases hown.2 with ⟨h, _⟩ | ⟨g', cap', cur, hv, _, hh, r1, r2, _⟩
    · simp at h
    · simp only [Value.slice.injEq, Option.some.injEq, Addr.mk.injEq, and_true, true_and] at hv
      obtain ⟨rfl, rfl⟩ := hv
      exact ⟨r1, r2, (Array.getElem?_eq_some_iff.1 hh).1⟩
  refine (rtrim_walk w g L.length cap L rfl h1 h2 h3 (ownsRow_base0 hown)).mono ?_
  rintro e w' ⟨⟨k, hk, hz, hn, rfl⟩, hw⟩
  have hlen : (L.take k).length = k := by simp; omega
  refine ⟨⟨_, L.take k, rfl, ?_, R.Bd_take hb k, Top_take L k hk hn, R.take_val L k hk hz, by simp; omega⟩, hw⟩
  have := ownsRow_below (ownsRow_take hown hk) hw
  rw [hlen, i64s_take]
  exact this
theorem ints_slice {w : World} {base : Nat} {v : Value} {L : List Nat} (h : w.ownsRow base 3 1 v L.length (i64s L)) : ∃ ao cap, v = .slice ao L.length cap := by
  rcases h.2 with ⟨h1, h2⟩ | ⟨g, cap, cur, hv, _⟩
  · exact ⟨none, 0, by rw [h1, h2]⟩
  · exact ⟨_, _, hv⟩
theorem RefIs.box {w : World} {v : Value} {n K : Nat} (h : RefIs w v n K) {b : Nat} {u0 : Value} {t : TypeId} (hb : w.heap[b]? = some (.cells #[u0] t (0, 0))) (hne : 3 ≠ t) (u : Value) : RefIs (w.setCell ⟨b, 0, none⟩ u) v n K := by
  obtain ⟨sl, L, h1, h2, r⟩ := h
  exact ⟨sl, L, h1, own_box h2 hb hne u, r⟩
theorem RefIs.form {w : World} {v : Value} {n K : Nat} (h : RefIs w v n K) : ∃ ao l cap, v = .agg #[.slice ao l cap] := by
  obtain ⟨sl, L, rfl, h2, _⟩ := h
  obtain ⟨ao, cap, rfl⟩ := ints_slice h2
  exact ⟨ao, _, cap, rfl⟩
end Go.Proofs.YtchibjdhdbkdhaaDoor
