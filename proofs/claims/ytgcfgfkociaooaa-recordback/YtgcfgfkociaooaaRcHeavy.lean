/- The laws' helper 'heavy'. -/
import Derived.Test.YtgcfgfkociaooaaRcSame
namespace Go.Proofs.Ytgcfgfkociaooaa
open Go.RowKit
set_option linter.unusedVariables false
set_option maxRecDepth 100000
set_option linter.unusedSimpArgs false

def rsum (r : Rec) : Nat := min r.who.size 1048576 + min r.text.size 1048576 + min r.nums.length 1048576
def hsum (L : List Rec) (n : Nat) : Nat → Nat
  | 0 => n
  | k + 1 => hsum L n k + (L[k]?.map rsum).getD 0
set_option maxHeartbeats 4000000 in
theorem heavy_any (w : World) (v : Value) (L : List Rec) (R : Prop) (HR : Hid (hsum L L.length L.length ≤ 131072 → R)) (h : IsRecs w v L) :
    Calls Try.prog 13 #[v] w fun e w' => (e = .returned (.bool true) ∨ (e = .returned (.bool false) ∧ R)) ∧ Below w.heap.size w w' := by
  obtain ⟨a, c, rfl, hlen⟩ := h.slice
  go_enter Try.func13, Try.ntmps13
  go_wp2
  go_loopw [3, 4] (fun m i wr => ∃ k : Nat, k ≤ L.length ∧ i = .int .i64 k ∧ m = .int .i64 (hsum L L.length k) ∧ (k = 0 ∨ hsum L L.length k ≤ 4000000) ∧ Below w.heap.size w wr) (fun _ i _ => L.length - (intOf i).toNat)
  case atStart => exact ⟨0, Nat.zero_le _, rfl, rfl, Or.inl rfl, Below.refl _ _⟩
  case round =>
    obtain ⟨k, hk, rfl, rfl, hb, hbel⟩ := hrel
    have hbig : hsum L L.length k ≤ 9223372036854775807 := by
      rcases hb with rfl | hb
      · exact hlen
      · omega
    by_cases hlt : k < L.length
    · by_cases hm : hsum L L.length k ≤ 131072
      · obtain ⟨b1, o1, d1, u1, e1, l1, m1, f1, r1⟩ := (h.below hbel).at k hlt
        simp only [Value.slice.injEq] at e1
        obtain ⟨rfl, _, rfl⟩ := e1
        unfold maxLen at m1
        obtain ⟨q1, x1, eq1, hN⟩ := r1.ints.slice
        subst eq1
        have HS := hid (show hsum L L.length (k + 1) = hsum L L.length k + rsum L[k] by rw [hsum, List.getElem?_eq_getElem hlt]; rfl)
        obtain ⟨k1, w1, n1, t1, _⟩ := r1
        obtain ⟨fk, fw, ft⟩ := f1
        unfold maxLen at fw ft
        generalize L[k] = r at *
        generalize hsum L L.length k = x at *
        clear hb
        obtain ⟨A, hA, hA2⟩ : ∃ A : Nat, A = min r.who.size 1048576 ∧ (if (1048576 : Int) < (r.who.size : Int) then (1048576 : Int) else (r.who.size : Int)) = (A : Int) := ⟨_, rfl, by split <;> omega⟩
        obtain ⟨B, hB, hB2⟩ : ∃ A : Nat, A = min r.text.size 1048576 ∧ (if (1048576 : Int) < (r.text.size : Int) then (1048576 : Int) else (r.text.size : Int)) = (A : Int) := ⟨_, rfl, by split <;> omega⟩
        obtain ⟨C, hC, hC2⟩ : ∃ A : Nat, A = min r.nums.length 1048576 ∧ (if (1048576 : Int) < (r.nums.length : Int) then (1048576 : Int) else (r.nums.length : Int)) = (A : Int) := ⟨_, rfl, by split <;> omega⟩
        have HX := hid (show hsum L L.length (k + 1) = x + (A + B + C) by rw [HS.out, rsum, ← hA, ← hB, ← hC])
        have lA : A ≤ 1048576 := by omega
        have lB : B ≤ 1048576 := by omega
        have lC : C ≤ 1048576 := by omega
        clear hA hB hC HS
        go_wp2_with fail
        go_quiet (fail)
        have hb2 := below_dn hbel nq
        generalize wr.drewN nq = W at *
        clear k1 w1 n1 t1
        go_wp2
        go_roundw
        case rel => exact ⟨k + 1, by omega, by go_num, by rw [HX.out]; go_num, Or.inr (by rw [HX.out]; omega), hb2⟩
        case measure => simp [intOf]; omega
      · have hm' : ¬ (hsum L L.length k : Int) ≤ 131072 := by omega
        go_wp2
        go_ret
        exact ⟨Or.inl (by simp <;> omega), hbel⟩
    · obtain rfl : k = L.length := by omega
      by_cases hm : hsum L L.length L.length ≤ 131072
      · have HL := hid (HR.out hm)
        go_wp2
        go_ret
        exact ⟨Or.inr ⟨by simp <;> omega, HL.out⟩, hbel⟩
      · have hm' : ¬ (hsum L L.length L.length : Int) ≤ 131072 := by omega
        go_wp2
        go_ret
        exact ⟨Or.inl (by simp <;> omega), hbel⟩
theorem hsum_ge (L : List Rec) (n : Nat) : ∀ k, n ≤ hsum L n k
  | 0 => Nat.le_refl _
  | k + 1 => by have := hsum_ge L n k; simp only [hsum]; omega
theorem hsum_mono (L : List Rec) (n : Nat) (k : Nat) : ∀ j, hsum L n k ≤ hsum L n (k + j)
  | 0 => Nat.le_refl _
  | j + 1 => by have := hsum_mono L n k j; rw [← Nat.add_assoc]; simp only [hsum]; omega
/-- What is not too much. -/
theorem hsum_few {L : List Rec} (h : hsum L L.length L.length ≤ 131072) : L.length ≤ 131072 ∧ ∀ r ∈ L, r.nums.length ≤ 131072 := by
  refine ⟨Nat.le_trans (hsum_ge L L.length L.length) h, fun r hr => ?_⟩
  obtain ⟨i, hi, rfl⟩ := List.getElem_of_mem hr
  have h1 := hsum_mono L L.length (i + 1) (L.length - (i + 1))
  rw [show i + 1 + (L.length - (i + 1)) = L.length by omega] at h1
  have h2 : hsum L L.length (i + 1) = hsum L L.length i + rsum L[i] := by rw [hsum, List.getElem?_eq_getElem hi]; rfl
  have h3 : min L[i].nums.length 1048576 ≤ rsum L[i] := by unfold rsum; omega
  omega
end Go.Proofs.Ytgcfgfkociaooaa
