/- lex's laws: same, heavy. -/
import Derived.Test.YtpjajpgphdnglaaDoorLBase
import Derived.BigQuiet
import Derived.Deep.QuietTactic
namespace Go.Proofs.YtpjajpgphdnglaaDoor
open Go.RowKit
set_option linter.unusedVariables false
set_option maxRecDepth 100000
set_option linter.unusedSimpArgs false

set_option maxHeartbeats 3200000 in
theorem same_true (w : World) (va vb : Value) (L : List ByteArray) (ha : Strs w va L) (hb : Strs w vb L) :
    Calls Tryd.prog 11 #[va, vb] w fun e w' => e = .returned (.bool true) ∧ Below w.heap.size w w' := by
  obtain ⟨a1, c1, ea, hl, hm⟩ := ha.slice
  obtain ⟨a2, c2, eb, _, _⟩ := hb.slice
  subst ea eb
  unfold maxLen at hm
  go_enter Tryd.func11, Tryd.ntmps11
  go_wp2
  go_loopw [5] (fun i wr => ∃ k : Nat, k ≤ L.length ∧ i = .int .i64 (k : Int) ∧ Below w.heap.size w wr) (fun i _ => L.length - (intOf i).toNat)
  case atStart => exact ⟨0, Nat.zero_le _, rfl, Below.refl _ _⟩
  case round =>
    obtain ⟨k, hk, rfl, hbel⟩ := hrel
    by_cases hlt : k < L.length
    · obtain ⟨b1, o1, d1, e1, l1, m1, f1, r1⟩ := (ha.below hbel).at k hlt
      obtain ⟨b2, o2, d2, e2, l2, m2, f2, r2⟩ := (hb.below hbel).at k hlt
      simp only [Value.slice.injEq] at e1 e2
      obtain ⟨rfl, _, rfl⟩ := e1
      obtain ⟨rfl, _, rfl⟩ := e2
      unfold maxLen at m1 m2
      have HA := hid ha
      have HB := hid hb
      clear ha hb r1 r2
      generalize L[k] = x at *
      go_wp2_with fail
      go_quiet (fail)
      have hbW := below_dn hbel nq
      clear f1 f2 hbel
      generalize wr.drewN nq = W at *
      go_wp2
      go_roundw
      case rel => exact ⟨k + 1, by omega, by go_num, hbW⟩
      case measure => simp [intOf]; omega
    · go_wp2
      go_ret
      exact ⟨rfl, hbel⟩
/-- How much texts are together, as the laws reckon it. -/
def hsum (L : List ByteArray) (n : Nat) : Nat → Nat
  | 0 => n
  | k + 1 => hsum L n k + (L[k]?.map (fun x : ByteArray => min x.size 1048576)).getD 0
set_option maxHeartbeats 3200000 in
theorem heavy_any (w : World) (v : Value) (L : List ByteArray) (R : Prop) (HR : Hid (hsum L L.length L.length ≤ 16384 → R)) (h : Strs w v L) :
    Calls Tryd.prog 7 #[v] w fun e w' => (e = .returned (.bool true) ∨ (e = .returned (.bool false) ∧ R)) ∧ Below w.heap.size w w' := by
  obtain ⟨a, c, rfl, hlc, hcm⟩ := h.slice
  unfold maxLen at hcm
  have hlen : L.length ≤ 9223372036854775807 := by omega
  go_enter Tryd.func7, Tryd.ntmps7
  go_wp2
  go_loopw [3, 4] (fun m i wr => ∃ k : Nat, k ≤ L.length ∧ i = .int .i64 (k : Int) ∧ m = .int .i64 (hsum L L.length k : Int) ∧ (k = 0 ∨ hsum L L.length k ≤ 4000000) ∧ Below w.heap.size w wr) (fun _ i _ => L.length - (intOf i).toNat)
  case atStart => exact ⟨0, Nat.zero_le _, rfl, rfl, Or.inl rfl, Below.refl _ _⟩
  case round =>
    obtain ⟨k, hk, rfl, rfl, hb, hbel⟩ := hrel
    have hbig : hsum L L.length k ≤ 9223372036854775807 := by
      rcases hb with rfl | hb
      · exact hlen
      · omega
    by_cases hlt : k < L.length
    · by_cases hm : hsum L L.length k ≤ 16384
      · obtain ⟨b1, o1, d1, e1, l1, m1, f1, r1⟩ := (h.below hbel).at k hlt
        simp only [Value.slice.injEq] at e1
        obtain ⟨rfl, _, rfl⟩ := e1
        unfold maxLen at m1 r1
        have HS := hid (show hsum L L.length (k + 1) = hsum L L.length k + min L[k].size 1048576 by rw [hsum, List.getElem?_eq_getElem hlt]; rfl)
        have HH := hid h
        clear h
        generalize L[k] = r at *
        generalize hsum L L.length k = x at *
        clear hb
        obtain ⟨A, hA, hA2⟩ : ∃ A : Nat, A = min r.size 1048576 ∧ (if (1048576 : Int) < (r.size : Int) then (1048576 : Int) else (r.size : Int)) = (A : Int) := ⟨_, rfl, by split <;> omega⟩
        have HX := hid (show hsum L L.length (k + 1) = x + A by rw [HS.out, ← hA])
        have lA : A ≤ 1048576 := by omega
        clear hA HS
        go_wp2
        go_roundw
        case rel => exact ⟨k + 1, by omega, by go_num, by rw [HX.out]; go_num, Or.inr (by rw [HX.out]; omega), hbel⟩
        case measure => simp [intOf]; omega
      · have hm' : ¬ (hsum L L.length k : Int) ≤ 16384 := by omega
        go_wp2
        go_ret
        exact ⟨Or.inl (by simp <;> omega), hbel⟩
    · obtain rfl : k = L.length := by omega
      by_cases hm : hsum L L.length L.length ≤ 16384
      · have HL := hid (HR.out hm)
        go_wp2
        go_ret
        exact ⟨Or.inr ⟨by simp <;> omega, HL.out⟩, hbel⟩
      · have hm' : ¬ (hsum L L.length L.length : Int) ≤ 16384 := by omega
        go_wp2
        go_ret
        exact ⟨Or.inl (by simp <;> omega), hbel⟩
theorem hsum_ge (L : List ByteArray) (n : Nat) : ∀ k, n ≤ hsum L n k
  | 0 => Nat.le_refl _
  | k + 1 => by have := hsum_ge L n k; simp only [hsum]; omega
theorem hsum_mono (L : List ByteArray) (n k : Nat) : ∀ j, hsum L n k ≤ hsum L n (k + j)
  | 0 => Nat.le_refl _
  | j + 1 => by have := hsum_mono L n k j; rw [← Nat.add_assoc]; simp only [hsum]; omega
/-- The joined text's length. -/
theorem jn_len (c : UInt8) : ∀ (L : List (List UInt8)), (jn c L).length ≤ L.length + (L.map List.length).sum
  | [] => by simp [jn]
  | [a] => by simp [jn]
  | a :: b :: r => by
    have := jn_len c (b :: r)
    simp only [jn, List.length_append, List.length_cons, List.map_cons, List.sum_cons] at this ⊢
    omega
theorem hsum_at (L : List ByteArray) (n : Nat) (x : ByteArray) (hx : x.size ≤ 1048576) : ∀ k, k ≤ L.length → hsum (L ++ [x]) n k = hsum L n k
  | 0, _ => rfl
  | k + 1, h => by
    simp only [hsum]
    rw [hsum_at L n x hx k (by omega), List.getElem?_append_left (by omega)]
/-- Texts that are not too much: how long they are, joined. -/
theorem hsum_sum (L : List ByteArray) (n : Nat) (h : hsum L n L.length ≤ 16384) : ∀ k, k ≤ L.length → hsum L n k = n + ((L.take k).map (fun x => (bl x).length)).sum
  | 0, _ => by simp [hsum]
  | k + 1, hk => by
    have h1 := hsum_mono L n (k + 1) (L.length - (k + 1))
    rw [show k + 1 + (L.length - (k + 1)) = L.length by omega] at h1
    have h2 : hsum L n (k + 1) = hsum L n k + min L[k].size 1048576 := by rw [hsum, List.getElem?_eq_getElem hk]; rfl
    have h3 := hsum_sum L n h k (by omega)
    rw [h2, h3, List.take_succ_eq_append_getElem hk, List.map_append, List.sum_append]
    simp only [List.map_cons, List.map_nil, List.sum_cons, List.sum_nil, bl_len]
    omega
theorem join_few {L : List ByteArray} (h : hsum L L.length L.length ≤ 16384) : (jn 32 (L.map bl)).length ≤ 16384 ∧ L.length ≤ 16384 := by
  have h1 := hsum_sum L L.length h L.length (Nat.le_refl _)
  have h2 := jn_len 32 (L.map bl)
  rw [List.take_of_length_le (Nat.le_refl _)] at h1
  rw [List.length_map, List.map_map, show (List.length ∘ bl) = (fun x => (bl x).length) from rfl] at h2
  omega
end Go.Proofs.YtpjajpgphdnglaaDoor
