/- StoreScript's helper heavy. -/
import Derived.Test.YtjldlmonccgopaaGreatZGSteps
import Derived.Test.YtjldlmonccgopaaGreatPk13
import Derived.Deep.RegionHeld3
namespace Go.Proofs.YtjldlmonccgopaaGreat.Rc
open Go.RowKit
set_option linter.unusedVariables false
set_option maxRecDepth 100000
set_option linter.unusedSimpArgs false

set_option maxHeartbeats 8000000 in
theorem heavy7_any (w : World) (a : Option Addr) (len cap : Nat) (z : Nat → Stq) (h : IsStqs w a len cap z) :
    Calls Tryz.prog 4 #[.slice a len cap] w fun e w' => (e = .returned (.bool true) ∨ (e = .returned (.bool false) ∧ len ≤ 64 ∧ ∀ k, k < len → (z k).s.size ≤ 131072 ∧ (z k).l.length ≤ 131072)) ∧ Below w.heap.size w w' := by
  obtain ⟨Post, hPost⟩ : ∃ P : Prop, P = (len ≤ 64 ∧ ∀ k, k < len → (z k).s.size ≤ 131072 ∧ (z k).l.length ≤ 131072) := ⟨_, rfl⟩
  rw [← hPost]
  have HPOST := hid hPost
  clear hPost
  have hlen := h.len
  go_enter Tryz.func4, Tryz.ntmps4
  go_wp2
  go_loopw [3, 4] (fun m i wr => ∃ k x : Nat, k ≤ len ∧ i = .int .i64 (k : Int) ∧ m = .int .i64 (x : Int) ∧ ((k = 0 ∧ x = len) ∨ x ≤ 20000000) ∧ Hid (x ≤ 131072 → ∀ j, j < k → (z j).s.size ≤ 131072 ∧ (z j).l.length ≤ 131072) ∧ Below w.heap.size w wr) (fun _ i _ => len - (intOf i).toNat)
  case atStart => exact ⟨0, len, Nat.zero_le _, rfl, rfl, Or.inl ⟨rfl, rfl⟩, fun _ j hj => by omega, Below.refl _ _⟩
  case round =>
    obtain ⟨k, x, hk, rfl, rfl, hx, HALL, hb⟩ := hrel
    have hxb : x ≤ 9223372036854775807 := by omega
    by_cases hlt : k < len
    · by_cases hm : x ≤ 131072
      · obtain ⟨b, off, rfl, hst, hfit, hl, hc, hbl⟩ := h.at k hlt
        have hs2 := (hst.below hb).s
        have hl2 := (hst.below hb).l
        have HC := hid (fun X (k' : Below w.heap.size w X) => And.intro (hst.below k').s (hst.below k').l)
        have HREC := hid hfit.recs
        have hss := hfit.s
        have HNX := hid (fun (y : Nat) (hy : y ≤ 131072) (h1 : (z k).s.size ≤ 131072) (h2 : (z k).l.length ≤ 131072) => show ∀ j, j < k + 1 → (z j).s.size ≤ 131072 ∧ (z j).l.length ≤ 131072 from fun j hj => by
          by_cases e : j = k
          · subst e; exact ⟨h1, h2⟩
          · exact HALL.out hm j (by omega))
        obtain ⟨va, vc, hv, _⟩ := hfit.recs.slice
        generalize z k = v at *
        obtain ⟨kd, i, s, kp, vv, ll⟩ := v
        simp only at hs2 hl2 HC HREC hss HNX hv
        subst hv
        obtain ⟨A, hA, hA2, hA3⟩ : ∃ A : Nat, A = min s.size 1048576 ∧ (min (s.size : Int) 1048576) = (A : Int) ∧ (if (1048576 : Int) < (s.size : Int) then (1048576 : Int) else (s.size : Int)) = (A : Int) := ⟨_, rfl, by omega, by split <;> omega⟩
        have lA : A ≤ 1048576 := by omega
        have HA := hid hA
        clear hA hst hfit HALL
        have B1 : Below w.heap.size w wr.drew := hb.drew
        have hw1 : ∀ n : Nat, n ≤ 8000000 → IntKind.i64.wrap ((A : Int) + (n : Int)) = (A : Int) + (n : Int) := fun n hn => by rw [IntKind.wrap_i64]; omega
        have hw2 : ∀ n : Nat, n ≤ 8000000 → IntKind.i64.wrap ((x : Int) + ((A : Int) + (n : Int))) = (x : Int) + ((A : Int) + (n : Int)) := fun n hn => by rw [IntKind.wrap_i64]; omega
        have HW1 := hid hw1
        have HW2 := hid hw2
        clear hw1 hw2
        go_wp2_with fail
        go_region_held3 (fun X => X.cell? ⟨b, off + k * 5 + 2, none⟩ = some (.string s) ∧ X.cell? ⟨b, off + k * 5 + 4, none⟩ = some (.slice va ll.length vc)) (first | exact HC.out _ B2 | exact HC.out _ B1) ((go_at_call 28; refine (long_any _ _ ll (HREC.out.below B1)).mono ?_; rintro e X2 ⟨⟨n, rfl, hn1, hn2'⟩, bb⟩; have hn2 := hid hn2'; clear hn2'; have B2 := B1.trans (bb.mono B1.size); have w1 := HW1.out n hn1; have w2 := HW2.out n hn1))
        all_goals
          have HFIN := hid (show x + (A + n) ≤ 131072 → ∀ j, j < k + 1 → (z j).s.size ≤ 131072 ∧ (z j).l.length ≤ 131072 from fun hy => HNX.out _ hy (by have := HA.out; omega) (by have := hn2.out (by omega); omega))
          clear hs2 hl2 HC bb hn2 HNX
          go_wp2
          go_roundw
          case rel => exact ⟨k + 1, x + (A + n), by omega, by go_num, by first | go_num | (rw [w1, w2]; go_num), Or.inr (by omega), HFIN, B2⟩
          case measure => simp [intOf]; omega
      · have hm' : ¬ (x : Int) ≤ 131072 := by omega
        go_wp2
        go_ret
        exact ⟨Or.inl (by simp <;> omega), hb⟩
    · have hkl : k = len := by omega
      by_cases hm : x ≤ 131072
      · by_cases hl : len ≤ 64
        · have hl' : (len : Int) ≤ 64 := by omega
          have HL := hid (show Post by rw [HPOST.out]; exact ⟨hl, fun j hj => HALL.out hm j (by omega)⟩)
          clear hl hkl
          go_wp2
          go_ret
          exact ⟨Or.inr ⟨by simp <;> omega, HL.out⟩, hb⟩
        · have hl' : ¬ (len : Int) ≤ 64 := by omega
          clear hl hkl
          go_wp2
          go_ret
          exact ⟨Or.inl (by simp <;> omega), hb⟩
      · have hm' : ¬ (x : Int) ≤ 131072 := by omega
        clear hkl
        go_wp2
        go_ret
        exact ⟨Or.inl (by simp <;> omega), hb⟩
end Go.Proofs.YtjldlmonccgopaaGreat.Rc
