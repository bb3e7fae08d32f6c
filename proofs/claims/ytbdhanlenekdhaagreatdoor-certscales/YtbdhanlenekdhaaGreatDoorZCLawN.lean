/- cert: heavy, with the lists' lengths. -/
import Derived.Test.YtbdhanlenekdhaaGreatDoorPk42
namespace Go.Proofs.YtbdhanlenekdhaaGreatDoor
open Go.RowKit
set_option linter.unusedVariables false
set_option maxRecDepth 100000
set_option linter.unusedSimpArgs false

def szN (S : List ByteArray) : Nat := S.length + szL S
def szMN (M : List (List ByteArray)) : Nat := (M.map szN).sum
def szP (S : List ByteArray) (k : Nat) : Nat := S.length + szL (S.take k)
theorem szN_succ (M : List (List ByteArray)) (k : Nat) (h : k < M.length) : szMN (M.take (k + 1)) = szMN (M.take k) + szN M[k] := by
  unfold szMN
  rw [List.take_succ_eq_append_getElem h, List.map_append, List.sum_append]; simp
theorem szP_succ (S : List ByteArray) (k : Nat) (h : k < S.length) : szP S (k + 1) = szP S k + S[k].size := by
  unfold szP
  rw [szL_succ S k h]; omega
theorem szP_zero (S : List ByteArray) : szP S 0 = S.length := by simp [szP, szL]
theorem szP_all (S : List ByteArray) : szP S S.length = szN S := by simp [szP, szN]
/-- What heavy tells. -/
def HvyN (P : Prb) (M : List (List ByteArray)) (e : Ending) : Prop := ∃ R : Bool, e = .returned (.bool R) ∧ (R = false → P.rows.length ≤ 64 → P.rel.length ≤ 64 → P.b.length ≤ 64 → P.c.length ≤ 64 → szMN M ≤ 256)
set_option maxHeartbeats 12800000 in
theorem heavy11n_any (w : World) (rv ev bv cv lv : Value) (P : Prb) (M : List (List ByteArray)) (hp : IsPrb w rv ev bv cv P) (hl : StrRows w lv M) :
    Calls Tryz.prog 8 #[.agg #[rv, ev, bv, cv], lv] w fun e w' => HvyN P M e ∧ Below w.heap.size w w' := by
  obtain ⟨ra, rc, rfl, rl, rm⟩ := hp.rows.slice
  obtain ⟨ea, ec, rfl, el, em⟩ := hp.rel.slice
  obtain ⟨ba, bc, rfl, bl, bm⟩ := hp.b.slice
  obtain ⟨ca, cc, rfl, cl, cm⟩ := hp.c.slice
  obtain ⟨la, lc, rfl, ll, lm⟩ := hl.slice
  unfold maxLen at rm em bm cm lm
  have b0 := (Below.refl w.heap.size w).alloc (Nat.le_refl _) (Obj.cells #[.slice ra P.rows.length rc, .slice ea P.rel.length ec, .slice ba P.b.length bc, .slice ca P.c.length cc] 25)
  have x0 := box_new w (Obj.cells #[.slice ra P.rows.length rc, .slice ea P.rel.length ec, .slice ba P.b.length bc, .slice ca P.c.length cc] 25)
  have y0 := bxc x0 0 (.slice ra P.rows.length rc) rfl
  have y1 := bxc x0 1 (.slice ea P.rel.length ec) rfl
  have y2 := bxc x0 2 (.slice ba P.b.length bc) rfl
  have y3 := bxc x0 3 (.slice ca P.c.length cc) rfl
  have HPB := hid x0
  have HP := hid (hp.below b0)
  have HL := hid (hl.below b0)
  have HB0 := hid b0
  clear hp b0 x0 hl
  obtain ⟨z1, HZ1⟩ : ∃ z1, Hid (z1 = wrap64 ((P.rows.length : Int) + (P.rel.length : Int))) := ⟨_, hid rfl⟩
  obtain ⟨z2, HZ2⟩ : ∃ z2, Hid (z2 = wrap64 (z1 + (P.b.length : Int))) := ⟨_, hid rfl⟩
  obtain ⟨z3, HZ3⟩ : ∃ z3, Hid (z3 = wrap64 (z2 + (P.c.length : Int))) := ⟨_, hid rfl⟩
  have hzr : -9223372036854775808 ≤ z3 ∧ z3 ≤ 9223372036854775807 := by rw [HZ3.out]; exact wrap_rng _
  have HZC := hid (show P.rows.length ≤ 64 → P.rel.length ≤ 64 → P.b.length ≤ 64 → P.c.length ≤ 64 → 0 ≤ z3 from fun k1 k2 k3 k4 => four_small (by omega) (by omega) (by omega) (by omega) (by omega) (by omega) (by omega) (by omega) HZ1.out HZ2.out HZ3.out)
  obtain ⟨Sm, HSm⟩ : ∃ Sm : Prop, Hid ((P.rows.length ≤ 64 ∧ P.rel.length ≤ 64 ∧ P.b.length ≤ 64 ∧ P.c.length ≤ 64) ↔ Sm) := ⟨_, hid Iff.rfl⟩
  have HZ0 := hid (show Sm → 0 ≤ z3 from fun hs => by obtain ⟨k1, k2, k3, k4⟩ := HSm.out.2 hs; exact HZC.out k1 k2 k3 k4)
  clear HZC
  go_enter Tryz.func8, Tryz.ntmps8
  go_wp2
  rw [← HZ1.out, ← HZ2.out, ← HZ3.out]
  clear HZ1 HZ2 HZ3 y0 y1 y2 y3
  generalize w.alloc (Obj.cells #[.slice ra P.rows.length rc, .slice ea P.rel.length ec, .slice ba P.b.length bc, .slice ca P.c.length cc] 25) = W at *
  go_loopw [5, 6] (fun m i wr => ∃ (k : Nat) (z : Int), k ≤ P.rows.length ∧ i = .int .i64 (k : Int) ∧ m = .int .i64 z ∧ (-9223372036854775808 ≤ z ∧ z ≤ 9223372036854775807) ∧ Hid (Sm → 0 ≤ z) ∧ wr = W) (fun _ i _ => P.rows.length - (intOf i).toNat)
  case atStart => exact ⟨0, z3, Nat.zero_le _, rfl, rfl, hzr, HZ0, rfl⟩
  case round =>
    clear hzr HZ0
    obtain ⟨k, z, hk, rfl, rfl, hz, HZ, hwr⟩ := hrel
    have hwr2 := hwr.symm
    clear hwr
    subst hwr2
    have y0 := bxc HPB.out 0 (.slice ra P.rows.length rc) rfl
    have y1 := bxc HPB.out 1 (.slice ea P.rel.length ec) rfl
    have y2 := bxc HPB.out 2 (.slice ba P.b.length bc) rfl
    have y3 := bxc HPB.out 3 (.slice ca P.c.length cc) rfl
    by_cases hgo : k < P.rows.length ∧ z ≤ 256
    · obtain ⟨hlt, hzle⟩ := hgo
      have hz256 : decide (z ≤ 256) = true := by simpa using hzle
      obtain ⟨rb, ro, rcap, ru, re, rcell, hru⟩ := HP.out.rows.at k hlt
      simp only [Value.slice.injEq] at re
      obtain ⟨rfl, -, rfl⟩ := re
      obtain ⟨ua, uc, hue, _, hum⟩ := hru.slice
      subst hue
      unfold maxLen at hum
      clear hru
      generalize P.rows[k].length = XX at *
      obtain ⟨A, hA, hA2, hA3⟩ : ∃ A : Nat, A = min XX 1048576 ∧ (min (XX : Int) 1048576) = (A : Int) ∧ (if (1048576 : Int) < (XX : Int) then (1048576 : Int) else (XX : Int)) = (A : Int) := ⟨_, rfl, by omega, by split <;> omega⟩
      have lA : A ≤ 1048576 := by omega
      have HA := hid hA
      clear hA
      have hw : wrap64 (z + (A : Int)) = z + (A : Int) := wrap_in (by omega) (by omega)
      have hw2 : IntKind.i64.wrap (z + (A : Int)) = z + (A : Int) := by rw [IntKind.wrap_i64]; omega
      have HN := hid (show Sm → 0 ≤ z + (A : Int) from fun hs => by have := HZ.out hs; omega)
      go_wp2
      go_roundw
      case rel => exact ⟨k + 1, z + (A : Int), by omega, by go_num, by first | rfl | rw [hw] | rw [hw2], by omega, HN, by simp⟩
      case measure => simp [intOf]; omega
    · have hex : (¬ (k : Int) < (P.rows.length : Int) ∧ (decide (z ≤ 256) = decide (z ≤ 256))) ∨ ((k : Int) < (P.rows.length : Int) ∧ decide (z ≤ 256) = false) := by
        by_cases h1 : k < P.rows.length
        · right; exact ⟨by omega, by simp; omega⟩
        · left; exact ⟨by omega, rfl⟩
      rcases hex with ⟨h, -⟩ | ⟨h, hz256⟩
      all_goals
        go_wp2
        (try clear hz256)
        clear h y0 y1 y2 y3
        go_loopw [5, 7] (fun m i wr => ∃ (i2 : Nat) (z : Int), i2 ≤ M.length ∧ i = .int .i64 (i2 : Int) ∧ m = .int .i64 z ∧ (-9223372036854775808 ≤ z ∧ z ≤ 9223372036854775807) ∧ Hid (Sm → 0 ≤ z ∧ (z ≤ 256 → ((szMN (M.take i2) : Nat) : Int) ≤ z)) ∧ wr = W) (fun _ i _ => M.length - (intOf i).toNat)
        case atStart => exact ⟨0, z, Nat.zero_le _, rfl, rfl, hz, fun hs => ⟨HZ.out hs, fun _ => by have := HZ.out hs; simpa [szMN] using this⟩, rfl⟩
        case round =>
          clear hz HZ
          obtain ⟨i2, z, hi2, rfl, rfl, hz, HZ, hwr⟩ := hrel
          have hwr2 := hwr.symm
          clear hwr
          subst hwr2
          by_cases hgo : i2 < M.length ∧ z ≤ 256
          · obtain ⟨hlt2, hzle⟩ := hgo
            have hz256 : decide (z ≤ 256) = true := by simpa using hzle
            obtain ⟨rb, ro, rcap, ru, re, rcell, hru⟩ := HL.out.at i2 hlt2
            simp only [Value.slice.injEq] at re
            obtain ⟨rfl, -, rfl⟩ := re
            obtain ⟨ua, uc, hue, _, hum⟩ := hru.slice
            subst hue
            unfold maxLen at hum
            have HSM := hid (szN_succ M i2 hlt2)
            obtain ⟨XX, hXX⟩ : ∃ XX, XX = M[i2].length := ⟨_, rfl⟩
            obtain ⟨A, hA, hA2, hA3⟩ : ∃ A : Nat, A = min M[i2].length 1048576 ∧ (min (M[i2].length : Int) 1048576) = (A : Int) ∧ (if (1048576 : Int) < (M[i2].length : Int) then (1048576 : Int) else (M[i2].length : Int)) = (A : Int) := ⟨_, rfl, by omega, by split <;> omega⟩
            have lA : A ≤ 1048576 := by omega
            have HA := hid hA
            clear hA
            have hw : wrap64 (z + (A : Int)) = z + (A : Int) := wrap_in (by omega) (by omega)
            have hw2 : IntKind.i64.wrap (z + (A : Int)) = z + (A : Int) := by rw [IntKind.wrap_i64]; omega
            have HN := hid (show Sm → 0 ≤ z + (A : Int) ∧ (z + (A : Int) ≤ 256 → ((szMN (M.take i2) + szP M[i2] 0 : Nat) : Int) ≤ z + (A : Int)) from fun hs => ⟨by have := (HZ.out hs).1; omega, fun h2 => by have h4 := (HZ.out hs).2 hzle; have h5 := HA.out; have h6 := (HZ.out hs).1; rw [szP_zero]; omega⟩)
            clear hXX
            go_wp2
            go_loopw [5, 8] (fun m i wr => ∃ (k : Nat) (z : Int), k ≤ M[i2].length ∧ i = .int .i64 (k : Int) ∧ m = .int .i64 z ∧ (-9223372036854775808 ≤ z ∧ z ≤ 9223372036854775807) ∧ Hid (Sm → 0 ≤ z ∧ (z ≤ 256 → ((szMN (M.take i2) + szP M[i2] k : Nat) : Int) ≤ z)) ∧ wr = W) (fun _ i _ => M[i2].length - (intOf i).toNat)
            case atStart => exact ⟨0, z + (A : Int), Nat.zero_le _, rfl, by first | rfl | rw [hw] | rw [hw2], by omega, HN, by simp⟩
            case round =>
              clear hw hw2 HN hz HZ hzle hz256 hA2 hA3 HA lA
              obtain ⟨k3, z, hk3, rfl, rfl, hz, HZ, hwr⟩ := hrel
              have hwr2 := hwr.symm
              clear hwr
              subst hwr2
              by_cases hgo : k3 < M[i2].length ∧ z ≤ 256
              · obtain ⟨hlt3, hzle⟩ := hgo
                have hz256 : decide (z ≤ 256) = true := by simpa using hzle
                obtain ⟨tb, toff, tcp, te, _, _, htc, htm⟩ := hru.at k3 hlt3
                simp only [Value.slice.injEq] at te
                obtain ⟨rfl, -, rfl⟩ := te
                unfold maxLen at htm
                have HSU := hid (szP_succ M[i2] k3 hlt3)
                have hlt3' : (k3 : Int) < (M[i2].length : Int) := by omega
                have HK3 := hid hlt3
                generalize M[i2][k3] = str at *
                clear hlt3
                obtain ⟨A, hA, hA2, hA3⟩ : ∃ A : Nat, A = min str.size 1048576 ∧ (min (str.size : Int) 1048576) = (A : Int) ∧ (if (1048576 : Int) < (str.size : Int) then (1048576 : Int) else (str.size : Int)) = (A : Int) := ⟨_, rfl, by omega, by split <;> omega⟩
                have lA : A ≤ 1048576 := by omega
                have HA := hid hA
                clear hA
                have hw : wrap64 (z + (A : Int)) = z + (A : Int) := wrap_in (by omega) (by omega)
                have hw2 : IntKind.i64.wrap (z + (A : Int)) = z + (A : Int) := by rw [IntKind.wrap_i64]; omega
                have HN := hid (show Sm → 0 ≤ z + (A : Int) ∧ (z + (A : Int) ≤ 256 → ((szMN (M.take i2) + szP M[i2] (k3 + 1) : Nat) : Int) ≤ z + (A : Int)) from fun hs => ⟨by have := (HZ.out hs).1; omega, fun h2 => by have h4 := (HZ.out hs).2 hzle; have h5 := HA.out; have h6 := (HZ.out hs).1; rw [HSU.out]; omega⟩)
                go_wp2
                go_roundw
                case rel => exact ⟨k3 + 1, z + (A : Int), HK3.out, by go_num, by first | rfl | rw [hw] | rw [hw2], by omega, HN, by simp⟩
                case measure => have := HK3.out; simp [intOf]; omega
              · have HN := hid (show Sm → 0 ≤ z ∧ (z ≤ 256 → ((szMN (M.take (i2 + 1)) : Nat) : Int) ≤ z) from fun hs => ⟨(HZ.out hs).1, fun h2 => by
                  have h3 : k3 = M[i2].length := by omega
                  have := (HZ.out hs).2 h2
                  rw [h3, szP_all] at this
                  rw [HSM.out]; exact this⟩)
                rcases (show ¬ k3 < M[i2].length ∨ (k3 < M[i2].length ∧ ¬ z ≤ 256) by omega) with h | ⟨hh, h⟩
                · have h' : ¬ (k3 : Int) < (M[i2].length : Int) := by omega
                  go_wp2
                  exact ⟨⟨i2 + 1, z, by omega, by go_num, rfl, hz, HN, by simp⟩, by simp [intOf]; omega⟩
                · have h' : (k3 : Int) < (M[i2].length : Int) := by omega
                  have hz256 : decide (z ≤ 256) = false := by simpa using h
                  go_wp2
                  exact ⟨⟨i2 + 1, z, by omega, by go_num, rfl, hz, HN, by simp⟩, by simp [intOf]; omega⟩
          · have HN := hid (show ¬ (256 < z) → Sm → szMN M ≤ 256 from fun hR hs => by
              have h3 : i2 = M.length := by omega
              have := (HZ.out hs).2 (by omega)
              rw [h3, List.take_length] at this
              omega)
            have HFIN := hid (show decide (256 < z) = false → P.rows.length ≤ 64 → P.rel.length ≤ 64 → P.b.length ≤ 64 → P.c.length ≤ 64 → szMN M ≤ 256 from fun hR k1 k2 k3 k4 => HN.out (by simpa using hR) (HSm.out.1 ⟨k1, k2, k3, k4⟩))
            rcases (show ¬ i2 < M.length ∨ (i2 < M.length ∧ ¬ z ≤ 256) by omega) with h | ⟨hh, h⟩
            · have h' : ¬ (i2 : Int) < (M.length : Int) := by omega
              go_wp2
              go_ret
              exact ⟨⟨_, rfl, by first | exact HFIN.out | exact (fun h => by cases h)⟩, HB0.out⟩
            · have h' : (i2 : Int) < (M.length : Int) := by omega
              have hz256 : decide (z ≤ 256) = false := by simpa using h
              go_wp2
              go_ret
              exact ⟨⟨_, rfl, by first | exact HFIN.out | exact (fun h => by cases h)⟩, HB0.out⟩
end Go.Proofs.YtbdhanlenekdhaaGreatDoor
