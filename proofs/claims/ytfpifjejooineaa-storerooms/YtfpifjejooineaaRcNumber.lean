/- The document's number. -/
import Derived.Test.YtfpifjejooineaaRcGroups
namespace Go.Proofs.Ytfpifjejooineaa.Rc
open Go.RowKit
set_option linter.unusedVariables false
set_option maxRecDepth 100000
set_option linter.unusedSimpArgs false

/-- A group shifted to its place, as far as it fits. -/
theorem shl_part (c j : Nat) (hj : j ≤ 9) : IntKind.u64.wrap ((c : Int) % 128 * 2 ^ (7 * j)) = (((c % 128 % 2 ^ (64 - 7 * j)) * 2 ^ (7 * j) : Nat) : Int) := by
  have e : (c : Int) % 128 = ((c % 128 : Nat) : Int) := by simp
  rw [e, pow_int, wrap_nat, show (18446744073709551616 : Nat) = 2 ^ (64 - 7 * j) * 2 ^ (7 * j) by rw [← Nat.pow_add, show 64 - 7 * j + 7 * j = 64 by omega], Nat.mul_mod_mul_right]
theorem part_lt (g j : Nat) (hj : j ≤ 9) : g % 2 ^ (64 - 7 * j) * 2 ^ (7 * j) < 18446744073709551616 := by
  rw [show (18446744073709551616 : Nat) = 2 ^ (64 - 7 * j) * 2 ^ (7 * j) by rw [← Nat.pow_add, show 64 - 7 * j + 7 * j = 64 by omega]]
  exact Nat.mul_lt_mul_of_pos_right (Nat.mod_lt _ (Nat.pow_pos (by omega))) (Nat.pow_pos (by omega))
theorem part_fit (g j : Nat) (hj : j ≤ 9) (h : g * 2 ^ (7 * j) < 18446744073709551616) : g % 2 ^ (64 - 7 * j) = g := by
  rw [show (18446744073709551616 : Nat) = 2 ^ (64 - 7 * j) * 2 ^ (7 * j) by rw [← Nat.pow_add, show 64 - 7 * j + 7 * j = 64 by omega]] at h
  exact Nat.mod_eq_of_lt (Nat.lt_of_mul_lt_mul_right h)
/-- What number says of the groups ahead. -/
def NumOf (s : ByteArray) (v : Int) (k : Nat) : Prop := I64 v ∧ k ≤ s.size ∧ ∀ (n : Int) (a : Bs), I64 n → Bs.of s = grp (zz n) ++ a → k = (grp (zz n)).length ∧ v = n
theorem num_none {s : ByteArray} (h : ∀ (z : Nat) (a : Bs), z < 18446744073709551616 → Bs.of s ≠ grp z ++ a) : NumOf s 0 0 := ⟨by unfold I64; omega, by omega, fun n a hn e => absurd e (h _ _ (zz_lt hn))⟩
set_option maxHeartbeats 4000000 in
theorem xnumber_any (w : World) (s : ByteArray) (hs : s.size ≤ 1000000) :
    Calls Try.prog 47 #[.string s] w fun e w' => (∃ (v : Int) (k : Nat), e = .returned (.tuple #[.int .i64 v, .int .i64 (k : Int)]) ∧ NumOf s v k) ∧ w' = w := by
  go_enter Try.func47, Try.ntmps47
  go_wp2
  go_loop [4, 5] (fun z c => ∃ (j y : Nat) (B : Bs), c = .int .i64 (j : Int) ∧ j ≤ 10 ∧ j ≤ s.size ∧ z = .int .u64 (y : Int) ∧ y < 18446744073709551616 ∧ Hid ((j ≤ 9 → y = val B) ∧ Big B ∧ B.length = j ∧ Bs.of s = B ++ (Bs.of s).drop j)) (fun _ c => s.size - (intOf c).toNat)
  case atStart => exact ⟨0, 0, [], rfl, by omega, by omega, rfl, by omega, ⟨fun _ => rfl, by simp [Big], rfl, rfl⟩⟩
  case round =>
    obtain ⟨j, y, B, rfl, hj, hjs, rfl, hy, HB⟩ := hrel
    by_cases hk : j < s.size
    · by_cases h10 : j < 10
      · obtain ⟨x, hx, ed⟩ := drop_at s j hk
        have ek := bt_at s j hk
        rw [← hx] at ek
        have HX := hid ed
        have hxl := UInt8.toNat_lt x
        obtain ⟨c, HC⟩ : ∃ c, Hid (x.toNat = c) := ⟨_, rfl⟩
        rw [HC.out] at ek hxl
        clear hx ed
        obtain ⟨sh, hsh⟩ : ∃ sh : Nat, (7 : Int) * (j : Int) = (sh : Int) := ⟨7 * j, by simp⟩
        have HSH := hid (show sh = 7 * j by omega)
        have hsh64 : sh < 64 := by omega
        have g1 := shl_part c j (by omega)
        rw [← HSH.out] at g1
        have hyj : y < 128 ^ j := by rw [HB.out.1 (by omega), ← HB.out.2.2.1]; exact val_lt B
        have g3 := or_sum y (c % 128 % 2 ^ (64 - 7 * j)) j hyj hy (part_lt _ j (by omega))
        obtain ⟨g3, g4⟩ := g3
        have HP := hid (show ∀ (z : Nat) (a : Bs), z < 18446744073709551616 → Bs.of s = grp z ++ a → c < 128 → (y + c % 128 % 2 ^ (64 - 7 * j) * 2 ^ (7 * j)) = z ∧ (grp z).length = j + 1 from fun z a hz e hc => by
          rw [HB.out.2.2.2, HX.out] at e
          obtain ⟨e1, e2⟩ := grp_next HB.out.2.1 e
          obtain ⟨e3, _, e4⟩ := e2 (by rw [HC.out]; exact hc)
          have e5 := grp_of HB.out.2.1 (by rw [HC.out]; exact hc) e4
          rw [← e3] at e5
          rw [HC.out, HB.out.2.2.1, show (128 : Nat) ^ j = 2 ^ (7 * j) by rw [Nat.pow_mul]] at e1
          have hfit : c % 128 * 2 ^ (7 * j) < 18446744073709551616 := by omega
          rw [part_fit _ j (by omega) hfit]
          refine ⟨?_, by rw [e5, List.length_append, HB.out.2.2.1]; rfl⟩
          rw [e3, val_snoc, HC.out, HB.out.2.2.1, ← HB.out.1 (by omega), Nat.pow_mul])
        rw [← HSH.out] at g3 g4 HP
        generalize hGG : c % 128 % 2 ^ (64 - sh) * 2 ^ sh = G at *
        have HGG := hid hGG
        clear hGG
        obtain ⟨Y, HY⟩ : ∃ Y, Hid (Y = y + G) := ⟨_, rfl⟩
        rw [← HY.out] at g3 g4 HP
        have HV : Hid (j + 1 ≤ 9 → Y = val (B ++ [x])) := by
          intro h9
          have hfit : c % 128 * 2 ^ (7 * j) < 18446744073709551616 := by
            have h1 : 2 ^ (7 * j) ≤ 2 ^ 56 := Nat.pow_le_pow_right (by omega) (by omega)
            have h2 : c % 128 * 2 ^ (7 * j) ≤ 127 * 2 ^ 56 := Nat.mul_le_mul (by omega) h1
            omega
          have h3 := part_fit _ j (by omega) hfit
          rw [← HSH.out] at h3
          rw [HY.out, ← HGG.out, h3, val_snoc, HC.out, HB.out.2.2.1, ← HB.out.1 (by omega), HSH.out, Nat.pow_mul]
        by_cases hbig : 128 ≤ c
        · have HN := hid (show Big (B ++ [x]) ∧ (B ++ [x]).length = j + 1 ∧ Bs.of s = (B ++ [x]) ++ (Bs.of s).drop (j + 1) from ⟨fun u hu => by
            rcases List.mem_append.1 hu with hu | hu
            · exact HB.out.2.1 u hu
            · simp at hu; subst hu; rw [HC.out]; exact hbig, by rw [List.length_append, HB.out.2.2.1]; rfl, by
            rw [List.append_assoc]
            have e1 := HB.out.2.2.2
            rw [HX.out] at e1
            exact e1⟩)
          go_wp2
          go_round
          case rel => exact ⟨j + 1, Y, B ++ [x], by go_num, by omega, by omega, rfl, g4, ⟨HV.out, HN.out.1, HN.out.2.1, HN.out.2.2⟩⟩
          case measure => simp [intOf]; omega
        · have hlt : c < 128 := by omega
          have hu := unz_i64 g4
          have HU : Hid (NumOf s (unz Y) (j + 1)) := ⟨hu, by omega, fun n a hn e => by
            obtain ⟨e1, e2⟩ := HP.out (zz n) a (zz_lt hn) e hlt
            exact ⟨e2.symm, by rw [e1, unz_zz]⟩⟩
          clear HP HV hu
          rcases (show Y % 2 = 0 ∨ Y % 2 = 1 by omega) with hp | hp
          · have hE : ((Y : Int) / 2) = unz Y := by unfold unz; rw [if_pos hp]; simp
            have HE := hid hE
            clear hE
            go_wp2
            exact bodyPost_ret (v := .tuple #[.int .i64 ((Y : Int) / 2), .int .i64 ((j : Int) + 1)]) (by simp [results, Try.results47, go_sem]) rfl ⟨⟨unz Y, j + 1, by rw [HE.out]; simp, HU.out⟩, rfl⟩
          · have hE : (-((Y : Int) / 2) - 1) = unz Y := by unfold unz; rw [if_neg (by omega)]; simp
            have HE := hid hE
            clear hE
            go_wp2
            exact bodyPost_ret (v := .tuple #[.int .i64 (-((Y : Int) / 2) - 1), .int .i64 ((j : Int) + 1)]) (by simp [results, Try.results47, go_sem]) rfl ⟨⟨unz Y, j + 1, by rw [HE.out]; simp, HU.out⟩, rfl⟩
      · have HU := hid (num_none (s := s) (fun z a hz e => by
          obtain ⟨l, x, h1, h2, h3, h4, h5⟩ := grp_form z
          rw [HB.out.2.2.2, h1, List.append_assoc] at e
          obtain ⟨l2, e1, _⟩ := big_pre HB.out.2.1 h3 e
          have h6 := grp_len hz
          have h7 := HB.out.2.2.1
          rw [h1, e1, List.length_append, List.length_append, List.length_singleton] at h6
          omega))
        go_wp2
        exact bodyPost_ret (v := .tuple #[.int .i64 0, .int .i64 0]) (by simp [results, Try.results47, go_sem]) rfl ⟨⟨0, 0, rfl, HU.out⟩, rfl⟩
    · have HU := hid (num_none (s := s) (fun z a hz e => by
        rw [HB.out.2.2.2, drop_end s j (by omega), List.append_nil] at e
        exact grp_more HB.out.2.1 e))
      go_wp2
      exact bodyPost_ret (v := .tuple #[.int .i64 0, .int .i64 0]) (by simp [results, Try.results47, go_sem]) rfl ⟨⟨0, 0, rfl, HU.out⟩, rfl⟩
end Go.Proofs.Ytfpifjejooineaa.Rc
