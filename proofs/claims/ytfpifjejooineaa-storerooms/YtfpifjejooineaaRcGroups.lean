/- record: takeGroups, unzigzag. -/
import Derived.Test.YtfpifjejooineaaRcText
namespace Go.Proofs.Ytfpifjejooineaa.Rc
open Go.RowKit
set_option linter.unusedVariables false
set_option maxRecDepth 100000
set_option linter.unusedSimpArgs false

theorem unzigzag_any (w : World) (z : Nat) (h : z < 18446744073709551616) :
    Calls Try.prog 85 #[.int .u64 (z : Int)] w fun e w' => e = .returned (.int .i64 (unz z)) ∧ w' = w := by
  have ha := and1 z h
  rcases (show z % 2 = 0 ∨ z % 2 = 1 by omega) with hz | hz
  · have hu : unz z = ((z / 2 : Nat) : Int) := by unfold unz; rw [if_pos hz]
    rw [hu]
    rw [hz] at ha
    have hc : ((z / 2 : Nat) : Int) = (z : Int) / 2 := by simp
    rw [hc]
    clear hu hc hz
    go_enter Try.func85, Try.ntmps85
    go_wp2
    go_ret
    exact ⟨by simp, rfl⟩
  · have hu : unz z = -1 - ((z / 2 : Nat) : Int) := by unfold unz; rw [if_neg (by omega)]; omega
    have hx := i64_not (z / 2) (by omega)
    rw [hu, ← hx]
    rw [hz] at ha
    have hc : ((z / 2 : Nat) : Int) = (z : Int) / 2 := by simp
    rw [hc]
    rw [hc] at hx
    clear hu hc hz hx
    go_enter Try.func85, Try.ntmps85
    go_wp2
    go_ret
    exact ⟨by simp, rfl⟩
theorem wrap_nat (x : Nat) : IntKind.u64.wrap (x : Int) = ((x % 18446744073709551616 : Nat) : Int) := by
  simp [IntKind.wrap, IntKind.signed, IntKind.bits]
theorem pow_int (a b : Nat) : ((a : Int) * 2 ^ b) = ((a * 2 ^ b : Nat) : Int) := by simp
theorem div_int (a b : Nat) : (a : Int) / 2 ^ b = ((a / 2 ^ b : Nat) : Int) := by simp
theorem shl_fit (c sh : Nat) (h : c % 128 * 2 ^ sh < 18446744073709551616) : IntKind.u64.wrap ((c : Int) % 128 * 2 ^ min sh 64) = ((c % 128 * 2 ^ sh : Nat) : Int) ∧ ((c % 128 * 2 ^ sh : Nat) : Int) / 2 ^ min sh 64 = (c : Int) % 128 := by
  have e : (c : Int) % 128 = ((c % 128 : Nat) : Int) := by simp
  rw [e, pow_int, wrap_nat, div_int]
  generalize c % 128 = g at *
  by_cases hg : g = 0
  · subst hg; simp
  · have hs : sh < 64 := by
      refine Classical.byContradiction fun hs => ?_
      have h1 : 2 ^ 64 ≤ 2 ^ sh := Nat.pow_le_pow_right (by omega) (by omega)
      have h2 : 2 ^ sh ≤ g * 2 ^ sh := Nat.le_mul_of_pos_left _ (by omega)
      omega
    rw [show min sh 64 = sh by omega, Nat.mod_eq_of_lt h, Nat.mul_div_cancel _ (Nat.pow_pos (by omega))]
    exact ⟨rfl, rfl⟩
theorem shl_not (c sh : Nat) (h : ¬ c % 128 * 2 ^ sh < 18446744073709551616) : ∃ G : Nat, IntKind.u64.wrap ((c : Int) % 128 * 2 ^ min sh 64) = (G : Int) ∧ ¬ (G : Int) / 2 ^ min sh 64 = (c : Int) % 128 := by
  have e : (c : Int) % 128 = ((c % 128 : Nat) : Int) := by simp
  refine ⟨c % 128 * 2 ^ min sh 64 % 18446744073709551616, by rw [e, pow_int, wrap_nat], ?_⟩
  rw [e, div_int]
  have hg : c % 128 ≠ 0 := by
    intro e
    rw [e] at h
    simp at h
  generalize c % 128 = g at *
  by_cases hs : sh < 64
  · rw [show min sh 64 = sh by omega]
    intro e2
    have e3 : g * 2 ^ sh % 18446744073709551616 / 2 ^ sh = g := by exact_mod_cast e2
    have h1 := Nat.div_mul_le_self (g * 2 ^ sh % 18446744073709551616) (2 ^ sh)
    rw [e3] at h1
    have h2 : g * 2 ^ sh % 18446744073709551616 < 18446744073709551616 := Nat.mod_lt _ (by omega)
    omega
  · rw [show min sh 64 = 64 by omega, show (18446744073709551616 : Nat) = 2 ^ 64 by rfl, Nat.mul_mod_left]
    simp
    omega
theorem or_sum (y g j : Nat) (hy : y < 128 ^ j) (hy2 : y < 18446744073709551616) (h : g * 2 ^ (7 * j) < 18446744073709551616) : bits .or .u64 (y : Int) ((g * 2 ^ (7 * j) : Nat) : Int) = ((y + g * 2 ^ (7 * j) : Nat) : Int) ∧ y + g * 2 ^ (7 * j) < 18446744073709551616 := by
  rw [bits_or_u64_nat _ _ hy2 h]
  have hy3 : y < 2 ^ (7 * j) := by rw [Nat.pow_mul]; exact hy
  have h1 := Nat.two_pow_add_eq_or_of_lt (i := 7 * j) (b := y) hy3 g
  rw [Nat.mul_comm _ g] at h1
  refine ⟨by rw [Nat.or_comm, ← h1, Nat.add_comm], ?_⟩
  by_cases hg : g = 0
  · subst hg; simpa using hy2
  · have hs : 7 * j ≤ 64 := by
      refine Classical.byContradiction fun hs => ?_
      have h1 : 2 ^ 64 ≤ 2 ^ (7 * j) := Nat.pow_le_pow_right (by omega) (by omega)
      have h2 : 2 ^ (7 * j) ≤ g * 2 ^ (7 * j) := Nat.le_mul_of_pos_left _ (by omega)
      omega
    have h2 : (18446744073709551616 : Nat) = 2 ^ (64 - 7 * j) * 2 ^ (7 * j) := by rw [← Nat.pow_add, show 64 - 7 * j + 7 * j = 64 by omega]
    rw [h2] at h ⊢
    have h3 : g < 2 ^ (64 - 7 * j) := Nat.lt_of_mul_lt_mul_right h
    have h4 : (g + 1) * 2 ^ (7 * j) ≤ 2 ^ (64 - 7 * j) * 2 ^ (7 * j) := Nat.mul_le_mul_right _ h3
    rw [Nat.add_mul] at h4
    omega
set_option maxHeartbeats 4000000 in
theorem takeGroups_any (w : World) (p q : Nat) (s : ByteArray) (k : Nat) (h : Tk w p q s k) :
    Calls Try.prog 84 #[.func (.func 48) #[] #[.pointer (some ⟨p, 0, none⟩), .pointer (some ⟨q, 0, none⟩)]] w fun e w' => Fr p w w' ∧ ∃ k', Tk w' p q s k' ∧
      ((∃ z : Nat, z < 18446744073709551616 ∧ (Bs.of s).drop k = grp z ++ (Bs.of s).drop k' ∧ e = .returned (.tuple #[.int .u64 (z : Int), .bool true])) ∨ ((∀ (z : Nat) (a : Bs), z < 18446744073709551616 → (Bs.of s).drop k ≠ grp z ++ a) ∧ ∃ y : Int, e = .returned (.tuple #[.int .u64 y, .bool false]))) := by
  have hsz := h.sz
  have hkl := h.le
  have hpl := h.pl
  go_enter Try.func84, Try.ntmps84
  go_wp2
  go_loopw [4, 5] (fun z c wr => ∃ (j sh y : Nat) (B : Bs), c = .int .i64 (sh : Int) ∧ Hid (sh = 7 * j) ∧ z = .int .u64 (y : Int) ∧ Hid (y = val B) ∧ y < 18446744073709551616 ∧ Hid (Big B ∧ B.length = j ∧ (Bs.of s).drop k = B ++ (Bs.of s).drop (k + j)) ∧ Tk wr p q s (k + j) ∧ Fr p w wr) (fun _ c _ => 7 * s.size + 7 - (intOf c).toNat)
  case atStart => exact ⟨0, 0, 0, [], rfl, rfl, rfl, rfl, by omega, ⟨by simp [Big], rfl, rfl⟩, h, Fr.refl _ _⟩
  case round =>
    obtain ⟨j, sh, y, B, rfl, HS, rfl, HY, hy, HB, T, F⟩ := hrel
    clear h
    have hle := T.le
    have hsh : sh ≤ 7000000 := by have := HS.out; omega
    by_cases hk : k + j < s.size
    · obtain ⟨x, hx, ed⟩ := drop_at s (k + j) hk
      have ht := take_next wr p q s (k + j) hk T
      rw [← hx] at ht
      have hxl := UInt8.toNat_lt x
      have HX := hid ed
      clear hx ed
      obtain ⟨c, HC⟩ : ∃ c, Hid (x.toNat = c) := ⟨_, rfl⟩
      rw [HC.out] at ht hxl
      go_wp2_with fail
      refine ht.mono ?_
      rintro e w1 ⟨rfl, T1, F1'⟩
      have F1 := F.trans F1'
      clear T F ht F1'
      have hxl2 : c < 256 := by omega
      have hc := HC.out
      have HV : Hid (val (B ++ [x]) = y + c % 128 * 2 ^ sh) := by
        show _ = _
        rw [val_snoc, ← HY.out, HS.out, Nat.pow_mul, HB.out.2.1, HC.out]
      have HD : Hid ((Bs.of s).drop k = (B ++ [x]) ++ (Bs.of s).drop (k + j + 1)) := by
        show _ = _
        rw [HB.out.2.2, HX.out, List.append_assoc]; rfl
      by_cases hfit : c % 128 * 2 ^ sh < 18446744073709551616
      · obtain ⟨g1, g2⟩ := shl_fit c sh hfit
        have g3 := or_sum y (c % 128) j (by rw [HY.out, ← HB.out.2.1]; exact val_lt B) hy (by rw [← HS.out]; exact hfit)
        rw [← HS.out] at g3
        obtain ⟨g3, g4⟩ := g3
        have HP := hid (show c < 128 → (B = [] ∨ 0 < c) → grp (y + c % 128 * 2 ^ sh) = B ++ [x] from fun h1 h2 => by
          rw [← HV.out]; exact grp_of HB.out.1 (by rw [HC.out]; exact h1) (by rw [HC.out]; exact h2))
        clear hc hfit
        obtain ⟨Y, hY⟩ : ∃ Y, Y = y + c % 128 * 2 ^ sh := ⟨_, rfl⟩
        rw [← hY] at g3 g4 HV HP
        have HY2 := hid hY
        clear hY
        generalize c % 128 * 2 ^ sh = G at *
        by_cases hbig : 128 ≤ c
        · go_wp2
          go_roundw
          case rel => exact ⟨j + 1, sh + 7, Y, B ++ [x], by go_num, by show _ = _; rw [HS.out]; omega, rfl, HV.out.symm, g4, ⟨fun u hu => by
            rcases List.mem_append.1 hu with hu | hu
            · exact HB.out.1 u hu
            · simp at hu; subst hu; rw [HC.out]; exact hbig, by rw [List.length_append, HB.out.2.1]; rfl, HD.out⟩, T1, F1⟩
          case measure => have := HS.out; simp [intOf]; omega
        · have hlt : c < 128 := by omega
          by_cases h0 : 0 < c
          · have HR := hid (show (Bs.of s).drop k = grp Y ++ (Bs.of s).drop (k + j + 1) by rw [HP.out hlt (Or.inr h0)]; exact HD.out)
            clear HP HV
            go_wp2
            exact bodyPost_ret (v := .tuple #[.int .u64 (Y : Int), .bool true]) (by simp [results, Try.results84, go_sem, g3]) rfl ⟨F1, _, T1, Or.inl ⟨Y, g4, HR.out, rfl⟩⟩
          · by_cases hs0 : sh = 0
            · have HR := hid (show (Bs.of s).drop k = grp Y ++ (Bs.of s).drop (k + j + 1) by
                rw [HP.out hlt (Or.inl (List.eq_nil_of_length_eq_zero (by have := HS.out; rw [HB.out.2.1]; omega)))]; exact HD.out)
              clear HP HV
              have hb0 : B = [] := List.eq_nil_of_length_eq_zero (by have := HS.out; rw [HB.out.2.1]; omega)
              have hy0 : y = 0 := by rw [HY.out, hb0]; rfl
              have hc0 : c = 0 := by omega
              have hY0 : Y = 0 := by
                have h1 : bits .or .u64 (y : Int) (G : Int) = 0 := by
                  rw [← g1, hy0, hc0]; simp; decide
                rw [g3] at h1; omega
              rw [hY0] at HR
              have g5 : bits .or .u64 0 0 = 0 := by decide
              clear g1 g2 g3 g4 HY2 hY0 hb0 HY HB HS HX HC HD
              subst hs0
              subst hy0
              subst hc0
              go_wp2
              exact bodyPost_ret (v := .tuple #[.int .u64 ((0 : Nat) : Int), .bool true]) (by simp [results, Try.results84, go_sem, g5]) rfl ⟨F1, _, T1, Or.inl ⟨0, by omega, HR.out, rfl⟩⟩
            · have HNo := hid (show ∀ (z : Nat) (a : Bs), z < 18446744073709551616 → (Bs.of s).drop k ≠ grp z ++ a from fun z a hz e => by
                rw [HB.out.2.2, HX.out] at e
                obtain ⟨_, _, h2⟩ := (grp_next HB.out.1 e).2 (by rw [HC.out]; omega) |>.imp id id
                rcases h2 with h2 | h2
                · have := HB.out.2.1
                  have := HS.out
                  rw [h2] at *
                  simp at *
                  omega
                · rw [HC.out] at h2; omega)
              have hs1 : ((sh : Int) == 0) = false := beq_eq_false_iff_ne.2 (by omega)
              clear HP HV hs0
              go_wp2
              exact bodyPost_ret (v := .tuple #[.int .u64 (Y : Int), .bool false]) (by simp [results, Try.results84, go_sem, g3]) rfl ⟨F1, _, T1, Or.inr ⟨HNo.out, _, rfl⟩⟩
      · obtain ⟨G, g1, g2⟩ := shl_not c sh hfit
        have HNo := hid (show ∀ (z : Nat) (a : Bs), z < 18446744073709551616 → (Bs.of s).drop k ≠ grp z ++ a from fun z a hz e => by
          rw [HB.out.2.2, HX.out] at e
          have h1 := (grp_next HB.out.1 e).1
          rw [HC.out, HB.out.2.1, show (128 : Nat) ^ j = 2 ^ sh by rw [HS.out, Nat.pow_mul]] at h1
          omega)
        clear hfit HV hc
        go_wp2
        exact bodyPost_ret (v := .tuple #[.int .u64 0, .bool false]) (by simp [results, Try.results84, go_sem]) rfl ⟨F1, _, T1, Or.inr ⟨HNo.out, _, rfl⟩⟩
    · have hk' : k + j = s.size := by omega
      have HNo := hid (show ∀ (z : Nat) (a : Bs), z < 18446744073709551616 → (Bs.of s).drop k ≠ grp z ++ a from fun z a hz e => by
        rw [HB.out.2.2, hk', drop_end s _ (Nat.le_refl _), List.append_nil] at e
        exact grp_more HB.out.1 e)
      rw [hk'] at T
      have ht := take_end wr p q s T
      clear hk' hk hle
      go_wp2_with fail
      refine ht.mono ?_
      rintro e w2 ⟨rfl, rfl⟩
      go_wp2
      exact bodyPost_ret (v := .tuple #[.int .u64 0, .bool false]) (by simp [results, Try.results84, go_sem]) rfl ⟨F, _, T, Or.inr ⟨HNo.out, _, rfl⟩⟩
end Go.Proofs.Ytfpifjejooineaa.Rc
