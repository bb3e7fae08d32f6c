/- Take, Shift, RLit. -/
import Derived.Test.YtcdkoadobdgbhaaGreatDoorPk7
import Derived.Test.YtcdkoadobdgbhaaGreatDoorPk5
/- guessDigit, takeTimes, giveBack: a digit of a quotient, taken off a window of the rest, and given back. -/
namespace Go.Proofs.YtcdkoadobdgbhaaGreatDoor
open Go.RowKit
set_option linter.unusedVariables false
set_option maxRecDepth 100000
set_option linter.unusedSimpArgs false

/-- A round of 'takeTimes': S is the row as it stands, P as it was; c is owed. -/
def TakeRel (P S D : List Nat) (n off f k c : Nat) : Prop := S.length = n ∧ Bd S ∧ (∀ j, off + k ≤ j → lg S j = lg P j) ∧ pv S (off + k) + f * pv D k * 4294967296 ^ off = pv P (off + k) + c * 4294967296 ^ (off + k)
theorem take_next (P S D : List Nat) (n off f k c v c' : Nat) (hk : off + k < n) (hv : v < 4294967296) (he : v + f * lg D k + c = lg P (off + k) + c' * 4294967296) (h : TakeRel P S D n off f k c) :
    TakeRel P (S.set (off + k) v) D n off f (k + 1) c' := by
  obtain ⟨h1, h2, h3, h4⟩ := h
  refine ⟨by rw [List.length_set]; exact h1, Bd_set h2 _ _ hv, fun j hj => ?_, ?_⟩
  · rw [lg_set_other S _ _ j (by omega)]; exact h3 j (by omega)
  · rw [← Nat.add_assoc]
    simp only [pv]
    rw [pv_set_past S (off + k) _ (off + k) (Nat.le_refl _), lg_set_same S _ _ (by omega), Nat.pow_succ, Nat.pow_add]
    rw [Nat.pow_add] at h4
    generalize 4294967296 ^ off = p at *
    generalize 4294967296 ^ k = q at *
    have e1 : (v + f * lg D k + c) * (p * q) = (lg P (off + k) + c' * 4294967296) * (p * q) := by rw [he]
    rw [Nat.add_mul, Nat.add_mul, Nat.add_mul] at e1
    have e2 : c' * (p * q * 4294967296) = c' * 4294967296 * (p * q) := by rw [Nat.mul_comm (p * q), ← Nat.mul_assoc]
    have e3 : f * (pv D k + lg D k * q) * p = f * pv D k * p + f * lg D k * (p * q) := by
      rw [Nat.mul_add, Nat.add_mul, ← Nat.mul_assoc, Nat.mul_comm p q, ← Nat.mul_assoc (f * lg D k)]
    rw [e2, e3]
    omega
theorem take_done (P S D : List Nat) (n off f k c v b : Nat) (hk : off + k < n) (hD : D.length = k) (hv : v < 4294967296) (he : v + c = lg P (off + k) + b * 4294967296) (h : TakeRel P S D n off f k c) :
    (S.set (off + k) v).length = n ∧ Bd (S.set (off + k) v) ∧ (∀ j, off + k < j → lg (S.set (off + k) v) j = lg P j) ∧ pv (S.set (off + k) v) (off + k + 1) + f * val D * 4294967296 ^ off = pv P (off + k + 1) + b * 4294967296 ^ (off + k + 1) := by
  obtain ⟨h1, h2, h3, h4⟩ := h
  refine ⟨by rw [List.length_set]; exact h1, Bd_set h2 _ _ hv, fun j hj => ?_, ?_⟩
  · rw [lg_set_other S _ _ j (by omega)]; exact h3 j (by omega)
  · simp only [pv]
    rw [pv_set_past S (off + k) _ (off + k) (Nat.le_refl _), lg_set_same S _ _ (by omega), Nat.pow_succ]
    rw [pv_val D k (by omega)] at h4
    generalize 4294967296 ^ (off + k) = p at *
    have e1 : (v + c) * p = (lg P (off + k) + b * 4294967296) * p := by rw [he]
    rw [Nat.add_mul, Nat.add_mul] at e1
    have e2 : b * (p * 4294967296) = b * 4294967296 * p := by rw [Nat.mul_comm p, ← Nat.mul_assoc]
    rw [e2]
    omega
theorem take_small {f d c : Nat} (hf : f < 4294967296) (hd : d < 4294967296) (hc : c < 4294967296) : f * d + c ≤ 18446744069414584320 := by
  have h1 : f * d ≤ 4294967295 * 4294967295 := Nat.mul_le_mul (by omega) (by omega)
  omega
theorem w64_2 {f d c : Nat} (hf : f < 4294967296) (hd : d < 4294967296) (hc : c < 4294967296) : IntKind.u64.wrap (IntKind.u64.wrap ((f : Int) * (d : Int)) + (c : Int)) = ((f * d + c : Nat) : Int) := by
  have h1 := take_small hf hd hc
  have e0 : (f : Int) * (d : Int) = ((f * d : Nat) : Int) := by simp
  rw [e0]
  generalize f * d = x at *
  have e1 : IntKind.u64.wrap ((x : Nat) : Int) = (x : Int) := w64 _ (by omega) (by omega)
  rw [e1, w64 _ (by omega) (by omega)]; omega
set_option maxHeartbeats 1500000 in
theorem take_any (w : World) (base g n cap off c f gd k cd : Nat) (P D : List Nat) (hP : Bd P) (hD : Bd D) (hPn : P.length = n) (hDk : D.length = k) (hf : f < 4294967296) (hc : k + 1 ≤ c) (hcm : c ≤ 1000000000000)
    (hk : off + k < n) (hkc : k ≤ cd) (hcd : cd ≤ 1000000000000) (hne : gd ≠ g)
    (hown : w.ownsRow base 213 1 (.slice (some ⟨g, 0, none⟩) n cap) n (u32s P)) (hod : w.ownsRow 0 213 1 (.slice (some ⟨gd, 0, none⟩) k cd) k (u32s D)) :
    Calls Tryz.prog 223 #[.slice (some ⟨g, off, none⟩) (k + 1) c, .slice (some ⟨gd, 0, none⟩) k cd, .int .u32 f] w fun e w' => (∃ P' b, b ≤ 1 ∧ e = .returned (.bool (decide (b = 1))) ∧ P'.length = n ∧ Bd P' ∧ (∀ j, off + k < j → lg P' j = lg P j) ∧ pv P' (off + k + 1) + f * val D * 4294967296 ^ off = pv P (off + k + 1) + b * 4294967296 ^ (off + k + 1) ∧ w'.ownsRow base 213 1 (.slice (some ⟨g, 0, none⟩) n cap) n (u32s P')) ∧ w.grownBy w' (some g) := by
  have HP := hid (And.intro hPn hDk)
  clear hPn hDk
  go_enter Tryz.func223, Tryz.ntmps223
  go_wp2
  go_loopw [7, 15] (fun cc i wr => ∃ (j d : Nat) (S : List Nat), j ≤ k ∧ i = .int .i64 j ∧ cc = .int .u64 d ∧ d < 4294967296 ∧ TakeRel P S D n off f j d ∧ wr.ownsRow base 213 1 (.slice (some ⟨g, 0, none⟩) n cap) n (u32s S) ∧ w.grownBy wr (some g)) (fun _ i _ => k - (intOf i).toNat)
  case atStart => exact ⟨0, 0, P, Nat.zero_le _, rfl, rfl, by omega, ⟨HP.out.1, hP, fun j _ => rfl, by simp [pv]⟩, hown, World.grownBy.refl _ _⟩
  case round =>
    obtain ⟨j, d, S, hj, rfl, rfl, hd, hR, hown', hgr⟩ := hrel
    have hod' : wr.ownsRow 0 213 1 (.slice (some ⟨gd, 0, none⟩) k cd) k (u32s D) := hod.kept hgr (Or.inr (by simp [Value.ownBlock]; exact hne))
    have HR := hid hR
    clear hR hown
    by_cases hlt : j < k
    · have c1 := u32s_at hod' j (by have := HP.out.2; omega)
      have c2 := u32s_at hown' (off + j) (by have := HR.out.1; omega)
      rw [HR.out.2.2.1 (off + j) (Nat.le_refl _)] at c2
      have fr := hown'.frozenAt (off + j)
      have b1 := hD j
      have b2 := hP (off + j)
      have HN := hid (fun v c' => take_next P S D n off f j d v c' (by omega))
      have hT := take_small hf b1 hd
      have hW := w64_2 hf b1 hd
      have HO := hid (show ∀ v : Nat, (wr.setCell ⟨g, off + j, none⟩ (.int .u32 (v : Int))).ownsRow base 213 1 (.slice (some ⟨g, 0, none⟩) n cap) n (u32s (S.set (off + j) v)) ∧ w.grownBy (wr.setCell ⟨g, off + j, none⟩ (.int .u32 (v : Int))) (some g) from fun v => by
        have O1 := hown'.stored (off + j) (.int .u32 (v : Int))
        rw [← u32s_set] at O1
        exact ⟨O1.1, grown_trans hgr O1.2⟩)
      clear hown' hod' hP hD
      obtain ⟨T, hTe⟩ : ∃ T, f * lg D j + d = T := ⟨_, rfl⟩
      have HE := hid (show f * lg D j + d = T from hTe)
      rw [hTe] at hT hW
      clear hTe
      obtain ⟨y, hy⟩ : ∃ y, lg D j = y := ⟨_, rfl⟩
      rw [hy] at c1 b1 hW
      have HY := hid hy
      obtain ⟨x, hx⟩ : ∃ x, lg P (off + j) = x := ⟨_, rfl⟩
      rw [hx] at c2 b2
      have HX := hid hx
      clear hy hx
      by_cases hb : x < T % 4294967296
      · have hb' : (x : Int) < (T : Int) % 4294967296 := by omega
        go_wp2
        have O := HO.out (x + 4294967296 - T % 4294967296)
        rw [show (((x + 4294967296 - T % 4294967296 : Nat)) : Int) = ((x : Int) - (T : Int)) % 4294967296 by omega] at O
        go_roundw
        case rel => exact ⟨j + 1, T / 4294967296 + 1, S.set (off + j) (x + 4294967296 - T % 4294967296), by omega, by go_num, by go_num, by omega, HN.out _ _ (by omega) (by have := HE.out; have := HX.out; omega) HR.out, O.1, O.2⟩
        case measure => simp [intOf]; omega
      · have hb' : ¬ (x : Int) < (T : Int) % 4294967296 := by omega
        go_wp2
        have O := HO.out (x - T % 4294967296)
        rw [show (((x - T % 4294967296 : Nat)) : Int) = (x : Int) - (T : Int) % 4294967296 by omega] at O
        go_roundw
        case rel => exact ⟨j + 1, T / 4294967296, S.set (off + j) (x - T % 4294967296), by omega, by go_num, by go_num, by omega, HN.out _ _ (by omega) (by have := HE.out; have := HX.out; omega) HR.out, O.1, O.2⟩
        case measure => simp [intOf]; omega
    · have hjk : j = k := by omega
      have fr := hown'.frozenAt (off + k)
      have c2 := u32s_at hown' (off + k) (by have := HR.out.1; omega)
      have HJ := hid hjk
      clear hod' hjk
      have hx := HR.out.2.1 (off + k)
      have HE := hid (HR.out.2.2.1 (off + k) (by omega))
      have HO := hid (show ∀ v : Nat, (wr.setCell ⟨g, off + k, none⟩ (.int .u32 (v : Int))).ownsRow base 213 1 (.slice (some ⟨g, 0, none⟩) n cap) n (u32s (S.set (off + k) v)) ∧ w.grownBy (wr.setCell ⟨g, off + k, none⟩ (.int .u32 (v : Int))) (some g) from fun v => by
        have O1 := hown'.stored (off + k) (.int .u32 (v : Int))
        rw [← u32s_set] at O1
        exact ⟨O1.1, grown_trans hgr O1.2⟩)
      have HD := hid (fun v b (hv : v < 4294967296) (he : v + d = lg P (off + k) + b * 4294967296) => take_done P S D n off f k d v b hk HP.out.2 hv he (by have := HR.out; rw [HJ.out] at this; exact this))
      clear hown'
      generalize lg S (off + k) = x at *
      by_cases hb : x < d
      · go_wp2
        have O := HO.out (x + 4294967296 - d)
        rw [show ((x + 4294967296 - d : Nat) : Int) = ((x : Int) - (d : Int)) % 4294967296 by omega] at O
        have R := HD.out (x + 4294967296 - d) 1 (by omega) (by have := HE.out; omega)
        go_ret
        exact ⟨⟨S.set (off + k) (x + 4294967296 - d), 1, by omega, rfl, R.1, R.2.1, R.2.2.1, R.2.2.2, O.1⟩, O.2⟩
      · go_wp2
        have O := HO.out (x - d)
        rw [show ((x - d : Nat) : Int) = (x : Int) - (d : Int) by omega] at O
        have R := HD.out (x - d) 0 (by omega) (by have := HE.out; omega)
        go_ret
        exact ⟨⟨S.set (off + k) (x - d), 0, by omega, rfl, R.1, R.2.1, R.2.2.1, R.2.2.2, O.1⟩, O.2⟩
theorem give_done (P S D : List Nat) (n off k d v b : Nat) (hk : off + k < n) (hD : D.length = k) (hv : v < 4294967296) (he : v + b * 4294967296 = lg P (off + k) + d) (h : TimesRel P S D n off 1 k d) :
    (S.set (off + k) v).length = n ∧ Bd (S.set (off + k) v) ∧ (∀ j, off + k < j → lg (S.set (off + k) v) j = lg P j) ∧ pv (S.set (off + k) v) (off + k + 1) + b * 4294967296 ^ (off + k + 1) = pv P (off + k + 1) + val D * 4294967296 ^ off := by
  obtain ⟨h1, h2, h3, h4⟩ := h
  refine ⟨by rw [List.length_set]; exact h1, Bd_set h2 _ _ hv, fun j hj => ?_, ?_⟩
  · rw [lg_set_other S _ _ j (by omega)]; exact h3 j (by omega)
  · simp only [pv]
    rw [pv_set_past S (off + k) _ (off + k) (Nat.le_refl _), lg_set_same S _ _ (by omega), Nat.pow_succ]
    rw [pv_val D k (by omega), Nat.one_mul] at h4
    generalize 4294967296 ^ (off + k) = p at *
    have e1 : (v + b * 4294967296) * p = (lg P (off + k) + d) * p := by rw [he]
    rw [Nat.add_mul, Nat.add_mul] at e1
    have e2 : b * (p * 4294967296) = b * 4294967296 * p := by rw [Nat.mul_comm p, ← Nat.mul_assoc]
    rw [e2]
    omega
set_option maxHeartbeats 1500000 in
theorem give_any (w : World) (base g n cap off c gd k cd : Nat) (P D : List Nat) (hP : Bd P) (hD : Bd D) (hPn : P.length = n) (hDk : D.length = k) (hc : k + 1 ≤ c) (hcm : c ≤ 1000000000000)
    (hk : off + k < n) (hkc : k ≤ cd) (hcd : cd ≤ 1000000000000) (hne : gd ≠ g)
    (hown : w.ownsRow base 213 1 (.slice (some ⟨g, 0, none⟩) n cap) n (u32s P)) (hod : w.ownsRow 0 213 1 (.slice (some ⟨gd, 0, none⟩) k cd) k (u32s D)) :
    Calls Tryz.prog 224 #[.slice (some ⟨g, off, none⟩) (k + 1) c, .slice (some ⟨gd, 0, none⟩) k cd] w fun e w' => (∃ P' b, b ≤ 1 ∧ e = .returned (.bool (decide (b = 0))) ∧ P'.length = n ∧ Bd P' ∧ (∀ j, off + k < j → lg P' j = lg P j) ∧ pv P' (off + k + 1) + b * 4294967296 ^ (off + k + 1) = pv P (off + k + 1) + val D * 4294967296 ^ off ∧ w'.ownsRow base 213 1 (.slice (some ⟨g, 0, none⟩) n cap) n (u32s P')) ∧ w.grownBy w' (some g) := by
  have HP := hid (And.intro hPn hDk)
  clear hPn hDk
  go_enter Tryz.func224, Tryz.ntmps224
  go_wp2
  go_loopw [5, 12] (fun cc i wr => ∃ (j d : Nat) (S : List Nat), j ≤ k ∧ i = .int .i64 j ∧ cc = .int .u64 d ∧ d ≤ 1 ∧ TimesRel P S D n off 1 j d ∧ wr.ownsRow base 213 1 (.slice (some ⟨g, 0, none⟩) n cap) n (u32s S) ∧ w.grownBy wr (some g)) (fun _ i _ => k - (intOf i).toNat)
  case atStart => exact ⟨0, 0, P, Nat.zero_le _, rfl, rfl, by omega, ⟨HP.out.1, hP, fun j _ => rfl, by simp [pv]⟩, hown, World.grownBy.refl _ _⟩
  case round =>
    obtain ⟨j, d, S, hj, rfl, rfl, hd, hR, hown', hgr⟩ := hrel
    have hod' : wr.ownsRow 0 213 1 (.slice (some ⟨gd, 0, none⟩) k cd) k (u32s D) := hod.kept hgr (Or.inr (by simp [Value.ownBlock]; exact hne))
    have HR := hid hR
    clear hR hown
    by_cases hlt : j < k
    · have c1 := u32s_at hod' j (by have := HP.out.2; omega)
      have c2 := u32s_at hown' (off + j) (by have := HR.out.1; omega)
      rw [HR.out.2.2.1 (off + j) (Nat.le_refl _)] at c2
      have fr := hown'.frozenAt (off + j)
      have b1 := hD j
      have b2 := hP (off + j)
      have HN := hid (times_next P S D n off 1 j d (by omega) HR.out)
      have HO := hid (show ∀ q, ((wr.drewN q).setCell ⟨g, off + j, none⟩ (.int .u32 (((1 * lg D j + lg P (off + j) + d) % 4294967296 : Nat) : Int))).ownsRow base 213 1 (.slice (some ⟨g, 0, none⟩) n cap) n (u32s (S.set (off + j) ((1 * lg D j + lg P (off + j) + d) % 4294967296))) ∧ w.grownBy ((wr.drewN q).setCell ⟨g, off + j, none⟩ (.int .u32 (((1 * lg D j + lg P (off + j) + d) % 4294967296 : Nat) : Int))) (some g) from fun q => by
        have O1 := (own_drewN hown' q).stored (off + j) (.int .u32 (((1 * lg D j + lg P (off + j) + d) % 4294967296 : Nat) : Int))
        rw [← u32s_set] at O1
        exact ⟨O1.1, grown_trans (grown_drewN hgr q) O1.2⟩)
      clear hown' hod' hP hD
      generalize lg D j = y at *
      generalize lg P (off + j) = x at *
      go_wp2
      go_quiet (fail)
      have O := HO.out
      rw [show (((1 * y + x + d) % 4294967296 : Nat) : Int) = ((x : Int) + (y : Int) + (d : Int)) % 4294967296 by omega] at O
      go_wp2
      go_roundw
      case rel => exact ⟨j + 1, (1 * y + x + d) / 4294967296, S.set (off + j) ((1 * y + x + d) % 4294967296), by omega, by go_num, by go_num, by omega, HN.out, (O _).1, (O _).2⟩
      case measure => simp [intOf]; omega
    · have hjk : j = k := by omega
      have fr := hown'.frozenAt (off + k)
      have c2 := u32s_at hown' (off + k) (by have := HR.out.1; omega)
      have HJ := hid hjk
      clear hod' hjk
      have hx := HR.out.2.1 (off + k)
      have HE := hid (HR.out.2.2.1 (off + k) (by omega))
      have O1 := hown'.stored (off + k) (.int .u32 (((lg S (off + k) + d) % 4294967296 : Nat) : Int))
      rw [← u32s_set] at O1
      have HO := hid O1
      have HD := hid (fun v b (hv : v < 4294967296) (he : v + b * 4294967296 = lg P (off + k) + d) => give_done P S D n off k d v b hk HP.out.2 hv he (by have := HR.out; rw [HJ.out] at this; exact this))
      clear hown' O1
      generalize lg S (off + k) = x at *
      go_wp2
      have O := HO.out
      rw [show (((x + d) % 4294967296 : Nat) : Int) = ((x : Int) + (d : Int)) % 4294967296 by omega] at O
      have R := HD.out ((x + d) % 4294967296) ((x + d) / 4294967296) (by omega) (by have := HE.out; omega)
      go_ret
      refine ⟨⟨S.set (off + k) ((x + d) % 4294967296), (x + d) / 4294967296, by omega, ?_, R.1, R.2.1, R.2.2.1, R.2.2.2, O.1⟩, grown_trans hgr O.2⟩
      have hq : decide ((x + d) / 4294967296 = 0) = decide ((x : Int) + (d : Int) ≤ 4294967295) := decide_eq_decide.2 (by omega)
      rw [hq]; rfl
set_option maxHeartbeats 1000000 in
theorem guess_any (w : World) (base g n cap off c gd K m cd : Nat) (P D : List Nat) (hP : Bd P) (hD : Bd D) (hPn : P.length = n) (hDk : D.length = K) (hKm : K = m + 1) (hc : K + 1 ≤ c) (hcm : c ≤ 1000000000000)
    (hk : off + K < n) (hkc : K ≤ cd) (hcd : cd ≤ 1000000000000) (hd0 : lg D m ≠ 0)
    (hown : w.ownsRow base 213 1 (.slice (some ⟨g, 0, none⟩) n cap) n (u32s P)) (hod : w.ownsRow 0 213 1 (.slice (some ⟨gd, 0, none⟩) K cd) K (u32s D)) :
    Calls Tryz.prog 222 #[.slice (some ⟨g, off, none⟩) (K + 1) c, .slice (some ⟨gd, 0, none⟩) K cd] w fun e w' => e = .returned (.int .u32 ((min ((lg P (off + K) * 4294967296 + lg P (off + m)) / lg D m) 4294967295 : Nat) : Int)) ∧ ∃ q, w' = w.drewN q := by
  have c1 := u32s_at hown (off + m) (by omega)
  have c3 := u32s_at hown (off + K) (by omega)
  have c2 := u32s_at hod m (by omega)
  have b1 := hP (off + m)
  have b2 := hP (off + K)
  have b3 := hD m
  have OS := or_sum (lg P (off + K)) (lg P (off + m)) b2 b1
  have hT : lg P (off + K) * 4294967296 + lg P (off + m) < 18446744073709551616 := by omega
  have hm : (K : Int) - 1 = (m : Int) := by omega
  have hm2 : m < K := by omega
  clear hown hod hPn hDk hP hD hKm
  generalize lg P (off + m) = x at *
  generalize lg P (off + K) = y at *
  generalize lg D m = z at *
  generalize y * 4294967296 + x = T at *
  have e1 : ((T : Nat) : Int).tdiv (z : Int) = ((T / z : Nat) : Int) := by rw [Int.tdiv_eq_ediv_of_nonneg (by omega)]; omega
  have hQ : T / z ≤ T := Nat.div_le_self _ _
  obtain ⟨Q, hQe⟩ : ∃ Q, T / z = Q := ⟨_, rfl⟩
  rw [hQe] at e1 hQ ⊢
  clear hQe
  rcases (show Q < 4294967295 ∨ 4294967295 < Q ∨ Q = 4294967295 by omega) with hc1 | hc1 | hc1
  · rw [show min Q 4294967295 = Q by omega]
    go_enter Tryz.func222, Tryz.ntmps222
    go_wp2
    go_quiet (fail)
    go_wp2
    go_ret
    exact ⟨rfl, _, rfl⟩
  · rw [show min Q 4294967295 = 4294967295 by omega]
    go_enter Tryz.func222, Tryz.ntmps222
    go_wp2
    go_quiet (fail)
    go_wp2
    go_ret
    exact ⟨rfl, _, rfl⟩
  · subst hc1
    go_enter Tryz.func222, Tryz.ntmps222
    go_wp2
    go_quiet (fail)
    go_wp2
    go_ret
    exact ⟨rfl, _, rfl⟩
end Go.Proofs.YtcdkoadobdgbhaaGreatDoor
/- shiftUp, shiftDown: limbs moved by some bits. -/
namespace Go.Proofs.YtcdkoadobdgbhaaGreatDoor
open Go.RowKit
set_option linter.unusedVariables false
set_option maxRecDepth 100000
set_option linter.unusedSimpArgs false

theorem up_or (x s d : Nat) (hx : x < 4294967296) (hs : s ≤ 31) (hd : d < 2 ^ s) : bits .or .u64 (IntKind.u64.wrap ((x : Int) * 2 ^ s)) (d : Int) = ((x * 2 ^ s + d : Nat) : Int) ∧ x * 2 ^ s + d < 4294967296 * 2 ^ s := by
  have hp : (2 : Nat) ^ s ≤ 2 ^ 31 := Nat.pow_le_pow_right (by omega) hs
  have hm : x * 2 ^ s ≤ 4294967295 * 2 ^ s := Nat.mul_le_mul_right _ (by omega)
  have e : (x : Int) * 2 ^ s = ((x * 2 ^ s : Nat) : Int) := by simp
  rw [e]
  have h1 : x * 2 ^ s < 18446744073709551616 := by omega
  rw [w64 _ (by omega) (by omega), bits_or_u64_nat _ _ (by omega) (by omega)]
  have := Nat.two_pow_add_eq_or_of_lt (i := s) (b := d) hd x
  rw [Nat.mul_comm x (2 ^ s)]
  refine ⟨congrArg _ this.symm, ?_⟩
  rw [Nat.mul_comm (2 ^ s) x]; omega
def UpRel (L S : List Nat) (n s k d : Nat) : Prop := S.length = n + 1 ∧ Bd S ∧ d < 2 ^ s ∧ pv S k + d * 4294967296 ^ k = pv L k * 2 ^ s
set_option maxHeartbeats 1000000 in
theorem shiftUp_any (w : World) (g n cap s : Nat) (L : List Nat) (hb : Bd L) (hl : L.length = n) (hn : n ≤ 1000000000) (hcap : n ≤ cap) (hcm : cap ≤ maxLen) (hs : s ≤ 31) (hown : w.ownsRow 0 213 1 (.slice (some ⟨g, 0, none⟩) n cap) n (u32s L)) :
    Calls Tryz.prog 221 #[.slice (some ⟨g, 0, none⟩) n cap, .int .i64 s] w fun e w' => e = .returned (.slice (some ⟨w.heap.size, 0, none⟩) (n + 1) (n + 1)) ∧ (∃ M, M.length = n + 1 ∧ Bd M ∧ val M = val L * 2 ^ s ∧ w'.ownsRow w.heap.size 213 1 (.slice (some ⟨w.heap.size, 0, none⟩) (n + 1) (n + 1)) (n + 1) (u32s M)) ∧ Below w.heap.size w w' := by
  obtain ⟨i0, hi, hz0, hz1, hz2⟩ := info_parts Tryz.info213
  have HF := hid hl
  clear hl
  unfold maxLen at hcm
  go_enter Tryz.func221, Tryz.ntmps221
  go_wp2_with (first | (at_make; refine wpList_make_full _ rfl _ _ 67 rfl w.heap.size 213 i0 (.int .u32 0) 1 Tryz.underlying67 hi hz0 hz1 _ _ _ _ (n + 1) rfl rfl (by omega) (by omega) (by rw [hz2]; omega) (by unfold maxLen; omega) (Nat.le_refl _) ?_))
  intro w1 hown1 hgrow
  have hb1 : Below w.heap.size w w1 := (Below.refl w.heap.size w).grown hgrow (Nat.le_refl _) (by intro k hk; simp at hk)
  rw [toList_madeCells_one, ← u32s_rep] at hown1
  clear hgrow
  go_wp2
  go_loopw [6, 15] (fun c i wr => ∃ (k d : Nat) (S : List Nat), k ≤ n ∧ i = .int .i64 k ∧ c = .int .u64 d ∧ UpRel L S n s k d ∧
        wr.ownsRow w.heap.size 213 1 (.slice (some ⟨w.heap.size, 0, none⟩) (n + 1) (n + 1)) (n + 1) (u32s S) ∧ Below w.heap.size w wr) (fun _ i _ => n - (intOf i).toNat)
  case atStart => exact ⟨0, 0, List.replicate (n + 1) 0, Nat.zero_le _, rfl, rfl, ⟨by simp, Bd_rep _, Nat.two_pow_pos s, by simp [pv]⟩, hown1, hb1⟩
  case round =>
    obtain ⟨k, d, S, hk, rfl, rfl, hR, hown', hbel⟩ := hrel
    have R := hid hR
    clear hR hown1 hb1
    by_cases hlt : k < n
    · have hst := u32s_at (ownsRow_below hown hbel) k (by have := HF.out; omega)
      have hs2 := u32s_at hown' k (by have := R.out.1; omega)
      have hfr := hown'.frozenAt k
      have hx := hb k
      have hp : (2 : Nat) ^ s ≤ 2 ^ 31 := Nat.pow_le_pow_right (by omega) hs
      have hd := R.out.2.2.1
      obtain ⟨O1, O2⟩ := up_or (lg L k) s d hx hs hd
      have HN := hid (scale_round L S (2 ^ s) 0 k d (by have := R.out.1; omega) (by have := R.out.2.2.2; omega))
      have HO := hid O1
      have hT : lg L k * 2 ^ s + d < 9223372036854775808 := by omega
      have hq : (lg L k * 2 ^ s + d) / 4294967296 < 2 ^ s := by rw [Nat.div_lt_iff_lt_mul (by omega)]; have := O2; omega
      have own3 := hown'.stored k (.int .u32 (((lg L k * 2 ^ s + d) % 4294967296 : Nat) : Int))
      rw [← u32s_set] at own3
      have HW := hid own3
      have HQ := hid hq
      have HT := hid hT
      clear own3 O1 O2 hq hT hp hd hown'
      go_wp2
      rw [HO.out]
      have hT := HT.out
      have hq := HQ.out
      generalize lg L k * 2 ^ s + d = T at *
      have O := HW.out
      rw [show ((T % 4294967296 : Nat) : Int) = (T : Int) % 4294967296 by omega] at O
      go_roundw
      case rel => exact ⟨k + 1, T / 4294967296, S.set k (T % 4294967296), by omega, by go_num, by go_num, ⟨by rw [List.length_set]; exact R.out.1, Bd_set R.out.2.1 _ _ (by omega), hq, by have := HN.out; omega⟩, O.1, hbel.setCell (Nat.le_refl _) _⟩
      case measure => simp [intOf]; omega
    · have hk' : k = n := by omega
      have fr := hown'.frozenAt n
      have c2 := u32s_at hown' n (by have := R.out.1; omega)
      have hd : d < 4294967296 := by
        have := R.out.2.2.1
        have hp : (2 : Nat) ^ s ≤ 2 ^ 31 := Nat.pow_le_pow_right (by omega) hs
        omega
      have O := hown'.stored n (.int .u32 (d : Int))
      rw [← u32s_set] at O
      have HO := hid O
      have HK := hid hk'
      clear O hown' hk'
      go_wp2
      go_ret
      obtain ⟨r1, r2, r3, r4⟩ := R.out
      rw [HK.out] at r4
      refine ⟨rfl, ⟨S.set n d, by rw [List.length_set]; exact r1, Bd_set r2 _ _ hd, ?_, HO.out.1⟩, hbel.setCell (Nat.le_refl _) _⟩
      have e1 : val (S.set n d) = pv (S.set n d) (n + 1) := (pv_val _ _ (by rw [List.length_set]; omega)).symm
      rw [e1]
      simp only [pv]
      rw [pv_set_past S n d n (Nat.le_refl _), lg_set_same S n d (by omega), r4, pv_val L n (by have := HF.out; omega)]
/-- A round of 'shiftDown': k limbs from the top are moved. -/
def DownRel (L S : List Nat) (n s k a : Nat) : Prop := S.length = n ∧ Bd S ∧ (∀ j, j < n - k → lg S j = lg L j) ∧ ∃ H, a % 4294967296 = H % 4294967296 ∧ val L = pv L (n - k) + H * 4294967296 ^ (n - k) ∧ pv S n = pv L (n - k) + H / 2 ^ s * 4294967296 ^ (n - k)
theorem down_limb (H x s : Nat) (hs : s ≤ 31) (hx : x < 4294967296) : (H * 4294967296 + x) / 2 ^ s = H / 2 ^ s * 4294967296 + (H % 4294967296 * 4294967296 + x) / 2 ^ s % 4294967296 := by
  obtain ⟨t, ht⟩ : ∃ t, s + t = 32 := ⟨32 - s, by omega⟩
  have hB : (4294967296 : Nat) = 2 ^ s * 2 ^ t := by rw [← Nat.pow_add, ht]
  have hp := Nat.two_pow_pos s
  have hdm := Nat.div_add_mod H 4294967296
  generalize H / 4294967296 = q at *
  generalize H % 4294967296 = r at *
  subst hdm
  have e1 : ((4294967296 * q + r) * 4294967296 + x) / 2 ^ s = q * 2 ^ t * 4294967296 + (r * 4294967296 + x) / 2 ^ s := by
    have : (4294967296 * q + r) * 4294967296 + x = (r * 4294967296 + x) + 2 ^ s * (q * 2 ^ t * 4294967296) := by
      rw [Nat.add_mul]
      have : 2 ^ s * (q * 2 ^ t * 4294967296) = (2 ^ s * 2 ^ t) * q * 4294967296 := by
        rw [← Nat.mul_assoc, ← Nat.mul_assoc, Nat.mul_comm (2 ^ s) q, Nat.mul_assoc q, Nat.mul_comm q]
      rw [this, ← hB]; omega
    rw [this, Nat.add_mul_div_left _ _ hp]; omega
  have e2 : (4294967296 * q + r) / 2 ^ s = q * 2 ^ t + r / 2 ^ s := by
    have : 4294967296 * q + r = r + 2 ^ s * (q * 2 ^ t) := by
      have : 2 ^ s * (q * 2 ^ t) = (2 ^ s * 2 ^ t) * q := by rw [Nat.mul_comm q, ← Nat.mul_assoc]
      rw [this, ← hB]; omega
    rw [this, Nat.add_mul_div_left _ _ hp]; omega
  have e3 : (r * 4294967296 + x) / 2 ^ s = r / 2 ^ s * 4294967296 + (r * 4294967296 + x) / 2 ^ s % 4294967296 := by
    have h1 : (r * 4294967296 + x) / 2 ^ s / 4294967296 = r / 2 ^ s := by
      rw [Nat.div_div_eq_div_mul, Nat.mul_comm (2 ^ s), ← Nat.div_div_eq_div_mul]
      rw [show (r * 4294967296 + x) / 4294967296 = r by rw [Nat.mul_comm, Nat.mul_add_div (by decide), Nat.div_eq_of_lt hx, Nat.add_zero]]
    have h2 := Nat.div_add_mod ((r * 4294967296 + x) / 2 ^ s) 4294967296
    rw [h1, Nat.mul_comm] at h2
    exact h2.symm
  rw [e1, e2, e3, Nat.add_mul]; omega
theorem down_or (a x : Nat) (ha : a < 18446744073709551616) (hx : x < 4294967296) : bits .or .u64 (IntKind.u64.wrap ((a : Int) * 4294967296)) (x : Int) = ((a % 4294967296 * 4294967296 + x : Nat) : Int) := by
  have e : IntKind.u64.wrap ((a : Int) * 4294967296) = ((a % 4294967296 : Nat) : Int) * 4294967296 := by rw [IntKind.wrap_u64]; omega
  rw [e]
  exact or_sum (a % 4294967296) x (Nat.mod_lt _ (by decide)) hx
theorem down_next (L S : List Nat) (n s k a m : Nat) (hL : L.length = n) (hm : m + 1 + k = n) (hs : s ≤ 31) (hb : Bd L) (h : DownRel L S n s k a) :
    DownRel L (S.set m ((a % 4294967296 * 4294967296 + lg L m) / 2 ^ s % 4294967296)) n s (k + 1) (a % 4294967296 * 4294967296 + lg L m) := by
  obtain ⟨h1, h2, h3, H, h4, h5, h6⟩ := h
  have hx := hb m
  have e2 : n - k = m + 1 := by omega
  have e3 : n - (k + 1) = m := by omega
  rw [e2] at h3 h5 h6
  have hq := Nat.mod_lt ((a % 4294967296 * 4294967296 + lg L m) / 2 ^ s) (show 0 < 4294967296 by decide)
  refine ⟨by rw [List.length_set]; exact h1, Bd_set h2 _ _ hq, fun j hj => ?_, H * 4294967296 + lg L m, ?_, ?_, ?_⟩
  · rw [e3] at hj
    rw [lg_set_other S m _ j (by omega)]; exact h3 j (by omega)
  · rw [Nat.add_comm, Nat.add_comm (H * _), Nat.add_mul_mod_self_right, Nat.add_mul_mod_self_right]
  · rw [e3, h5]
    simp only [pv]
    rw [Nat.pow_succ, Nat.add_mul, Nat.mul_assoc, Nat.mul_comm 4294967296 (4294967296 ^ m), Nat.add_assoc, Nat.add_comm (lg L m * _)]
  · rw [e3, down_limb H (lg L m) s hs hx, ← h4]
    have e1 := pv_set_in S m ((a % 4294967296 * 4294967296 + lg L m) / 2 ^ s % 4294967296) n (by omega) (by omega)
    rw [h3 m (by omega), h6] at e1
    simp only [pv] at e1
    generalize (a % 4294967296 * 4294967296 + lg L m) / 2 ^ s % 4294967296 = q at *
    rw [Nat.pow_succ] at e1
    rw [Nat.add_mul, Nat.mul_assoc, Nat.mul_comm 4294967296 (4294967296 ^ m)]
    omega
set_option maxHeartbeats 1000000 in
theorem shiftDown_any (w : World) (base g n cap s : Nat) (L : List Nat) (hb : Bd L) (hl : L.length = n) (hn : n ≤ 1000000001) (hcap : n ≤ cap) (hcm : cap ≤ maxLen) (hs : s ≤ 31) (hown : w.ownsRow base 213 1 (.slice (some ⟨g, 0, none⟩) n cap) n (u32s L)) :
    Calls Tryz.prog 225 #[.slice (some ⟨g, 0, none⟩) n cap, .int .i64 s] w fun e w' => e = .returned (.tuple #[]) ∧ (∃ M, M.length = n ∧ Bd M ∧ val M = val L / 2 ^ s ∧ w'.ownsRow base 213 1 (.slice (some ⟨g, 0, none⟩) n cap) n (u32s M)) ∧ w.grownBy w' (some g) := by
  have HF := hid hl
  clear hl
  unfold maxLen at hcm
  go_enter Tryz.func225, Tryz.ntmps225
  go_wp2
  go_loopw [4, 11] (fun c i wr => ∃ (k a : Nat) (S : List Nat), k ≤ n ∧ i = .int .i64 k ∧ c = .int .u64 a ∧ a < 18446744073709551616 ∧ DownRel L S n s k a ∧
        wr.ownsRow base 213 1 (.slice (some ⟨g, 0, none⟩) n cap) n (u32s S) ∧ w.grownBy wr (some g)) (fun _ i _ => n - (intOf i).toNat)
  case atStart => exact ⟨0, 0, L, Nat.zero_le _, rfl, rfl, by omega, ⟨HF.out, hb, fun j _ => rfl, 0, rfl, by rw [Nat.sub_zero, pv_val L n (by have := HF.out; omega)]; omega, by rw [Nat.sub_zero]; simp⟩, hown, World.grownBy.refl _ _⟩
  case round =>
    obtain ⟨k, a, S, hk, rfl, rfl, ha, hR, hown', hgr⟩ := hrel
    have R := hid hR
    clear hR hown
    by_cases hlt : k < n
    · obtain ⟨m, hm⟩ : ∃ m : Nat, (n : Int) - 1 - k = m := ⟨n - 1 - k, by omega⟩
      have hm' : m < n := by omega
      have hst := u32s_at hown' m (by have := R.out.1; omega)
      rw [R.out.2.2.1 m (by omega)] at hst
      have hfr := hown'.frozenAt m
      have hx := hb m
      have N := hid (down_next L S n s k a m HF.out (by omega) hs hb R.out)
      have OS := hid (down_or a (lg L m) ha hx)
      have O := hown'.stored m (.int .u32 (((a % 4294967296 * 4294967296 + lg L m) / 2 ^ s % 4294967296 : Nat) : Int))
      rw [← u32s_set] at O
      have HO := hid O
      have HT := hid (show a % 4294967296 * 4294967296 + lg L m < 18446744073709551616 by omega)
      clear O hown'
      generalize lg L m = x at *
      go_wp2
      rw [OS.out]
      have hT := HT.out
      generalize a % 4294967296 * 4294967296 + x = T at *
      have O := HO.out
      rw [show ((T / 2 ^ s % 4294967296 : Nat) : Int) = (T : Int) / 2 ^ s % 4294967296 by simp] at O
      go_roundw
      case rel => exact ⟨k + 1, T, S.set m (T / 2 ^ s % 4294967296), by omega, by go_num, rfl, hT, N.out, O.1, grown_trans hgr O.2⟩
      case measure => simp [intOf]; omega
    · have hk' : k = n := by omega
      have HK := hid hk'
      clear hk'
      go_wp2
      go_end0
      obtain ⟨r1, r2, r3, H, r4, r5, r6⟩ := R.out
      rw [HK.out, Nat.sub_self] at r5 r6
      simp only [pv, Nat.pow_zero, Nat.mul_one, Nat.zero_add] at r5 r6
      exact ⟨rfl, ⟨S, r1, r2, by rw [r5, ← r6]; exact (pv_val S n (by omega)).symm, hown'⟩, hgr⟩
end Go.Proofs.YtcdkoadobdgbhaaGreatDoor
/- The document's Of at a literal. -/
namespace Go.Proofs.YtcdkoadobdgbhaaGreatDoor
open Go.RowKit
set_option linter.unusedVariables false
theorem rof_lit (n : Nat) (z : Int) (hz : z = (n : Int)) (hn : n < 18446744073709551616) (w : World) :
    Calls Tryz.prog 67 #[.int .u64 z] w fun e w' => ∃ v, e = .returned v ∧ RefIs w' v n 3 ∧ Below w.heap.size w w' := by
  subst hz; exact rof_any n hn w
end Go.Proofs.YtcdkoadobdgbhaaGreatDoor
