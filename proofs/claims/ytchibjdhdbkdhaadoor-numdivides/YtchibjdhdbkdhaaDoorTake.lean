/- guessDigit, takeTimes, giveBack: a digit of a quotient, taken off a window of the rest, and given back. -/
import Derived.Test.YtchibjdhdbkdhaaDoorTimes
import Derived.Test.YtchibjdhdbkdhaaDoorDivLimb
namespace Go.Proofs.YtchibjdhdbkdhaaDoor
open Go.RowKit
set_option linter.unusedVariables false
set_option maxRecDepth 100000
set_option linter.unusedSimpArgs false

/-- A round of 'takeTimes': S is the row as it stands, P as it was; c is owed. -/
def TakeRel (P S D : List Nat) (n off f k c : Nat) : Prop := S.length = n ∧ Bd S ∧ (∀ j, off + k ≤ j → lg S j = lg P j) ∧ pv S (off + k) + f * pv D k * 4294967296 ^ off = pv P (off + k) + c * 4294967296 ^ (off + k)
theorem take_next (P S D : List Nat) (n off f k c v c' : Nat) (hk : off + k < n) (hv : v < 4294967296) (he : v + f * lg D k + c = lg P (off + k) + c' * 4294967296) (h : TakeRel P S D n off f k c) :
    TakeRel P (S.set (off + k) v) D n off f (k + 1) c' := by
  obtain ⟨h1, h2, h3, h4⟩ := h
  refine ⟨by rw [List.length_set]; exact h1, Bd_set h2 _ _ hv, fun j hj => ?_, ?_⟩
  · rw [lg_set_other S _ _ j (by omega)]; exact h3 j (by omega)
  · rw [← Nat.add_assoc]
    simp only [pv]
    rw [pv_set_past S (off + k) _ (off + k) (Nat.le_refl _), lg_set_same S _ _ (by omega), Nat.pow_succ, Nat.pow_add]
    rw [Nat.pow_add] at h4
    generalize 4294967296 ^ off = p at *
    generalize 4294967296 ^ k = q at *
    have e1 : (v + f * lg D k + c) * (p * q) = (lg P (off + k) + c' * 4294967296) * (p * q) := by rw [he]
    rw [Nat.add_mul, Nat.add_mul, Nat.add_mul] at e1
    have e2 : c' * (p * q * 4294967296) = c' * 4294967296 * (p * q) := by rw [Nat.mul_comm (p * q), ← Nat.mul_assoc]
    have e3 : f * (pv D k + lg D k * q) * p = f * pv D k * p + f * lg D k * (p * q) := by
      rw [Nat.mul_add, Nat.add_mul, ← Nat.mul_assoc, Nat.mul_comm p q, ← Nat.mul_assoc (f * lg D k)]
    rw [e2, e3]
    omega
theorem take_done (P S D : List Nat) (n off f k c v b : Nat) (hk : off + k < n) (hD : D.length = k) (hv : v < 4294967296) (he : v + c = lg P (off + k) + b * 4294967296) (h : TakeRel P S D n off f k c) :
    (S.set (off + k) v).length = n ∧ Bd (S.set (off + k) v) ∧ (∀ j, off + k < j → lg (S.set (off + k) v) j = lg P j) ∧ pv (S.set (off + k) v) (off + k + 1) + f * val D * 4294967296 ^ off = pv P (off + k + 1) + b * 4294967296 ^ (off + k + 1) := by
  obtain ⟨h1, h2, h3, h4⟩ := h
  refine ⟨by rw [List.length_set]; exact h1, Bd_set h2 _ _ hv, fun j hj => ?_, ?_⟩
  · rw [lg_set_other S _ _ j (by omega)]; exact h3 j (by omega)
  · simp only [pv]
    rw [pv_set_past S (off + k) _ (off + k) (Nat.le_refl _), lg_set_same S _ _ (by omega), Nat.pow_succ]
    rw [pv_val D k (by omega)] at h4
    generalize 4294967296 ^ (off + k) = p at *
    have e1 : (v + c) * p = (lg P (off + k) + b * 4294967296) * p := by rw [he]
    rw [Nat.add_mul, Nat.add_mul] at e1
    have e2 : b * (p * 4294967296) = b * 4294967296 * p := by rw [Nat.mul_comm p, ← Nat.mul_assoc]
    rw [e2]
    omega
theorem take_small {f d c : Nat} (hf : f < 4294967296) (hd : d < 4294967296) (hc : c < 4294967296) : f * d + c ≤ 18446744069414584320 := by
  have h1 : f * d ≤ 4294967295 * 4294967295 := Nat.mul_le_mul (by omega) (by omega)
  omega
theorem w64_2 {f d c : Nat} (hf : f < 4294967296) (hd : d < 4294967296) (hc : c < 4294967296) : IntKind.u64.wrap (IntKind.u64.wrap ((f : Int) * (d : Int)) + (c : Int)) = ((f * d + c : Nat) : Int) := by
  have h1 := take_small hf hd hc
  have e0 : (f : Int) * (d : Int) = ((f * d : Nat) : Int) := by simp
  rw [e0]
  generalize f * d = x at *
  have e1 : IntKind.u64.wrap ((x : Nat) : Int) = (x : Int) := w64 _ (by omega) (by omega)
  rw [e1, w64 _ (by omega) (by omega)]; omega
set_option maxHeartbeats 1500000 in
theorem take_any (w : World) (base g n cap off c f gd k cd : Nat) (P D : List Nat) (hP : Bd P) (hD : Bd D) (hPn : P.length = n) (hDk : D.length = k) (hf : f < 4294967296) (hc : k + 1 ≤ c) (hcm : c ≤ 1000000000000)
    (hk : off + k < n) (hkc : k ≤ cd) (hcd : cd ≤ 1000000000000) (hne : gd ≠ g)
    (hown : w.ownsRow base 73 1 (.slice (some ⟨g, 0, none⟩) n cap) n (u32s P)) (hod : w.ownsRow 0 73 1 (.slice (some ⟨gd, 0, none⟩) k cd) k (u32s D)) :
    Calls Tryd.prog 109 #[.slice (some ⟨g, off, none⟩) (k + 1) c, .slice (some ⟨gd, 0, none⟩) k cd, .int .u32 f] w fun e w' => (∃ P' b, b ≤ 1 ∧ e = .returned (.bool (decide (b = 1))) ∧ P'.length = n ∧ Bd P' ∧ (∀ j, off + k < j → lg P' j = lg P j) ∧ pv P' (off + k + 1) + f * val D * 4294967296 ^ off = pv P (off + k + 1) + b * 4294967296 ^ (off + k + 1) ∧ w'.ownsRow base 73 1 (.slice (some ⟨g, 0, none⟩) n cap) n (u32s P')) ∧ w.grownBy w' (some g) := by
  have HP := hid (And.intro hPn hDk)
  clear hPn hDk
  go_enter Tryd.func109, Tryd.ntmps109
  go_wp2
  go_loopw [7, 15] (fun cc i wr => ∃ (j d : Nat) (S : List Nat), j ≤ k ∧ i = .int .i64 j ∧ cc = .int .u64 d ∧ d < 4294967296 ∧ TakeRel P S D n off f j d ∧ wr.ownsRow base 73 1 (.slice (some ⟨g, 0, none⟩) n cap) n (u32s S) ∧ w.grownBy wr (some g)) (fun _ i _ => k - (intOf i).toNat)
  case atStart => exact ⟨0, 0, P, Nat.zero_le _, rfl, rfl, by omega, ⟨HP.out.1, hP, fun j _ => rfl, by simp [pv]⟩, hown, World.grownBy.refl _ _⟩
  case round =>
    obtain ⟨j, d, S, hj, rfl, rfl, hd, hR, hown', hgr⟩ := hrel
    have hod' : wr.ownsRow 0 73 1 (.slice (some ⟨gd, 0, none⟩) k cd) k (u32s D) := hod.kept hgr (Or.inr (by simp [Value.ownBlock]; exact hne))
    have HR := hid hR
    clear hR hown
    by_cases hlt : j < k
    · have c1 := u32s_at hod' j (by have := HP.out.2; omega)
      have c2 := u32s_at hown' (off + j) (by have := HR.out.1; omega)
      rw [HR.out.2.2.1 (off + j) (Nat.le_refl _)] at c2
      have fr := hown'.frozenAt (off + j)
      have b1 := hD j
      have b2 := hP (off + j)
      have HN := hid (fun v c' => take_next P S D n off f j d v c' (by omega))
      have hT := take_small hf b1 hd
      have hW := w64_2 hf b1 hd
      have HO := hid (show ∀ v : Nat, (wr.setCell ⟨g, off + j, none⟩ (.int .u32 (v : Int))).ownsRow base 73 1 (.slice (some ⟨g, 0, none⟩) n cap) n (u32s (S.set (off + j) v)) ∧ w.grownBy (wr.setCell ⟨g, off + j, none⟩ (.int .u32 (v : Int))) (some g) from fun v => by
        have O1 := hown'.stored (off + j) (.int .u32 (v : Int))
        rw [← u32s_set] at O1
        exact ⟨O1.1, grown_trans hgr O1.2⟩)
      clear hown' hod' hP hD
      obtain ⟨T, hTe⟩ : ∃ T, f * lg D j + d = T := ⟨_, rfl⟩
      have HE := hid (show f * lg D j + d = T from hTe)
      rw [hTe] at hT hW
      clear hTe
      obtain ⟨y, hy⟩ : ∃ y, lg D j = y := ⟨_, rfl⟩
      rw [hy] at c1 b1 hW
      have HY := hid hy
      obtain ⟨x, hx⟩ : ∃ x, lg P (off + j) = x := ⟨_, rfl⟩
      rw [hx] at c2 b2
      have HX := hid hx
      clear hy hx
      by_cases hb : x < T % 4294967296
      · have hb' : (x : Int) < (T : Int) % 4294967296 := by omega
        go_wp2
        have O := HO.out (x + 4294967296 - T % 4294967296)
        rw [show (((x + 4294967296 - T % 4294967296 : Nat)) : Int) = ((x : Int) - (T : Int)) % 4294967296 by omega] at O
        go_roundw
        case rel => exact ⟨j + 1, T / 4294967296 + 1, S.set (off + j) (x + 4294967296 - T % 4294967296), by omega, by go_num, by go_num, by omega, HN.out _ _ (by omega) (by have := HE.out; have := HX.out; omega) HR.out, O.1, O.2⟩
        case measure => simp [intOf]; omega
      · have hb' : ¬ (x : Int) < (T : Int) % 4294967296 := by omega
        go_wp2
        have O := HO.out (x - T % 4294967296)
        rw [show (((x - T % 4294967296 : Nat)) : Int) = (x : Int) - (T : Int) % 4294967296 by omega] at O
        go_roundw
        case rel => exact ⟨j + 1, T / 4294967296, S.set (off + j) (x - T % 4294967296), by omega, by go_num, by go_num, by omega, HN.out _ _ (by omega) (by have := HE.out; have := HX.out; omega) HR.out, O.1, O.2⟩
        case measure => simp [intOf]; omega
    · have hjk : j = k := by omega
      have fr := hown'.frozenAt (off + k)
      have c2 := u32s_at hown' (off + k) (by have := HR.out.1; omega)
      have HJ := hid hjk
      clear hod' hjk
      have hx := HR.out.2.1 (off + k)
      have HE := hid (HR.out.2.2.1 (off + k) (by omega))
      have HO := hid (show ∀ v : Nat, (wr.setCell ⟨g, off + k, none⟩ (.int .u32 (v : Int))).ownsRow base 73 1 (.slice (some ⟨g, 0, none⟩) n cap) n (u32s (S.set (off + k) v)) ∧ w.grownBy (wr.setCell ⟨g, off + k, none⟩ (.int .u32 (v : Int))) (some g) from fun v => by
        have O1 := hown'.stored (off + k) (.int .u32 (v : Int))
        rw [← u32s_set] at O1
        exact ⟨O1.1, grown_trans hgr O1.2⟩)
      have HD := hid (fun v b (hv : v < 4294967296) (he : v + d = lg P (off + k) + b * 4294967296) => take_done P S D n off f k d v b hk HP.out.2 hv he (by have := HR.out; rw [HJ.out] at this; exact this))
      clear hown'
      generalize lg S (off + k) = x at *
      by_cases hb : x < d
      · go_wp2
        have O := HO.out (x + 4294967296 - d)
        rw [show ((x + 4294967296 - d : Nat) : Int) = ((x : Int) - (d : Int)) % 4294967296 by omega] at O
        have R := HD.out (x + 4294967296 - d) 1 (by omega) (by have := HE.out; omega)
        go_ret
        exact ⟨⟨S.set (off + k) (x + 4294967296 - d), 1, by omega, rfl, R.1, R.2.1, R.2.2.1, R.2.2.2, O.1⟩, O.2⟩
      · go_wp2
        have O := HO.out (x - d)
        rw [show ((x - d : Nat) : Int) = (x : Int) - (d : Int) by omega] at O
        have R := HD.out (x - d) 0 (by omega) (by have := HE.out; omega)
        go_ret
        exact ⟨⟨S.set (off + k) (x - d), 0, by omega, rfl, R.1, R.2.1, R.2.2.1, R.2.2.2, O.1⟩, O.2⟩
theorem give_done (P S D : List Nat) (n off k d v b : Nat) (hk : off + k < n) (hD : D.length = k) (hv : v < 4294967296) (he : v + b * 4294967296 = lg P (off + k) + d) (h : TimesRel P S D n off 1 k d) :
    (S.set (off + k) v).length = n ∧ Bd (S.set (off + k) v) ∧ (∀ j, off + k < j → lg (S.set (off + k) v) j = lg P j) ∧ pv (S.set (off + k) v) (off + k + 1) + b * 4294967296 ^ (off + k + 1) = pv P (off + k + 1) + val D * 4294967296 ^ off := by
  obtain ⟨h1, h2, h3, h4⟩ := h
  refine ⟨by rw [List.length_set]; exact h1, Bd_set h2 _ _ hv, fun j hj => ?_, ?_⟩
  · rw [lg_set_other S _ _ j (by omega)]; exact h3 j (by omega)
  · simp only [pv]
    rw [pv_set_past S (off + k) _ (off + k) (Nat.le_refl _), lg_set_same S _ _ (by omega), Nat.pow_succ]
    rw [pv_val D k (by omega), Nat.one_mul] at h4
    generalize 4294967296 ^ (off + k) = p at *
    have e1 : (v + b * 4294967296) * p = (lg P (off + k) + d) * p := by rw [he]
    rw [Nat.add_mul, Nat.add_mul] at e1
    have e2 : b * (p * 4294967296) = b * 4294967296 * p := by rw [Nat.mul_comm p, ← Nat.mul_assoc]
    rw [e2]
    omega
set_option maxHeartbeats 1500000 in
theorem give_any (w : World) (base g n cap off c gd k cd : Nat) (P D : List Nat) (hP : Bd P) (hD : Bd D) (hPn : P.length = n) (hDk : D.length = k) (hc : k + 1 ≤ c) (hcm : c ≤ 1000000000000)
    (hk : off + k < n) (hkc : k ≤ cd) (hcd : cd ≤ 1000000000000) (hne : gd ≠ g)
    (hown : w.ownsRow base 73 1 (.slice (some ⟨g, 0, none⟩) n cap) n (u32s P)) (hod : w.ownsRow 0 73 1 (.slice (some ⟨gd, 0, none⟩) k cd) k (u32s D)) :
    Calls Tryd.prog 110 #[.slice (some ⟨g, off, none⟩) (k + 1) c, .slice (some ⟨gd, 0, none⟩) k cd] w fun e w' => (∃ P' b, b ≤ 1 ∧ e = .returned (.bool (decide (b = 0))) ∧ P'.length = n ∧ Bd P' ∧ (∀ j, off + k < j → lg P' j = lg P j) ∧ pv P' (off + k + 1) + b * 4294967296 ^ (off + k + 1) = pv P (off + k + 1) + val D * 4294967296 ^ off ∧ w'.ownsRow base 73 1 (.slice (some ⟨g, 0, none⟩) n cap) n (u32s P')) ∧ w.grownBy w' (some g) := by
  have HP := hid (And.intro hPn hDk)
  clear hPn hDk
  go_enter Tryd.func110, Tryd.ntmps110
  go_wp2
  go_loopw [5, 12] (fun cc i wr => ∃ (j d : Nat) (S : List Nat), j ≤ k ∧ i = .int .i64 j ∧ cc = .int .u64 d ∧ d ≤ 1 ∧ TimesRel P S D n off 1 j d ∧ wr.ownsRow base 73 1 (.slice (some ⟨g, 0, none⟩) n cap) n (u32s S) ∧ w.grownBy wr (some g)) (fun _ i _ => k - (intOf i).toNat)
  case atStart => exact ⟨0, 0, P, Nat.zero_le _, rfl, rfl, by omega, ⟨HP.out.1, hP, fun j _ => rfl, by simp [pv]⟩, hown, World.grownBy.refl _ _⟩
  case round =>
    obtain ⟨j, d, S, hj, rfl, rfl, hd, hR, hown', hgr⟩ := hrel
    have hod' : wr.ownsRow 0 73 1 (.slice (some ⟨gd, 0, none⟩) k cd) k (u32s D) := hod.kept hgr (Or.inr (by simp [Value.ownBlock]; exact hne))
    have HR := hid hR
    clear hR hown
    by_cases hlt : j < k
    · have c1 := u32s_at hod' j (by have := HP.out.2; omega)
      have c2 := u32s_at hown' (off + j) (by have := HR.out.1; omega)
      rw [HR.out.2.2.1 (off + j) (Nat.le_refl _)] at c2
      have fr := hown'.frozenAt (off + j)
      have b1 := hD j
      have b2 := hP (off + j)
      have HN := hid (times_next P S D n off 1 j d (by omega) HR.out)
      have HO := hid (show ∀ q, ((wr.drewN q).setCell ⟨g, off + j, none⟩ (.int .u32 (((1 * lg D j + lg P (off + j) + d) % 4294967296 : Nat) : Int))).ownsRow base 73 1 (.slice (some ⟨g, 0, none⟩) n cap) n (u32s (S.set (off + j) ((1 * lg D j + lg P (off + j) + d) % 4294967296))) ∧ w.grownBy ((wr.drewN q).setCell ⟨g, off + j, none⟩ (.int .u32 (((1 * lg D j + lg P (off + j) + d) % 4294967296 : Nat) : Int))) (some g) from fun q => by
        have O1 := (own_drewN hown' q).stored (off + j) (.int .u32 (((1 * lg D j + lg P (off + j) + d) % 4294967296 : Nat) : Int))
        rw [← u32s_set] at O1
        exact ⟨O1.1, grown_trans (grown_drewN hgr q) O1.2⟩)
      clear hown' hod' hP hD
      generalize lg D j = y at *
      generalize lg P (off + j) = x at *
      go_wp2
      go_quiet (fail)
      have O := HO.out
      rw [show (((1 * y + x + d) % 4294967296 : Nat) : Int) = ((x : Int) + (y : Int) + (d : Int)) % 4294967296 by omega] at O
      go_wp2
      go_roundw
      case rel => exact ⟨j + 1, (1 * y + x + d) / 4294967296, S.set (off + j) ((1 * y + x + d) % 4294967296), by omega, by go_num, by go_num, by omega, HN.out, (O _).1, (O _).2⟩
      case measure => simp [intOf]; omega
    · have hjk : j = k := by omega
      have fr := hown'.frozenAt (off + k)
      have c2 := u32s_at hown' (off + k) (by have := HR.out.1; omega)
      have HJ := hid hjk
      clear hod' hjk
      have hx := HR.out.2.1 (off + k)
      have HE := hid (HR.out.2.2.1 (off + k) (by omega))
      have O1 := hown'.stored (off + k) (.int .u32 (((lg S (off + k) + d) % 4294967296 : Nat) : Int))
      rw [← u32s_set] at O1
      have HO := hid O1
      have HD := hid (fun v b (hv : v < 4294967296) (he : v + b * 4294967296 = lg P (off + k) + d) => give_done P S D n off k d v b hk HP.out.2 hv he (by have := HR.out; rw [HJ.out] at this; exact this))
      clear hown' O1
      generalize lg S (off + k) = x at *
      go_wp2
      have O := HO.out
      rw [show (((x + d) % 4294967296 : Nat) : Int) = ((x : Int) + (d : Int)) % 4294967296 by omega] at O
      have R := HD.out ((x + d) % 4294967296) ((x + d) / 4294967296) (by omega) (by have := HE.out; omega)
      go_ret
      refine ⟨⟨S.set (off + k) ((x + d) % 4294967296), (x + d) / 4294967296, by omega, ?_, R.1, R.2.1, R.2.2.1, R.2.2.2, O.1⟩, grown_trans hgr O.2⟩
      have hq : decide ((x + d) / 4294967296 = 0) = decide ((x : Int) + (d : Int) ≤ 4294967295) := decide_eq_decide.2 (by omega)
      rw [hq]; rfl
/-- guessDigit: never too small. -/
theorem guess_ge (W Dv top dt q p lw : Nat) (hp : 0 < p) (hW : W = lw + top * p) (hlw : lw < p) (hD : dt * p ≤ Dv) (hdt : 0 < dt) (hq : q * Dv ≤ W) : q ≤ top / dt := by
  rw [Nat.le_div_iff_mul_le hdt]
  have h1 : q * (dt * p) ≤ q * Dv := Nat.mul_le_mul_left _ hD
  have h2 : q * dt * p < (top + 1) * p := by rw [Nat.mul_assoc, Nat.add_mul]; omega
  have := Nat.lt_of_mul_lt_mul_right h2
  omega
set_option maxHeartbeats 1000000 in
theorem guess_any (w : World) (base g n cap off c gd K m cd : Nat) (P D : List Nat) (hP : Bd P) (hD : Bd D) (hPn : P.length = n) (hDk : D.length = K) (hKm : K = m + 1) (hc : K + 1 ≤ c) (hcm : c ≤ 1000000000000)
    (hk : off + K < n) (hkc : K ≤ cd) (hcd : cd ≤ 1000000000000) (hd0 : lg D m ≠ 0)
    (hown : w.ownsRow base 73 1 (.slice (some ⟨g, 0, none⟩) n cap) n (u32s P)) (hod : w.ownsRow 0 73 1 (.slice (some ⟨gd, 0, none⟩) K cd) K (u32s D)) :
    Calls Tryd.prog 108 #[.slice (some ⟨g, off, none⟩) (K + 1) c, .slice (some ⟨gd, 0, none⟩) K cd] w fun e w' => e = .returned (.int .u32 ((min ((lg P (off + K) * 4294967296 + lg P (off + m)) / lg D m) 4294967295 : Nat) : Int)) ∧ ∃ q, w' = w.drewN q := by
  have c1 := u32s_at hown (off + m) (by omega)
  have c3 := u32s_at hown (off + K) (by omega)
  have c2 := u32s_at hod m (by omega)
  have b1 := hP (off + m)
  have b2 := hP (off + K)
  have b3 := hD m
  have OS := or_sum (lg P (off + K)) (lg P (off + m)) b2 b1
  have hT : lg P (off + K) * 4294967296 + lg P (off + m) < 18446744073709551616 := by omega
  have hm : (K : Int) - 1 = (m : Int) := by omega
  have hm2 : m < K := by omega
  clear hown hod hPn hDk hP hD hKm
  generalize lg P (off + m) = x at *
  generalize lg P (off + K) = y at *
  generalize lg D m = z at *
  generalize y * 4294967296 + x = T at *
  have e1 : ((T : Nat) : Int).tdiv (z : Int) = ((T / z : Nat) : Int) := by rw [Int.tdiv_eq_ediv_of_nonneg (by omega)]; omega
  have hQ : T / z ≤ T := Nat.div_le_self _ _
  obtain ⟨Q, hQe⟩ : ∃ Q, T / z = Q := ⟨_, rfl⟩
  rw [hQe] at e1 hQ ⊢
  clear hQe
  rcases (show Q < 4294967295 ∨ 4294967295 < Q ∨ Q = 4294967295 by omega) with hc1 | hc1 | hc1
  · rw [show min Q 4294967295 = Q by omega]
    go_enter Tryd.func108, Tryd.ntmps108
    go_wp2
    go_quiet (fail)
    go_wp2
    go_ret
    exact ⟨rfl, _, rfl⟩
  · rw [show min Q 4294967295 = 4294967295 by omega]
    go_enter Tryd.func108, Tryd.ntmps108
    go_wp2
    go_quiet (fail)
    go_wp2
    go_ret
    exact ⟨rfl, _, rfl⟩
  · subst hc1
    go_enter Tryd.func108, Tryd.ntmps108
    go_wp2
    go_quiet (fail)
    go_wp2
    go_ret
    exact ⟨rfl, _, rfl⟩
end Go.Proofs.YtchibjdhdbkdhaaDoor
