/- addTimes: factor times some limbs added to a row from a place on. -/
import Derived.Test.YtciecncdejlkkaaDoorScale
import Derived.BigQuiet
namespace Go.Proofs.YtciecncdejlkkaaDoor
open Go.RowKit
set_option linter.unusedVariables false
set_option maxRecDepth 100000
set_option linter.unusedSimpArgs false

/-- A round of 'addTimes': S is the row as it stands, P as it was. -/
def TimesRel (P S B : List Nat) (n off f k d : Nat) : Prop := S.length = n ∧ Bd S ∧ (∀ j, off + k ≤ j → lg S j = lg P j) ∧ pv S (off + k) + d * 4294967296 ^ (off + k) = pv P (off + k) + f * pv B k * 4294967296 ^ off
theorem times_next (P S B : List Nat) (n off f k d : Nat) (hk : off + k < n) (h : TimesRel P S B n off f k d) :
    TimesRel P (S.set (off + k) ((f * lg B k + lg P (off + k) + d) % 4294967296)) B n off f (k + 1) ((f * lg B k + lg P (off + k) + d) / 4294967296) := by
  obtain ⟨h1, h2, h3, h4⟩ := h
  refine ⟨by simpa using h1, Bd_set h2 _ _ (by omega), fun j hj => ?_, ?_⟩
  · rw [lg_set_other S _ _ j (by omega)]; exact h3 j (by omega)
  · rw [← Nat.add_assoc]
    simp only [pv]
    rw [pv_set_past S (off + k) _ (off + k) (Nat.le_refl _), lg_set_same S _ _ (by omega), Nat.pow_succ, Nat.pow_add]
    rw [Nat.pow_add] at h4
    generalize 4294967296 ^ off = p at *
    generalize 4294967296 ^ k = q at *
    have hd := Nat.div_add_mod (f * lg B k + lg P (off + k) + d) 4294967296
    generalize (f * lg B k + lg P (off + k) + d) % 4294967296 = r at *
    generalize (f * lg B k + lg P (off + k) + d) / 4294967296 = t at *
    have e1 : (4294967296 * t + r) * (p * q) = (f * lg B k + lg P (off + k) + d) * (p * q) := by rw [hd]
    rw [Nat.add_mul, Nat.add_mul, Nat.add_mul] at e1
    have e2 : t * (p * q * 4294967296) = 4294967296 * t * (p * q) := by rw [Nat.mul_comm (p * q), ← Nat.mul_assoc, Nat.mul_comm t]
    have e3 : f * (pv B k + lg B k * q) * p = f * pv B k * p + f * lg B k * (p * q) := by
      rw [Nat.mul_add, Nat.add_mul, ← Nat.mul_assoc, Nat.mul_comm p q, ← Nat.mul_assoc (f * lg B k)]
    rw [e2, e3]
    omega
theorem times_done (P S B : List Nat) (n off f k d : Nat) (hk : off + k < n) (hB : B.length = k) (hd : d < 4294967296) (hz : lg P (off + k) = 0) (h : TimesRel P S B n off f k d) :
    (S.set (off + k) d).length = n ∧ Bd (S.set (off + k) d) ∧ (∀ j, off + k < j → lg (S.set (off + k) d) j = lg P j) ∧ pv (S.set (off + k) d) (off + k + 1) = pv P (off + k) + f * val B * 4294967296 ^ off := by
  obtain ⟨h1, h2, h3, h4⟩ := h
  refine ⟨by simpa using h1, Bd_set h2 _ _ hd, fun j hj => ?_, ?_⟩
  · rw [lg_set_other S _ _ j (by omega)]; exact h3 j (by omega)
  · simp only [pv]
    rw [pv_set_past S (off + k) _ (off + k) (Nat.le_refl _), lg_set_same S _ _ (by omega), h4]
    rw [pv_val B k (by omega)]
theorem times_small {f b p c : Nat} (hf : f < 4294967296) (hb : b < 4294967296) (hp : p < 4294967296) (hc : c < 4294967296) : f * b ≤ 18446744065119617025 ∧ f * b + p + c < 18446744073709551616 ∧ (f * b + p + c) / 4294967296 < 4294967296 := by
  have h1 : f * b ≤ 4294967295 * 4294967295 := Nat.mul_le_mul (by omega) (by omega)
  omega
theorem w64_3 {f b p c : Nat} (hf : f < 4294967296) (hb : b < 4294967296) (hp : p < 4294967296) (hc : c < 4294967296) :
    IntKind.u64.wrap (IntKind.u64.wrap (IntKind.u64.wrap ((f : Int) * (b : Int)) + (p : Int)) + (c : Int)) = ((f * b + p + c : Nat) : Int) := by
  obtain ⟨h1, h2, h3⟩ := times_small hf hb hp hc
  have e0 : (f : Int) * (b : Int) = ((f * b : Nat) : Int) := by simp
  rw [e0]
  generalize f * b = x at *
  have e1 : IntKind.u64.wrap ((x : Nat) : Int) = (x : Int) := w64 _ (by omega) (by omega)
  have e2 : IntKind.u64.wrap ((x : Int) + (p : Int)) = (x : Int) + (p : Int) := w64 _ (by omega) (by omega)
  rw [e1, e2, w64 _ (by omega) (by omega)]; omega
theorem own_drewN {w : World} {base : Nat} {e : TypeId} {size : Nat} {v : Value} {n : Nat} {xs : List Value} (h : w.ownsRow base e size v n xs) (q : Nat) : (w.drewN q).ownsRow base e size v n xs := h
theorem grown_drewN {a w : World} {row : Option Nat} (h : a.grownBy w row) (q : Nat) : a.grownBy (w.drewN q) row := ⟨h.os, h.tape, h.output, h.size, h.block⟩
set_option maxHeartbeats 1000000 in
theorem times_some (w : World) (base g n cap off m c f gb k cb : Nat) (P B : List Nat) (hP : Bd P) (hB : Bd B) (hPn : P.length = n) (hBk : B.length = k) (hf : f < 4294967296) (hm : off + m = n) (hc : m ≤ c) (hcm : c ≤ 1000000000000)
    (hk : off + k < n) (hkc : k ≤ cb) (hcb : cb ≤ maxLen) (hz : lg P (off + k) = 0) (hne : gb ≠ g)
    (hown : w.ownsRow base 71 1 (.slice (some ⟨g, 0, none⟩) n cap) n (u32s P)) (hob : w.ownsRow 0 71 1 (.slice (some ⟨gb, 0, none⟩) k cb) k (u32s B)) :
    Calls Tryd.prog 66 #[.slice (some ⟨g, off, none⟩) m c, .slice (some ⟨gb, 0, none⟩) k cb, .int .u32 f] w fun e w' => e = .returned (.tuple #[]) ∧ (∃ P', P'.length = n ∧ Bd P' ∧ (∀ j, off + k < j → lg P' j = lg P j) ∧ pv P' (off + k + 1) = pv P (off + k) + f * val B * 4294967296 ^ off ∧ w'.ownsRow base 71 1 (.slice (some ⟨g, 0, none⟩) n cap) n (u32s P')) ∧ w.grownBy w' (some g) := by
  have HP := hid (And.intro hPn (And.intro hBk hz))
  clear hPn hBk hz
  unfold maxLen at hcb
  have hm1 : k < m := by omega
  have HM := hid hm
  clear hm
  go_enter Tryd.func66, Tryd.ntmps66
  go_wp2
  go_loopw [6, 11] (fun cc i wr => ∃ (j d : Nat) (S : List Nat), j ≤ k ∧ i = .int .i64 j ∧ cc = .int .u64 d ∧ d < 4294967296 ∧ TimesRel P S B n off f j d ∧ wr.ownsRow base 71 1 (.slice (some ⟨g, 0, none⟩) n cap) n (u32s S) ∧ w.grownBy wr (some g)) (fun _ i _ => k - (intOf i).toNat)
  case atStart => exact ⟨0, 0, P, Nat.zero_le _, rfl, rfl, by omega, ⟨HP.out.1, hP, fun j _ => rfl, by simp [pv]⟩, hown, World.grownBy.refl _ _⟩
  case round =>
    obtain ⟨j, d, S, hj, rfl, rfl, hd, hR, hown', hgr⟩ := hrel
    have hob' : wr.ownsRow 0 71 1 (.slice (some ⟨gb, 0, none⟩) k cb) k (u32s B) := hob.kept hgr (Or.inr (by simp [Value.ownBlock]; exact hne))
    have HR := hid hR
    clear hR hown
    by_cases hlt : j < k
    · have c1 := u32s_at hob' j (by have := HP.out.2.1; omega)
      have c2 := u32s_at hown' (off + j) (by have := HR.out.1; omega)
      rw [HR.out.2.2.1 (off + j) (Nat.le_refl _)] at c2
      have fr := hown'.frozenAt (off + j)
      have HN := hid (times_next P S B n off f j d (by omega) HR.out)
      have b1 := hB j
      have b2 := hP (off + j)
      have O : ∀ q, ((wr.drewN q).setCell ⟨g, off + j, none⟩ (.int .u32 (((f * lg B j + lg P (off + j) + d) % 4294967296 : Nat) : Int))).ownsRow base 71 1 (.slice (some ⟨g, 0, none⟩) n cap) n (u32s (S.set (off + j) ((f * lg B j + lg P (off + j) + d) % 4294967296))) ∧ w.grownBy ((wr.drewN q).setCell ⟨g, off + j, none⟩ (.int .u32 (((f * lg B j + lg P (off + j) + d) % 4294967296 : Nat) : Int))) (some g) := by
        intro q
        have O1 := (own_drewN hown' q).stored (off + j) (.int .u32 (((f * lg B j + lg P (off + j) + d) % 4294967296 : Nat) : Int))
        rw [← u32s_set] at O1
        exact ⟨O1.1, grown_trans (grown_drewN hgr q) O1.2⟩
      have HO := hid O
      have HW := hid (w64_3 hf b1 b2 hd)
      have HS := hid (times_small hf b1 b2 hd).2.2
      have HT := hid (times_small hf b1 b2 hd).2.1
      clear O hown' hob' hP hB
      generalize lg B j = b at *
      generalize lg P (off + j) = p at *
      go_wp2
      go_quiet (fail)
      rw [HW.out]
      have hT : f * b + p + d < 18446744073709551616 := HT.out
      generalize f * b + p + d = T at *
      rw [show ((T % 4294967296 : Nat) : Int) = (T : Int) % 4294967296 by omega] at HO
      go_wp2
      go_roundw
      case rel => exact ⟨j + 1, T / 4294967296, S.set (off + j) (T % 4294967296), by omega, by go_num, by go_num, HS.out, HN.out, (HO.out _).1, (HO.out _).2⟩
      case measure => simp [intOf]; omega
    · have hjk : j = k := by omega
      have fr := hown'.frozenAt (off + k)
      have c2 := u32s_at hown' (off + k) (by have := HR.out.1; omega)
      have O := hown'.stored (off + k) (.int .u32 (d : Int))
      rw [← u32s_set] at O
      have HO := hid O
      have HD := hid (times_done P S B n off f k d hk HP.out.2.1 hd HP.out.2.2 (by have := HR.out; rw [hjk] at this; exact this))
      clear O hown' hob' hjk
      go_wp2
      go_end0
      exact ⟨rfl, ⟨S.set (off + k) d, HD.out.1, HD.out.2.1, HD.out.2.2.1, HD.out.2.2.2, HO.out.1⟩, grown_trans hgr HO.out.2⟩
set_option maxHeartbeats 400000 in
theorem times_none (w : World) (base g n cap off m c f cb : Nat) (ab : Option Addr) (P : List Nat) (hP : Bd P) (hPn : P.length = n) (hm : off + m = n) (hc : m ≤ c) (hk : off < n) (hz : lg P off = 0)
    (hown : w.ownsRow base 71 1 (.slice (some ⟨g, 0, none⟩) n cap) n (u32s P)) :
    Calls Tryd.prog 66 #[.slice (some ⟨g, off, none⟩) m c, .slice ab 0 cb, .int .u32 f] w fun e w' => e = .returned (.tuple #[]) ∧ (∃ P', P'.length = n ∧ Bd P' ∧ (∀ j, off < j → lg P' j = lg P j) ∧ pv P' (off + 1) = pv P off ∧ w'.ownsRow base 71 1 (.slice (some ⟨g, 0, none⟩) n cap) n (u32s P')) ∧ w.grownBy w' (some g) := by
  have HP := hid (And.intro hPn hz)
  have hm1 : 0 < m := by omega
  have c2 := u32s_at hown off (by omega)
  have fr := hown.frozenAt off
  have O := hown.stored off (.int .u32 ((0 : Nat) : Int))
  rw [← u32s_set] at O
  have HO := hid O
  clear hPn hz hm O hown
  go_enter Tryd.func66, Tryd.ntmps66
  go_wp2
  refine wp_loop_rounds 1 ?_
  rw [rounds_succ]
  go_wp2
  go_end0
  refine ⟨rfl, ⟨P.set off 0, by simpa using HP.out.1, Bd_set hP _ _ (by omega), fun j hj => lg_set_other P off 0 j (by omega), ?_, HO.out.1⟩, HO.out.2⟩
  simp only [pv]
  rw [pv_set_past P off 0 off (Nat.le_refl _), lg_set_same P off 0 (by have := HP.out.1; omega)]
  simp
theorem times_any (w : World) (base g n cap off m c f : Nat) (v : Value) (P B : List Nat) (hP : Bd P) (hB : Bd B) (hPn : P.length = n) (hf : f < 4294967296) (hm : off + m = n) (hc : m ≤ c) (hcm : c ≤ 1000000000000)
    (hk : off + B.length < n) (hz : lg P (off + B.length) = 0) (hne : v.ownBlock ≠ some g)
    (hown : w.ownsRow base 71 1 (.slice (some ⟨g, 0, none⟩) n cap) n (u32s P)) (hob : Limbs w v B) :
    Calls Tryd.prog 66 #[.slice (some ⟨g, off, none⟩) m c, v, .int .u32 f] w fun e w' => e = .returned (.tuple #[]) ∧ (∃ P', P'.length = n ∧ Bd P' ∧ (∀ j, off + B.length < j → lg P' j = lg P j) ∧ pv P' (off + B.length + 1) = pv P (off + B.length) + f * val B * 4294967296 ^ off ∧ w'.ownsRow base 71 1 (.slice (some ⟨g, 0, none⟩) n cap) n (u32s P')) ∧ w.grownBy w' (some g) := by
  rcases hob.form with ⟨rfl, rfl⟩ | ⟨gb, cb, rfl, h1, h2, _⟩
  · refine (times_none w base g n cap off m c f 0 none P hP hPn hm hc (by simpa using hk) (by simpa using hz) hown).mono ?_
    rintro e w' ⟨rfl, ⟨P', r1, r2, r3, r4, r5⟩, hg⟩
    exact ⟨rfl, ⟨P', r1, r2, by simpa using r3, by simpa [val, pv] using r4, r5⟩, hg⟩
  · exact times_some w base g n cap off m c f gb B.length cb P B hP hB hPn rfl hf hm hc hcm hk h1 h2 hz (by simpa [Value.ownBlock] using hne) hown hob
end Go.Proofs.YtciecncdejlkkaaDoor
