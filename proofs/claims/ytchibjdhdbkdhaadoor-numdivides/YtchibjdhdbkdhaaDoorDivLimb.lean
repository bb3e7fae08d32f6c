/- divideByLimb: limbs divided by one limb, where they stand. -/
import Derived.Test.YtchibjdhdbkdhaaDoorScale
namespace Go.Proofs.YtchibjdhdbkdhaaDoor
open Go.RowKit
set_option linter.unusedVariables false
set_option maxRecDepth 100000
set_option linter.unusedSimpArgs false

theorem pv_set_in (S : List Nat) (m q n : Nat) (hm : m < n) (hs : m < S.length) : pv (S.set m q) n + lg S m * 4294967296 ^ m = pv S n + q * 4294967296 ^ m := by
  induction n with
  | zero => omega
  | succ n ih =>
    simp only [pv]
    by_cases e : m = n
    · subst e
      rw [pv_set_past S m q m (Nat.le_refl _), lg_set_same S m q hs]; omega
    · rw [lg_set_other S m q n e]
      have := ih (by omega)
      omega
/-- A round of the division by one limb: k limbs from the top are divided, r is left. -/
def DivRel (L S : List Nat) (n d k r : Nat) : Prop := S.length = n ∧ Bd S ∧ (∀ j, j < n - k → lg S j = lg L j) ∧ pv S n * d + r * 4294967296 ^ (n - k) + pv L (n - k) = val L + pv L (n - k) * d
theorem div_round (L S : List Nat) (n d k r m : Nat) (hL : L.length = n) (hk : k < n) (hm : m + 1 + k = n) (hd : 0 < d) (hr : r < d) (hx : lg L m < 4294967296) (h : DivRel L S n d k r) :
    DivRel L (S.set m ((r * 4294967296 + lg L m) / d)) n d (k + 1) ((r * 4294967296 + lg L m) % d) ∧ (r * 4294967296 + lg L m) / d < 4294967296 := by
  obtain ⟨h1, h2, h3, h4⟩ := h
  have hq : (r * 4294967296 + lg L m) / d < 4294967296 := by
    rw [Nat.div_lt_iff_lt_mul hd]
    have : (r + 1) * 4294967296 ≤ d * 4294967296 := Nat.mul_le_mul_right _ hr
    rw [Nat.mul_comm 4294967296 d]; omega
  refine ⟨⟨by simpa using h1, Bd_set h2 _ _ hq, fun j hj => ?_, ?_⟩, hq⟩
  · rw [lg_set_other S m _ j (by omega)]; exact h3 j (by omega)
  · have e1 := pv_set_in S m ((r * 4294967296 + lg L m) / d) n (by omega) (by omega)
    rw [h3 m (by omega)] at e1
    have e2 : n - k = m + 1 := by omega
    have e3 : n - (k + 1) = m := by omega
    rw [e2, Nat.pow_succ] at h4
    simp only [pv] at h4
    rw [e3]
    have hd' := Nat.div_add_mod (r * 4294967296 + lg L m) d
    generalize (r * 4294967296 + lg L m) / d = q at *
    generalize (r * 4294967296 + lg L m) % d = r' at *
    generalize pv (S.set m q) n = V' at *
    generalize pv S n = V at *
    generalize 4294967296 ^ m = p at *
    generalize pv L m = l at *
    generalize lg L m = x at *
    generalize val L = v at *
    have a1 : (V' + x * p) * d = (V + q * p) * d := by rw [e1]
    rw [Nat.add_mul, Nat.add_mul] at a1
    have a2 : (d * q + r') * p = (r * 4294967296 + x) * p := by rw [hd']
    rw [Nat.add_mul, Nat.add_mul] at a2
    have a3 : q * p * d = d * q * p := by rw [Nat.mul_right_comm, Nat.mul_comm q d]
    have a4 : r * (p * 4294967296) = r * 4294967296 * p := by rw [Nat.mul_comm p, ← Nat.mul_assoc]
    have a5 : (l + x * p) * d = l * d + x * p * d := Nat.add_mul _ _ _
    rw [a4, a5] at h4
    omega
theorem div_done (L S : List Nat) (n d r : Nat) (hL : L.length = n) (hd : 0 < d) (hr : r < d) (h : DivRel L S n d n r) : val S = val L / d ∧ r = val L % d := by
  obtain ⟨h1, h2, h3, h4⟩ := h
  simp only [Nat.sub_self, Nat.pow_zero, Nat.mul_one, pv, Nat.zero_mul, Nat.add_zero] at h4
  rw [pv_val S n (by omega)] at h4
  rw [← h4]
  constructor
  · rw [Nat.add_comm, Nat.add_mul_div_right _ _ hd, Nat.div_eq_of_lt hr]; omega
  · rw [Nat.add_comm, Nat.add_mul_mod_self_right, Nat.mod_eq_of_lt hr]
theorem or_sum (r x : Nat) (hr : r < 4294967296) (hx : x < 4294967296) : bits .or .u64 ((r : Int) * 4294967296) (x : Int) = ((r * 4294967296 + x : Nat) : Int) := by
  have e : (r : Int) * 4294967296 = ((r * 4294967296 : Nat) : Int) := by omega
  rw [e, bits_or_u64_nat _ _ (by omega) (by omega)]
  have := Nat.two_pow_add_eq_or_of_lt (i := 32) (b := x) (by omega) r
  rw [Nat.mul_comm r 4294967296]
  exact congrArg _ this.symm
set_option maxHeartbeats 800000 in
theorem divl_any (w : World) (base g n cap : Nat) (L : List Nat) (hb : Bd L) (hl : L.length = n) (hcap : n ≤ cap) (hcm : cap ≤ maxLen) (hown : w.ownsRow base 73 1 (.slice (some ⟨g, 0, none⟩) n cap) n (u32s L)) (d : Nat) (hd : 0 < d) (hd2 : d < 4294967296) :
    Calls Tryd.prog 54 #[.slice (some ⟨g, 0, none⟩) n cap, .int .u32 d] w fun e w' => e = .returned (.int .u32 ((val L % d : Nat) : Int)) ∧ (∃ L', L'.length = n ∧ Bd L' ∧ val L' = val L / d ∧ w'.ownsRow base 73 1 (.slice (some ⟨g, 0, none⟩) n cap) n (u32s L')) ∧ w.grownBy w' (some g) := by
  have HF := hid hl
  clear hl
  unfold maxLen at hcm
  go_enter Tryd.func54, Tryd.ntmps54
  go_wp2
  go_loopw [5, 12] (fun c i wr => ∃ (k r : Nat) (S : List Nat), k ≤ n ∧ i = .int .i64 k ∧ c = .int .u64 r ∧ r < d ∧ DivRel L S n d k r ∧
        wr.ownsRow base 73 1 (.slice (some ⟨g, 0, none⟩) n cap) n (u32s S) ∧ w.grownBy wr (some g)) (fun _ i _ => n - (intOf i).toNat)
  case atStart => exact ⟨0, 0, L, Nat.zero_le _, rfl, rfl, hd, ⟨HF.out, hb, fun j _ => rfl, by simp only [Nat.sub_zero]; rw [pv_val L n (by have := HF.out; omega)]; omega⟩, hown, World.grownBy.refl _ _⟩
  case round =>
    obtain ⟨k, r, S, hk, rfl, rfl, hr, hR, hown', hgr⟩ := hrel
    have R := hid hR
    clear hR hown
    by_cases hlt : k < n
    · obtain ⟨m, hm⟩ : ∃ m : Nat, (n : Int) - 1 - k = m := ⟨n - 1 - k, by omega⟩
      have hm' : m < n := by omega
      have hst := u32s_at hown' m (by have := R.out.1; omega)
      rw [R.out.2.2.1 m (by omega)] at hst
      have hfr := hown'.frozenAt m
      have hx := hb m
      have N := hid (div_round L S n d k r m HF.out hlt (by omega) hd hr hx R.out)
      have OS := hid (or_sum r (lg L m) (by omega) hx)
      have O := hown'.stored m (.int .u32 (((r * 4294967296 + lg L m) / d : Nat) : Int))
      rw [← u32s_set] at O
      have HO := hid O
      have hT : r * 4294967296 + lg L m < 18446744073709551616 := by omega
      clear O hown'
      generalize lg L m = x at *
      go_wp2
      rw [OS.out]
      have HT := hid hT
      generalize r * 4294967296 + x = T at *
      have e1 : ((T : Nat) : Int).tmod (d : Int) = ((T % d : Nat) : Int) := by rw [Int.tmod_eq_emod_of_nonneg (by omega)]; omega
      have e2 : IntKind.u64.wrap (((T : Nat) : Int).tdiv (d : Int)) % 4294967296 = ((T / d : Nat) : Int) := by
        have h1 : ((T : Nat) : Int).tdiv (d : Int) = ((T / d : Nat) : Int) := by rw [Int.tdiv_eq_ediv_of_nonneg (by omega)]; omega
        have h2 := N.out.2
        rw [h1]
        generalize T / d = Q at h2 ⊢
        rw [w64 _ (by omega) (by omega)]; omega
      rw [e1, e2]
      go_roundw
      case rel => exact ⟨k + 1, T % d, S.set m (T / d), by omega, by go_num, rfl, Nat.mod_lt _ hd, N.out.1, HO.out.1, grown_trans hgr HO.out.2⟩
      case measure => simp [intOf]; omega
    · have hk' : k = n := by omega
      have N := hid (div_done L S n d r HF.out hd hr (by have := R.out; rw [hk'] at this; exact this))
      clear hk'
      have hr' : r < 4294967296 := by omega
      go_wp2
      go_ret
      exact ⟨by rw [← N.out.2]; rfl, ⟨S, R.out.1, R.out.2.1, N.out.1, hown'⟩, hgr⟩
end Go.Proofs.YtchibjdhdbkdhaaDoor
