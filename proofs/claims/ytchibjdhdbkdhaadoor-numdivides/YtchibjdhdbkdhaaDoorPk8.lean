/- Shift, Of, NOf, ROf, RLit. -/
import Derived.Test.YtchibjdhdbkdhaaDoorPk7
import Derived.Test.YtchibjdhdbkdhaaDoorPk4
import Derived.Test.YtchibjdhdbkdhaaDoorPk6
/- shiftUp, shiftDown: limbs moved by some bits. -/
namespace Go.Proofs.YtchibjdhdbkdhaaDoor
open Go.RowKit
set_option linter.unusedVariables false
set_option maxRecDepth 100000
set_option linter.unusedSimpArgs false

theorem up_or (x s d : Nat) (hx : x < 4294967296) (hs : s ≤ 31) (hd : d < 2 ^ s) : bits .or .u64 (IntKind.u64.wrap ((x : Int) * 2 ^ s)) (d : Int) = ((x * 2 ^ s + d : Nat) : Int) ∧ x * 2 ^ s + d < 4294967296 * 2 ^ s := by
  have hp : (2 : Nat) ^ s ≤ 2 ^ 31 := Nat.pow_le_pow_right (by omega) hs
  have hm : x * 2 ^ s ≤ 4294967295 * 2 ^ s := Nat.mul_le_mul_right _ (by omega)
  have e : (x : Int) * 2 ^ s = ((x * 2 ^ s : Nat) : Int) := by simp
  rw [e]
  have h1 : x * 2 ^ s < 18446744073709551616 := by omega
  rw [w64 _ (by omega) (by omega), bits_or_u64_nat _ _ (by omega) (by omega)]
  have := Nat.two_pow_add_eq_or_of_lt (i := s) (b := d) hd x
  rw [Nat.mul_comm x (2 ^ s)]
  refine ⟨congrArg _ this.symm, ?_⟩
  rw [Nat.mul_comm (2 ^ s) x]; omega
def UpRel (L S : List Nat) (n s k d : Nat) : Prop := S.length = n + 1 ∧ Bd S ∧ d < 2 ^ s ∧ pv S k + d * 4294967296 ^ k = pv L k * 2 ^ s
set_option maxHeartbeats 1000000 in
theorem shiftUp_any (w : World) (g n cap s : Nat) (L : List Nat) (hb : Bd L) (hl : L.length = n) (hn : n ≤ 1000000000) (hcap : n ≤ cap) (hcm : cap ≤ maxLen) (hs : s ≤ 31) (hown : w.ownsRow 0 73 1 (.slice (some ⟨g, 0, none⟩) n cap) n (u32s L)) :
    Calls Tryd.prog 107 #[.slice (some ⟨g, 0, none⟩) n cap, .int .i64 s] w fun e w' => e = .returned (.slice (some ⟨w.heap.size, 0, none⟩) (n + 1) (n + 1)) ∧ (∃ M, M.length = n + 1 ∧ Bd M ∧ val M = val L * 2 ^ s ∧ w'.ownsRow w.heap.size 73 1 (.slice (some ⟨w.heap.size, 0, none⟩) (n + 1) (n + 1)) (n + 1) (u32s M)) ∧ Below w.heap.size w w' := by
  obtain ⟨i0, hi, hz0, hz1, hz2⟩ := info_parts Tryd.info73
  have HF := hid hl
  clear hl
  unfold maxLen at hcm
  go_enter Tryd.func107, Tryd.ntmps107
  go_wp2_with (first | (at_make; refine wpList_make_full _ rfl _ _ 22 rfl w.heap.size 73 i0 (.int .u32 0) 1 Tryd.underlying22 hi hz0 hz1 _ _ _ _ (n + 1) rfl rfl (by omega) (by omega) (by rw [hz2]; omega) (by unfold maxLen; omega) (Nat.le_refl _) ?_))
  intro w1 hown1 hgrow
  have hb1 : Below w.heap.size w w1 := (Below.refl w.heap.size w).grown hgrow (Nat.le_refl _) (by intro k hk; simp at hk)
  rw [toList_madeCells_one, ← u32s_rep] at hown1
  clear hgrow
  go_wp2
  go_loopw [6, 15] (fun c i wr => ∃ (k d : Nat) (S : List Nat), k ≤ n ∧ i = .int .i64 k ∧ c = .int .u64 d ∧ UpRel L S n s k d ∧
        wr.ownsRow w.heap.size 73 1 (.slice (some ⟨w.heap.size, 0, none⟩) (n + 1) (n + 1)) (n + 1) (u32s S) ∧ Below w.heap.size w wr) (fun _ i _ => n - (intOf i).toNat)
  case atStart => exact ⟨0, 0, List.replicate (n + 1) 0, Nat.zero_le _, rfl, rfl, ⟨by simp, Bd_rep _, Nat.two_pow_pos s, by simp [pv]⟩, hown1, hb1⟩
  case round =>
    obtain ⟨k, d, S, hk, rfl, rfl, hR, hown', hbel⟩ := hrel
    have R := hid hR
    clear hR hown1 hb1
    by_cases hlt : k < n
    · have hst := u32s_at (ownsRow_below hown hbel) k (by have := HF.out; omega)
      have hs2 := u32s_at hown' k (by have := R.out.1; omega)
      have hfr := hown'.frozenAt k
      have hx := hb k
      have hp : (2 : Nat) ^ s ≤ 2 ^ 31 := Nat.pow_le_pow_right (by omega) hs
      have hd := R.out.2.2.1
      obtain ⟨O1, O2⟩ := up_or (lg L k) s d hx hs hd
      have HN := hid (scale_round L S (2 ^ s) 0 k d (by have := R.out.1; omega) (by have := R.out.2.2.2; omega))
      have HO := hid O1
      have hT : lg L k * 2 ^ s + d < 9223372036854775808 := by omega
      have hq : (lg L k * 2 ^ s + d) / 4294967296 < 2 ^ s := by rw [Nat.div_lt_iff_lt_mul (by omega)]; have := O2; omega
      have own3 := hown'.stored k (.int .u32 (((lg L k * 2 ^ s + d) % 4294967296 : Nat) : Int))
      rw [← u32s_set] at own3
      have HW := hid own3
      have HQ := hid hq
      have HT := hid hT
      clear own3 O1 O2 hq hT hp hd hown'
      go_wp2
      rw [HO.out]
      have hT := HT.out
      have hq := HQ.out
      generalize lg L k * 2 ^ s + d = T at *
      have O := HW.out
      rw [show ((T % 4294967296 : Nat) : Int) = (T : Int) % 4294967296 by omega] at O
      go_roundw
      case rel => exact ⟨k + 1, T / 4294967296, S.set k (T % 4294967296), by omega, by go_num, by go_num, ⟨by rw [List.length_set]; exact R.out.1, Bd_set R.out.2.1 _ _ (by omega), hq, by have := HN.out; omega⟩, O.1, hbel.setCell (Nat.le_refl _) _⟩
      case measure => simp [intOf]; omega
    · have hk' : k = n := by omega
      have fr := hown'.frozenAt n
      have c2 := u32s_at hown' n (by have := R.out.1; omega)
      have hd : d < 4294967296 := by
        have := R.out.2.2.1
        have hp : (2 : Nat) ^ s ≤ 2 ^ 31 := Nat.pow_le_pow_right (by omega) hs
        omega
      have O := hown'.stored n (.int .u32 (d : Int))
      rw [← u32s_set] at O
      have HO := hid O
      have HK := hid hk'
      clear O hown' hk'
      go_wp2
      go_ret
      obtain ⟨r1, r2, r3, r4⟩ := R.out
      rw [HK.out] at r4
      refine ⟨rfl, ⟨S.set n d, by rw [List.length_set]; exact r1, Bd_set r2 _ _ hd, ?_, HO.out.1⟩, hbel.setCell (Nat.le_refl _) _⟩
      have e1 : val (S.set n d) = pv (S.set n d) (n + 1) := (pv_val _ _ (by rw [List.length_set]; omega)).symm
      rw [e1]
      simp only [pv]
      rw [pv_set_past S n d n (Nat.le_refl _), lg_set_same S n d (by omega), r4, pv_val L n (by have := HF.out; omega)]
/-- A round of 'shiftDown': k limbs from the top are moved. -/
def DownRel (L S : List Nat) (n s k a : Nat) : Prop := S.length = n ∧ Bd S ∧ (∀ j, j < n - k → lg S j = lg L j) ∧ ∃ H, a % 4294967296 = H % 4294967296 ∧ val L = pv L (n - k) + H * 4294967296 ^ (n - k) ∧ pv S n = pv L (n - k) + H / 2 ^ s * 4294967296 ^ (n - k)
theorem down_limb (H x s : Nat) (hs : s ≤ 31) (hx : x < 4294967296) : (H * 4294967296 + x) / 2 ^ s = H / 2 ^ s * 4294967296 + (H % 4294967296 * 4294967296 + x) / 2 ^ s % 4294967296 := by
  obtain ⟨t, ht⟩ : ∃ t, s + t = 32 := ⟨32 - s, by omega⟩
  have hB : (4294967296 : Nat) = 2 ^ s * 2 ^ t := by rw [← Nat.pow_add, ht]
  have hp := Nat.two_pow_pos s
  have hdm := Nat.div_add_mod H 4294967296
  generalize H / 4294967296 = q at *
  generalize H % 4294967296 = r at *
  subst hdm
  have e1 : ((4294967296 * q + r) * 4294967296 + x) / 2 ^ s = q * 2 ^ t * 4294967296 + (r * 4294967296 + x) / 2 ^ s := by
    have : (4294967296 * q + r) * 4294967296 + x = (r * 4294967296 + x) + 2 ^ s * (q * 2 ^ t * 4294967296) := by
      rw [Nat.add_mul]
      have : 2 ^ s * (q * 2 ^ t * 4294967296) = (2 ^ s * 2 ^ t) * q * 4294967296 := by
        rw [← Nat.mul_assoc, ← Nat.mul_assoc, Nat.mul_comm (2 ^ s) q, Nat.mul_assoc q, Nat.mul_comm q]
      rw [this, ← hB]; omega
    rw [this, Nat.add_mul_div_left _ _ hp]; omega
  have e2 : (4294967296 * q + r) / 2 ^ s = q * 2 ^ t + r / 2 ^ s := by
    have : 4294967296 * q + r = r + 2 ^ s * (q * 2 ^ t) := by
      have : 2 ^ s * (q * 2 ^ t) = (2 ^ s * 2 ^ t) * q := by rw [Nat.mul_comm q, ← Nat.mul_assoc]
      rw [this, ← hB]; omega
    rw [this, Nat.add_mul_div_left _ _ hp]; omega
  have e3 : (r * 4294967296 + x) / 2 ^ s = r / 2 ^ s * 4294967296 + (r * 4294967296 + x) / 2 ^ s % 4294967296 := by
    have h1 : (r * 4294967296 + x) / 2 ^ s / 4294967296 = r / 2 ^ s := by
      rw [Nat.div_div_eq_div_mul, Nat.mul_comm (2 ^ s), ← Nat.div_div_eq_div_mul]
      rw [show (r * 4294967296 + x) / 4294967296 = r by rw [Nat.mul_comm, Nat.mul_add_div (by decide), Nat.div_eq_of_lt hx, Nat.add_zero]]
    have h2 := Nat.div_add_mod ((r * 4294967296 + x) / 2 ^ s) 4294967296
    rw [h1, Nat.mul_comm] at h2
    exact h2.symm
  rw [e1, e2, e3, Nat.add_mul]; omega
theorem down_or (a x : Nat) (ha : a < 18446744073709551616) (hx : x < 4294967296) : bits .or .u64 (IntKind.u64.wrap ((a : Int) * 4294967296)) (x : Int) = ((a % 4294967296 * 4294967296 + x : Nat) : Int) := by
  have e : IntKind.u64.wrap ((a : Int) * 4294967296) = ((a % 4294967296 : Nat) : Int) * 4294967296 := by rw [IntKind.wrap_u64]; omega
  rw [e]
  exact or_sum (a % 4294967296) x (Nat.mod_lt _ (by decide)) hx
theorem down_next (L S : List Nat) (n s k a m : Nat) (hL : L.length = n) (hm : m + 1 + k = n) (hs : s ≤ 31) (hb : Bd L) (h : DownRel L S n s k a) :
    DownRel L (S.set m ((a % 4294967296 * 4294967296 + lg L m) / 2 ^ s % 4294967296)) n s (k + 1) (a % 4294967296 * 4294967296 + lg L m) := by
  obtain ⟨h1, h2, h3, H, h4, h5, h6⟩ := h
  have hx := hb m
  have e2 : n - k = m + 1 := by omega
  have e3 : n - (k + 1) = m := by omega
  rw [e2] at h3 h5 h6
  have hq := Nat.mod_lt ((a % 4294967296 * 4294967296 + lg L m) / 2 ^ s) (show 0 < 4294967296 by decide)
  refine ⟨by rw [List.length_set]; exact h1, Bd_set h2 _ _ hq, fun j hj => ?_, H * 4294967296 + lg L m, ?_, ?_, ?_⟩
  · rw [e3] at hj
    rw [lg_set_other S m _ j (by omega)]; exact h3 j (by omega)
  · rw [Nat.add_comm, Nat.add_comm (H * _), Nat.add_mul_mod_self_right, Nat.add_mul_mod_self_right]
  · rw [e3, h5]
    simp only [pv]
    rw [Nat.pow_succ, Nat.add_mul, Nat.mul_assoc, Nat.mul_comm 4294967296 (4294967296 ^ m), Nat.add_assoc, Nat.add_comm (lg L m * _)]
  · rw [e3, down_limb H (lg L m) s hs hx, ← h4]
    have e1 := pv_set_in S m ((a % 4294967296 * 4294967296 + lg L m) / 2 ^ s % 4294967296) n (by omega) (by omega)
    rw [h3 m (by omega), h6] at e1
    simp only [pv] at e1
    generalize (a % 4294967296 * 4294967296 + lg L m) / 2 ^ s % 4294967296 = q at *
    rw [Nat.pow_succ] at e1
    rw [Nat.add_mul, Nat.mul_assoc, Nat.mul_comm 4294967296 (4294967296 ^ m)]
    omega
set_option maxHeartbeats 1000000 in
theorem shiftDown_any (w : World) (base g n cap s : Nat) (L : List Nat) (hb : Bd L) (hl : L.length = n) (hn : n ≤ 1000000001) (hcap : n ≤ cap) (hcm : cap ≤ maxLen) (hs : s ≤ 31) (hown : w.ownsRow base 73 1 (.slice (some ⟨g, 0, none⟩) n cap) n (u32s L)) :
    Calls Tryd.prog 111 #[.slice (some ⟨g, 0, none⟩) n cap, .int .i64 s] w fun e w' => e = .returned (.tuple #[]) ∧ (∃ M, M.length = n ∧ Bd M ∧ val M = val L / 2 ^ s ∧ w'.ownsRow base 73 1 (.slice (some ⟨g, 0, none⟩) n cap) n (u32s M)) ∧ w.grownBy w' (some g) := by
  have HF := hid hl
  clear hl
  unfold maxLen at hcm
  go_enter Tryd.func111, Tryd.ntmps111
  go_wp2
  go_loopw [4, 11] (fun c i wr => ∃ (k a : Nat) (S : List Nat), k ≤ n ∧ i = .int .i64 k ∧ c = .int .u64 a ∧ a < 18446744073709551616 ∧ DownRel L S n s k a ∧
        wr.ownsRow base 73 1 (.slice (some ⟨g, 0, none⟩) n cap) n (u32s S) ∧ w.grownBy wr (some g)) (fun _ i _ => n - (intOf i).toNat)
  case atStart => exact ⟨0, 0, L, Nat.zero_le _, rfl, rfl, by omega, ⟨HF.out, hb, fun j _ => rfl, 0, rfl, by rw [Nat.sub_zero, pv_val L n (by have := HF.out; omega)]; omega, by rw [Nat.sub_zero]; simp⟩, hown, World.grownBy.refl _ _⟩
  case round =>
    obtain ⟨k, a, S, hk, rfl, rfl, ha, hR, hown', hgr⟩ := hrel
    have R := hid hR
    clear hR hown
    by_cases hlt : k < n
    · obtain ⟨m, hm⟩ : ∃ m : Nat, (n : Int) - 1 - k = m := ⟨n - 1 - k, by omega⟩
      have hm' : m < n := by omega
      have hst := u32s_at hown' m (by have := R.out.1; omega)
      rw [R.out.2.2.1 m (by omega)] at hst
      have hfr := hown'.frozenAt m
      have hx := hb m
      have N := hid (down_next L S n s k a m HF.out (by omega) hs hb R.out)
      have OS := hid (down_or a (lg L m) ha hx)
      have O := hown'.stored m (.int .u32 (((a % 4294967296 * 4294967296 + lg L m) / 2 ^ s % 4294967296 : Nat) : Int))
      rw [← u32s_set] at O
      have HO := hid O
      have HT := hid (show a % 4294967296 * 4294967296 + lg L m < 18446744073709551616 by omega)
      clear O hown'
      generalize lg L m = x at *
      go_wp2
      rw [OS.out]
      have hT := HT.out
      generalize a % 4294967296 * 4294967296 + x = T at *
      have O := HO.out
      rw [show ((T / 2 ^ s % 4294967296 : Nat) : Int) = (T : Int) / 2 ^ s % 4294967296 by simp] at O
      go_roundw
      case rel => exact ⟨k + 1, T, S.set m (T / 2 ^ s % 4294967296), by omega, by go_num, rfl, hT, N.out, O.1, grown_trans hgr O.2⟩
      case measure => simp [intOf]; omega
    · have hk' : k = n := by omega
      have HK := hid hk'
      clear hk'
      go_wp2
      go_end0
      obtain ⟨r1, r2, r3, H, r4, r5, r6⟩ := R.out
      rw [HK.out, Nat.sub_self] at r5 r6
      simp only [pv, Nat.pow_zero, Nat.mul_one, Nat.zero_add] at r5 r6
      exact ⟨rfl, ⟨S, r1, r2, by rw [r5, ← r6]; exact (pv_val S n (by omega)).symm, hown'⟩, hgr⟩
end Go.Proofs.YtchibjdhdbkdhaaDoor
/- Of: a word's number. -/
namespace Go.Proofs.YtchibjdhdbkdhaaDoor
open Go.RowKit
set_option linter.unusedVariables false
set_option maxRecDepth 100000
set_option linter.unusedSimpArgs false

theorem two_val (a b : Nat) : val [a, b] = a + b * 4294967296 := by simp [val, pv, lg]
theorem two_bd (a b : Nat) (ha : a < 4294967296) (hb : b < 4294967296) : Bd [a, b] := by
  intro j
  match j with
  | 0 => simpa [lg] using ha
  | 1 => simpa [lg] using hb
  | j + 2 => simp [lg]
theorem boxed2' (w : World) (A B : Obj) : Below w.heap.size w ((w.alloc A).alloc B) := below_alloc' (below_alloc' (Below.refl _ _) (Nat.le_refl _) A) (Nat.le_refl _) B
set_option maxHeartbeats 400000 in
theorem of_any (n : Nat) (hn : n < 18446744073709551616) (w : World) :
    Calls Tryd.prog 26 #[.int .u64 n] w fun e w' => ∃ v, e = .returned v ∧ NatIs w' v n 2 ∧ Below w.heap.size w w' := by
  have hown : ((w.alloc (Obj.cells #[Value.slice none 0 0] 24)).alloc (Obj.cells #[Value.int .u32 ((n : Int) % 4294967296), Value.int .u32 ((n : Int) / 4294967296)] 73)).ownsRow (w.heap.size + 1) 73 1 (.slice (some ⟨w.heap.size + 1, 0, none⟩) 2 2) 2 (u32s [n % 4294967296, n / 4294967296]) := by
    have h := World.ownsRow_lit (base := w.heap.size + 1) (e := 73) (size := 1) (w.alloc (Obj.cells #[Value.slice none 0 0] 24)) #[Value.int .u32 ((n : Int) % 4294967296), Value.int .u32 ((n : Int) / 4294967296)] 2 (by simp) (by unfold maxLen; omega) (by simp)
    simpa [u32s] using h
  have hx : ((w.alloc (Obj.cells #[Value.slice none 0 0] 24)).alloc (Obj.cells #[Value.int .u32 ((n : Int) % 4294967296), Value.int .u32 ((n : Int) / 4294967296)] 73)).heap[w.heap.size]? = some (Obj.cells #[Value.slice none 0 0] 24) := box_alloc (box_new _ _) _
  have hb : Below w.heap.size w ((w.alloc (Obj.cells #[Value.slice none 0 0] 24)).alloc (Obj.cells #[Value.int .u32 ((n : Int) % 4294967296), Value.int .u32 ((n : Int) / 4294967296)] 73)) := boxed2' w _ _
  go_enter Tryd.func26, Tryd.ntmps26
  go_wp2_with fail
  generalize (w.alloc (Obj.cells #[Value.slice none 0 0] 24)).alloc (Obj.cells #[Value.int .u32 ((n : Int) % 4294967296), Value.int .u32 ((n : Int) / 4294967296)] 73) = W at *
  refine (trim_base W (w.heap.size + 1) _ [n % 4294967296, n / 4294967296] (two_bd _ _ (by omega) (by omega)) hown).mono ?_
  rintro e w' ⟨⟨v', M, rfl, hM, bM, tM, vM, lM⟩, rfl⟩
  obtain ⟨ao, cp, hv⟩ := Limbs.slice (ownsRow_base0 hM)
  rw [hv]
  rw [hv] at hM
  have HV := hid vM
  have hc := cell_of_one hx
  have hf := free_of_one hx
  have hM2 := ownsRow_setCell_below hM (a := ⟨w.heap.size, 0, none⟩) (by show w.heap.size < _; omega) (.slice ao M.length cp)
  have hB2 := hb.setCell (p := ⟨w.heap.size, 0, none⟩) (Nat.le_refl _) (.slice ao M.length cp)
  clear hv vM hx hM hown
  go_wp2
  refine bodyPost_ret (v := .agg #[.slice ao M.length cp]) (by simp [results, Tryd.results26, go_sem, hc]) rfl ⟨_, rfl, ⟨_, M, rfl, ownsRow_base0 hM2, bM, tM, ?_, lM⟩, hB2⟩
  rw [HV.out, two_val]; omega
theorem of_lit (n : Nat) (z : Int) (hz : z = (n : Int)) (hn : n < 18446744073709551616) (w : World) :
    Calls Tryd.prog 26 #[.int .u64 z] w fun e w' => ∃ v, e = .returned v ∧ NatIs w' v n 2 ∧ Below w.heap.size w w' := by
  subst hz; exact of_any n hn w
end Go.Proofs.YtchibjdhdbkdhaaDoor
/- Whole numbers: Of. -/
namespace Go.Proofs.YtchibjdhdbkdhaaDoor
open Go.RowKit
set_option linter.unusedVariables false
set_option maxRecDepth 100000
set_option linter.unusedSimpArgs false

set_option maxHeartbeats 1000000 in
theorem nof_any (w : World) (z : Int) (h1 : -9223372036854775808 ≤ z) (h2 : z < 9223372036854775808) :
    Calls Tryd.prog 6 #[.int .i64 z] w fun e w' => ∃ v, e = .returned v ∧ NumIs w' v z 2 ∧ Below w.heap.size w w' := by
  have hy := box_new w (Obj.cells #[.slice none 0 0, .bool false] 26)
  have hB : Below w.heap.size w (w.alloc (Obj.cells #[.slice none 0 0, .bool false] 26)) := (Below.refl _ _).alloc (Nat.le_refl _) _
  by_cases hz : z < 0
  · obtain ⟨m, hm⟩ : ∃ m : Nat, z = -(m : Int) := ⟨z.natAbs, by omega⟩
    have e0 : IntKind.u64.wrap (-(IntKind.u64.wrap z)) = (m : Int) := by
      simp [IntKind.wrap, IntKind.bits, IntKind.signed]; omega
    have hm2 : m < 18446744073709551616 := by omega
    have HM := hid (And.intro hm hz)
    have hn : z.natAbs = m := by omega
    clear hm
    have HN := hid hn
    clear hn
    go_enter Tryd.func6, Tryd.ntmps6
    go_wp2_with fail
    refine (of_any m hm2 _).mono ?_
    rintro e w1 ⟨v, rfl, nv, hb⟩
    obtain ⟨a1, l1, c1, rfl⟩ := nv.form
    have y1 := box_below hb hy (by simp)
    have u0 := two_cell0 y1
    have u1 := two_cell1 y1
    have v0 := two_free (k := 0) y1
    have v1 := two_free (k := 1) y1
    obtain ⟨k0, k1, kB⟩ := end_two (chain2 hB hb) (Nat.le_refl _) y1 (.slice a1 l1 c1) (.bool true)
    have n4 := nv.box2 y1 (by decide) (.slice a1 l1 c1) (.bool true)
    have HK := hid (And.intro k0 k1)
    clear k0 k1 nv hb y1
    go_wp2
    exact bodyPost_ret (v := .agg #[.slice a1 l1 c1, .bool true]) (by simp [results, Tryd.results6, go_sem, HK.out.1, HK.out.2]) rfl ⟨_, rfl, ⟨a1, l1, c1, by simp [HM.out.2], HN.out.symm ▸ n4⟩, kB⟩
  · obtain ⟨m, hm⟩ : ∃ m : Nat, z = (m : Int) := ⟨z.natAbs, by omega⟩
    have hm2 : m < 18446744073709551616 := by omega
    have HM := hid (And.intro hm hz)
    subst hm
    go_enter Tryd.func6, Tryd.ntmps6
    go_wp2_with fail
    refine (of_any m hm2 _).mono ?_
    rintro e w1 ⟨v, rfl, nv, hb⟩
    obtain ⟨a1, l1, c1, rfl⟩ := nv.form
    have y1 := box_below hb hy (by simp)
    have u0 := two_cell0 y1
    have u1 := two_cell1 y1
    have v0 := two_free (k := 0) y1
    have v1 := two_free (k := 1) y1
    obtain ⟨k0, k1, kB⟩ := end_two (chain2 hB hb) (Nat.le_refl _) y1 (.slice a1 l1 c1) (.bool false)
    have n4 := nv.box2 y1 (by decide) (.slice a1 l1 c1) (.bool false)
    have HK := hid (And.intro k0 k1)
    clear k0 k1 nv hb y1
    go_wp2
    exact bodyPost_ret (v := .agg #[.slice a1 l1 c1, .bool false]) (by simp [results, Tryd.results6, go_sem, HK.out.1, HK.out.2]) rfl ⟨_, rfl, ⟨a1, l1, c1, by simp, by rw [Int.natAbs_natCast]; exact n4⟩, kB⟩
end Go.Proofs.YtchibjdhdbkdhaaDoor
/- The document's Of. -/
namespace Go.Proofs.YtchibjdhdbkdhaaDoor
open Go.RowKit
set_option linter.unusedVariables false
set_option maxRecDepth 100000
set_option linter.unusedSimpArgs false

def OfRel (n : Nat) (D : List Nat) (r : Nat) : Prop := R.Bd D ∧ n = R.pv D D.length + r * 1000000000 ^ D.length ∧ (r = 0 → Top D)
theorem OfRel.step {n : Nat} {D : List Nat} {r : Nat} (h : OfRel n D r) (hr : 0 < r) : OfRel n (D ++ [r % 1000000000]) (r / 1000000000) := by
  obtain ⟨h1, h2, h3⟩ := h
  refine ⟨fun j => ?_, ?_, fun hz hn => ?_⟩
  · rcases Nat.lt_trichotomy j D.length with e | e | e
    · rw [lg_append_old D _ j e]; exact h1 j
    · subst e; rw [lg_append_new]; omega
    · rw [lg_past _ j (by simp; omega)]; omega
  · rw [List.length_append, List.length_singleton]
    have e1 : R.pv (D ++ [r % 1000000000]) (D.length + 1) = R.pv D D.length + r % 1000000000 * 1000000000 ^ D.length := by
      simp only [R.pv]
      rw [R.pv_congr (M := D) (fun j hj => lg_append_old D _ j hj), lg_append_new]
    rw [e1, h2, Nat.pow_succ]
    have hd := Nat.div_add_mod r 1000000000
    generalize r / 1000000000 = q at *
    generalize r % 1000000000 = t at *
    generalize 1000000000 ^ D.length = p at *
    rw [← hd, Nat.add_mul, Nat.mul_comm p, ← Nat.mul_assoc, Nat.mul_comm q]
    omega
  · simp only [List.length_append, List.length_singleton, Nat.add_sub_cancel]
    rw [lg_append_new]
    omega
theorem OfRel.short {n : Nat} {D : List Nat} {r : Nat} (h : OfRel n D r) (hr : 0 < r) (hn : n < 18446744073709551616) : D.length < 3 := by
  obtain ⟨h1, h2, h3⟩ := h
  rcases Nat.lt_or_ge D.length 3 with e | e
  · exact e
  · have h6 : 1000000000 ^ 3 ≤ 1000000000 ^ D.length := Nat.pow_le_pow_right (by omega) e
    have h7 : 1 * 1000000000 ^ D.length ≤ r * 1000000000 ^ D.length := Nat.mul_le_mul_right _ hr
    have h8 : (1000000000 : Nat) ^ 3 = 1000000000000000000000000000 := by decide
    omega
set_option maxHeartbeats 1000000 in
theorem rof_any (n : Nat) (hn : n < 18446744073709551616) (w : World) :
    Calls Tryd.prog 30 #[.int .u64 n] w fun e w' => ∃ v, e = .returned v ∧ RefIs w' v n 3 ∧ Below w.heap.size w w' := by
  obtain ⟨i0, hi, hz0, hz1, hz2⟩ := info_parts Tryd.info3
  have hown0 : ((w.alloc (Obj.cells #[Value.slice none 0 0] 29)).alloc (Obj.cells #[] 3)).ownsRow (w.heap.size + 1) 3 1 (.slice (some ⟨w.heap.size + 1, 0, none⟩) 0 0) 0 (i64s []) := by
    have := World.ownsRow_made (base := w.heap.size + 1) (e := 3) (size := 1) (w.alloc (Obj.cells #[Value.slice none 0 0] 29)) #[] 0 (by simp) (by unfold maxLen; omega) (by simp)
    simpa [i64s] using this
  have hx : ((w.alloc (Obj.cells #[Value.slice none 0 0] 29)).alloc (Obj.cells #[] 3)).heap[w.heap.size]? = some (Obj.cells #[Value.slice none 0 0] 29) := box_alloc (box_new _ _) _
  have hb : Below w.heap.size w ((w.alloc (Obj.cells #[Value.slice none 0 0] 29)).alloc (Obj.cells #[] 3)) := below_alloc' (below_alloc' (Below.refl _ _) (Nat.le_refl _) _) (Nat.le_refl _) _
  have hs : ((w.alloc (Obj.cells #[Value.slice none 0 0] 29)).alloc (Obj.cells #[] 3)).heap.size = w.heap.size + 1 + 1 := by simp
  go_enter Tryd.func30, Tryd.ntmps30
  go_wp2
  have hs' : w.heap.size + 1 ≤ ((w.alloc (Obj.cells #[Value.slice none 0 0] 29)).alloc (Obj.cells #[] 3)).heap.size := by omega
  clear hs
  generalize (w.alloc (Obj.cells #[Value.slice none 0 0] 29)).alloc (Obj.cells #[] 3) = W at *
  go_loopw [0, 3] (fun c v wr => ∃ (r : Nat) (D : List Nat), c = .int .u64 r ∧ r < 18446744073709551616 ∧ OfRel n D r ∧ wr.ownsRow (w.heap.size + 1) 3 1 v D.length (i64s D) ∧ D.length ≤ 3 ∧ wr.heap[w.heap.size]? = some (Obj.cells #[Value.slice none 0 0] 29) ∧ Below w.heap.size w wr ∧ w.heap.size + 1 ≤ wr.heap.size) (fun c _ _ => (intOf c).toNat)
  case atStart => exact ⟨n, [], rfl, hn, ⟨by intro j; simp [lg], by simp [R.pv], fun _ h => by simp at h⟩, hown0, by simp, hx, hb, hs'⟩
  case round =>
    obtain ⟨r, D, rfl, hr64, hR, hown, hl, hx', hbw, hsw⟩ := hrel
    have HR := hid hR
    clear hR hown0 hx hb hs'
    by_cases h0 : 0 < r
    · have hD3 := HR.out.short h0 hn
      have HR2 := hid (HR.out.step h0)
      have hx9 : r % 1000000000 < 1000000000 := Nat.mod_lt _ (by omega)
      have hq9 : r / 1000000000 < r := by omega
      go_wp2_with (at_builtin; refine wpList_append_own _ rfl _ _ 27 rfl (w.heap.size + 1) 3 i0 (.int .i64 0) 1 8 Tryd.underlying27 hi hz0 hz1 hz2 rfl (by decide) _ _ _ rfl (hown.alloc _) ⟨wr.heap.size, 0, none⟩ 1 1 [.int .i64 ((r : Int) % 1000000000)] rfl rfl (by intro j u hu; match j, hu with | 0, hu => simp at hu; subst hu; simp [Addr.add]) (by intro u hu; simp at hu; subst hu; rfl) (by unfold maxLen; omega) (by omega) (by simp; omega) ?_)
      intro v' w1 hown2 hgrow hnil
      have hb2 : Below w.heap.size w w1 := (below_alloc' hbw (Nat.le_refl _) _).grown hgrow (by have := hbw.size; simp; omega) (fun q hq => by have := (hown.lt q hq).1; omega)
      have hx2 : w1.heap[w.heap.size]? = some (Obj.cells #[Value.slice none 0 0] 29) := by
        rw [hgrow.block w.heap.size (by simp; omega) (fun e => by have := (hown.lt _ e.symm).1; omega)]
        exact box_alloc hx' _
      have hs2 : w.heap.size + 1 ≤ w1.heap.size := by have := hgrow.size; simp at this; omega
      have hown3 : w1.ownsRow (w.heap.size + 1) 3 1 v' (D ++ [r % 1000000000]).length (i64s (D ++ [r % 1000000000])) := by simpa [i64s] using hown2
      clear hown2 hgrow hnil hown hbw hx' hsw
      go_wp2
      go_roundw
      case rel => exact ⟨r / 1000000000, D ++ [r % 1000000000], by go_num, by omega, HR2.out, hown3, by simp; omega, hx2, hb2, hs2⟩
      case measure => simp [intOf]; omega
    · have hr0 : r = 0 := by omega
      obtain ⟨ao, cap, hv⟩ := ints_slice hown
      have cz := cell_of_one hx'
      have fz := free_of_one hx'
      rw [hv] at hown ⊢
      have hM2 := own_box (ownsRow_base0 hown) hx' (by decide) (.slice ao D.length cap)
      have hB2 := hbw.setCell (p := ⟨w.heap.size, 0, none⟩) (Nat.le_refl _) (.slice ao D.length cap)
      have HF := hid (show R.Bd D ∧ Top D ∧ R.val D = n from by
        obtain ⟨h1, h2, h3⟩ := HR.out
        refine ⟨h1, h3 hr0, ?_⟩
        rw [hr0, Nat.zero_mul, Nat.add_zero] at h2
        exact h2.symm)
      have hr := cell_of_one (one_setCell (u := .slice ao D.length cap) hx')
      have HRr := hid hr
      clear hv hown hx' hr
      go_wp2
      exact bodyPost_ret (v := .agg #[.slice ao D.length cap]) (by simp [results, Tryd.results30, go_sem, HRr.out]) rfl ⟨_, rfl, ⟨_, D, rfl, hM2, HF.out.1, HF.out.2.1, HF.out.2.2, hl⟩, hB2⟩
end Go.Proofs.YtchibjdhdbkdhaaDoor
/- The document's Of at a literal. -/
namespace Go.Proofs.YtchibjdhdbkdhaaDoor
open Go.RowKit
set_option linter.unusedVariables false
theorem rof_lit (n : Nat) (z : Int) (hz : z = (n : Int)) (hn : n < 18446744073709551616) (w : World) :
    Calls Tryd.prog 30 #[.int .u64 z] w fun e w' => ∃ v, e = .returned v ∧ RefIs w' v n 3 ∧ Below w.heap.size w w' := by
  subst hz; exact rof_any n hn w
end Go.Proofs.YtchibjdhdbkdhaaDoor
