/- Cmp: the order of two numbers. -/
import Derived.Test.YtchibjdhdbkdhaaDoorWalk1
namespace Go.Proofs.YtchibjdhdbkdhaaDoor
open Go.RowKit
set_option linter.unusedVariables false
set_option maxRecDepth 100000
set_option linter.unusedSimpArgs false

theorem cmp_below {A B : List Nat} {n m : Nat} (hA : Bd A) (ha : A.length = n) (hb : B.length = n) (hm : m < n) (he : ∀ j, m < j → j < n → lg A j = lg B j) (h : lg A m < lg B m) : val A < val B := by
  unfold val; rw [ha, hb]; exact pv_lt_at hA m n hm he h
theorem cmp_all {A B : List Nat} {n : Nat} (ha : A.length = n) (hb : B.length = n) (he : ∀ j, j < n → lg A j = lg B j) : A = B := by
  refine list_ext_lg (by omega) fun j => ?_
  by_cases h : j < n
  · exact he j h
  · rw [lg_past A j (by omega), lg_past B j (by omega)]
set_option maxHeartbeats 800000 in
theorem cmp_same (w : World) (ga ca gb cb n : Nat) (A B : List Nat) (hA : Bd A) (hB : Bd B) (hAn : A.length = n) (hBn : B.length = n)
    (ha : w.ownsRow 0 73 1 (.slice (some ⟨ga, 0, none⟩) n ca) n (u32s A)) (hb : w.ownsRow 0 73 1 (.slice (some ⟨gb, 0, none⟩) n cb) n (u32s B)) (h1 : n ≤ ca) (h2 : n ≤ cb) (h3 : ca ≤ maxLen) (h4 : cb ≤ maxLen) :
    Calls Tryd.prog 112 #[.agg #[.slice (some ⟨ga, 0, none⟩) n ca], .agg #[.slice (some ⟨gb, 0, none⟩) n cb]] w fun e w' => (∃ r : Int, e = .returned (.int .i64 r) ∧ (r = 0 ∧ A = B ∨ r = -1 ∧ val A < val B ∨ r = 1 ∧ val B < val A)) ∧ Below w.heap.size w w' := by
  have hca : ∀ o o' k, k < n → ((w.alloc o).alloc o').cell? ⟨ga, k, none⟩ = some (.int .u32 (lg A k : Int)) := fun o o' k hk => u32s_at (L := A) (World.ownsRow.alloc (World.ownsRow.alloc ha o) o') k (by omega)
  have hcb : ∀ o o' k, k < n → ((w.alloc o).alloc o').cell? ⟨gb, k, none⟩ = some (.int .u32 (lg B k : Int)) := fun o o' k hk => u32s_at (L := B) (World.ownsRow.alloc (World.ownsRow.alloc hb o) o') k (by omega)
  have HA : Hid (A.length = n) := hAn
  have HB : Hid (B.length = n) := hBn
  unfold maxLen at h3 h4
  clear ha hb hAn hBn
  go_enter Tryd.func112, Tryd.ntmps112
  go_wp2
  have hca := hca (.cells #[Value.slice (some ⟨ga, 0, none⟩) n ca] 24) (.cells #[Value.slice (some ⟨gb, 0, none⟩) n cb] 24)
  have hcb := hcb (.cells #[Value.slice (some ⟨ga, 0, none⟩) n ca] 24) (.cells #[Value.slice (some ⟨gb, 0, none⟩) n cb] 24)
  have hbel : Below w.heap.size w ((w.alloc (.cells #[Value.slice (some ⟨ga, 0, none⟩) n ca] 24)).alloc (.cells #[Value.slice (some ⟨gb, 0, none⟩) n cb] 24)) :=
    ((Below.refl _ _).alloc (Nat.le_refl _) _).alloc (by simp) _
  have hbx : ((w.alloc (.cells #[Value.slice (some ⟨ga, 0, none⟩) n ca] 24)).alloc (.cells #[Value.slice (some ⟨gb, 0, none⟩) n cb] 24)).cell? ⟨w.heap.size, 0, none⟩ = some (Value.slice (some ⟨ga, 0, none⟩) n ca) := by simp [go_sem]
  have hby : ((w.alloc (.cells #[Value.slice (some ⟨ga, 0, none⟩) n ca] 24)).alloc (.cells #[Value.slice (some ⟨gb, 0, none⟩) n cb] 24)).cell? ⟨w.heap.size + 1, 0, none⟩ = some (Value.slice (some ⟨gb, 0, none⟩) n cb) := by simp [go_sem]
  generalize (w.alloc (.cells #[Value.slice (some ⟨ga, 0, none⟩) n ca] 24)).alloc (.cells #[Value.slice (some ⟨gb, 0, none⟩) n cb] 24) = W at *
  go_loopw [25] (fun i wr => ∃ k nq : Nat, k ≤ n ∧ i = .int .i64 k ∧ wr = W.drewN nq ∧ (∀ j, n - k ≤ j → j < n → lg A j = lg B j)) (fun i _ => n - (intOf i).toNat)
  case atStart => exact ⟨0, 0, Nat.zero_le _, rfl, rfl, fun j a b => by omega⟩
  case round =>
    obtain ⟨k, nq, hk, rfl, rfl, heq⟩ := hrel
    have HE : Hid (∀ j, n - k ≤ j → j < n → lg A j = lg B j) := heq
    clear heq
    by_cases hlt : k < n
    · obtain ⟨m, hm⟩ : ∃ m : Nat, (n : Int) - 1 - k = m := ⟨n - 1 - k, by omega⟩
      have hm' : m < n := by omega
      have c1 := hca m hm'
      have c2 := hcb m hm'
      clear hca hcb
      have HM : Hid (m = n - 1 - k) := by unfold Hid; omega
      rcases Nat.lt_trichotomy (lg A m) (lg B m) with hc | hc | hc
      · go_wp2
        go_quiet (fail)
        go_wp2
        go_ret
        exact ⟨⟨-1, rfl, Or.inr (Or.inl ⟨rfl, cmp_below hA HA.out HB.out hm' (fun j a b => HE.out j (by have := HM.out; omega) b) hc⟩)⟩, below_drewN hbel _⟩
      · have c2' : W.cell? ⟨gb, m, none⟩ = some (.int .u32 (lg A m : Int)) := by rw [c2, hc]
        clear c2
        have HC : Hid (lg A m = lg B m) := hc
        clear hc
        go_wp2
        go_quiet (fail)
        go_wp2
        go_roundw
        case rel => exact ⟨k + 1, _, by omega, by go_num, rfl, fun j a b => by
          by_cases e : j = m
          · rw [e]; exact HC.out
          · exact HE.out j (by have := HM.out; omega) b⟩
        case measure => simp [intOf]; omega
      · have hc' : ¬ lg A m < lg B m := by omega
        go_wp2
        go_quiet (fail)
        go_wp2
        go_ret
        exact ⟨⟨1, rfl, Or.inr (Or.inr ⟨rfl, cmp_below hB HB.out HA.out hm' (fun j a b => (HE.out j (by have := HM.out; omega) b).symm) hc⟩)⟩, below_drewN hbel _⟩
    · go_wp2
      go_ret
      exact ⟨⟨0, rfl, Or.inl ⟨rfl, cmp_all HA.out HB.out (fun j b => HE.out j (by omega) b)⟩⟩, below_drewN hbel _⟩
set_option maxHeartbeats 400000 in
theorem cmp_less (w : World) (aa ab : Option Addr) (na ca nb cb : Nat) (h : na < nb) :
    Calls Tryd.prog 112 #[.agg #[.slice aa na ca], .agg #[.slice ab nb cb]] w fun e w' => e = .returned (.int .i64 (-1)) ∧ Below w.heap.size w w' := by
  go_enter Tryd.func112, Tryd.ntmps112
  go_wp2
  go_ret
  exact ⟨rfl, ((Below.refl _ _).alloc (Nat.le_refl _) _).alloc (by simp) _⟩
set_option maxHeartbeats 400000 in
theorem cmp_more (w : World) (aa ab : Option Addr) (na ca nb cb : Nat) (h : nb < na) :
    Calls Tryd.prog 112 #[.agg #[.slice aa na ca], .agg #[.slice ab nb cb]] w fun e w' => e = .returned (.int .i64 1) ∧ Below w.heap.size w w' := by
  have h' : ¬ na < nb := by omega
  go_enter Tryd.func112, Tryd.ntmps112
  go_wp2
  go_ret
  exact ⟨rfl, ((Below.refl _ _).alloc (Nat.le_refl _) _).alloc (by simp) _⟩
set_option maxHeartbeats 400000 in
theorem cmp_none (w : World) (aa ab : Option Addr) (ca cb : Nat) :
    Calls Tryd.prog 112 #[.agg #[.slice aa 0 ca], .agg #[.slice ab 0 cb]] w fun e w' => e = .returned (.int .i64 0) ∧ Below w.heap.size w w' := by
  go_enter Tryd.func112, Tryd.ntmps112
  go_wp2
  refine wp_loop_rounds 1 ?_
  rw [rounds_succ]
  go_wp2
  go_ret
  exact ⟨rfl, ((Below.refl _ _).alloc (Nat.le_refl _) _).alloc (by simp) _⟩
/-- -1, 0, 1: below, the same, above. -/
def cmpI (a b : Nat) : Int := if a < b then -1 else if b < a then 1 else 0
theorem cmpI_lt {a b : Nat} (h : a < b) : cmpI a b = -1 := by simp [cmpI, h]
theorem cmpI_gt {a b : Nat} (h : b < a) : cmpI a b = 1 := by simp [cmpI, h]; omega
theorem cmpI_eq {a b : Nat} (h : a = b) : cmpI a b = 0 := by simp [cmpI, h]
theorem cmp_any (w : World) (a b : Value) (m n K K' : Nat) (ha : NatIs w a m K) (hb : NatIs w b n K') :
    Calls Tryd.prog 112 #[a, b] w fun e w' => e = .returned (.int .i64 (cmpI m n)) ∧ Below w.heap.size w w' := by
  obtain ⟨sa, A, rfl, oa, bA, tA, rfl, _⟩ := ha
  obtain ⟨sb, B, rfl, ob, bB, tB, rfl, _⟩ := hb
  obtain ⟨aa, ca, ea⟩ := oa.slice
  obtain ⟨ab, cb, eb⟩ := ob.slice
  rcases Nat.lt_trichotomy A.length B.length with h | h | h
  · rw [ea, eb]
    refine (cmp_less w aa ab _ ca _ cb h).mono ?_
    rintro e w' ⟨rfl, hw⟩
    exact ⟨by rw [cmpI_lt (val_lt_len bA tB h)], hw⟩
  · by_cases h0 : A.length = 0
    · rw [ea, eb, ← h, h0]
      refine (cmp_none w aa ab ca cb).mono ?_
      rintro e w' ⟨rfl, hw⟩
      have e1 : A = [] := List.eq_nil_of_length_eq_zero h0
      have e2 : B = [] := List.eq_nil_of_length_eq_zero (by omega)
      exact ⟨by rw [cmpI_eq (by rw [e1, e2])], hw⟩
    · rcases oa.form with ⟨_, e1⟩ | ⟨ga, ca', e1, h1, h3, _⟩
      · simp [e1] at h0
      rcases ob.form with ⟨_, e2⟩ | ⟨gb, cb', e2, h2, h4, _⟩
      · exact absurd (by rw [h, e2]; rfl) h0
      subst e1 e2
      have ob' : w.ownsRow 0 73 1 (.slice (some ⟨gb, 0, none⟩) A.length cb') A.length (u32s B) := by rw [h]; exact ob
      have := cmp_same w ga ca' gb cb' A.length A B bA bB rfl h.symm oa ob' h1 (by omega) h3 h4
      rw [h] at this
      rw [← h] at this ⊢
      refine this.mono ?_
      rintro e w' ⟨⟨r, rfl, hr⟩, hw⟩
      refine ⟨?_, hw⟩
      rcases hr with ⟨rfl, e⟩ | ⟨rfl, e⟩ | ⟨rfl, e⟩
      · rw [cmpI_eq (by rw [e])]
      · rw [cmpI_lt e]
      · rw [cmpI_gt e]
  · rw [ea, eb]
    refine (cmp_more w aa ab _ ca _ cb h).mono ?_
    rintro e w' ⟨rfl, hw⟩
    exact ⟨by rw [cmpI_gt (val_lt_len bB tA h)], hw⟩
end Go.Proofs.YtchibjdhdbkdhaaDoor
