/- Walk1, Cmp, RBase, NBase, Scale, IsText, Parse, RParse, SParse, Of, NOf, DivLimb, Times, ROf. -/
import Derived.Test.YtcdkoadobdgbhaaGreatDoorPk5
import Derived.BigQuiet
import Derived.Deep.QuietTactic
import Derived.Test.YtcdkoadobdgbhaaGreatDoorPk0
/- trim, limb, Cmp: what each call answers. -/
namespace Go.Proofs.YtcdkoadobdgbhaaGreatDoor
open Go.RowKit
set_option linter.unusedVariables false
set_option maxRecDepth 100000
set_option linter.unusedSimpArgs false

set_option maxHeartbeats 400000 in
theorem trim_some (w : World) (base g cap : Nat) (L : List Nat) (hl : L.length ≤ cap) (hcap : cap ≤ maxLen) (hown : w.ownsRow base 213 1 (.slice (some ⟨g, 0, none⟩) L.length cap) L.length (u32s L)) :
    Calls Tryz.prog 173 #[.slice (some ⟨g, 0, none⟩) L.length cap] w fun e w' => (∃ k, k ≤ L.length ∧ (∀ j, k ≤ j → lg L j = 0) ∧ (k ≠ 0 → lg L (k - 1) ≠ 0) ∧ 
      e = .returned (if k = 0 then .slice none 0 0 else .slice (some ⟨g, 0, none⟩) k cap)) ∧ w' = w := by
  have hcell := u32s_at hown
  unfold maxLen at hcap
  go_enter Tryz.func173, Tryz.ntmps173
  go_wp2
  go_loop [3] (fun n => ∃ k : Nat, k ≤ L.length ∧ n = .int .i64 k ∧ (∀ j, k ≤ j → lg L j = 0)) (fun n => (intOf n).toNat)
  case atStart => exact ⟨L.length, Nat.le_refl _, rfl, by intro j hj; exact lg_past L j hj⟩
  case round =>
    obtain ⟨k, hk, rfl, hz⟩ := hrel
    have Hz : Hid (∀ j, k ≤ j → lg L j = 0) := hz
    clear hz
    by_cases h0 : 0 < k
    · have hc := hcell (k - 1) (by omega)
      obtain ⟨m, rfl⟩ : ∃ m, k = m + 1 := ⟨k - 1, by omega⟩
      simp only [Nat.add_sub_cancel] at hc
      clear hcell
      by_cases hlm : lg L m = 0
      · rw [hlm] at hc
        go_wp2
        go_round
        case rel => exact ⟨m, by omega, by go_num, fun j hj => by
          by_cases e : j = m
          · rw [e]; exact hlm
          · exact Hz.out j (by omega)⟩
        case measure => simp [intOf]
      · have hlm' : ((lg L m : Int) == 0) = false := by simp; omega
        go_wp2
        go_ret
        exact ⟨⟨m + 1, hk, Hz.out, fun _ => hlm, by simp⟩, rfl⟩
    · go_wp2
      go_ret
      exact ⟨⟨k, hk, Hz.out, fun h => absurd h (by omega), by simp [show k = 0 by omega]⟩, rfl⟩
set_option maxHeartbeats 400000 in
theorem trim_nil (w : World) : Calls Tryz.prog 173 #[.slice none 0 0] w fun e w' => e = .returned (.slice none 0 0) ∧ w' = w := by
  go_enter Tryz.func173, Tryz.ntmps173
  go_wp2
  refine wp_loop_rounds 1 ?_
  rw [rounds_succ]
  go_wp2
  go_ret
  exact ⟨rfl, rfl⟩
/-- trim: the same number, without noughts at its end. -/
theorem trim_base (w : World) (base : Nat) (v : Value) (L : List Nat) (hb : Bd L) (h : w.ownsRow base 213 1 v L.length (u32s L)) :
    Calls Tryz.prog 173 #[v] w fun e w' => (∃ v' M, e = .returned v' ∧ w.ownsRow base 213 1 v' M.length (u32s M) ∧ Bd M ∧ Top M ∧ val M = val L ∧ M.length ≤ L.length) ∧ w' = w := by
  have h0 : Limbs w v L := ownsRow_base0 h
  rcases h0.form with ⟨rfl, rfl⟩ | ⟨g, cap, rfl, h1, h2, _⟩
  · refine (trim_nil w).mono ?_
    rintro e w' ⟨rfl, rfl⟩
    exact ⟨⟨_, [], rfl, h, hb, by intro h; simp at h, rfl, Nat.le_refl _⟩, rfl⟩
  · refine (trim_some w base g cap L h1 h2 h).mono ?_
    rintro e w' ⟨⟨k, hk, hz, hn, rfl⟩, rfl⟩
    refine ⟨⟨_, L.take k, rfl, ?_, Bd_take hb k, Top_take L k hk hn, take_val L k hk hz, by simp; omega⟩, rfl⟩
    by_cases e : k = 0
    · subst e; simpa [u32s] using World.ownsRow_nil _ _ _ _
    · rw [if_neg e]
      have hlen : (L.take k).length = k := by simp; omega
      have := ownsRow_take h hk
      rw [hlen, u32s_take]
      exact this

set_option maxHeartbeats 400000 in
theorem limb_any (w : World) (v : Value) (L : List Nat) (hb : Bd L) (h : Limbs w v L) (i : Nat) :
    Calls Tryz.prog 181 #[.agg #[v], .int .i64 i] w fun e w' => e = .returned (.int .u64 (lg L i : Int)) ∧ ∃ c, w' = w.alloc (.cells c 69) := by
  have hlt := hb i
  rcases h.form with ⟨rfl, rfl⟩ | ⟨g, cap, rfl, h1, h2, hg⟩
  · have e : lg [] i = 0 := by simp [lg]
    rw [e]
    go_enter Tryz.func181, Tryz.ntmps181
    go_wp2
    go_ret
    exact ⟨by simp, _, rfl⟩
  · by_cases hlt' : i < L.length
    · have hc2 : ∀ o, (w.alloc o).cell? ⟨g, i, none⟩ = some (.int .u32 (lg L i : Int)) := fun o => u32s_at (L := L) (h.alloc o) i hlt'
      unfold maxLen at h2
      go_enter Tryz.func181, Tryz.ntmps181
      go_wp2
      go_ret
      exact ⟨by simp, _, rfl⟩
    · have e : lg L i = 0 := lg_past L i (by omega)
      rw [e]
      unfold maxLen at h2
      go_enter Tryz.func181, Tryz.ntmps181
      go_wp2
      go_ret
      exact ⟨by simp, _, rfl⟩
end Go.Proofs.YtcdkoadobdgbhaaGreatDoor
/- Cmp: the order of two numbers. -/
namespace Go.Proofs.YtcdkoadobdgbhaaGreatDoor
open Go.RowKit
set_option linter.unusedVariables false
set_option maxRecDepth 100000
set_option linter.unusedSimpArgs false

theorem cmp_below {A B : List Nat} {n m : Nat} (hA : Bd A) (ha : A.length = n) (hb : B.length = n) (hm : m < n) (he : ∀ j, m < j → j < n → lg A j = lg B j) (h : lg A m < lg B m) : val A < val B := by
  unfold val; rw [ha, hb]; exact pv_lt_at hA m n hm he h
theorem cmp_all {A B : List Nat} {n : Nat} (ha : A.length = n) (hb : B.length = n) (he : ∀ j, j < n → lg A j = lg B j) : A = B := by
  refine list_ext_lg (by omega) fun j => ?_
  by_cases h : j < n
  · exact he j h
  · rw [lg_past A j (by omega), lg_past B j (by omega)]
set_option maxHeartbeats 800000 in
theorem cmp_same (w : World) (ga ca gb cb n : Nat) (A B : List Nat) (hA : Bd A) (hB : Bd B) (hAn : A.length = n) (hBn : B.length = n)
    (ha : w.ownsRow 0 213 1 (.slice (some ⟨ga, 0, none⟩) n ca) n (u32s A)) (hb : w.ownsRow 0 213 1 (.slice (some ⟨gb, 0, none⟩) n cb) n (u32s B)) (h1 : n ≤ ca) (h2 : n ≤ cb) (h3 : ca ≤ maxLen) (h4 : cb ≤ maxLen) :
    Calls Tryz.prog 159 #[.agg #[.slice (some ⟨ga, 0, none⟩) n ca], .agg #[.slice (some ⟨gb, 0, none⟩) n cb]] w fun e w' => (∃ r : Int, e = .returned (.int .i64 r) ∧ (r = 0 ∧ A = B ∨ r = -1 ∧ val A < val B ∨ r = 1 ∧ val B < val A)) ∧ Below w.heap.size w w' := by
  have hca : ∀ o o' k, k < n → ((w.alloc o).alloc o').cell? ⟨ga, k, none⟩ = some (.int .u32 (lg A k : Int)) := fun o o' k hk => u32s_at (L := A) (World.ownsRow.alloc (World.ownsRow.alloc ha o) o') k (by omega)
  have hcb : ∀ o o' k, k < n → ((w.alloc o).alloc o').cell? ⟨gb, k, none⟩ = some (.int .u32 (lg B k : Int)) := fun o o' k hk => u32s_at (L := B) (World.ownsRow.alloc (World.ownsRow.alloc hb o) o') k (by omega)
  have HA : Hid (A.length = n) := hAn
  have HB : Hid (B.length = n) := hBn
  unfold maxLen at h3 h4
  clear ha hb hAn hBn
  go_enter Tryz.func159, Tryz.ntmps159
  go_wp2
  have hca := hca (.cells #[Value.slice (some ⟨ga, 0, none⟩) n ca] 69) (.cells #[Value.slice (some ⟨gb, 0, none⟩) n cb] 69)
  have hcb := hcb (.cells #[Value.slice (some ⟨ga, 0, none⟩) n ca] 69) (.cells #[Value.slice (some ⟨gb, 0, none⟩) n cb] 69)
  have hbel : Below w.heap.size w ((w.alloc (.cells #[Value.slice (some ⟨ga, 0, none⟩) n ca] 69)).alloc (.cells #[Value.slice (some ⟨gb, 0, none⟩) n cb] 69)) :=
    ((Below.refl _ _).alloc (Nat.le_refl _) _).alloc (by simp) _
  have hbx : ((w.alloc (.cells #[Value.slice (some ⟨ga, 0, none⟩) n ca] 69)).alloc (.cells #[Value.slice (some ⟨gb, 0, none⟩) n cb] 69)).cell? ⟨w.heap.size, 0, none⟩ = some (Value.slice (some ⟨ga, 0, none⟩) n ca) := by simp [go_sem]
  have hby : ((w.alloc (.cells #[Value.slice (some ⟨ga, 0, none⟩) n ca] 69)).alloc (.cells #[Value.slice (some ⟨gb, 0, none⟩) n cb] 69)).cell? ⟨w.heap.size + 1, 0, none⟩ = some (Value.slice (some ⟨gb, 0, none⟩) n cb) := by simp [go_sem]
  generalize (w.alloc (.cells #[Value.slice (some ⟨ga, 0, none⟩) n ca] 69)).alloc (.cells #[Value.slice (some ⟨gb, 0, none⟩) n cb] 69) = W at *
  go_loopw [25] (fun i wr => ∃ k nq : Nat, k ≤ n ∧ i = .int .i64 k ∧ wr = W.drewN nq ∧ (∀ j, n - k ≤ j → j < n → lg A j = lg B j)) (fun i _ => n - (intOf i).toNat)
  case atStart => exact ⟨0, 0, Nat.zero_le _, rfl, rfl, fun j a b => by omega⟩
  case round =>
    obtain ⟨k, nq, hk, rfl, rfl, heq⟩ := hrel
    have HE : Hid (∀ j, n - k ≤ j → j < n → lg A j = lg B j) := heq
    clear heq
    by_cases hlt : k < n
    · obtain ⟨m, hm⟩ : ∃ m : Nat, (n : Int) - 1 - k = m := ⟨n - 1 - k, by omega⟩
      have hm' : m < n := by omega
      have c1 := hca m hm'
      have c2 := hcb m hm'
      clear hca hcb
      have HM : Hid (m = n - 1 - k) := by unfold Hid; omega
      rcases Nat.lt_trichotomy (lg A m) (lg B m) with hc | hc | hc
      · go_wp2
        go_quiet (fail)
        go_wp2
        go_ret
        exact ⟨⟨-1, rfl, Or.inr (Or.inl ⟨rfl, cmp_below hA HA.out HB.out hm' (fun j a b => HE.out j (by have := HM.out; omega) b) hc⟩)⟩, below_drewN hbel _⟩
      · have c2' : W.cell? ⟨gb, m, none⟩ = some (.int .u32 (lg A m : Int)) := by rw [c2, hc]
        clear c2
        have HC : Hid (lg A m = lg B m) := hc
        clear hc
        go_wp2
        go_quiet (fail)
        go_wp2
        go_roundw
        case rel => exact ⟨k + 1, _, by omega, by go_num, rfl, fun j a b => by
          by_cases e : j = m
          · rw [e]; exact HC.out
          · exact HE.out j (by have := HM.out; omega) b⟩
        case measure => simp [intOf]; omega
      · have hc' : ¬ lg A m < lg B m := by omega
        go_wp2
        go_quiet (fail)
        go_wp2
        go_ret
        exact ⟨⟨1, rfl, Or.inr (Or.inr ⟨rfl, cmp_below hB HB.out HA.out hm' (fun j a b => (HE.out j (by have := HM.out; omega) b).symm) hc⟩)⟩, below_drewN hbel _⟩
    · go_wp2
      go_ret
      exact ⟨⟨0, rfl, Or.inl ⟨rfl, cmp_all HA.out HB.out (fun j b => HE.out j (by omega) b)⟩⟩, below_drewN hbel _⟩
set_option maxHeartbeats 400000 in
theorem cmp_less (w : World) (aa ab : Option Addr) (na ca nb cb : Nat) (h : na < nb) :
    Calls Tryz.prog 159 #[.agg #[.slice aa na ca], .agg #[.slice ab nb cb]] w fun e w' => e = .returned (.int .i64 (-1)) ∧ Below w.heap.size w w' := by
  go_enter Tryz.func159, Tryz.ntmps159
  go_wp2
  go_ret
  exact ⟨rfl, ((Below.refl _ _).alloc (Nat.le_refl _) _).alloc (by simp) _⟩
set_option maxHeartbeats 400000 in
theorem cmp_more (w : World) (aa ab : Option Addr) (na ca nb cb : Nat) (h : nb < na) :
    Calls Tryz.prog 159 #[.agg #[.slice aa na ca], .agg #[.slice ab nb cb]] w fun e w' => e = .returned (.int .i64 1) ∧ Below w.heap.size w w' := by
  have h' : ¬ na < nb := by omega
  go_enter Tryz.func159, Tryz.ntmps159
  go_wp2
  go_ret
  exact ⟨rfl, ((Below.refl _ _).alloc (Nat.le_refl _) _).alloc (by simp) _⟩
set_option maxHeartbeats 400000 in
theorem cmp_none (w : World) (aa ab : Option Addr) (ca cb : Nat) :
    Calls Tryz.prog 159 #[.agg #[.slice aa 0 ca], .agg #[.slice ab 0 cb]] w fun e w' => e = .returned (.int .i64 0) ∧ Below w.heap.size w w' := by
  go_enter Tryz.func159, Tryz.ntmps159
  go_wp2
  refine wp_loop_rounds 1 ?_
  rw [rounds_succ]
  go_wp2
  go_ret
  exact ⟨rfl, ((Below.refl _ _).alloc (Nat.le_refl _) _).alloc (by simp) _⟩
/-- -1, 0, 1: below, the same, above. -/
def cmpI (a b : Nat) : Int := if a < b then -1 else if b < a then 1 else 0
theorem cmpI_lt {a b : Nat} (h : a < b) : cmpI a b = -1 := by simp [cmpI, h]
theorem cmpI_gt {a b : Nat} (h : b < a) : cmpI a b = 1 := by simp [cmpI, h]; omega
theorem cmpI_eq {a b : Nat} (h : a = b) : cmpI a b = 0 := by simp [cmpI, h]
theorem cmp_any (w : World) (a b : Value) (m n K K' : Nat) (ha : NatIs w a m K) (hb : NatIs w b n K') :
    Calls Tryz.prog 159 #[a, b] w fun e w' => e = .returned (.int .i64 (cmpI m n)) ∧ Below w.heap.size w w' := by
  obtain ⟨sa, A, rfl, oa, bA, tA, rfl, _⟩ := ha
  obtain ⟨sb, B, rfl, ob, bB, tB, rfl, _⟩ := hb
  obtain ⟨aa, ca, ea⟩ := oa.slice
  obtain ⟨ab, cb, eb⟩ := ob.slice
  rcases Nat.lt_trichotomy A.length B.length with h | h | h
  · rw [ea, eb]
    refine (cmp_less w aa ab _ ca _ cb h).mono ?_
    rintro e w' ⟨rfl, hw⟩
    exact ⟨by rw [cmpI_lt (val_lt_len bA tB h)], hw⟩
  · by_cases h0 : A.length = 0
    · rw [ea, eb, ← h, h0]
      refine (cmp_none w aa ab ca cb).mono ?_
      rintro e w' ⟨rfl, hw⟩
      have e1 : A = [] := List.eq_nil_of_length_eq_zero h0
      have e2 : B = [] := List.eq_nil_of_length_eq_zero (by omega)
      exact ⟨by rw [cmpI_eq (by rw [e1, e2])], hw⟩
    · rcases oa.form with ⟨_, e1⟩ | ⟨ga, ca', e1, h1, h3, _⟩
      · simp [e1] at h0
      rcases ob.form with ⟨_, e2⟩ | ⟨gb, cb', e2, h2, h4, _⟩
      · exact absurd (by rw [h, e2]; rfl) h0
      subst e1 e2
      have ob' : w.ownsRow 0 213 1 (.slice (some ⟨gb, 0, none⟩) A.length cb') A.length (u32s B) := by rw [h]; exact ob
      have := cmp_same w ga ca' gb cb' A.length A B bA bB rfl h.symm oa ob' h1 (by omega) h3 h4
      rw [h] at this
      rw [← h] at this ⊢
      refine this.mono ?_
      rintro e w' ⟨⟨r, rfl, hr⟩, hw⟩
      refine ⟨?_, hw⟩
      rcases hr with ⟨rfl, e⟩ | ⟨rfl, e⟩ | ⟨rfl, e⟩
      · rw [cmpI_eq (by rw [e])]
      · rw [cmpI_lt e]
      · rw [cmpI_gt e]
  · rw [ea, eb]
    refine (cmp_more w aa ab _ ca _ cb h).mono ?_
    rintro e w' ⟨rfl, hw⟩
    exact ⟨by rw [cmpI_gt (val_lt_len bB tA h)], hw⟩
end Go.Proofs.YtcdkoadobdgbhaaGreatDoor
/- The document's numbers in memory; its trim. -/
namespace Go.Proofs.YtcdkoadobdgbhaaGreatDoor
open Go.RowKit
set_option linter.unusedVariables false
set_option maxRecDepth 100000
set_option linter.unusedSimpArgs false

def i64s (L : List Nat) : List Value := L.map fun x : Nat => Value.int .i64 (x : Int)
theorem i64s_len (L : List Nat) : (i64s L).length = L.length := by simp [i64s]
theorem i64s_set (L : List Nat) (i x : Nat) : i64s (L.set i x) = (i64s L).set i (.int .i64 (x : Int)) := by simp [i64s, List.map_set]
theorem i64s_rep (n : Nat) : i64s (List.replicate n 0) = List.replicate n (.int .i64 0) := by simp [i64s]
theorem i64s_take (L : List Nat) (k : Nat) : i64s (L.take k) = (i64s L).take k := by simp [i64s, List.map_take]
theorem i64s_at {w : World} {base g n cap : Nat} {L : List Nat} (hown : w.ownsRow base 3 1 (.slice (some ⟨g, 0, none⟩) n cap) n (i64s L)) (k : Nat) (hk : k < L.length) :
    w.cell? ⟨g, k, none⟩ = some (.int .i64 (lg L k : Int)) := by
  have hn : (i64s L).length = n * 1 := hown.1
  have h := hown.cellAt k (by rw [← hn]; simpa [i64s] using hk)
  rw [h]; simp [i64s, lg, hk]
/-- v is the document's number n in memory, of at most K digits to the base of a thousand million. -/
def RefIs (w : World) (v : Value) (n K : Nat) : Prop := ∃ sl L, v = .agg #[sl] ∧ w.ownsRow 0 3 1 sl L.length (i64s L) ∧ R.Bd L ∧ Top L ∧ R.val L = n ∧ L.length ≤ K
theorem RefIs.below {w w' : World} {v : Value} {n K : Nat} (h : RefIs w v n K) (hb : Below w.heap.size w w') : RefIs w' v n K := by
  obtain ⟨sl, L, h1, h2, r⟩ := h
  exact ⟨sl, L, h1, ownsRow_below h2 hb, r⟩
theorem RefIs.mono {w : World} {v : Value} {n K K' : Nat} (h : RefIs w v n K) (hk : K ≤ K') : RefIs w v n K' := by
  obtain ⟨sl, L, h1, h2, h3, h4, h5, h6⟩ := h
  exact ⟨sl, L, h1, h2, h3, h4, h5, by omega⟩
set_option maxHeartbeats 400000 in
theorem rtrim_walk (w : World) (g n cap : Nat) (L : List Nat) (hn : L.length = n) (hl : n ≤ cap) (hcap : cap ≤ maxLen) (hg : g < w.heap.size) (hown : w.ownsRow 0 3 1 (.slice (some ⟨g, 0, none⟩) n cap) n (i64s L)) :
    Calls Tryz.prog 115 #[.slice (some ⟨g, 0, none⟩) n cap] w fun e w' => (∃ k, k ≤ n ∧ (∀ j, k ≤ j → lg L j = 0) ∧ (k ≠ 0 → lg L (k - 1) ≠ 0) ∧ 
      e = .returned (.agg #[.slice (some ⟨g, 0, none⟩) k cap])) ∧ Below w.heap.size w w' := by
  have hcell : ∀ o k, k < n → (w.alloc o).cell? ⟨g, k, none⟩ = some (.int .i64 (lg L k : Int)) := fun o k hk => i64s_at (World.ownsRow.alloc hown o) k (by omega)
  have HN := hid hn
  unfold maxLen at hcap
  clear hn hown
  go_enter Tryz.func115, Tryz.ntmps115
  go_wp2
  go_loop [0] (fun v => ∃ k : Nat, k ≤ n ∧ v = .slice (some ⟨g, 0, none⟩) k cap ∧ (∀ j, k ≤ j → lg L j = 0)) (fun v => match v with | .slice _ k _ => k | _ => 0)
  case atStart => exact ⟨n, Nat.le_refl _, rfl, by intro j hj; exact lg_past L j (by rw [HN.out]; exact hj)⟩
  case round =>
    obtain ⟨k, hk, rfl, hz⟩ := hrel
    have Hz := hid hz
    clear hz
    by_cases h0 : 0 < k
    · have hc := fun o => hcell o (k - 1) (by omega)
      obtain ⟨m, rfl⟩ : ∃ m, k = m + 1 := ⟨k - 1, by omega⟩
      simp only [Nat.add_sub_cancel] at hc
      clear hcell
      by_cases hlm : lg L m = 0
      · rw [hlm] at hc
        go_wp2
        go_round
        case rel => exact ⟨m, by omega, by go_num, fun j hj => by
          by_cases e : j = m
          · rw [e]; exact hlm
          · exact Hz.out j (by omega)⟩
        case measure => simp
      · have hlm' : ((lg L m : Int) == 0) = false := by simp; omega
        go_wp2
        exact bodyPost_ret (v := .agg #[.slice (some ⟨g, 0, none⟩) (m + 1) cap]) (by simp [results, Tryz.results115, go_sem]) rfl ⟨⟨m + 1, hk, Hz.out, fun _ => hlm, rfl⟩, (Below.refl _ _).alloc (Nat.le_refl _) _⟩
    · go_wp2
      exact bodyPost_ret (v := .agg #[.slice (some ⟨g, 0, none⟩) k cap]) (by simp [results, Tryz.results115, go_sem]) rfl ⟨⟨k, hk, Hz.out, fun h => absurd h (by omega), rfl⟩, (Below.refl _ _).alloc (Nat.le_refl _) _⟩
/-- The document's trim: the same number, without noughts at its end. -/
theorem rtrim_base (w : World) (base g cap : Nat) (L : List Nat) (hb : R.Bd L) (hown : w.ownsRow base 3 1 (.slice (some ⟨g, 0, none⟩) L.length cap) L.length (i64s L)) :
    Calls Tryz.prog 115 #[.slice (some ⟨g, 0, none⟩) L.length cap] w fun e w' => (∃ sl M, e = .returned (.agg #[sl]) ∧ w'.ownsRow base 3 1 sl M.length (i64s M) ∧ R.Bd M ∧ Top M ∧ R.val M = R.val L ∧ M.length ≤ L.length) ∧ Below w.heap.size w w' := by
  obtain ⟨h1, h2, h3⟩ : L.length ≤ cap ∧ cap ≤ maxLen ∧ g < w.heap.size := by
    rcases hown.2 with ⟨h, _⟩ | ⟨g', cap', cur, hv, _, hh, r1, r2, _⟩
    · simp at h
    · simp only [Value.slice.injEq, Option.some.injEq, Addr.mk.injEq, and_true, true_and] at hv
      obtain ⟨rfl, rfl⟩ := hv
      exact ⟨r1, r2, (Array.getElem?_eq_some_iff.1 hh).1⟩
  refine (rtrim_walk w g L.length cap L rfl h1 h2 h3 (ownsRow_base0 hown)).mono ?_
  rintro e w' ⟨⟨k, hk, hz, hn, rfl⟩, hw⟩
  have hlen : (L.take k).length = k := by simp; omega
  refine ⟨⟨_, L.take k, rfl, ?_, R.Bd_take hb k, Top_take L k hk hn, R.take_val L k hk hz, by simp; omega⟩, hw⟩
  have := ownsRow_below (ownsRow_take hown hk) hw
  rw [hlen, i64s_take]
  exact this
theorem ints_slice {w : World} {base : Nat} {v : Value} {L : List Nat} (h : w.ownsRow base 3 1 v L.length (i64s L)) : ∃ ao cap, v = .slice ao L.length cap := by
  rcases h.2 with ⟨h1, h2⟩ | ⟨g, cap, cur, hv, _⟩
  · exact ⟨none, 0, by rw [h1, h2]⟩
  · exact ⟨_, _, hv⟩
theorem RefIs.box {w : World} {v : Value} {n K : Nat} (h : RefIs w v n K) {b : Nat} {u0 : Value} {t : TypeId} (hb : w.heap[b]? = some (.cells #[u0] t (0, 0))) (hne : 3 ≠ t) (u : Value) : RefIs (w.setCell ⟨b, 0, none⟩ u) v n K := by
  obtain ⟨sl, L, h1, h2, r⟩ := h
  exact ⟨sl, L, h1, own_box h2 hb hne u, r⟩
theorem RefIs.form {w : World} {v : Value} {n K : Nat} (h : RefIs w v n K) : ∃ ao l cap, v = .agg #[.slice ao l cap] := by
  obtain ⟨sl, L, rfl, h2, _⟩ := h
  obtain ⟨ao, cap, rfl⟩ := ints_slice h2
  exact ⟨ao, _, cap, rfl⟩
end Go.Proofs.YtcdkoadobdgbhaaGreatDoor
/- Whole numbers in memory: the program's and the document's. -/
namespace Go.Proofs.YtcdkoadobdgbhaaGreatDoor
open Go.RowKit
set_option linter.unusedVariables false

/-- m, or m below 0. -/
def sgn (b : Bool) (m : Nat) : Int := if b then -(m : Int) else (m : Int)
theorem sgn_abs (b : Bool) (m : Nat) : (sgn b m).natAbs = m := by cases b <;> simp [sgn]
theorem sgn_neg (b : Bool) (m : Nat) : decide (sgn b m < 0) = (b && decide (0 < m)) := by cases b <;> simp [sgn]
theorem sgn_not (z : Int) : sgn (!decide (z < 0)) z.natAbs = -z := by
  unfold sgn; by_cases h : z < 0 <;> simp [h] <;> omega
/-- v is the whole number z in memory, of at most K limbs. -/
def NumIs (w : World) (v : Value) (z : Int) (K : Nat) : Prop := ∃ ao l c, v = .agg #[.slice ao l c, .bool (decide (z < 0))] ∧ NatIs w (.agg #[.slice ao l c]) z.natAbs K
theorem NumIs.below {w w' : World} {v : Value} {z : Int} {K : Nat} (h : NumIs w v z K) (hb : Below w.heap.size w w') : NumIs w' v z K := by
  obtain ⟨ao, l, c, h1, h2⟩ := h
  exact ⟨ao, l, c, h1, h2.below hb⟩
theorem NumIs.mono {w : World} {v : Value} {z : Int} {K K' : Nat} (h : NumIs w v z K) (hk : K ≤ K') : NumIs w v z K' := by
  obtain ⟨ao, l, c, h1, h2⟩ := h
  exact ⟨ao, l, c, h1, h2.mono hk⟩
/-- v is the document's whole number z in memory. -/
def RNumIs (w : World) (v : Value) (z : Int) (K : Nat) : Prop := ∃ ao l c, v = .agg #[.bool (decide (z < 0)), .slice ao l c] ∧ RefIs w (.agg #[.slice ao l c]) z.natAbs K
theorem RNumIs.below {w w' : World} {v : Value} {z : Int} {K : Nat} (h : RNumIs w v z K) (hb : Below w.heap.size w w') : RNumIs w' v z K := by
  obtain ⟨ao, l, c, h1, h2⟩ := h
  exact ⟨ao, l, c, h1, h2.below hb⟩
theorem RNumIs.mono {w : World} {v : Value} {z : Int} {K K' : Nat} (h : RNumIs w v z K) (hk : K ≤ K') : RNumIs w v z K' := by
  obtain ⟨ao, l, c, h1, h2⟩ := h
  exact ⟨ao, l, c, h1, h2.mono hk⟩
/-- -1, 0, 1: below, the same, above. -/
def cmpZ (a b : Int) : Int := if a < b then -1 else if b < a then 1 else 0
def signZ (a : Int) : Int := if a < 0 then -1 else if 0 < a then 1 else 0
theorem nat_zero (w : World) : NatIs w (.agg #[.slice none 0 0]) 0 0 := ⟨_, [], rfl, World.ownsRow_nil w _ _ _, by intro j; simp [lg], fun h => by simp at h, rfl, Nat.le_refl _⟩
/- A variable of two cells. -/
theorem two_cell0 {w : World} {b : Nat} {u v : Value} {t : TypeId} (h : w.heap[b]? = some (.cells #[u, v] t (0, 0))) : w.cell? ⟨b, 0, none⟩ = some u := by simp [World.cell?, h]
theorem two_cell1 {w : World} {b : Nat} {u v : Value} {t : TypeId} (h : w.heap[b]? = some (.cells #[u, v] t (0, 0))) : w.cell? ⟨b, 1, none⟩ = some v := by simp [World.cell?, h]
theorem two_free {w : World} {b k : Nat} {u v : Value} {t : TypeId} (h : w.heap[b]? = some (.cells #[u, v] t (0, 0))) : w.frozen? ⟨b, k, none⟩ = false := by simp [World.frozen?, h]
theorem two_set0 {w : World} {b : Nat} {u v x : Value} {t : TypeId} (h : w.heap[b]? = some (.cells #[u, v] t (0, 0))) : (w.setCell ⟨b, 0, none⟩ x).heap[b]? = some (.cells #[x, v] t (0, 0)) := by
  have hlt := lt_of_block h
  have h' : w.heap[b] = .cells #[u, v] t (0, 0) := by simpa [Array.getElem?_eq_getElem hlt] using h
  show (w.heap.modify b _)[b]? = _
  simp [Array.getElem_modify, hlt, h']
theorem two_set1 {w : World} {b : Nat} {u v x : Value} {t : TypeId} (h : w.heap[b]? = some (.cells #[u, v] t (0, 0))) : (w.setCell ⟨b, 1, none⟩ x).heap[b]? = some (.cells #[u, x] t (0, 0)) := by
  have hlt := lt_of_block h
  have h' : w.heap[b] = .cells #[u, v] t (0, 0) := by simpa [Array.getElem?_eq_getElem hlt] using h
  show (w.heap.modify b _)[b]? = _
  simp [Array.getElem_modify, hlt, h']
theorem two_keep0 {w : World} {b c k : Nat} {v : Value} (h : w.cell? ⟨b, k, none⟩ = some v) (hne : b ≠ c) (x y : Value) : ((w.setCell ⟨c, 0, none⟩ x).setCell ⟨c, 1, none⟩ y).cell? ⟨b, k, none⟩ = some v := by
  have e : ((w.setCell ⟨c, 0, none⟩ x).setCell ⟨c, 1, none⟩ y).heap[b]? = w.heap[b]? := (Below.heap_setCell _ _ y b hne).trans (Below.heap_setCell w _ x b hne)
  rw [← h]
  unfold World.cell?
  simp only [e]
theorem end_two {w w1 : World} {r : Nat} {u0 v0 : Value} {t : TypeId} (hb : Below w.heap.size w w1) (hr : w.heap.size ≤ r) (hy : w1.heap[r]? = some (.cells #[u0, v0] t (0, 0))) (x y : Value) :
    ((w1.setCell ⟨r, 0, none⟩ x).setCell ⟨r, 1, none⟩ y).cell? ⟨r, 0, none⟩ = some x ∧ ((w1.setCell ⟨r, 0, none⟩ x).setCell ⟨r, 1, none⟩ y).cell? ⟨r, 1, none⟩ = some y ∧ Below w.heap.size w ((w1.setCell ⟨r, 0, none⟩ x).setCell ⟨r, 1, none⟩ y) :=
  have k := two_set1 (x := y) (two_set0 (x := x) hy)
  ⟨two_cell0 k, two_cell1 k, (hb.setCell (p := ⟨r, 0, none⟩) hr x).setCell (p := ⟨r, 1, none⟩) hr y⟩
theorem NatIs.box2 {w : World} {v : Value} {n K : Nat} (h : NatIs w v n K) {b : Nat} {u0 v0 : Value} {t : TypeId} (hb : w.heap[b]? = some (.cells #[u0, v0] t (0, 0))) (hne : 213 ≠ t) (x y : Value) : NatIs ((w.setCell ⟨b, 0, none⟩ x).setCell ⟨b, 1, none⟩ y) v n K := by
  obtain ⟨sl, L, h1, h2, r⟩ := h
  have hn : (sl.ownBlock ≠ some b) := by
    rcases h2.2 with ⟨rfl, _⟩ | ⟨g, cap, cur, rfl, _, hh, _⟩
    · simp [Value.ownBlock]
    · simp only [Value.ownBlock, ne_eq, Option.some.injEq]
      intro e1
      rw [e1, hb] at hh
      simp only [Option.some.injEq, Obj.cells.injEq] at hh
      exact hne hh.2.1.symm
  exact ⟨sl, L, h1, ownsRow_setCell_other (ownsRow_setCell_other h2 hn x) hn y, r⟩
theorem RefIs.box2 {w : World} {v : Value} {n K : Nat} (h : RefIs w v n K) {b : Nat} {u0 v0 : Value} {t : TypeId} (hb : w.heap[b]? = some (.cells #[u0, v0] t (0, 0))) (hne : 3 ≠ t) (x y : Value) : RefIs ((w.setCell ⟨b, 0, none⟩ x).setCell ⟨b, 1, none⟩ y) v n K := by
  obtain ⟨sl, L, h1, h2, r⟩ := h
  have hn : (sl.ownBlock ≠ some b) := by
    rcases h2.2 with ⟨rfl, _⟩ | ⟨g, cap, cur, rfl, _, hh, _⟩
    · simp [Value.ownBlock]
    · simp only [Value.ownBlock, ne_eq, Option.some.injEq]
      intro e1
      rw [e1, hb] at hh
      simp only [Option.some.injEq, Obj.cells.injEq] at hh
      exact hne hh.2.1.symm
  exact ⟨sl, L, h1, ownsRow_setCell_other (ownsRow_setCell_other h2 hn x) hn y, r⟩
theorem kc {W X : World} {p : Addr} {v : Value} (h : Below W.heap.size W X) (hp : W.cell? p = some v) : X.cell? p = some v := (h.cell (World.block_lt_of_cell? W _ hp)).trans hp
theorem boxed3 {w u : World} (h : Below w.heap.size w u) (A B C : Obj) : Below w.heap.size w (((u.alloc A).alloc B).alloc C) := below_alloc' (boxed2 h A B) (Nat.le_refl _) C
theorem boxed3_first (u : World) (A B C : Obj) : (((u.alloc A).alloc B).alloc C).heap[u.heap.size]? = some A := box_alloc (boxed2_first u A B) C
theorem boxed3_second (u : World) (A B C : Obj) : (((u.alloc A).alloc B).alloc C).heap[u.heap.size + 1]? = some B := box_alloc (boxed2_second u A B) C
theorem boxed3_third (u : World) (A B C : Obj) : (((u.alloc A).alloc B).alloc C).heap[u.heap.size + 1 + 1]? = some C := by
  have := box_new ((u.alloc A).alloc B) C
  simpa using this
theorem NumIs.box2 {w : World} {v : Value} {z : Int} {K : Nat} (h : NumIs w v z K) {b : Nat} {u0 v0 : Value} {t : TypeId} (hb : w.heap[b]? = some (.cells #[u0, v0] t (0, 0))) (hne : 213 ≠ t) (x y : Value) : NumIs ((w.setCell ⟨b, 0, none⟩ x).setCell ⟨b, 1, none⟩ y) v z K := by
  obtain ⟨ao, l, c, h1, h2⟩ := h
  exact ⟨ao, l, c, h1, h2.box2 hb hne x y⟩
theorem RNumIs.box2 {w : World} {v : Value} {z : Int} {K : Nat} (h : RNumIs w v z K) {b : Nat} {u0 v0 : Value} {t : TypeId} (hb : w.heap[b]? = some (.cells #[u0, v0] t (0, 0))) (hne : 3 ≠ t) (x y : Value) : RNumIs ((w.setCell ⟨b, 0, none⟩ x).setCell ⟨b, 1, none⟩ y) v z K := by
  obtain ⟨ao, l, c, h1, h2⟩ := h
  exact ⟨ao, l, c, h1, h2.box2 hb hne x y⟩
end Go.Proofs.YtcdkoadobdgbhaaGreatDoor
/- scaleUp: the limbs made factor times as great, and more added. -/
namespace Go.Proofs.YtcdkoadobdgbhaaGreatDoor
open Go.RowKit
set_option linter.unusedVariables false
set_option maxRecDepth 100000
set_option linter.unusedSimpArgs false

theorem grown_trans {a b c : World} {row : Option Nat} (h : a.grownBy b row) (k : b.grownBy c row) : a.grownBy c row :=
  ⟨k.os.trans h.os, k.tape.trans h.tape, k.output.trans h.output, Nat.le_trans h.size k.size, fun i hi hn => (k.block i (Nat.lt_of_lt_of_le hi h.size) hn).trans (h.block i hi hn)⟩
theorem scale_next (L S : List Nat) (f m k d n : Nat) (hk : k < n) (h : S.length = n ∧ Bd S ∧ (∀ j, k ≤ j → lg S j = lg L j) ∧ pv S k + d * 4294967296 ^ k = pv L k * f + m) :
    (S.set k ((lg L k * f + d) % 4294967296)).length = n ∧ Bd (S.set k ((lg L k * f + d) % 4294967296)) ∧ (∀ j, k + 1 ≤ j → lg (S.set k ((lg L k * f + d) % 4294967296)) j = lg L j) ∧
      pv (S.set k ((lg L k * f + d) % 4294967296)) (k + 1) + (lg L k * f + d) / 4294967296 * 4294967296 ^ (k + 1) = pv L (k + 1) * f + m := by
  obtain ⟨h1, h2, h3, h4⟩ := h
  refine ⟨by simpa using h1, Bd_set h2 k _ (by omega), fun j hj => ?_, scale_round L S f m k d (by omega) h4⟩
  rw [lg_set_other S k _ j (by omega)]; exact h3 j (by omega)
set_option maxHeartbeats 800000 in
theorem scale_any (w : World) (base g n cap : Nat) (L : List Nat) (hb : Bd L) (hl : L.length = n) (hcap : n ≤ cap) (hcm : cap ≤ maxLen) (hown : w.ownsRow base 213 1 (.slice (some ⟨g, 0, none⟩) n cap) n (u32s L))
    (f m : Nat) (hf : f < 4294967296) (hm : m < 4294967296) (hfit : val L * f + m < 4294967296 ^ n) :
    Calls Tryz.prog 172 #[.slice (some ⟨g, 0, none⟩) n cap, .int .u32 f, .int .u32 m] w fun e w' => e = .returned (.tuple #[]) ∧ (∃ L', L'.length = n ∧ Bd L' ∧ val L' = val L * f + m ∧ w'.ownsRow base 213 1 (.slice (some ⟨g, 0, none⟩) n cap) n (u32s L')) ∧ w.grownBy w' (some g) := by
  have HF := hid (And.intro hl hfit)
  clear hl hfit
  unfold maxLen at hcm
  go_enter Tryz.func172, Tryz.ntmps172
  go_wp2
  go_loopw [6, 13] (fun c i wr => ∃ (k d : Nat) (S : List Nat), k ≤ n ∧ i = .int .i64 k ∧ c = .int .u64 d ∧ d < 4294967296 ∧ S.length = n ∧ Bd S ∧ (∀ j, k ≤ j → lg S j = lg L j) ∧ pv S k + d * 4294967296 ^ k = pv L k * f + m ∧
        wr.ownsRow base 213 1 (.slice (some ⟨g, 0, none⟩) n cap) n (u32s S) ∧ w.grownBy wr (some g)) (fun _ i _ => n - (intOf i).toNat)
  case atStart => exact ⟨0, m, L, Nat.zero_le _, rfl, rfl, hm, HF.out.1, hb, fun j _ => rfl, by simp [pv], hown, World.grownBy.refl _ _⟩
  case round =>
    obtain ⟨k, d, S, hk, rfl, rfl, hd, hS, hSb, hSz, hpv, hown', hgr⟩ := hrel
    have R : Hid (S.length = n ∧ Bd S ∧ (∀ j, k ≤ j → lg S j = lg L j) ∧ pv S k + d * 4294967296 ^ k = pv L k * f + m) := ⟨hS, hSb, hSz, hpv⟩
    have hst := u32s_at hown' k
    rw [hS, hSz k (Nat.le_refl _)] at hst
    clear hS hSb hSz hpv hown
    by_cases hlt : k < n
    · have hst := hst hlt
      have hfr := hown'.frozenAt k
      have RN := scale_next L S f m k d n hlt R.out
      have hT := mul_lt_limb (hb k) hf hd
      have own3 := hown'.stored k (.int .u32 (((lg L k * f + d) % 4294967296 : Nat) : Int))
      rw [← u32s_set] at own3
      have hxf : ((lg L k : Nat) : Int) * (f : Int) = ((lg L k * f : Nat) : Int) := by simp
      obtain ⟨p, hp⟩ : ∃ p, lg L k * f = p := ⟨_, rfl⟩
      rw [hp] at hT RN own3 hxf
      obtain ⟨h1, h2, h3⟩ := hT
      have HO := hid own3
      have HR := hid RN
      clear own3 RN hp
      have HX := hid (hb k)
      go_wp2
      have eW : IntKind.u64.wrap (IntKind.u64.wrap (IntKind.u64.wrap ↑(lg L k) * ↑f) + ↑d) = ((p + d : Nat) : Int) := by
        have h0 := HX.out
        have e1 : IntKind.u64.wrap (lg L k : Int) = (lg L k : Int) := w64 _ (by omega) (by omega)
        rw [e1, hxf]
        have e2 : IntKind.u64.wrap ((p : Nat) : Int) = (p : Int) := w64 _ (by omega) (by omega)
        rw [e2, w64 _ (by omega) (by omega)]; omega
      rw [eW]
      have O := HO.out
      rw [show (((p + d) % 4294967296 : Nat) : Int) = ((p + d : Nat) : Int) % 4294967296 by omega] at O
      go_roundw
      case rel => exact ⟨k + 1, (p + d) / 4294967296, S.set k ((p + d) % 4294967296), by omega, by go_num, by go_num, h2, HR.out.1, HR.out.2.1, HR.out.2.2.1, HR.out.2.2.2, O.1, grown_trans hgr O.2⟩
      case measure => simp [intOf]; omega
    · go_wp2
      go_end0
      have hk' : k = n := by omega
      subst hk'
      obtain ⟨r1, r2, _, r4⟩ := R.out
      obtain ⟨q1, q2⟩ := HF.out
      rw [pv_val L k (by omega)] at r4
      have := no_carry r4 q2
      exact ⟨rfl, ⟨S, r1, r2, by rw [← this.2]; exact (pv_val S k (by omega)).symm, hown'⟩, hgr⟩
end Go.Proofs.YtcdkoadobdgbhaaGreatDoor
/- isText: is it a number's text? -/
namespace Go.Proofs.YtcdkoadobdgbhaaGreatDoor
open Go.RowKit
set_option linter.unusedVariables false
set_option maxRecDepth 100000
set_option linter.unusedSimpArgs false

theorem tl_len (s : ByteArray) : s.toList.length = s.size := by rw [ByteArray.toList_eq]; rfl
theorem tl_empty {s : ByteArray} (h : s.size ≠ 0) : s.toList.isEmpty = false := by
  have := tl_len s
  cases hl : s.toList with
  | nil => rw [hl] at this; simp at this; omega
  | cons a r => rfl
theorem tl_none {s : ByteArray} (h : s.size = 0) : s.toList.isEmpty = true := by
  have := tl_len s
  cases hl : s.toList with
  | nil => rfl
  | cons a r => rw [hl] at this; simp at this; omega
theorem tl_long {s : ByteArray} (h : 1 < s.size) : (s.toList == [48]) = false := by
  rw [beq_eq_false_iff_ne]; intro e
  have := tl_len s
  rw [e] at this; simp at this; omega
theorem tl_nought {s : ByteArray} (h : s.size = 1) (h0 : bt s 0 = 48) : (s.toList == [48]) = true := by
  have e : s = ⟨#[48]⟩ := by
    refine ext_bt h ?_
    intro k hk
    obtain rfl : k = 0 := by omega
    rw [h0]; rfl
  rw [e, ByteArray.toList_eq]; rfl
set_option maxHeartbeats 800000 in
theorem isText_empty (s : ByteArray) (w : World) (h : s.size = 0) :
    Calls Tryz.prog 171 #[.string s] w fun e w' => e = .returned (.bool false) ∧ w' = w := by
  have e1 := tl_none h
  clear h
  go_enter Tryz.func171, Tryz.ntmps171
  go_wp2
  go_ret
  exact ⟨rfl, rfl⟩
set_option maxHeartbeats 800000 in
theorem isText_nought (s : ByteArray) (w : World) (h : 1 < s.size) (h0 : bt s 0 = 48) :
    Calls Tryz.prog 171 #[.string s] w fun e w' => e = .returned (.bool false) ∧ w' = w := by
  have hp : 0 < s.size := by omega
  have e0 : (s[0]'hp).toNat = 48 := by rw [bt_at s 0 (by omega)]; exact h0
  have e1 := tl_empty (show s.size ≠ 0 by omega)
  have e2 := tl_long h
  clear h0
  go_enter Tryz.func171, Tryz.ntmps171
  go_wp2
  go_ret
  exact ⟨rfl, rfl⟩
set_option maxHeartbeats 800000 in
theorem isText_loop (s : ByteArray) (w : World) (hs : s.size ≤ 1000000000) (h : s.size ≠ 0) (h0 : 1 < s.size → bt s 0 ≠ 48) :
    Calls Tryz.prog 171 #[.string s] w fun e w' => ((Txt s ∧ e = .returned (.bool true)) ∨ (¬ Txt s ∧ e = .returned (.bool false))) ∧ w' = w := by
  have hp : 0 < s.size := by omega
  have e1 := tl_empty h
  have e0 := bt_at s 0 hp
  have H0 := hid (And.intro h h0)
  by_cases hb : bt s 0 = 48
  · have h1 : s.size = 1 := by
      by_cases h1 : 1 < s.size
      · exact absurd hb (h0 h1)
      · omega
    have e2 := tl_nought h1 hb
    rw [hb] at e0
    clear h0 h hb h1
    go_enter Tryz.func171, Tryz.ntmps171
    go_wp2
    go_loop [17] (fun i => ∃ k : Nat, k ≤ s.size ∧ i = .int .i64 k ∧ ∀ j, j < k → 48 ≤ bt s j ∧ bt s j ≤ 57) (fun i => s.size - (intOf i).toNat)
    case atStart => exact ⟨0, Nat.zero_le _, rfl, fun j hj => by omega⟩
    case round =>
      obtain ⟨k, hk, rfl, hd⟩ := hrel
      have HD := hid hd
      clear hd
      by_cases hlt : k < s.size
      · have ek := bt_at s k hlt
        rcases (show bt s k < 48 ∨ 57 < bt s k ∨ 48 ≤ bt s k ∧ bt s k ≤ 57 by omega) with hc | hc | ⟨hc, hc'⟩
        · go_wp2
          go_ret
          exact ⟨Or.inr ⟨fun h => by have := (h.2.2 k hlt).1; omega, rfl⟩, rfl⟩
        · have hc' : ¬ bt s k < 48 := by omega
          go_wp2
          go_ret
          exact ⟨Or.inr ⟨fun h => by have := (h.2.2 k hlt).2; omega, rfl⟩, rfl⟩
        · go_wp2
          go_round
          case rel => exact ⟨k + 1, by omega, by go_num, fun j hj => by
            by_cases e : j = k
            · subst e; exact ⟨hc, hc'⟩
            · exact HD.out j (by omega)⟩
          case measure => simp [intOf]; omega
      · go_wp2
        go_ret
        exact ⟨Or.inl ⟨⟨H0.out.1, H0.out.2, fun j hj => HD.out j (by omega)⟩, rfl⟩, rfl⟩
  · have e3 : ((bt s 0 : Int) == 48) = false := by simp; omega
    clear h0 h hb
    go_enter Tryz.func171, Tryz.ntmps171
    go_wp2
    go_loop [17] (fun i => ∃ k : Nat, k ≤ s.size ∧ i = .int .i64 k ∧ ∀ j, j < k → 48 ≤ bt s j ∧ bt s j ≤ 57) (fun i => s.size - (intOf i).toNat)
    case atStart => exact ⟨0, Nat.zero_le _, rfl, fun j hj => by omega⟩
    case round =>
      obtain ⟨k, hk, rfl, hd⟩ := hrel
      have HD := hid hd
      clear hd
      by_cases hlt : k < s.size
      · have ek := bt_at s k hlt
        rcases (show bt s k < 48 ∨ 57 < bt s k ∨ 48 ≤ bt s k ∧ bt s k ≤ 57 by omega) with hc | hc | ⟨hc, hc'⟩
        · go_wp2
          go_ret
          exact ⟨Or.inr ⟨fun h => by have := (h.2.2 k hlt).1; omega, rfl⟩, rfl⟩
        · have hc' : ¬ bt s k < 48 := by omega
          go_wp2
          go_ret
          exact ⟨Or.inr ⟨fun h => by have := (h.2.2 k hlt).2; omega, rfl⟩, rfl⟩
        · go_wp2
          go_round
          case rel => exact ⟨k + 1, by omega, by go_num, fun j hj => by
            by_cases e : j = k
            · subst e; exact ⟨hc, hc'⟩
            · exact HD.out j (by omega)⟩
          case measure => simp [intOf]; omega
      · go_wp2
        go_ret
        exact ⟨Or.inl ⟨⟨H0.out.1, H0.out.2, fun j hj => HD.out j (by omega)⟩, rfl⟩, rfl⟩
theorem isText_yes (s : ByteArray) (w : World) (hs : s.size ≤ 1000000000) (h : Txt s) :
    Calls Tryz.prog 171 #[.string s] w fun e w' => e = .returned (.bool true) ∧ w' = w := by
  refine (isText_loop s w hs h.1 h.2.1).mono ?_
  rintro e w' ⟨h' | h', hw⟩
  · exact ⟨h'.2, hw⟩
  · exact absurd h h'.1
theorem isText_no (s : ByteArray) (w : World) (hs : s.size ≤ 1000000000) (h : ¬ Txt s) :
    Calls Tryz.prog 171 #[.string s] w fun e w' => e = .returned (.bool false) ∧ w' = w := by
  by_cases h0 : s.size = 0
  · exact isText_empty s w h0
  · by_cases h1 : 1 < s.size ∧ bt s 0 = 48
    · exact isText_nought s w h1.1 h1.2
    · refine (isText_loop s w hs h0 (fun a b => h1 ⟨a, b⟩)).mono ?_
      rintro e w' ⟨h' | h', hw⟩
      · exact absurd h'.1 h
      · exact ⟨h'.2, hw⟩
end Go.Proofs.YtcdkoadobdgbhaaGreatDoor
/- Parse: the number whose text it is. -/
namespace Go.Proofs.YtcdkoadobdgbhaaGreatDoor
open Go.RowKit
set_option linter.unusedVariables false
set_option maxRecDepth 100000
set_option linter.unusedSimpArgs false

set_option maxHeartbeats 800000 in
theorem parse_no (s : ByteArray) (w : World) (hs : s.size ≤ 1000000000) (h : ¬ Txt s) :
    Calls Tryz.prog 147 #[.string s] w fun e w' => e = .returned (.tuple #[.agg #[.slice none 0 0], .int .i64 10]) ∧ Below w.heap.size w w' := by
  go_enter Tryz.func147, Tryz.ntmps147
  go_wp2_with fail
  refine (isText_no s _ hs h).mono ?_
  rintro e w' ⟨rfl, rfl⟩
  go_wp2
  refine bodyPost_ret (v := .tuple #[.agg #[.slice none 0 0], .int .i64 10]) (by simp [results, Tryz.results147, go_sem]) rfl ⟨rfl, ?_⟩
  exact (Below.refl _ _).alloc (Nat.le_refl _) _
/-- What holds at the head of a round: k digits are read, the last of them, worth c, not yet put to the limbs. -/
def ParseRel (s : ByteArray) (n k p c : Nat) (S : List Nat) : Prop := S.length = n ∧ Bd S ∧ dv s k = val S * p + c ∧ c < p ∧ (k = s.size → p = 1) ∧ ∃ q, q ≤ 8 ∧ p = 10 ^ q
theorem parse_round_on {s : ByteArray} {n k p c : Nat} {S : List Nat} (h : ParseRel s n k p c S) (hp : p ≠ 100000000) (hk : k + 1 ≠ s.size) (hd : bt s k - 48 ≤ 9) : ParseRel s n (k + 1) (p * 10) (c * 10 + (bt s k - 48)) S := by
  obtain ⟨h1, h2, h3, h4, h5, q, hq, h6⟩ := h
  have hq8 : q ≠ 8 := by rintro rfl; exact hp (by rw [h6])
  refine ⟨h1, h2, ?_, by omega, fun e => absurd e hk, q + 1, by omega, by rw [h6, Nat.pow_succ]⟩
  rw [dv, h3, Nat.add_mul, Nat.mul_assoc]; omega
theorem parse_round_fit {s : ByteArray} {n k p c : Nat} {S : List Nat} (h : ParseRel s n k p c S) (hd : ∀ j, j < k + 1 → 48 ≤ bt s j ∧ bt s j ≤ 57) (hn : k + 1 < 9 * n) : val S * (p * 10) + (c * 10 + (bt s k - 48)) < 4294967296 ^ n ∧ val S * (p * 10) + (c * 10 + (bt s k - 48)) = dv s (k + 1) := by
  obtain ⟨h1, h2, h3, h4, h5, q, hq, h6⟩ := h
  have e : val S * (p * 10) + (c * 10 + (bt s k - 48)) = dv s (k + 1) := by
    rw [dv, h3, Nat.add_mul, Nat.mul_assoc]; omega
  have h7 := dv_lt (k + 1) hd
  have h8 := fit_pow (k + 1) n hn
  exact ⟨by omega, e⟩
theorem pow10_le {q : Nat} (h : q ≤ 8) : 10 ^ q ≤ 100000000 := by
  have : 10 ^ q ≤ 10 ^ 8 := Nat.pow_le_pow_right (by omega) h
  simpa using this
theorem ParseRel.small {s : ByteArray} {n k p c : Nat} {S : List Nat} (h : ParseRel s n k p c S) : p ≤ 100000000 ∧ c < p := by
  obtain ⟨h1, h2, h3, h4, h5, q, hq, h6⟩ := h
  exact ⟨by rw [h6]; exact pow10_le hq, h4⟩
set_option maxHeartbeats 1600000 in
theorem parse_yes (s : ByteArray) (w : World) (hs : s.size ≤ 1000000000) (h : Txt s) (n : Nat) (hn : n = s.size / 9 + 1) :
    Calls Tryz.prog 147 #[.string s] w fun e w' => (∃ v, e = .returned (.tuple #[v, .int .i64 0]) ∧ NatIs w' v (num s) n) ∧ Below w.heap.size w w' := by
  obtain ⟨i0, hi, hz0, hz1, hz2⟩ := info_parts Tryz.info213
  have HN := hid hn
  have hn1 : 9 * n ≤ s.size + 9 := by omega
  have hn2 : s.size < 9 * n := by omega
  clear hn
  go_enter Tryz.func147, Tryz.ntmps147
  go_wp2_with fail
  refine (isText_yes s _ hs h).mono ?_
  rintro e w' ⟨rfl, rfl⟩
  go_wp2_with (first | (at_make; refine wpList_make_full _ rfl _ _ 67 rfl (w.heap.size + 1) 213 i0 (.int .u32 0) 1 Tryz.underlying67 hi hz0 hz1 _ _ _ _ n rfl rfl (by have := HN.out; omega) (by have := HN.out; omega) (by rw [hz2]; omega) (by unfold maxLen; omega) (by simp) ?_))
  intro w1 hown hgrow
  have hb1 : Below (w.heap.size + 1) (w.alloc (Obj.cells #[Value.slice none 0 0] 69)) w1 :=
    (Below.refl (w.heap.size + 1) _).grown hgrow (by simp) (by intro k hk; simp at hk)
  rw [toList_madeCells_one, ← u32s_rep] at hown
  have hWz : (w.alloc (Obj.cells #[Value.slice none 0 0] 69)).cell? ⟨w.heap.size, 0, none⟩ = some (.slice none 0 0) := by simp [go_sem]
  have hWf : (w.alloc (Obj.cells #[Value.slice none 0 0] 69)).frozen? ⟨w.heap.size, 0, none⟩ = false := by simp [go_sem]
  have hWb : Below w.heap.size w (w.alloc (Obj.cells #[Value.slice none 0 0] 69)) := (Below.refl _ _).alloc (Nat.le_refl _) _
  have hWs : w.heap.size + 1 ≤ (w.alloc (Obj.cells #[Value.slice none 0 0] 69)).heap.size := by simp
  clear hgrow
  generalize w.alloc (Obj.cells #[Value.slice none 0 0] 69) = W at *
  go_wp2
  go_loopw [5, 6, 19] (fun c p i wr => ∃ (k pp cc : Nat) (S : List Nat), k ≤ s.size ∧ i = .int .i64 k ∧ c = .int .u32 cc ∧ p = .int .u32 pp ∧ ParseRel s n k pp cc S ∧
        wr.ownsRow (w.heap.size + 1) 213 1 (.slice (some ⟨w.heap.size + 1, 0, none⟩) n n) n (u32s S) ∧ Below (w.heap.size + 1) W wr) (fun _ _ i _ => s.size - (intOf i).toNat)
  case atStart => exact ⟨0, 1, 0, List.replicate n 0, Nat.zero_le _, rfl, rfl, rfl, ⟨by simp, Bd_rep _, by simp [dv, val, pv_zero (fun j _ => lg_rep n j)], by omega, fun _ => rfl, 0, by omega, rfl⟩, hown, hb1⟩
  case round =>
    obtain ⟨k, pp, cc, S, hk, rfl, rfl, rfl, hR, hown', hbel⟩ := hrel
    have hsm := hR.small
    obtain ⟨hp1, hc1⟩ := hsm
    have hbw : Below w.heap.size w wr := hWb.trans (hbel.mono (by omega))
    have HR := hid hR
    have HT := hid h.2.2
    clear hR hown hb1
    by_cases hlt : k < s.size
    · have ek := bt_at s k hlt
      have hd1 := (HT.out k hlt).1
      have hd2 := (HT.out k hlt).2
      by_cases hq : pp = 100000000 ∨ k + 1 = s.size
      · have hfit := parse_round_fit HR.out (fun j hj => HT.out j (by omega)) (by omega)
        have HF := hid hfit
        clear hfit
        have hcap : (pp : Int) * 10 ≤ 1000000000 := by omega
        have hgo : ((pp : Int) * 10 == 1000000000) = true ∨ ((pp : Int) * 10 == 1000000000) = false ∧ ((k : Int) == (s.size : Int) - 1) = true := by
          by_cases hq1 : pp = 100000000
          · left; rw [hq1]; rfl
          · right
            refine ⟨by simp; omega, ?_⟩
            rcases hq with hq | hq
            · exact absurd hq hq1
            · simp; omega
        clear hq
        rcases hgo with t1 | ⟨t1, t2⟩
        all_goals
          go_wp2_with fail
          rw [show (pp : Int) * 10 = ((pp * 10 : Nat) : Int) by omega, show (cc : Int) * 10 + ((bt s k : Int) - 48) = ((cc * 10 + (bt s k - 48) : Nat) : Int) by omega]
          refine (scale_any _ (w.heap.size + 1) (w.heap.size + 1) n n S HR.out.2.1 HR.out.1 (Nat.le_refl _) (by unfold maxLen; omega) hown' (pp * 10) (cc * 10 + (bt s k - 48)) (by omega) (by omega) HF.out.1).mono ?_
          rintro e w2 ⟨rfl, ⟨L', l1, l2, l3, own2⟩, hgr⟩
          have hb2 := hbel.grown hgr (by have := hbel.size; omega) (by intro j hj; simp at hj; omega)
          have hL : ParseRel s n (k + 1) 1 0 L' := ⟨l1, l2, by rw [l3, HF.out.2]; omega, by omega, fun _ => rfl, 0, by omega, rfl⟩
          have HL := hid hL
          clear hL l1 l3 hgr
          go_wp2
          go_roundw
          case rel => exact ⟨k + 1, 1, 0, L', by omega, by go_num, rfl, rfl, HL.out, own2, hb2⟩
          case measure => simp [intOf]; omega
      · obtain ⟨hq1, hq2⟩ : pp ≠ 100000000 ∧ k + 1 ≠ s.size := ⟨fun e => hq (Or.inl e), fun e => hq (Or.inr e)⟩
        have hR2 := parse_round_on HR.out hq1 hq2 (by omega)
        have hsm2 := hR2.small
        obtain ⟨hp2, hc2⟩ := hsm2
        have HR2 := hid hR2
        clear hR2 hq
        have t1 : ((pp : Int) * 10 == 1000000000) = false := by simp; omega
        have t2 : ((k : Int) == (s.size : Int) - 1) = false := by simp; omega
        go_wp2
        go_roundw
        case rel => exact ⟨k + 1, pp * 10, cc * 10 + (bt s k - 48), S, by omega, by go_num, by go_num, by go_num, HR2.out, hown', hbel⟩
        case measure => simp [intOf]; omega
    · have hk' : k = s.size := by omega
      have hZ := (hbel.cell (p := ⟨w.heap.size, 0, none⟩) (by show w.heap.size < _; omega)).trans hWz
      have hF := (hbel.frozen (p := ⟨w.heap.size, 0, none⟩) (by show w.heap.size < _; omega)).trans hWf
      have HK := hid hk'
      clear hk'
      go_wp2_with fail
      refine (trim_base wr (w.heap.size + 1) _ S HR.out.2.1 ?_).mono ?_
      · rw [HR.out.1]; exact hown'
      clear hown'
      rintro e w' ⟨⟨v', M, rfl, hM, bM, tM, vM, lM⟩, rfl⟩
      obtain ⟨ao, cp, hv⟩ := Limbs.slice (ownsRow_base0 hM)
      rw [hv]
      rw [hv] at hM
      clear hv
      have HV := hid vM
      clear vM
      have hM2 := ownsRow_setCell_below hM (a := ⟨w.heap.size, 0, none⟩) (by show w.heap.size < _; omega) (.slice ao M.length cp)
      clear hM
      have hB2 := hbw.setCell (p := ⟨w.heap.size, 0, none⟩) (Nat.le_refl _) (.slice ao M.length cp)
      go_wp2
      refine bodyPost_ret (v := .tuple #[.agg #[.slice ao M.length cp], .int .i64 0]) (by simp [results, Tryz.results147, go_sem, hZ]) rfl ⟨⟨_, rfl, ⟨_, M, rfl, ownsRow_base0 hM2, bM, tM, ?_, ?_⟩⟩, hB2⟩
      · rw [HV.out]
        obtain ⟨h1, h2, h3, h4, h5, _⟩ := HR.out
        have e1 := h5 HK.out
        rw [e1] at h3 h4
        unfold num
        rw [← HK.out, h3]; omega
      · have := HR.out.1; omega
end Go.Proofs.YtcdkoadobdgbhaaGreatDoor
/- The document's Parse. -/
namespace Go.Proofs.YtcdkoadobdgbhaaGreatDoor
open Go.RowKit
set_option linter.unusedVariables false
set_option maxRecDepth 100000
set_option linter.unusedSimpArgs false

set_option maxHeartbeats 800000 in
theorem rparse_empty (s : ByteArray) (w : World) (h : s.size = 0) :
    Calls Tryz.prog 137 #[.string s] w fun e w' => e = .returned (.tuple #[.agg #[.slice none 0 0], .int .i64 10]) ∧ Below w.heap.size w w' := by
  have h' : ((s.size : Int) == 0) = true := by simp [h]
  clear h
  go_enter Tryz.func137, Tryz.ntmps137
  go_wp2
  refine bodyPost_ret (v := .tuple #[.agg #[.slice none 0 0], .int .i64 10]) (by simp [results, Tryz.results137, go_sem]) rfl ⟨rfl, ?_⟩
  exact (Below.refl _ _).alloc (Nat.le_refl _) _
set_option maxHeartbeats 800000 in
theorem rparse_nought (s : ByteArray) (w : World) (h : 1 < s.size) (h0 : bt s 0 = 48) :
    Calls Tryz.prog 137 #[.string s] w fun e w' => e = .returned (.tuple #[.agg #[.slice none 0 0], .int .i64 10]) ∧ Below w.heap.size w w' := by
  have hp : 0 < s.size := by omega
  have e0 : (s[0]'hp).toNat = 48 := by rw [bt_at s 0 (by omega)]; exact h0
  have h' : ((s.size : Int) == 0) = false := beq_eq_false_iff_ne.2 (by omega)
  clear h0
  go_enter Tryz.func137, Tryz.ntmps137
  go_wp2
  refine bodyPost_ret (v := .tuple #[.agg #[.slice none 0 0], .int .i64 10]) (by simp [results, Tryz.results137, go_sem]) rfl ⟨rfl, ?_⟩
  exact (Below.refl _ _).alloc (Nat.le_refl _) _
theorem Tryz.info3 : (Tryz.prog.info? 3).map (fun i => (i.zero, i.size, i.bytes)) = some (some (.int .i64 0), 1, 8) := by kernel_rfl
/-- What k digits from place a on are worth. -/
def sv (s : ByteArray) (a : Nat) : Nat → Nat
  | 0 => 0
  | k + 1 => sv s a k * 10 + (bt s (a + k) - 48)
theorem sv_lt {s : ByteArray} (a n : Nat) (h : ∀ k, k < n → 48 ≤ bt s (a + k) ∧ bt s (a + k) ≤ 57) : sv s a n < 10 ^ n := by
  induction n with
  | zero => simp [sv]
  | succ n ih =>
    have h1 := ih (fun k hk => h k (by omega))
    have h2 := h n (by omega)
    simp only [sv, Nat.pow_succ]; omega
theorem dv_sv (s : ByteArray) (a k : Nat) : dv s (a + k) = dv s a * 10 ^ k + sv s a k := by
  induction k with
  | zero => simp [sv]
  | succ k ih => rw [← Nat.add_assoc, dv, ih, sv, Nat.pow_succ, Nat.add_mul, Nat.mul_assoc]; omega
/-- What holds at the head of a round: t digits of nine signs each are taken off the end. -/
def RRel (s : ByteArray) (t : Nat) (D : List Nat) : Prop := D.length = t ∧ R.Bd D ∧ dv s s.size = dv s (s.size - 9 * t) * 10 ^ (9 * t) + R.pv D t
theorem lg_append_old (D : List Nat) (x j : Nat) (h : j < D.length) : lg (D ++ [x]) j = lg D j := by simp [lg, List.getD, List.getElem?_append_left h]
theorem lg_append_new (D : List Nat) (x : Nat) : lg (D ++ [x]) D.length = x := by simp [lg, List.getD]
theorem RRel.step {s : ByteArray} {t : Nat} {D : List Nat} (h : RRel s t D) (ht : 9 * t < s.size) (hd : ∀ k, k < s.size → 48 ≤ bt s k ∧ bt s k ≤ 57) (a k : Nat) (hk : k ≤ 9) (ha : a + k = s.size - 9 * t) (hz : k < 9 → a = 0) : RRel s (t + 1) (D ++ [sv s a k]) := by
  obtain ⟨h1, h2, h3⟩ := h
  have hx := sv_lt (s := s) a k (fun j hj => hd (a + j) (by omega))
  have hx9 : sv s a k < 1000000000 := by
    have : 10 ^ k ≤ 10 ^ 9 := Nat.pow_le_pow_right (by omega) hk
    have h9 : (10 : Nat) ^ 9 = 1000000000 := by decide
    omega
  refine ⟨by simp [h1], fun j => ?_, ?_⟩
  · rcases Nat.lt_trichotomy j D.length with e | e | e
    · rw [lg_append_old D _ j e]; exact h2 j
    · subst e; rw [lg_append_new]; exact hx9
    · rw [lg_past _ j (by simp; omega)]; omega
  · have e1 : R.pv (D ++ [sv s a k]) (t + 1) = R.pv D t + sv s a k * 1000000000 ^ t := by
      simp only [R.pv]
      rw [R.pv_congr (M := D) (fun j hj => lg_append_old D _ j (by omega)), ← h1, lg_append_new]
    rw [e1, h3, ← ha, dv_sv s a k]
    have e2 : 10 ^ (9 * t) = 1000000000 ^ t := Nat.pow_mul 10 9 t
    have e3 : s.size - 9 * (t + 1) = if k < 9 then 0 else a := by split <;> omega
    rw [e3, Nat.add_mul]
    by_cases hk9 : k < 9
    · rw [if_pos hk9, hz hk9]; simp [dv, e2]; omega
    · rw [if_neg hk9]
      have hk' : k = 9 := by omega
      subst hk'
      rw [show 9 * (t + 1) = 9 + 9 * t by omega, Nat.pow_add, ← Nat.mul_assoc, e2]; omega
theorem sv_small (s : ByteArray) (a n : Nat) (hn : n ≤ 8) (h : ∀ k, k < n → 48 ≤ bt s (a + k) ∧ bt s (a + k) ≤ 57) : sv s a n < 100000000 := by
  have h1 := sv_lt (s := s) a n h
  have h2 := pow10_le hn
  omega
theorem sv_next (s : ByteArray) (a j : Nat) (h : a ≤ j) : sv s a (j + 1 - a) = sv s a (j - a) * 10 + (bt s j - 48) := by
  rw [show j + 1 - a = (j - a) + 1 by omega, sv, show a + (j - a) = j by omega]
set_option maxHeartbeats 1600000 in
theorem rparse_loop (s : ByteArray) (w : World) (hs : s.size ≤ 1000000000) (h : s.size ≠ 0) (h0 : 1 < s.size → bt s 0 ≠ 48) :
    Calls Tryz.prog 137 #[.string s] w fun e w' => ((Txt s ∧ ∃ v, e = .returned (.tuple #[v, .int .i64 0]) ∧ RefIs w' v (num s) (s.size / 9 + 1)) ∨ (¬ Txt s ∧ e = .returned (.tuple #[.agg #[.slice none 0 0], .int .i64 10]))) ∧ Below w.heap.size w w' := by
  obtain ⟨i0, hi, hz0, hz1, hz2⟩ := info_parts Tryz.info3
  have hp : 0 < s.size := by omega
  have e0 := bt_at s 0 hp
  have h' : ((s.size : Int) == 0) = false := beq_eq_false_iff_ne.2 (by omega)
  have H0 := hid (And.intro h h0)
  have hg : s.size ≤ 1 ∨ 1 < s.size ∧ ((bt s 0 : Int) == 48) = false := by
    by_cases h1 : 1 < s.size
    · right; refine ⟨h1, ?_⟩; have := h0 h1; exact beq_eq_false_iff_ne.2 (by omega)
    · left; omega
  clear h0 h
  have hWz : (w.alloc (Obj.cells #[Value.slice none 0 0] 31)).cell? ⟨w.heap.size, 0, none⟩ = some (.slice none 0 0) := by simp [go_sem]
  have hWf : (w.alloc (Obj.cells #[Value.slice none 0 0] 31)).frozen? ⟨w.heap.size, 0, none⟩ = false := by simp [go_sem]
  have hWb : Below w.heap.size w (w.alloc (Obj.cells #[Value.slice none 0 0] 31)) := (Below.refl _ _).alloc (Nat.le_refl _) _
  have hWs : (w.alloc (Obj.cells #[Value.slice none 0 0] 31)).heap.size = w.heap.size + 1 := by simp
  rcases hg with h1 | ⟨h1, h2⟩
  all_goals
    go_enter Tryz.func137, Tryz.ntmps137
    go_wp2
    go_loop [4] (fun i => ∃ k : Nat, k ≤ s.size ∧ i = .int .i64 k ∧ ∀ j, j < k → 48 ≤ bt s j ∧ bt s j ≤ 57) (fun i => s.size - (intOf i).toNat)
    case atStart => exact ⟨0, Nat.zero_le _, rfl, fun j hj => by omega⟩
    case round =>
      obtain ⟨k, hk, rfl, hd⟩ := hrel
      have HD := hid hd
      clear hd
      by_cases hlt : k < s.size
      · have ek := bt_at s k hlt
        rcases (show bt s k < 48 ∨ 57 < bt s k ∨ 48 ≤ bt s k ∧ bt s k ≤ 57 by omega) with hc | hc | ⟨hc, hc'⟩
        · go_wp2
          refine bodyPost_ret (v := .tuple #[.agg #[.slice none 0 0], .int .i64 10]) (by simp [results, Tryz.results137, go_sem]) rfl ⟨Or.inr ⟨fun h => by have := (h.2.2 k hlt).1; omega, rfl⟩, ?_⟩
          exact (Below.refl _ _).alloc (Nat.le_refl _) _
        · have hc' : ¬ bt s k < 48 := by omega
          go_wp2
          refine bodyPost_ret (v := .tuple #[.agg #[.slice none 0 0], .int .i64 10]) (by simp [results, Tryz.results137, go_sem]) rfl ⟨Or.inr ⟨fun h => by have := (h.2.2 k hlt).2; omega, rfl⟩, ?_⟩
          exact (Below.refl _ _).alloc (Nat.le_refl _) _
        · go_wp2
          go_round
          case rel => exact ⟨k + 1, by omega, by go_num, fun j hj => by
            by_cases e : j = k
            · subst e; exact ⟨hc, hc'⟩
            · exact HD.out j (by omega)⟩
          case measure => simp [intOf]; omega
      · have HD2 := hid (show ∀ j, j < s.size → 48 ≤ bt s j ∧ bt s j ≤ 57 from fun j hj => HD.out j (by omega))
        clear HD
        go_wp2
        clear hlt hk h'
        try clear h2
        clear h1
        have hown0 : ((w.alloc (Obj.cells #[Value.slice none 0 0] 31)).alloc (Obj.cells #[] 3)).ownsRow (w.heap.size + 1) 3 1 (.slice (some ⟨w.heap.size + 1, 0, none⟩) 0 0) 0 (i64s []) := by
          have := World.ownsRow_made (base := w.heap.size + 1) (e := 3) (size := 1) (w.alloc (Obj.cells #[Value.slice none 0 0] 31)) #[] 0 (by simp) (by unfold maxLen; omega) (by simp)
          simpa [i64s] using this
        have hbel0 : Below (w.heap.size + 1) (w.alloc (Obj.cells #[Value.slice none 0 0] 31)) ((w.alloc (Obj.cells #[Value.slice none 0 0] 31)).alloc (Obj.cells #[] 3)) := (Below.refl _ _).alloc (by simp) _
        have hWt : w.heap.size + 1 ≤ (w.alloc (Obj.cells #[Value.slice none 0 0] 31)).heap.size := by simp
        clear hWs
        generalize (w.alloc (Obj.cells #[Value.slice none 0 0] 31)).alloc (Obj.cells #[] 3) = W1 at *
        generalize w.alloc (Obj.cells #[Value.slice none 0 0] 31) = W at *
        go_loopw [5, 6] (fun v e wr => ∃ (t : Nat) (D : List Nat), e = .int .i64 ((s.size : Int) - 9 * (t : Int)) ∧ 9 * t < s.size + 9 ∧ RRel s t D ∧ wr.ownsRow (w.heap.size + 1) 3 1 v t (i64s D) ∧ v ≠ .slice none 0 0 ∧ Below (w.heap.size + 1) W wr) (fun _ e _ => (intOf e + 9).toNat)
        case atStart => exact ⟨0, [], by simp, by omega, ⟨rfl, by intro j; simp [lg], by simp [R.pv]⟩, hown0, by simp, hbel0⟩
        case round =>
          obtain ⟨t, D, rfl, ht, hR, hown', hnn, hbel⟩ := hrel
          have HR := hid hR
          have HN := hid hnn
          clear hR hnn hown0 hbel0
          by_cases hlt : 9 * t < s.size
          · obtain ⟨a, k, hk9, hak, hz⟩ : ∃ a k, k ≤ 9 ∧ a + k = s.size - 9 * t ∧ (k < 9 → a = 0) := by
              by_cases e : s.size - 9 * t ≤ 9
              · exact ⟨0, s.size - 9 * t, e, by omega, fun _ => rfl⟩
              · exact ⟨s.size - 9 * t - 9, 9, by omega, by omega, fun h => by omega⟩
            have hR2 := HR.out.step hlt HD2.out a k hk9 hak hz
            have HR2 := hid hR2
            have HA := hid (And.intro hak hz)
            clear hR2
            rcases (show s.size < 9 * t + 9 ∨ s.size ≤ 9 * t + 9 ∧ 9 * t + 9 ≤ s.size ∨ 9 * t + 9 < s.size by omega) with hc | ⟨hc, hc'⟩ | hc
            all_goals try (exfalso; omega)
            all_goals
              go_wp2
              go_loop [7, 8] (fun n i => ∃ j : Nat, a ≤ j ∧ j ≤ a + k ∧ i = .int .i64 j ∧ n = .int .i64 (sv s a (j - a))) (fun _ i => a + k - (intOf i).toNat)
              case atStart => exact ⟨a, Nat.le_refl _, by omega, by have := HA.out; go_num, by simp [sv]⟩
              case round =>
                obtain ⟨j, hj1, hj2, rfl, rfl⟩ := hrel
                by_cases hj : j < a + k
                · have hjs : j < s.size := by have := HA.out.1; omega
                  have ej := bt_at s j hjs
                  have hd1 := (HD2.out j hjs).1
                  have hd2 := (HD2.out j hjs).2
                  have hsv := sv_small s a (j - a) (by omega) (fun i hi => HD2.out (a + i) (by have := HA.out.1; omega))
                  have hsn := hid (sv_next s a j hj1)
                  have hje : (j : Int) < (s.size : Int) - 9 * (t : Int) := by have := HA.out.1; omega
                  generalize sv s a (j - a) = x at *
                  go_wp2
                  go_round
                  case rel => exact ⟨j + 1, by omega, by omega, by go_num, by rw [hsn.out]; go_num⟩
                  case measure => simp [intOf]; omega
                · have hje : ¬ (j : Int) < (s.size : Int) - 9 * (t : Int) := by have := HA.out.1; omega
                  have hjk : j - a = k := by omega
                  rw [hjk]
                  clear hjk
                  have HX := hid (show sv s a k = sv s a k from rfl)
                  generalize sv s a k = x at *
                  go_wp2_with (at_builtin; refine wpList_append_own _ rfl _ _ 29 rfl (w.heap.size + 1) 3 i0 (.int .i64 0) 1 8 Tryz.underlying29 hi hz0 hz1 hz2 rfl (by decide) _ _ _ rfl (hown'.alloc _) ⟨wr.heap.size, 0, none⟩ 1 1 [.int .i64 (x : Int)] rfl rfl (by intro j u hu; match j, hu with | 0, hu => simp at hu; subst hu; simp [Addr.add]) (by intro u hu; simp at hu; subst hu; rfl) (by unfold maxLen; omega) (by omega) (by have := hbel.size; simp; omega) ?_)
                  intro v' w1 hown2 hgrow hnil
                  have hb2 : Below (w.heap.size + 1) W w1 := (below_alloc' hbel hWt _).grown hgrow (by have := hbel.size; simp; omega) (fun q hq => (hown'.lt q hq).1)
                  have hown3 : w1.ownsRow (w.heap.size + 1) 3 1 v' (t + 1) (i64s (D ++ [x])) := by simpa [i64s] using hown2
                  have hnn2 : v' ≠ .slice none 0 0 := hnil
                  have HN2 := hid hnn2
                  clear hown2 hgrow hnil hnn2 hown' hbel
                  go_wp2
                  go_roundw
                  case rel => exact ⟨t + 1, D ++ [x], by go_num, by omega, HR2.out, hown3, HN2.out, hb2⟩
                  case measure => simp [intOf]; omega
          · obtain ⟨g, cp, hu⟩ : ∃ g cp, u5 = .slice (some ⟨g, 0, none⟩) D.length cp := by
              rcases hown'.2 with ⟨h, _⟩ | ⟨g, cp, cur, hv, _⟩
              · exact absurd h HN.out
              · exact ⟨g, cp, by rw [hv, HR.out.1]⟩
            have hbw : Below w.heap.size w wr := hWb.trans (hbel.mono (by omega))
            have hZ := (hbel.cell (p := ⟨w.heap.size, 0, none⟩) (by show w.heap.size < _; omega)).trans hWz
            have hF := (hbel.frozen (p := ⟨w.heap.size, 0, none⟩) (by show w.heap.size < _; omega)).trans hWf
            have hsz : w.heap.size < wr.heap.size := by have := hbel.size; omega
            have hown2 : wr.ownsRow (w.heap.size + 1) 3 1 (.slice (some ⟨g, 0, none⟩) D.length cp) D.length (i64s D) := by
              have := hown'; rw [hu, ← HR.out.1] at this; exact this
            have hval : R.val D = num s := by
              obtain ⟨r1, r2, r3⟩ := HR.out
              rw [show s.size - 9 * t = 0 by omega] at r3
              simp only [dv, Nat.zero_mul, Nat.zero_add] at r3
              unfold num; rw [r3, R.pv_val D t (by omega)]
            have HV := hid hval
            have HL := hid (show D.length ≤ s.size / 9 + 1 from by have := HR.out.1; omega)
            rw [hu]
            clear hval hown' hu
            go_wp2_with fail
            refine (rtrim_base wr (w.heap.size + 1) g cp D HR.out.2.1 hown2).mono ?_
            rintro e w2 ⟨⟨sl, M, rfl, hM, bM, tM, vM, lM⟩, hb2⟩
            obtain ⟨ao, cap, hsl⟩ := ints_slice hM
            rw [hsl]
            rw [hsl] at hM
            have hZ2 := (hb2.cell (p := ⟨w.heap.size, 0, none⟩) (by exact hsz)).trans hZ
            have hF2 := (hb2.frozen (p := ⟨w.heap.size, 0, none⟩) (by exact hsz)).trans hF
            have hM2 := ownsRow_setCell_below hM (a := ⟨w.heap.size, 0, none⟩) (by show w.heap.size < _; omega) (.slice ao M.length cap)
            have hB2 := (hbw.trans (hb2.mono (by omega))).setCell (p := ⟨w.heap.size, 0, none⟩) (Nat.le_refl _) (.slice ao M.length cap)
            have HM := hid (show R.val M = num s from by rw [vM]; exact HV.out)
            clear hM hsl vM hown2 hZ hF
            go_wp2
            exact bodyPost_ret (v := .tuple #[.agg #[.slice ao M.length cap], .int .i64 0]) (by simp [results, Tryz.results137, go_sem, hZ2]) rfl ⟨Or.inl ⟨⟨H0.out.1, H0.out.2, HD2.out⟩, _, rfl, _, M, rfl, ownsRow_base0 hM2, bM, tM, HM.out, Nat.le_trans lM HL.out⟩, hB2⟩
theorem rparse_yes (s : ByteArray) (w : World) (hs : s.size ≤ 1000000000) (h : Txt s) :
    Calls Tryz.prog 137 #[.string s] w fun e w' => (∃ v, e = .returned (.tuple #[v, .int .i64 0]) ∧ RefIs w' v (num s) (s.size / 9 + 1)) ∧ Below w.heap.size w w' := by
  refine (rparse_loop s w hs h.1 h.2.1).mono ?_
  rintro e w' ⟨h' | h', hw⟩
  · exact ⟨h'.2, hw⟩
  · exact absurd h h'.1
theorem rparse_no (s : ByteArray) (w : World) (hs : s.size ≤ 1000000000) (h : ¬ Txt s) :
    Calls Tryz.prog 137 #[.string s] w fun e w' => e = .returned (.tuple #[.agg #[.slice none 0 0], .int .i64 10]) ∧ Below w.heap.size w w' := by
  by_cases h0 : s.size = 0
  · exact rparse_empty s w h0
  · by_cases h1 : 1 < s.size ∧ bt s 0 = 48
    · exact rparse_nought s w h1.1 h1.2
    · refine (rparse_loop s w hs h0 (fun a b => h1 ⟨a, b⟩)).mono ?_
      rintro e w' ⟨h' | h', hw⟩
      · exact absurd h'.1 h
      · exact ⟨h'.2, hw⟩
end Go.Proofs.YtcdkoadobdgbhaaGreatDoor
/- The document's whole numbers: Make, Parse. -/
namespace Go.Proofs.YtcdkoadobdgbhaaGreatDoor
open Go.RowKit
set_option linter.unusedVariables false
set_option maxRecDepth 100000
set_option linter.unusedSimpArgs false

theorem ref_len {w : World} {ao : Option Addr} {l c m K : Nat} (h : RefIs w (.agg #[.slice ao l c]) m K) : (0 < l ↔ 0 < m) ∧ l ≤ K := by
  obtain ⟨sl, L, h1, h2, h3, h4, h5, h6⟩ := h
  simp only [Value.agg.injEq, Array.mk.injEq, List.cons.injEq, and_true] at h1
  obtain ⟨ao', c', hs⟩ := ints_slice h2
  rw [← h1] at hs
  simp only [Value.slice.injEq] at hs
  obtain ⟨_, hl, _⟩ := hs
  refine ⟨?_, by omega⟩
  rw [hl, ← h5]
  constructor
  · intro hp
    have := R.val_lt_len (L := []) (M := L) (by intro j; simp [lg]) h4 (by simpa using hp)
    have e : R.val [] = 0 := rfl
    omega
  · intro hp
    rcases Nat.eq_zero_or_pos L.length with e | e
    · rw [List.eq_nil_of_length_eq_zero e] at hp
      have e : R.val [] = 0 := rfl
      omega
    · exact e
set_option maxHeartbeats 800000 in
/-- The document's Make. -/
theorem smake_any (w : World) (b : Bool) (a : Value) (m K : Nat) (ha : RefIs w a m K) :
    Calls Tryz.prog 66 #[.bool b, a] w fun e w' => ∃ v, e = .returned v ∧ RNumIs w' v (sgn b m) K ∧ Below w.heap.size w w' := by
  obtain ⟨ao, l, c, rfl⟩ := ha.form
  have hl := ref_len ha
  have HD := hid (show decide (sgn b m < 0) = (b && decide (0 < l)) by rw [sgn_neg]; congr 1; exact decide_eq_decide.2 hl.1.symm)
  have hB := fun v : Value => boxed2 (Below.refl w.heap.size w) (Obj.cells #[.slice ao l c] 31) (Obj.cells #[v, .slice ao l c] 33)
  clear hl
  cases b
  · go_enter Tryz.func66, Tryz.ntmps66
    go_wp2_with fail
    exact bodyPost_ret (v := .agg #[.bool false, .slice ao l c]) (by simp [results, Tryz.results66, go_sem]) rfl ⟨_, rfl, ⟨ao, l, c, by rw [HD.out]; rfl, by rw [sgn_abs]; exact ha.below (hB _)⟩, hB _⟩
  · go_enter Tryz.func66, Tryz.ntmps66
    go_wp2_with fail
    exact bodyPost_ret (v := .agg #[.bool (decide (0 < l)), .slice ao l c]) (by simp [results, Tryz.results66, go_sem]) rfl ⟨_, rfl, ⟨ao, l, c, by rw [HD.out]; rfl, by rw [sgn_abs]; exact ha.below (hB _)⟩, hB _⟩
set_option maxHeartbeats 800000 in
theorem sparse_minus_no (s : ByteArray) (w : World) (hs : s.size ≤ 1000000000) (h0 : 0 < s.size) (h : bt s 0 = 45) (ht : ¬ Txt (s.extract 1 s.size)) :
    Calls Tryz.prog 136 #[.string s] w fun e w' => e = .returned (.tuple #[.agg #[.bool false, .slice none 0 0], .int .i64 10]) ∧ Below w.heap.size w w' := by
  have hx := box_new w (Obj.cells #[.bool false, .slice none 0 0] 33)
  have hB : Below w.heap.size w (w.alloc (Obj.cells #[.bool false, .slice none 0 0] 33)) := (Below.refl _ _).alloc (Nat.le_refl _) _
  have hb : (s[0]'h0).toNat = 45 := by rw [bt_at]; exact h
  have h2 : s[0]'h0 = 45 := UInt8.toNat_inj.1 hb
  have hte : (s.extract 1 s.size).size ≤ 1000000000 := by simp; omega
  clear h
  go_enter Tryz.func136, Tryz.ntmps136
  go_wp2_with fail
  generalize w.alloc (Obj.cells #[.bool false, .slice none 0 0] 33) = W at *
  generalize s.extract 1 s.size = t at *
  refine (rparse_no t W hte ht).mono ?_
  rintro e w1 ⟨rfl, hb1⟩
  have hx3 := below_alloc' hb1 (Nat.le_refl _) (Obj.cells #[.slice none 0 0] 31)
  have hx1 := box_below hx3 hx (lt_of_block hx)
  have c1 := chain2 hB hx3
  have u2 := two_cell0 hx1
  have u3 := two_cell1 hx1
  have v2 := two_free (k := 0) hx1
  have v3 := two_free (k := 1) hx1
  obtain ⟨k0, k1, kB⟩ := end_two c1 (Nat.le_refl _) hx1 (.bool false) (.slice none 0 0)
  have HK := hid (And.intro k0 k1)
  clear k0 k1 hx hx1
  go_wp2
  exact bodyPost_ret (v := .tuple #[.agg #[.bool false, .slice none 0 0], .int .i64 10]) (by simp [results, Tryz.results136, go_sem, HK.out.1, HK.out.2]) rfl ⟨rfl, kB⟩
set_option maxHeartbeats 800000 in
theorem sparse_minus_nought (s : ByteArray) (w : World) (hs : s.size ≤ 1000000000) (h0 : 0 < s.size) (h : bt s 0 = 45) (ht : Txt (s.extract 1 s.size)) (hz : num (s.extract 1 s.size) = 0) :
    Calls Tryz.prog 136 #[.string s] w fun e w' => e = .returned (.tuple #[.agg #[.bool false, .slice none 0 0], .int .i64 10]) ∧ Below w.heap.size w w' := by
  have hx := box_new w (Obj.cells #[.bool false, .slice none 0 0] 33)
  have hB : Below w.heap.size w (w.alloc (Obj.cells #[.bool false, .slice none 0 0] 33)) := (Below.refl _ _).alloc (Nat.le_refl _) _
  have hb : (s[0]'h0).toNat = 45 := by rw [bt_at]; exact h
  have h2 : s[0]'h0 = 45 := UInt8.toNat_inj.1 hb
  have hte : (s.extract 1 s.size).size ≤ 1000000000 := by simp; omega
  clear h
  go_enter Tryz.func136, Tryz.ntmps136
  go_wp2_with fail
  generalize w.alloc (Obj.cells #[.bool false, .slice none 0 0] 33) = W at *
  generalize s.extract 1 s.size = t at *
  refine (rparse_yes t W hte ht).mono ?_
  rintro e w1 ⟨⟨v, rfl, nv⟩, hb1⟩
  obtain ⟨ar, lr, cr, rfl⟩ := nv.form
  have hl : lr = 0 := by have := (ref_len nv).1; omega
  subst hl
  have hx3 := below_alloc' hb1 (Nat.le_refl _) (Obj.cells #[.slice ar 0 cr] 31)
  have hx1 := box_below hx3 hx (lt_of_block hx)
  have c1 := chain2 hB hx3
  have u2 := two_cell0 hx1
  have u3 := two_cell1 hx1
  have v2 := two_free (k := 0) hx1
  have v3 := two_free (k := 1) hx1
  obtain ⟨k0, k1, kB⟩ := end_two c1 (Nat.le_refl _) hx1 (.bool false) (.slice none 0 0)
  have HK := hid (And.intro k0 k1)
  clear k0 k1 hx hx1
  go_wp2
  exact bodyPost_ret (v := .tuple #[.agg #[.bool false, .slice none 0 0], .int .i64 10]) (by simp [results, Tryz.results136, go_sem, HK.out.1, HK.out.2]) rfl ⟨rfl, kB⟩
set_option maxHeartbeats 800000 in
theorem sparse_minus (s t : ByteArray) (w : World) (hs : s.size ≤ 1000000000) (h0 : 0 < s.size) (h : bt s 0 = 45) (he : s.extract 1 s.size = t) (ht : Txt t) (hz : num t ≠ 0) :
    Calls Tryz.prog 136 #[.string s] w fun e w' => ∃ v, e = .returned (.tuple #[v, .int .i64 0]) ∧ RNumIs w' v (sgn true (num t)) (t.size / 9 + 1) ∧ Below w.heap.size w w' := by
  have hx := box_new w (Obj.cells #[.bool false, .slice none 0 0] 33)
  have hB : Below w.heap.size w (w.alloc (Obj.cells #[.bool false, .slice none 0 0] 33)) := (Below.refl _ _).alloc (Nat.le_refl _) _
  have hb : (s[0]'h0).toNat = 45 := by rw [bt_at]; exact h
  have h2 : s[0]'h0 = 45 := UInt8.toNat_inj.1 hb
  have hte : t.size ≤ 1000000000 := by rw [← he]; simp; omega
  have HE := hid he
  clear h he
  go_enter Tryz.func136, Tryz.ntmps136
  go_wp2_with fail
  generalize w.alloc (Obj.cells #[.bool false, .slice none 0 0] 33) = W at *
  rw [HE.out]
  refine (rparse_yes t W hte ht).mono ?_
  rintro e w1 ⟨⟨v, rfl, nv⟩, hb1⟩
  obtain ⟨ar, lr, cr, rfl⟩ := nv.form
  have hx3 := below_alloc' hb1 (Nat.le_refl _) (Obj.cells #[.slice ar lr cr] 31)
  have hx1 := box_below hx3 hx (lt_of_block hx)
  have c1 := chain2 hB hx3
  have n1 := nv.below ((Below.refl _ _).alloc (Nat.le_refl _) (Obj.cells #[.slice ar lr cr] 31))
  have hn := box_new w1 (Obj.cells #[.slice ar lr cr] 31)
  have hl0 : ((lr : Int) == 0) = false := by have := (ref_len nv).1; simp; omega
  clear hx hx3 hb1
  go_wp2_with fail
  generalize w1.alloc (Obj.cells #[.slice ar lr cr] 31) = W1 at *
  refine (smake_any W1 true _ _ _ n1).mono ?_
  rintro e w2 ⟨v, rfl, ⟨aq, lq, cq, rfl, n2⟩, hb2⟩
  have hx2 := box_below hb2 hx1 (lt_of_block hx1)
  have u2 := two_cell0 hx2
  have u3 := two_cell1 hx2
  have v2 := two_free (k := 0) hx2
  have v3 := two_free (k := 1) hx2
  obtain ⟨k0, k1, kB⟩ := end_two (chain2 c1 hb2) (Nat.le_refl _) hx2 (.bool (decide (sgn true (num t) < 0))) (.slice aq lq cq)
  have n3 := n2.box2 hx2 (by decide) (.bool (decide (sgn true (num t) < 0))) (.slice aq lq cq)
  have HK := hid (And.intro k0 k1)
  clear k0 k1 hx2
  go_wp2
  exact bodyPost_ret (v := .tuple #[.agg #[.bool (decide (sgn true (num t) < 0)), .slice aq lq cq], .int .i64 0]) (by simp [results, Tryz.results136, go_sem, HK.out.1, HK.out.2]) rfl ⟨_, rfl, ⟨aq, lq, cq, rfl, n3⟩, kB⟩
set_option maxHeartbeats 800000 in
theorem sparse_plain_no (s : ByteArray) (w : World) (hs : s.size ≤ 1000000000) (h0 : 0 < s.size) (h : bt s 0 ≠ 45) (ht : ¬ Txt s) :
    Calls Tryz.prog 136 #[.string s] w fun e w' => e = .returned (.tuple #[.agg #[.bool false, .slice none 0 0], .int .i64 10]) ∧ Below w.heap.size w w' := by
  have hx := box_new w (Obj.cells #[.bool false, .slice none 0 0] 33)
  have hB : Below w.heap.size w (w.alloc (Obj.cells #[.bool false, .slice none 0 0] 33)) := (Below.refl _ _).alloc (Nat.le_refl _) _
  have hb : (s[0]'h0).toNat ≠ 45 := by rw [bt_at]; exact h
  have h2 : (((s[0]'h0).toNat : Int) == 45) = false := by simp; omega
  clear h
  go_enter Tryz.func136, Tryz.ntmps136
  go_wp2_with fail
  generalize w.alloc (Obj.cells #[.bool false, .slice none 0 0] 33) = W at *
  refine (rparse_no s W hs ht).mono ?_
  rintro e w1 ⟨rfl, hb1⟩
  have hx3 := below_alloc' hb1 (Nat.le_refl _) (Obj.cells #[.slice none 0 0] 31)
  have hx1 := box_below hx3 hx (lt_of_block hx)
  have c1 := chain2 hB hx3
  have u2 := two_cell0 hx1
  have u3 := two_cell1 hx1
  have v2 := two_free (k := 0) hx1
  have v3 := two_free (k := 1) hx1
  obtain ⟨k0, k1, kB⟩ := end_two c1 (Nat.le_refl _) hx1 (.bool false) (.slice none 0 0)
  have HK := hid (And.intro k0 k1)
  clear k0 k1 hx hx1
  go_wp2
  exact bodyPost_ret (v := .tuple #[.agg #[.bool false, .slice none 0 0], .int .i64 10]) (by simp [results, Tryz.results136, go_sem, HK.out.1, HK.out.2]) rfl ⟨rfl, kB⟩
set_option maxHeartbeats 800000 in
theorem sparse_plain (s : ByteArray) (w : World) (hs : s.size ≤ 1000000000) (h0 : 0 < s.size) (h : bt s 0 ≠ 45) (ht : Txt s) :
    Calls Tryz.prog 136 #[.string s] w fun e w' => ∃ v, e = .returned (.tuple #[v, .int .i64 0]) ∧ RNumIs w' v (sgn false (num s)) (s.size / 9 + 1) ∧ Below w.heap.size w w' := by
  have hx := box_new w (Obj.cells #[.bool false, .slice none 0 0] 33)
  have hB : Below w.heap.size w (w.alloc (Obj.cells #[.bool false, .slice none 0 0] 33)) := (Below.refl _ _).alloc (Nat.le_refl _) _
  have hb : (s[0]'h0).toNat ≠ 45 := by rw [bt_at]; exact h
  have h2 : (((s[0]'h0).toNat : Int) == 45) = false := by simp; omega
  clear h
  go_enter Tryz.func136, Tryz.ntmps136
  go_wp2_with fail
  generalize w.alloc (Obj.cells #[.bool false, .slice none 0 0] 33) = W at *
  refine (rparse_yes s W hs ht).mono ?_
  rintro e w1 ⟨⟨v, rfl, nv⟩, hb1⟩
  obtain ⟨ar, lr, cr, rfl⟩ := nv.form
  have hx3 := below_alloc' hb1 (Nat.le_refl _) (Obj.cells #[.slice ar lr cr] 31)
  have hx1 := box_below hx3 hx (lt_of_block hx)
  have c1 := chain2 hB hx3
  have n1 := nv.below ((Below.refl _ _).alloc (Nat.le_refl _) (Obj.cells #[.slice ar lr cr] 31))
  have hn := box_new w1 (Obj.cells #[.slice ar lr cr] 31)
  clear hx hx3 hb1
  go_wp2_with fail
  generalize w1.alloc (Obj.cells #[.slice ar lr cr] 31) = W1 at *
  refine (smake_any W1 false _ _ _ n1).mono ?_
  rintro e w2 ⟨v, rfl, ⟨aq, lq, cq, rfl, n2⟩, hb2⟩
  have hx2 := box_below hb2 hx1 (lt_of_block hx1)
  have u2 := two_cell0 hx2
  have u3 := two_cell1 hx2
  have v2 := two_free (k := 0) hx2
  have v3 := two_free (k := 1) hx2
  obtain ⟨k0, k1, kB⟩ := end_two (chain2 c1 hb2) (Nat.le_refl _) hx2 (.bool (decide (sgn false (num s) < 0))) (.slice aq lq cq)
  have n3 := n2.box2 hx2 (by decide) (.bool (decide (sgn false (num s) < 0))) (.slice aq lq cq)
  have HK := hid (And.intro k0 k1)
  clear k0 k1 hx2
  go_wp2
  exact bodyPost_ret (v := .tuple #[.agg #[.bool (decide (sgn false (num s) < 0)), .slice aq lq cq], .int .i64 0]) (by simp [results, Tryz.results136, go_sem, HK.out.1, HK.out.2]) rfl ⟨_, rfl, ⟨aq, lq, cq, rfl, n3⟩, kB⟩
set_option maxHeartbeats 800000 in
theorem sparse_empty (s : ByteArray) (w : World) (h0 : s.size = 0) :
    Calls Tryz.prog 136 #[.string s] w fun e w' => e = .returned (.tuple #[.agg #[.bool false, .slice none 0 0], .int .i64 10]) ∧ Below w.heap.size w w' := by
  have hx := box_new w (Obj.cells #[.bool false, .slice none 0 0] 33)
  have hB : Below w.heap.size w (w.alloc (Obj.cells #[.bool false, .slice none 0 0] 33)) := (Below.refl _ _).alloc (Nat.le_refl _) _
  have HT := hid (show ¬ Txt s from fun h => h.1 h0)
  have h1 : ¬ 0 < s.size := by omega
  have HZ := hid h0
  clear h0
  go_enter Tryz.func136, Tryz.ntmps136
  go_wp2_with fail
  generalize w.alloc (Obj.cells #[.bool false, .slice none 0 0] 33) = W at *
  refine (rparse_no s W (by have := HZ.out; omega) HT.out).mono ?_
  rintro e w1 ⟨rfl, hb1⟩
  have hx3 := below_alloc' hb1 (Nat.le_refl _) (Obj.cells #[.slice none 0 0] 31)
  have hx1 := box_below hx3 hx (lt_of_block hx)
  have c1 := chain2 hB hx3
  have u2 := two_cell0 hx1
  have u3 := two_cell1 hx1
  have v2 := two_free (k := 0) hx1
  have v3 := two_free (k := 1) hx1
  obtain ⟨k0, k1, kB⟩ := end_two c1 (Nat.le_refl _) hx1 (.bool false) (.slice none 0 0)
  have HK := hid (And.intro k0 k1)
  clear k0 k1 hx hx1
  go_wp2
  exact bodyPost_ret (v := .tuple #[.agg #[.bool false, .slice none 0 0], .int .i64 10]) (by simp [results, Tryz.results136, go_sem, HK.out.1, HK.out.2]) rfl ⟨rfl, kB⟩
end Go.Proofs.YtcdkoadobdgbhaaGreatDoor
/- Of: a word's number. -/
namespace Go.Proofs.YtcdkoadobdgbhaaGreatDoor
open Go.RowKit
set_option linter.unusedVariables false
set_option maxRecDepth 100000
set_option linter.unusedSimpArgs false

theorem two_val (a b : Nat) : val [a, b] = a + b * 4294967296 := by simp [val, pv, lg]
theorem two_bd (a b : Nat) (ha : a < 4294967296) (hb : b < 4294967296) : Bd [a, b] := by
  intro j
  match j with
  | 0 => simpa [lg] using ha
  | 1 => simpa [lg] using hb
  | j + 2 => simp [lg]
theorem boxed2' (w : World) (A B : Obj) : Below w.heap.size w ((w.alloc A).alloc B) := below_alloc' (below_alloc' (Below.refl _ _) (Nat.le_refl _) A) (Nat.le_refl _) B
set_option maxHeartbeats 400000 in
theorem of_any (n : Nat) (hn : n < 18446744073709551616) (w : World) :
    Calls Tryz.prog 157 #[.int .u64 n] w fun e w' => ∃ v, e = .returned v ∧ NatIs w' v n 2 ∧ Below w.heap.size w w' := by
  have hown : ((w.alloc (Obj.cells #[Value.slice none 0 0] 69)).alloc (Obj.cells #[Value.int .u32 ((n : Int) % 4294967296), Value.int .u32 ((n : Int) / 4294967296)] 213)).ownsRow (w.heap.size + 1) 213 1 (.slice (some ⟨w.heap.size + 1, 0, none⟩) 2 2) 2 (u32s [n % 4294967296, n / 4294967296]) := by
    have h := World.ownsRow_lit (base := w.heap.size + 1) (e := 213) (size := 1) (w.alloc (Obj.cells #[Value.slice none 0 0] 69)) #[Value.int .u32 ((n : Int) % 4294967296), Value.int .u32 ((n : Int) / 4294967296)] 2 (by simp) (by unfold maxLen; omega) (by simp)
    simpa [u32s] using h
  have hx : ((w.alloc (Obj.cells #[Value.slice none 0 0] 69)).alloc (Obj.cells #[Value.int .u32 ((n : Int) % 4294967296), Value.int .u32 ((n : Int) / 4294967296)] 213)).heap[w.heap.size]? = some (Obj.cells #[Value.slice none 0 0] 69) := box_alloc (box_new _ _) _
  have hb : Below w.heap.size w ((w.alloc (Obj.cells #[Value.slice none 0 0] 69)).alloc (Obj.cells #[Value.int .u32 ((n : Int) % 4294967296), Value.int .u32 ((n : Int) / 4294967296)] 213)) := boxed2' w _ _
  go_enter Tryz.func157, Tryz.ntmps157
  go_wp2_with fail
  generalize (w.alloc (Obj.cells #[Value.slice none 0 0] 69)).alloc (Obj.cells #[Value.int .u32 ((n : Int) % 4294967296), Value.int .u32 ((n : Int) / 4294967296)] 213) = W at *
  refine (trim_base W (w.heap.size + 1) _ [n % 4294967296, n / 4294967296] (two_bd _ _ (by omega) (by omega)) hown).mono ?_
  rintro e w' ⟨⟨v', M, rfl, hM, bM, tM, vM, lM⟩, rfl⟩
  obtain ⟨ao, cp, hv⟩ := Limbs.slice (ownsRow_base0 hM)
  rw [hv]
  rw [hv] at hM
  have HV := hid vM
  have hc := cell_of_one hx
  have hf := free_of_one hx
  have hM2 := ownsRow_setCell_below hM (a := ⟨w.heap.size, 0, none⟩) (by show w.heap.size < _; omega) (.slice ao M.length cp)
  have hB2 := hb.setCell (p := ⟨w.heap.size, 0, none⟩) (Nat.le_refl _) (.slice ao M.length cp)
  clear hv vM hx hM hown
  go_wp2
  refine bodyPost_ret (v := .agg #[.slice ao M.length cp]) (by simp [results, Tryz.results157, go_sem, hc]) rfl ⟨_, rfl, ⟨_, M, rfl, ownsRow_base0 hM2, bM, tM, ?_, lM⟩, hB2⟩
  rw [HV.out, two_val]; omega
end Go.Proofs.YtcdkoadobdgbhaaGreatDoor
/- Whole numbers: Of. -/
namespace Go.Proofs.YtcdkoadobdgbhaaGreatDoor
open Go.RowKit
set_option linter.unusedVariables false
set_option maxRecDepth 100000
set_option linter.unusedSimpArgs false

set_option maxHeartbeats 1000000 in
theorem nof_any (w : World) (z : Int) (h1 : -9223372036854775808 ≤ z) (h2 : z < 9223372036854775808) :
    Calls Tryz.prog 127 #[.int .i64 z] w fun e w' => ∃ v, e = .returned v ∧ NumIs w' v z 2 ∧ Below w.heap.size w w' := by
  have hy := box_new w (Obj.cells #[.slice none 0 0, .bool false] 71)
  have hB : Below w.heap.size w (w.alloc (Obj.cells #[.slice none 0 0, .bool false] 71)) := (Below.refl _ _).alloc (Nat.le_refl _) _
  by_cases hz : z < 0
  · obtain ⟨m, hm⟩ : ∃ m : Nat, z = -(m : Int) := ⟨z.natAbs, by omega⟩
    have e0 : IntKind.u64.wrap (-(IntKind.u64.wrap z)) = (m : Int) := by
      simp [IntKind.wrap, IntKind.bits, IntKind.signed]; omega
    have hm2 : m < 18446744073709551616 := by omega
    have HM := hid (And.intro hm hz)
    have hn : z.natAbs = m := by omega
    clear hm
    have HN := hid hn
    clear hn
    go_enter Tryz.func127, Tryz.ntmps127
    go_wp2_with fail
    refine (of_any m hm2 _).mono ?_
    rintro e w1 ⟨v, rfl, nv, hb⟩
    obtain ⟨a1, l1, c1, rfl⟩ := nv.form
    have y1 := box_below hb hy (by simp)
    have u0 := two_cell0 y1
    have u1 := two_cell1 y1
    have v0 := two_free (k := 0) y1
    have v1 := two_free (k := 1) y1
    obtain ⟨k0, k1, kB⟩ := end_two (chain2 hB hb) (Nat.le_refl _) y1 (.slice a1 l1 c1) (.bool true)
    have n4 := nv.box2 y1 (by decide) (.slice a1 l1 c1) (.bool true)
    have HK := hid (And.intro k0 k1)
    clear k0 k1 nv hb y1
    go_wp2
    exact bodyPost_ret (v := .agg #[.slice a1 l1 c1, .bool true]) (by simp [results, Tryz.results127, go_sem, HK.out.1, HK.out.2]) rfl ⟨_, rfl, ⟨a1, l1, c1, by simp [HM.out.2], HN.out.symm ▸ n4⟩, kB⟩
  · obtain ⟨m, hm⟩ : ∃ m : Nat, z = (m : Int) := ⟨z.natAbs, by omega⟩
    have hm2 : m < 18446744073709551616 := by omega
    have HM := hid (And.intro hm hz)
    subst hm
    go_enter Tryz.func127, Tryz.ntmps127
    go_wp2_with fail
    refine (of_any m hm2 _).mono ?_
    rintro e w1 ⟨v, rfl, nv, hb⟩
    obtain ⟨a1, l1, c1, rfl⟩ := nv.form
    have y1 := box_below hb hy (by simp)
    have u0 := two_cell0 y1
    have u1 := two_cell1 y1
    have v0 := two_free (k := 0) y1
    have v1 := two_free (k := 1) y1
    obtain ⟨k0, k1, kB⟩ := end_two (chain2 hB hb) (Nat.le_refl _) y1 (.slice a1 l1 c1) (.bool false)
    have n4 := nv.box2 y1 (by decide) (.slice a1 l1 c1) (.bool false)
    have HK := hid (And.intro k0 k1)
    clear k0 k1 nv hb y1
    go_wp2
    exact bodyPost_ret (v := .agg #[.slice a1 l1 c1, .bool false]) (by simp [results, Tryz.results127, go_sem, HK.out.1, HK.out.2]) rfl ⟨_, rfl, ⟨a1, l1, c1, by simp, by rw [Int.natAbs_natCast]; exact n4⟩, kB⟩
end Go.Proofs.YtcdkoadobdgbhaaGreatDoor
/- divideByLimb: limbs divided by one limb, where they stand. -/
namespace Go.Proofs.YtcdkoadobdgbhaaGreatDoor
open Go.RowKit
set_option linter.unusedVariables false
set_option maxRecDepth 100000
set_option linter.unusedSimpArgs false

theorem pv_set_in (S : List Nat) (m q n : Nat) (hm : m < n) (hs : m < S.length) : pv (S.set m q) n + lg S m * 4294967296 ^ m = pv S n + q * 4294967296 ^ m := by
  induction n with
  | zero => omega
  | succ n ih =>
    simp only [pv]
    by_cases e : m = n
    · subst e
      rw [pv_set_past S m q m (Nat.le_refl _), lg_set_same S m q hs]; omega
    · rw [lg_set_other S m q n e]
      have := ih (by omega)
      omega
/-- A round of the division by one limb: k limbs from the top are divided, r is left. -/
def DivRel (L S : List Nat) (n d k r : Nat) : Prop := S.length = n ∧ Bd S ∧ (∀ j, j < n - k → lg S j = lg L j) ∧ pv S n * d + r * 4294967296 ^ (n - k) + pv L (n - k) = val L + pv L (n - k) * d
theorem div_round (L S : List Nat) (n d k r m : Nat) (hL : L.length = n) (hk : k < n) (hm : m + 1 + k = n) (hd : 0 < d) (hr : r < d) (hx : lg L m < 4294967296) (h : DivRel L S n d k r) :
    DivRel L (S.set m ((r * 4294967296 + lg L m) / d)) n d (k + 1) ((r * 4294967296 + lg L m) % d) ∧ (r * 4294967296 + lg L m) / d < 4294967296 := by
  obtain ⟨h1, h2, h3, h4⟩ := h
  have hq : (r * 4294967296 + lg L m) / d < 4294967296 := by
    rw [Nat.div_lt_iff_lt_mul hd]
    have : (r + 1) * 4294967296 ≤ d * 4294967296 := Nat.mul_le_mul_right _ hr
    rw [Nat.mul_comm 4294967296 d]; omega
  refine ⟨⟨by simpa using h1, Bd_set h2 _ _ hq, fun j hj => ?_, ?_⟩, hq⟩
  · rw [lg_set_other S m _ j (by omega)]; exact h3 j (by omega)
  · have e1 := pv_set_in S m ((r * 4294967296 + lg L m) / d) n (by omega) (by omega)
    rw [h3 m (by omega)] at e1
    have e2 : n - k = m + 1 := by omega
    have e3 : n - (k + 1) = m := by omega
    rw [e2, Nat.pow_succ] at h4
    simp only [pv] at h4
    rw [e3]
    have hd' := Nat.div_add_mod (r * 4294967296 + lg L m) d
    generalize (r * 4294967296 + lg L m) / d = q at *
    generalize (r * 4294967296 + lg L m) % d = r' at *
    generalize pv (S.set m q) n = V' at *
    generalize pv S n = V at *
    generalize 4294967296 ^ m = p at *
    generalize pv L m = l at *
    generalize lg L m = x at *
    generalize val L = v at *
    have a1 : (V' + x * p) * d = (V + q * p) * d := by rw [e1]
    rw [Nat.add_mul, Nat.add_mul] at a1
    have a2 : (d * q + r') * p = (r * 4294967296 + x) * p := by rw [hd']
    rw [Nat.add_mul, Nat.add_mul] at a2
    have a3 : q * p * d = d * q * p := by rw [Nat.mul_right_comm, Nat.mul_comm q d]
    have a4 : r * (p * 4294967296) = r * 4294967296 * p := by rw [Nat.mul_comm p, ← Nat.mul_assoc]
    have a5 : (l + x * p) * d = l * d + x * p * d := Nat.add_mul _ _ _
    rw [a4, a5] at h4
    omega
theorem div_done (L S : List Nat) (n d r : Nat) (hL : L.length = n) (hd : 0 < d) (hr : r < d) (h : DivRel L S n d n r) : val S = val L / d ∧ r = val L % d := by
  obtain ⟨h1, h2, h3, h4⟩ := h
  simp only [Nat.sub_self, Nat.pow_zero, Nat.mul_one, pv, Nat.zero_mul, Nat.add_zero] at h4
  rw [pv_val S n (by omega)] at h4
  rw [← h4]
  constructor
  · rw [Nat.add_comm, Nat.add_mul_div_right _ _ hd, Nat.div_eq_of_lt hr]; omega
  · rw [Nat.add_comm, Nat.add_mul_mod_self_right, Nat.mod_eq_of_lt hr]
theorem or_sum (r x : Nat) (hr : r < 4294967296) (hx : x < 4294967296) : bits .or .u64 ((r : Int) * 4294967296) (x : Int) = ((r * 4294967296 + x : Nat) : Int) := by
  have e : (r : Int) * 4294967296 = ((r * 4294967296 : Nat) : Int) := by omega
  rw [e, bits_or_u64_nat _ _ (by omega) (by omega)]
  have := Nat.two_pow_add_eq_or_of_lt (i := 32) (b := x) (by omega) r
  rw [Nat.mul_comm r 4294967296]
  exact congrArg _ this.symm
set_option maxHeartbeats 800000 in
theorem divl_any (w : World) (base g n cap : Nat) (L : List Nat) (hb : Bd L) (hl : L.length = n) (hcap : n ≤ cap) (hcm : cap ≤ maxLen) (hown : w.ownsRow base 213 1 (.slice (some ⟨g, 0, none⟩) n cap) n (u32s L)) (d : Nat) (hd : 0 < d) (hd2 : d < 4294967296) :
    Calls Tryz.prog 202 #[.slice (some ⟨g, 0, none⟩) n cap, .int .u32 d] w fun e w' => e = .returned (.int .u32 ((val L % d : Nat) : Int)) ∧ (∃ L', L'.length = n ∧ Bd L' ∧ val L' = val L / d ∧ w'.ownsRow base 213 1 (.slice (some ⟨g, 0, none⟩) n cap) n (u32s L')) ∧ w.grownBy w' (some g) := by
  have HF := hid hl
  clear hl
  unfold maxLen at hcm
  go_enter Tryz.func202, Tryz.ntmps202
  go_wp2
  go_loopw [5, 12] (fun c i wr => ∃ (k r : Nat) (S : List Nat), k ≤ n ∧ i = .int .i64 k ∧ c = .int .u64 r ∧ r < d ∧ DivRel L S n d k r ∧
        wr.ownsRow base 213 1 (.slice (some ⟨g, 0, none⟩) n cap) n (u32s S) ∧ w.grownBy wr (some g)) (fun _ i _ => n - (intOf i).toNat)
  case atStart => exact ⟨0, 0, L, Nat.zero_le _, rfl, rfl, hd, ⟨HF.out, hb, fun j _ => rfl, by simp only [Nat.sub_zero]; rw [pv_val L n (by have := HF.out; omega)]; omega⟩, hown, World.grownBy.refl _ _⟩
  case round =>
    obtain ⟨k, r, S, hk, rfl, rfl, hr, hR, hown', hgr⟩ := hrel
    have R := hid hR
    clear hR hown
    by_cases hlt : k < n
    · obtain ⟨m, hm⟩ : ∃ m : Nat, (n : Int) - 1 - k = m := ⟨n - 1 - k, by omega⟩
      have hm' : m < n := by omega
      have hst := u32s_at hown' m (by have := R.out.1; omega)
      rw [R.out.2.2.1 m (by omega)] at hst
      have hfr := hown'.frozenAt m
      have hx := hb m
      have N := hid (div_round L S n d k r m HF.out hlt (by omega) hd hr hx R.out)
      have OS := hid (or_sum r (lg L m) (by omega) hx)
      have O := hown'.stored m (.int .u32 (((r * 4294967296 + lg L m) / d : Nat) : Int))
      rw [← u32s_set] at O
      have HO := hid O
      have hT : r * 4294967296 + lg L m < 18446744073709551616 := by omega
      clear O hown'
      generalize lg L m = x at *
      go_wp2
      rw [OS.out]
      have HT := hid hT
      generalize r * 4294967296 + x = T at *
      have e1 : ((T : Nat) : Int).tmod (d : Int) = ((T % d : Nat) : Int) := by rw [Int.tmod_eq_emod_of_nonneg (by omega)]; omega
      have e2 : IntKind.u64.wrap (((T : Nat) : Int).tdiv (d : Int)) % 4294967296 = ((T / d : Nat) : Int) := by
        have h1 : ((T : Nat) : Int).tdiv (d : Int) = ((T / d : Nat) : Int) := by rw [Int.tdiv_eq_ediv_of_nonneg (by omega)]; omega
        have h2 := N.out.2
        rw [h1]
        generalize T / d = Q at h2 ⊢
        rw [w64 _ (by omega) (by omega)]; omega
      rw [e1, e2]
      go_roundw
      case rel => exact ⟨k + 1, T % d, S.set m (T / d), by omega, by go_num, rfl, Nat.mod_lt _ hd, N.out.1, HO.out.1, grown_trans hgr HO.out.2⟩
      case measure => simp [intOf]; omega
    · have hk' : k = n := by omega
      have N := hid (div_done L S n d r HF.out hd hr (by have := R.out; rw [hk'] at this; exact this))
      clear hk'
      have hr' : r < 4294967296 := by omega
      go_wp2
      go_ret
      exact ⟨by rw [← N.out.2]; rfl, ⟨S, R.out.1, R.out.2.1, N.out.1, hown'⟩, hgr⟩
end Go.Proofs.YtcdkoadobdgbhaaGreatDoor
/- addTimes: factor times some limbs added to a row from a place on. -/
namespace Go.Proofs.YtcdkoadobdgbhaaGreatDoor
open Go.RowKit
set_option linter.unusedVariables false
set_option maxRecDepth 100000
set_option linter.unusedSimpArgs false

/-- A round of 'addTimes': S is the row as it stands, P as it was. -/
def TimesRel (P S B : List Nat) (n off f k d : Nat) : Prop := S.length = n ∧ Bd S ∧ (∀ j, off + k ≤ j → lg S j = lg P j) ∧ pv S (off + k) + d * 4294967296 ^ (off + k) = pv P (off + k) + f * pv B k * 4294967296 ^ off
theorem times_next (P S B : List Nat) (n off f k d : Nat) (hk : off + k < n) (h : TimesRel P S B n off f k d) :
    TimesRel P (S.set (off + k) ((f * lg B k + lg P (off + k) + d) % 4294967296)) B n off f (k + 1) ((f * lg B k + lg P (off + k) + d) / 4294967296) := by
  obtain ⟨h1, h2, h3, h4⟩ := h
  refine ⟨by simpa using h1, Bd_set h2 _ _ (by omega), fun j hj => ?_, ?_⟩
  · rw [lg_set_other S _ _ j (by omega)]; exact h3 j (by omega)
  · rw [← Nat.add_assoc]
    simp only [pv]
    rw [pv_set_past S (off + k) _ (off + k) (Nat.le_refl _), lg_set_same S _ _ (by omega), Nat.pow_succ, Nat.pow_add]
    rw [Nat.pow_add] at h4
    generalize 4294967296 ^ off = p at *
    generalize 4294967296 ^ k = q at *
    have hd := Nat.div_add_mod (f * lg B k + lg P (off + k) + d) 4294967296
    generalize (f * lg B k + lg P (off + k) + d) % 4294967296 = r at *
    generalize (f * lg B k + lg P (off + k) + d) / 4294967296 = t at *
    have e1 : (4294967296 * t + r) * (p * q) = (f * lg B k + lg P (off + k) + d) * (p * q) := by rw [hd]
    rw [Nat.add_mul, Nat.add_mul, Nat.add_mul] at e1
    have e2 : t * (p * q * 4294967296) = 4294967296 * t * (p * q) := by rw [Nat.mul_comm (p * q), ← Nat.mul_assoc, Nat.mul_comm t]
    have e3 : f * (pv B k + lg B k * q) * p = f * pv B k * p + f * lg B k * (p * q) := by
      rw [Nat.mul_add, Nat.add_mul, ← Nat.mul_assoc, Nat.mul_comm p q, ← Nat.mul_assoc (f * lg B k)]
    rw [e2, e3]
    omega
theorem times_done (P S B : List Nat) (n off f k d : Nat) (hk : off + k < n) (hB : B.length = k) (hd : d < 4294967296) (hz : lg P (off + k) = 0) (h : TimesRel P S B n off f k d) :
    (S.set (off + k) d).length = n ∧ Bd (S.set (off + k) d) ∧ (∀ j, off + k < j → lg (S.set (off + k) d) j = lg P j) ∧ pv (S.set (off + k) d) (off + k + 1) = pv P (off + k) + f * val B * 4294967296 ^ off := by
  obtain ⟨h1, h2, h3, h4⟩ := h
  refine ⟨by simpa using h1, Bd_set h2 _ _ hd, fun j hj => ?_, ?_⟩
  · rw [lg_set_other S _ _ j (by omega)]; exact h3 j (by omega)
  · simp only [pv]
    rw [pv_set_past S (off + k) _ (off + k) (Nat.le_refl _), lg_set_same S _ _ (by omega), h4]
    rw [pv_val B k (by omega)]
theorem times_small {f b p c : Nat} (hf : f < 4294967296) (hb : b < 4294967296) (hp : p < 4294967296) (hc : c < 4294967296) : f * b ≤ 18446744065119617025 ∧ f * b + p + c < 18446744073709551616 ∧ (f * b + p + c) / 4294967296 < 4294967296 := by
  have h1 : f * b ≤ 4294967295 * 4294967295 := Nat.mul_le_mul (by omega) (by omega)
  omega
theorem w64_3 {f b p c : Nat} (hf : f < 4294967296) (hb : b < 4294967296) (hp : p < 4294967296) (hc : c < 4294967296) :
    IntKind.u64.wrap (IntKind.u64.wrap (IntKind.u64.wrap ((f : Int) * (b : Int)) + (p : Int)) + (c : Int)) = ((f * b + p + c : Nat) : Int) := by
  obtain ⟨h1, h2, h3⟩ := times_small hf hb hp hc
  have e0 : (f : Int) * (b : Int) = ((f * b : Nat) : Int) := by simp
  rw [e0]
  generalize f * b = x at *
  have e1 : IntKind.u64.wrap ((x : Nat) : Int) = (x : Int) := w64 _ (by omega) (by omega)
  have e2 : IntKind.u64.wrap ((x : Int) + (p : Int)) = (x : Int) + (p : Int) := w64 _ (by omega) (by omega)
  rw [e1, e2, w64 _ (by omega) (by omega)]; omega
theorem own_drewN {w : World} {base : Nat} {e : TypeId} {size : Nat} {v : Value} {n : Nat} {xs : List Value} (h : w.ownsRow base e size v n xs) (q : Nat) : (w.drewN q).ownsRow base e size v n xs := h
theorem grown_drewN {a w : World} {row : Option Nat} (h : a.grownBy w row) (q : Nat) : a.grownBy (w.drewN q) row := ⟨h.os, h.tape, h.output, h.size, h.block⟩
set_option maxHeartbeats 1000000 in
theorem times_some (w : World) (base g n cap off m c f gb k cb : Nat) (P B : List Nat) (hP : Bd P) (hB : Bd B) (hPn : P.length = n) (hBk : B.length = k) (hf : f < 4294967296) (hm : off + m = n) (hc : m ≤ c) (hcm : c ≤ 1000000000000)
    (hk : off + k < n) (hkc : k ≤ cb) (hcb : cb ≤ maxLen) (hz : lg P (off + k) = 0) (hne : gb ≠ g)
    (hown : w.ownsRow base 213 1 (.slice (some ⟨g, 0, none⟩) n cap) n (u32s P)) (hob : w.ownsRow 0 213 1 (.slice (some ⟨gb, 0, none⟩) k cb) k (u32s B)) :
    Calls Tryz.prog 200 #[.slice (some ⟨g, off, none⟩) m c, .slice (some ⟨gb, 0, none⟩) k cb, .int .u32 f] w fun e w' => e = .returned (.tuple #[]) ∧ (∃ P', P'.length = n ∧ Bd P' ∧ (∀ j, off + k < j → lg P' j = lg P j) ∧ pv P' (off + k + 1) = pv P (off + k) + f * val B * 4294967296 ^ off ∧ w'.ownsRow base 213 1 (.slice (some ⟨g, 0, none⟩) n cap) n (u32s P')) ∧ w.grownBy w' (some g) := by
  have HP := hid (And.intro hPn (And.intro hBk hz))
  clear hPn hBk hz
  unfold maxLen at hcb
  have hm1 : k < m := by omega
  have HM := hid hm
  clear hm
  go_enter Tryz.func200, Tryz.ntmps200
  go_wp2
  go_loopw [6, 11] (fun cc i wr => ∃ (j d : Nat) (S : List Nat), j ≤ k ∧ i = .int .i64 j ∧ cc = .int .u64 d ∧ d < 4294967296 ∧ TimesRel P S B n off f j d ∧ wr.ownsRow base 213 1 (.slice (some ⟨g, 0, none⟩) n cap) n (u32s S) ∧ w.grownBy wr (some g)) (fun _ i _ => k - (intOf i).toNat)
  case atStart => exact ⟨0, 0, P, Nat.zero_le _, rfl, rfl, by omega, ⟨HP.out.1, hP, fun j _ => rfl, by simp [pv]⟩, hown, World.grownBy.refl _ _⟩
  case round =>
    obtain ⟨j, d, S, hj, rfl, rfl, hd, hR, hown', hgr⟩ := hrel
    have hob' : wr.ownsRow 0 213 1 (.slice (some ⟨gb, 0, none⟩) k cb) k (u32s B) := hob.kept hgr (Or.inr (by simp [Value.ownBlock]; exact hne))
    have HR := hid hR
    clear hR hown
    by_cases hlt : j < k
    · have c1 := u32s_at hob' j (by have := HP.out.2.1; omega)
      have c2 := u32s_at hown' (off + j) (by have := HR.out.1; omega)
      rw [HR.out.2.2.1 (off + j) (Nat.le_refl _)] at c2
      have fr := hown'.frozenAt (off + j)
      have HN := hid (times_next P S B n off f j d (by omega) HR.out)
      have b1 := hB j
      have b2 := hP (off + j)
      have O : ∀ q, ((wr.drewN q).setCell ⟨g, off + j, none⟩ (.int .u32 (((f * lg B j + lg P (off + j) + d) % 4294967296 : Nat) : Int))).ownsRow base 213 1 (.slice (some ⟨g, 0, none⟩) n cap) n (u32s (S.set (off + j) ((f * lg B j + lg P (off + j) + d) % 4294967296))) ∧ w.grownBy ((wr.drewN q).setCell ⟨g, off + j, none⟩ (.int .u32 (((f * lg B j + lg P (off + j) + d) % 4294967296 : Nat) : Int))) (some g) := by
        intro q
        have O1 := (own_drewN hown' q).stored (off + j) (.int .u32 (((f * lg B j + lg P (off + j) + d) % 4294967296 : Nat) : Int))
        rw [← u32s_set] at O1
        exact ⟨O1.1, grown_trans (grown_drewN hgr q) O1.2⟩
      have HO := hid O
      have HW := hid (w64_3 hf b1 b2 hd)
      have HS := hid (times_small hf b1 b2 hd).2.2
      have HT := hid (times_small hf b1 b2 hd).2.1
      clear O hown' hob' hP hB
      generalize lg B j = b at *
      generalize lg P (off + j) = p at *
      go_wp2
      go_quiet (fail)
      rw [HW.out]
      have hT : f * b + p + d < 18446744073709551616 := HT.out
      generalize f * b + p + d = T at *
      rw [show ((T % 4294967296 : Nat) : Int) = (T : Int) % 4294967296 by omega] at HO
      go_wp2
      go_roundw
      case rel => exact ⟨j + 1, T / 4294967296, S.set (off + j) (T % 4294967296), by omega, by go_num, by go_num, HS.out, HN.out, (HO.out _).1, (HO.out _).2⟩
      case measure => simp [intOf]; omega
    · have hjk : j = k := by omega
      have fr := hown'.frozenAt (off + k)
      have c2 := u32s_at hown' (off + k) (by have := HR.out.1; omega)
      have O := hown'.stored (off + k) (.int .u32 (d : Int))
      rw [← u32s_set] at O
      have HO := hid O
      have HD := hid (times_done P S B n off f k d hk HP.out.2.1 hd HP.out.2.2 (by have := HR.out; rw [hjk] at this; exact this))
      clear O hown' hob' hjk
      go_wp2
      go_end0
      exact ⟨rfl, ⟨S.set (off + k) d, HD.out.1, HD.out.2.1, HD.out.2.2.1, HD.out.2.2.2, HO.out.1⟩, grown_trans hgr HO.out.2⟩
set_option maxHeartbeats 400000 in
theorem times_none (w : World) (base g n cap off m c f cb : Nat) (ab : Option Addr) (P : List Nat) (hP : Bd P) (hPn : P.length = n) (hm : off + m = n) (hc : m ≤ c) (hk : off < n) (hz : lg P off = 0)
    (hown : w.ownsRow base 213 1 (.slice (some ⟨g, 0, none⟩) n cap) n (u32s P)) :
    Calls Tryz.prog 200 #[.slice (some ⟨g, off, none⟩) m c, .slice ab 0 cb, .int .u32 f] w fun e w' => e = .returned (.tuple #[]) ∧ (∃ P', P'.length = n ∧ Bd P' ∧ (∀ j, off < j → lg P' j = lg P j) ∧ pv P' (off + 1) = pv P off ∧ w'.ownsRow base 213 1 (.slice (some ⟨g, 0, none⟩) n cap) n (u32s P')) ∧ w.grownBy w' (some g) := by
  have HP := hid (And.intro hPn hz)
  have hm1 : 0 < m := by omega
  have c2 := u32s_at hown off (by omega)
  have fr := hown.frozenAt off
  have O := hown.stored off (.int .u32 ((0 : Nat) : Int))
  rw [← u32s_set] at O
  have HO := hid O
  clear hPn hz hm O hown
  go_enter Tryz.func200, Tryz.ntmps200
  go_wp2
  refine wp_loop_rounds 1 ?_
  rw [rounds_succ]
  go_wp2
  go_end0
  refine ⟨rfl, ⟨P.set off 0, by simpa using HP.out.1, Bd_set hP _ _ (by omega), fun j hj => lg_set_other P off 0 j (by omega), ?_, HO.out.1⟩, HO.out.2⟩
  simp only [pv]
  rw [pv_set_past P off 0 off (Nat.le_refl _), lg_set_same P off 0 (by have := HP.out.1; omega)]
  simp
theorem times_any (w : World) (base g n cap off m c f : Nat) (v : Value) (P B : List Nat) (hP : Bd P) (hB : Bd B) (hPn : P.length = n) (hf : f < 4294967296) (hm : off + m = n) (hc : m ≤ c) (hcm : c ≤ 1000000000000)
    (hk : off + B.length < n) (hz : lg P (off + B.length) = 0) (hne : v.ownBlock ≠ some g)
    (hown : w.ownsRow base 213 1 (.slice (some ⟨g, 0, none⟩) n cap) n (u32s P)) (hob : Limbs w v B) :
    Calls Tryz.prog 200 #[.slice (some ⟨g, off, none⟩) m c, v, .int .u32 f] w fun e w' => e = .returned (.tuple #[]) ∧ (∃ P', P'.length = n ∧ Bd P' ∧ (∀ j, off + B.length < j → lg P' j = lg P j) ∧ pv P' (off + B.length + 1) = pv P (off + B.length) + f * val B * 4294967296 ^ off ∧ w'.ownsRow base 213 1 (.slice (some ⟨g, 0, none⟩) n cap) n (u32s P')) ∧ w.grownBy w' (some g) := by
  rcases hob.form with ⟨rfl, rfl⟩ | ⟨gb, cb, rfl, h1, h2, _⟩
  · refine (times_none w base g n cap off m c f 0 none P hP hPn hm hc (by simpa using hk) (by simpa using hz) hown).mono ?_
    rintro e w' ⟨rfl, ⟨P', r1, r2, r3, r4, r5⟩, hg⟩
    exact ⟨rfl, ⟨P', r1, r2, by simpa using r3, by simpa [val, pv] using r4, r5⟩, hg⟩
  · exact times_some w base g n cap off m c f gb B.length cb P B hP hB hPn rfl hf hm hc hcm hk h1 h2 hz (by simpa [Value.ownBlock] using hne) hown hob
end Go.Proofs.YtcdkoadobdgbhaaGreatDoor
/- The document's Of. -/
namespace Go.Proofs.YtcdkoadobdgbhaaGreatDoor
open Go.RowKit
set_option linter.unusedVariables false
set_option maxRecDepth 100000
set_option linter.unusedSimpArgs false

def OfRel (n : Nat) (D : List Nat) (r : Nat) : Prop := R.Bd D ∧ n = R.pv D D.length + r * 1000000000 ^ D.length ∧ (r = 0 → Top D)
theorem OfRel.step {n : Nat} {D : List Nat} {r : Nat} (h : OfRel n D r) (hr : 0 < r) : OfRel n (D ++ [r % 1000000000]) (r / 1000000000) := by
  obtain ⟨h1, h2, h3⟩ := h
  refine ⟨fun j => ?_, ?_, fun hz hn => ?_⟩
  · rcases Nat.lt_trichotomy j D.length with e | e | e
    · rw [lg_append_old D _ j e]; exact h1 j
    · subst e; rw [lg_append_new]; omega
    · rw [lg_past _ j (by simp; omega)]; omega
  · rw [List.length_append, List.length_singleton]
    have e1 : R.pv (D ++ [r % 1000000000]) (D.length + 1) = R.pv D D.length + r % 1000000000 * 1000000000 ^ D.length := by
      simp only [R.pv]
      rw [R.pv_congr (M := D) (fun j hj => lg_append_old D _ j hj), lg_append_new]
    rw [e1, h2, Nat.pow_succ]
    have hd := Nat.div_add_mod r 1000000000
    generalize r / 1000000000 = q at *
    generalize r % 1000000000 = t at *
    generalize 1000000000 ^ D.length = p at *
    rw [← hd, Nat.add_mul, Nat.mul_comm p, ← Nat.mul_assoc, Nat.mul_comm q]
    omega
  · simp only [List.length_append, List.length_singleton, Nat.add_sub_cancel]
    rw [lg_append_new]
    omega
theorem OfRel.short {n : Nat} {D : List Nat} {r : Nat} (h : OfRel n D r) (hr : 0 < r) (hn : n < 18446744073709551616) : D.length < 3 := by
  obtain ⟨h1, h2, h3⟩ := h
  rcases Nat.lt_or_ge D.length 3 with e | e
  · exact e
  · have h6 : 1000000000 ^ 3 ≤ 1000000000 ^ D.length := Nat.pow_le_pow_right (by omega) e
    have h7 : 1 * 1000000000 ^ D.length ≤ r * 1000000000 ^ D.length := Nat.mul_le_mul_right _ hr
    have h8 : (1000000000 : Nat) ^ 3 = 1000000000000000000000000000 := by decide
    omega
set_option maxHeartbeats 1000000 in
theorem rof_any (n : Nat) (hn : n < 18446744073709551616) (w : World) :
    Calls Tryz.prog 67 #[.int .u64 n] w fun e w' => ∃ v, e = .returned v ∧ RefIs w' v n 3 ∧ Below w.heap.size w w' := by
  obtain ⟨i0, hi, hz0, hz1, hz2⟩ := info_parts Tryz.info3
  have hown0 : ((w.alloc (Obj.cells #[Value.slice none 0 0] 31)).alloc (Obj.cells #[] 3)).ownsRow (w.heap.size + 1) 3 1 (.slice (some ⟨w.heap.size + 1, 0, none⟩) 0 0) 0 (i64s []) := by
    have := World.ownsRow_made (base := w.heap.size + 1) (e := 3) (size := 1) (w.alloc (Obj.cells #[Value.slice none 0 0] 31)) #[] 0 (by simp) (by unfold maxLen; omega) (by simp)
    simpa [i64s] using this
  have hx : ((w.alloc (Obj.cells #[Value.slice none 0 0] 31)).alloc (Obj.cells #[] 3)).heap[w.heap.size]? = some (Obj.cells #[Value.slice none 0 0] 31) := box_alloc (box_new _ _) _
  have hb : Below w.heap.size w ((w.alloc (Obj.cells #[Value.slice none 0 0] 31)).alloc (Obj.cells #[] 3)) := below_alloc' (below_alloc' (Below.refl _ _) (Nat.le_refl _) _) (Nat.le_refl _) _
  have hs : ((w.alloc (Obj.cells #[Value.slice none 0 0] 31)).alloc (Obj.cells #[] 3)).heap.size = w.heap.size + 1 + 1 := by simp
  go_enter Tryz.func67, Tryz.ntmps67
  go_wp2
  have hs' : w.heap.size + 1 ≤ ((w.alloc (Obj.cells #[Value.slice none 0 0] 31)).alloc (Obj.cells #[] 3)).heap.size := by omega
  clear hs
  generalize (w.alloc (Obj.cells #[Value.slice none 0 0] 31)).alloc (Obj.cells #[] 3) = W at *
  go_loopw [0, 3] (fun c v wr => ∃ (r : Nat) (D : List Nat), c = .int .u64 r ∧ r < 18446744073709551616 ∧ OfRel n D r ∧ wr.ownsRow (w.heap.size + 1) 3 1 v D.length (i64s D) ∧ D.length ≤ 3 ∧ wr.heap[w.heap.size]? = some (Obj.cells #[Value.slice none 0 0] 31) ∧ Below w.heap.size w wr ∧ w.heap.size + 1 ≤ wr.heap.size) (fun c _ _ => (intOf c).toNat)
  case atStart => exact ⟨n, [], rfl, hn, ⟨by intro j; simp [lg], by simp [R.pv], fun _ h => by simp at h⟩, hown0, by simp, hx, hb, hs'⟩
  case round =>
    obtain ⟨r, D, rfl, hr64, hR, hown, hl, hx', hbw, hsw⟩ := hrel
    have HR := hid hR
    clear hR hown0 hx hb hs'
    by_cases h0 : 0 < r
    · have hD3 := HR.out.short h0 hn
      have HR2 := hid (HR.out.step h0)
      have hx9 : r % 1000000000 < 1000000000 := Nat.mod_lt _ (by omega)
      have hq9 : r / 1000000000 < r := by omega
      go_wp2_with (at_builtin; refine wpList_append_own _ rfl _ _ 29 rfl (w.heap.size + 1) 3 i0 (.int .i64 0) 1 8 Tryz.underlying29 hi hz0 hz1 hz2 rfl (by decide) _ _ _ rfl (hown.alloc _) ⟨wr.heap.size, 0, none⟩ 1 1 [.int .i64 ((r : Int) % 1000000000)] rfl rfl (by intro j u hu; match j, hu with | 0, hu => simp at hu; subst hu; simp [Addr.add]) (by intro u hu; simp at hu; subst hu; rfl) (by unfold maxLen; omega) (by omega) (by simp; omega) ?_)
      intro v' w1 hown2 hgrow hnil
      have hb2 : Below w.heap.size w w1 := (below_alloc' hbw (Nat.le_refl _) _).grown hgrow (by have := hbw.size; simp; omega) (fun q hq => by have := (hown.lt q hq).1; omega)
      have hx2 : w1.heap[w.heap.size]? = some (Obj.cells #[Value.slice none 0 0] 31) := by
        rw [hgrow.block w.heap.size (by simp; omega) (fun e => by have := (hown.lt _ e.symm).1; omega)]
        exact box_alloc hx' _
      have hs2 : w.heap.size + 1 ≤ w1.heap.size := by have := hgrow.size; simp at this; omega
      have hown3 : w1.ownsRow (w.heap.size + 1) 3 1 v' (D ++ [r % 1000000000]).length (i64s (D ++ [r % 1000000000])) := by simpa [i64s] using hown2
      clear hown2 hgrow hnil hown hbw hx' hsw
      go_wp2
      go_roundw
      case rel => exact ⟨r / 1000000000, D ++ [r % 1000000000], by go_num, by omega, HR2.out, hown3, by simp; omega, hx2, hb2, hs2⟩
      case measure => simp [intOf]; omega
    · have hr0 : r = 0 := by omega
      obtain ⟨ao, cap, hv⟩ := ints_slice hown
      have cz := cell_of_one hx'
      have fz := free_of_one hx'
      rw [hv] at hown ⊢
      have hM2 := own_box (ownsRow_base0 hown) hx' (by decide) (.slice ao D.length cap)
      have hB2 := hbw.setCell (p := ⟨w.heap.size, 0, none⟩) (Nat.le_refl _) (.slice ao D.length cap)
      have HF := hid (show R.Bd D ∧ Top D ∧ R.val D = n from by
        obtain ⟨h1, h2, h3⟩ := HR.out
        refine ⟨h1, h3 hr0, ?_⟩
        rw [hr0, Nat.zero_mul, Nat.add_zero] at h2
        exact h2.symm)
      have hr := cell_of_one (one_setCell (u := .slice ao D.length cap) hx')
      have HRr := hid hr
      clear hv hown hx' hr
      go_wp2
      exact bodyPost_ret (v := .agg #[.slice ao D.length cap]) (by simp [results, Tryz.results67, go_sem, HRr.out]) rfl ⟨_, rfl, ⟨_, D, rfl, hM2, HF.out.1, HF.out.2.1, HF.out.2.2, hl⟩, hB2⟩
end Go.Proofs.YtcdkoadobdgbhaaGreatDoor
