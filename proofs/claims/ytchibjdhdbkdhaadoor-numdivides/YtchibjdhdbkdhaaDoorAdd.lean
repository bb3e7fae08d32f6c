/- Add: the sum of two numbers. -/
import Derived.Test.YtchibjdhdbkdhaaDoorWalk1
import Derived.Deep.RegionHeld3
import Derived.Deep.DrawnRows
namespace Go.Proofs.YtchibjdhdbkdhaaDoor
open Go.RowKit
set_option linter.unusedVariables false
set_option maxRecDepth 100000
set_option linter.unusedSimpArgs false
attribute [local go_sem ↓] Go.wp_at_zero Go.wp_at_succ

theorem limb_at (w0 w : World) (v : Value) (L : List Nat) (hb : Bd L) (h : Limbs w0 v L) (hw : Below w0.heap.size w0 w) (i : Nat) :
    Calls Tryd.prog 80 #[.agg #[v], .int .i64 i] w fun e w' => e = .returned (.int .u64 (lg L i : Int)) ∧ ∃ c, w' = w.alloc (.cells c 24) :=
  limb_any w v L hb (h.below hw) i
theorem add_next (A B S : List Nat) (k d n : Nat) (hk : k < n + 1) (h : S.length = n + 1 ∧ Bd S ∧ (∀ j, k ≤ j → lg S j = 0) ∧ pv S k + d * 4294967296 ^ k = pv A k + pv B k) :
    (S.set k ((lg A k + lg B k + d) % 4294967296)).length = n + 1 ∧ Bd (S.set k ((lg A k + lg B k + d) % 4294967296)) ∧ (∀ j, k + 1 ≤ j → lg (S.set k ((lg A k + lg B k + d) % 4294967296)) j = 0) ∧
      pv (S.set k ((lg A k + lg B k + d) % 4294967296)) (k + 1) + (lg A k + lg B k + d) / 4294967296 * 4294967296 ^ (k + 1) = pv A (k + 1) + pv B (k + 1) := by
  obtain ⟨h1, h2, h3, h4⟩ := h
  refine ⟨by simpa using h1, Bd_set h2 k _ (by omega), fun j hj => ?_, add_round A B S k d (by omega) h4⟩
  rw [lg_set_other S k _ j (by omega)]; exact h3 j (by omega)
theorem add_done (A B S : List Nat) (n k d : Nat) (hk : k = n + 1) (ha : A.length ≤ n) (hb : B.length ≤ n) (hA : Bd A) (hB : Bd B) (h : S.length = n + 1 ∧ Bd S ∧ (∀ j, k ≤ j → lg S j = 0) ∧ pv S k + d * 4294967296 ^ k = pv A k + pv B k) : val S = val A + val B := by
  obtain ⟨h1, h2, _, h4⟩ := h
  subst hk
  have e1 : pv S (n + 1) = val S := pv_val S _ (by omega)
  have e2 : pv A (n + 1) = val A := pv_val A _ (by omega)
  have e3 : pv B (n + 1) = val B := pv_val B _ (by omega)
  have e4 : pv A n = val A := pv_val A _ (by omega)
  have e5 : pv B n = val B := pv_val B _ (by omega)
  have l1 := pv_lt hA n
  have l2 := pv_lt hB n
  rw [e1, e2, e3, Nat.pow_succ] at h4
  have := no_carry h4 (by omega)
  exact this.2
theorem add_keep {W X : World} {B p q : Nat} {a b : Value} (hx : W.cell? ⟨p, 0, none⟩ = some a) (hy : W.cell? ⟨q, 0, none⟩ = some b) (hp : p < B) (hq : q < B) (h : Below B W X) : X.cell? ⟨p, 0, none⟩ = some a ∧ X.cell? ⟨q, 0, none⟩ = some b ∧ Below B W X :=
  ⟨(h.cell (by exact hp)).trans hx, (h.cell (by exact hq)).trans hy, h⟩
set_option maxHeartbeats 1000000 in
theorem add_walk (w : World) (aa ab : Option Addr) (na ca nb cb n : Nat) (A B : List Nat) (hA : Bd A) (hB : Bd B) (hna : na ≤ 1000000000) (hnb : nb ≤ 1000000000) (hn : max na nb = n) (hAl : A.length = na) (hBl : B.length = nb)
    (oa : Limbs w (.slice aa na ca) A) (ob : Limbs w (.slice ab nb cb) B) :
    Calls Tryd.prog 52 #[.agg #[.slice aa na ca], .agg #[.slice ab nb cb]] w fun e w' => ∃ v, e = .returned v ∧ NatIs w' v (val A + val B) (n + 1) ∧ Below w.heap.size w w' := by
  obtain ⟨i0, hi, hz0, hz1, hz2⟩ := info_parts Tryd.info73
  have HN : Hid (max na nb = n ∧ A.length ≤ n ∧ B.length ≤ n) := ⟨hn, by omega, by omega⟩
  have hn' : n ≤ 1000000000 := by omega
  clear hn hAl hBl
  rcases (show nb < na ∨ na < nb ∨ na ≤ nb ∧ nb ≤ na by omega) with hc | hc | ⟨hc, hc'⟩
  all_goals
    go_enter Tryd.func52, Tryd.ntmps52
    go_wp2_with (first | (at_make; refine wpList_make_full _ rfl _ _ 22 rfl (w.heap.size + 1 + 1 + 1) 73 i0 (.int .u32 0) 1 Tryd.underlying22 hi hz0 hz1 _ _ _ _ (n + 1) rfl rfl (by have := HN.out.1; omega) (by have := HN.out.1; omega) (by rw [hz2]; omega) (by unfold maxLen; omega) (by simp) ?_))
    intro w1 hown hgrow
    have hb1 : Below (w.heap.size + 1 + 1 + 1) (((w.alloc (Obj.cells #[Value.slice aa na ca] 24)).alloc (Obj.cells #[Value.slice ab nb cb] 24)).alloc (Obj.cells #[Value.slice none 0 0] 24)) w1 := by
      have := (Below.refl (w.heap.size + 1 + 1 + 1) _).grown hgrow (by simp) (by intro k hk; simp at hk)
      exact this
    simp only [toList_madeCells_one, Value.cells, Nat.mul_one] at hown
    rw [← u32s_rep] at hown
    have hWx : (((w.alloc (Obj.cells #[Value.slice aa na ca] 24)).alloc (Obj.cells #[Value.slice ab nb cb] 24)).alloc (Obj.cells #[Value.slice none 0 0] 24)).cell? ⟨w.heap.size, 0, none⟩ = some (.slice aa na ca) := by simp [go_sem]
    have hWy : (((w.alloc (Obj.cells #[Value.slice aa na ca] 24)).alloc (Obj.cells #[Value.slice ab nb cb] 24)).alloc (Obj.cells #[Value.slice none 0 0] 24)).cell? ⟨w.heap.size + 1, 0, none⟩ = some (.slice ab nb cb) := by simp [go_sem]
    have hWz : (((w.alloc (Obj.cells #[Value.slice aa na ca] 24)).alloc (Obj.cells #[Value.slice ab nb cb] 24)).alloc (Obj.cells #[Value.slice none 0 0] 24)).cell? ⟨w.heap.size + 1 + 1, 0, none⟩ = some (.slice none 0 0) := by simp [go_sem]
    have hWf : (((w.alloc (Obj.cells #[Value.slice aa na ca] 24)).alloc (Obj.cells #[Value.slice ab nb cb] 24)).alloc (Obj.cells #[Value.slice none 0 0] 24)).frozen? ⟨w.heap.size + 1 + 1, 0, none⟩ = false := by simp [go_sem]
    have hWb : Below w.heap.size w (((w.alloc (Obj.cells #[Value.slice aa na ca] 24)).alloc (Obj.cells #[Value.slice ab nb cb] 24)).alloc (Obj.cells #[Value.slice none 0 0] 24)) := (((Below.refl _ _).alloc (Nat.le_refl _) _).alloc (by simp) _).alloc (by simp; omega) _
    have hWs : (((w.alloc (Obj.cells #[Value.slice aa na ca] 24)).alloc (Obj.cells #[Value.slice ab nb cb] 24)).alloc (Obj.cells #[Value.slice none 0 0] 24)).heap.size = w.heap.size + 1 + 1 + 1 := by simp
    clear hgrow
    generalize ((w.alloc (Obj.cells #[Value.slice aa na ca] 24)).alloc (Obj.cells #[Value.slice ab nb cb] 24)).alloc (Obj.cells #[Value.slice none 0 0] 24) = W at *
    have hWt : w.heap.size + 1 + 1 + 1 ≤ W.heap.size := by omega
    clear hWs
    go_wp2
    go_loopw [6, 20] (fun c i wr => ∃ (k d : Nat) (S : List Nat), k ≤ n + 1 ∧ i = .int .i64 k ∧ c = .int .u64 d ∧ d ≤ 1 ∧ S.length = n + 1 ∧ Bd S ∧ (∀ j, k ≤ j → lg S j = 0) ∧ pv S k + d * 4294967296 ^ k = pv A k + pv B k ∧
        wr.ownsRow (w.heap.size + 1 + 1 + 1) 73 1 (.slice (some ⟨w.heap.size + 1 + 1 + 1, 0, none⟩) (n + 1) (n + 1)) (n + 1) (u32s S) ∧ Below (w.heap.size + 1 + 1 + 1) W wr) (fun _ i _ => n + 1 - (intOf i).toNat)
    case atStart => exact ⟨0, 0, List.replicate (n + 1) 0, Nat.zero_le _, rfl, rfl, by omega, by simp, Bd_rep _, fun j _ => lg_rep _ _, by simp [pv], hown, hb1⟩
    case round =>
      obtain ⟨k, d, S, hk, rfl, rfl, hd, hS, hSb, hSz, hpv, hown', hbel⟩ := hrel
      have R : Hid (S.length = n + 1 ∧ Bd S ∧ (∀ j, k ≤ j → lg S j = 0) ∧ pv S k + d * 4294967296 ^ k = pv A k + pv B k) := ⟨hS, hSb, hSz, hpv⟩
      clear hS hSb hSz hpv hown hb1
      have hbw : Below w.heap.size w wr := hWb.trans (hbel.mono (by omega))
      have e1 : wr.cell? ⟨w.heap.size, 0, none⟩ = some (.slice aa na ca) := (hbel.cell (by show w.heap.size < _; omega)).trans hWx
      have e2 : wr.cell? ⟨w.heap.size + 1, 0, none⟩ = some (.slice ab nb cb) := (hbel.cell (by show w.heap.size + 1 < _; omega)).trans hWy
      have hsz : w.heap.size ≤ wr.heap.size := hbw.size
      by_cases hlt : k < n + 1
      · go_wp2
        go_region_held3 (fun w' => w'.cell? ⟨w.heap.size, 0, none⟩ = some (.slice aa na ca) ∧ w'.cell? ⟨w.heap.size + 1, 0, none⟩ = some (.slice ab nb cb) ∧ Below (w.heap.size + 1 + 1 + 1) W w') 
          ((refine add_keep hWx hWy (by omega) (by omega) ?_; first | exact hbel.drew | exact below_alloc' hbel.drew hWt _ | exact (below_alloc' hbel hWt _).drew | exact below_alloc' (below_alloc' hbel.drew hWt _) hWt _))
          (first | (go_at_call_of 80 (Value.agg #[Value.slice aa na ca]); refine (limb_at w _ _ A hA oa ?_ k).mono ?_; exact hbw.drew; rintro e w' ⟨rfl, c1, rfl⟩) | (go_at_call_of 80 (Value.agg #[Value.slice ab nb cb]); refine (limb_at w _ _ B hB ob ?_ k).mono ?_; (first | exact hbw.drew.alloc hsz _ | exact (hbw.alloc hsz _).drew); rintro e w' ⟨rfl, c2, rfl⟩))
        have eT : IntKind.u64.wrap (IntKind.u64.wrap (↑(lg A k) + ↑(lg B k)) + ↑d) = ((lg A k + lg B k + d : Nat) : Int) := by
          have := hA k; have := hB k
          have e1 : IntKind.u64.wrap ((lg A k : Int) + (lg B k : Int)) = (lg A k : Int) + (lg B k : Int) := w64 _ (by omega) (by omega)
          rw [e1, w64 _ (by omega) (by omega)]; omega
        have hT2 : lg A k + lg B k + d < 8589934592 := by have := hA k; have := hB k; omega
        rw [eT]
        clear eT
        have RN := add_next A B S k d n (by omega) R.out
        generalize lg A k + lg B k + d = T at *
        have own2 : ((wr.alloc (Obj.cells c1 24)).alloc (Obj.cells c2 24)).drew.ownsRow (w.heap.size + 1 + 1 + 1) 73 1 (.slice (some ⟨w.heap.size + 1 + 1 + 1, 0, none⟩) (n + 1) (n + 1)) (n + 1) (u32s S) := ((hown'.alloc _).alloc _).drew
        have bel2 : Below (w.heap.size + 1 + 1 + 1) W ((wr.alloc (Obj.cells c1 24)).alloc (Obj.cells c2 24)).drew := (below_alloc' (below_alloc' hbel hWt _) hWt _).drew
        generalize ((wr.alloc (Obj.cells c1 24)).alloc (Obj.cells c2 24)).drew = w2 at *
        clear hown' hbel hbw e1 e2 hsz
        have hst := u32s_at own2 k (by rw [R.out.1]; omega)
        have hfr := own2.frozenAt k
        have own3 := own2.stored k (.int .u32 ((T % 4294967296 : Nat) : Int))
        rw [← u32s_set] at own3
        rw [show ((T % 4294967296 : Nat) : Int) = (T : Int) % 4294967296 by omega] at own3
        have HO := hid own3
        have HR := hid RN
        clear own3 own2 RN
        go_wp2
        go_roundw
        case rel => exact ⟨k + 1, T / 4294967296, S.set k (T % 4294967296), by omega, by go_num, by go_num, by omega, HR.out.1, HR.out.2.1, HR.out.2.2.1, HR.out.2.2.2, HO.out.1, bel2.setCell (by exact Nat.le_refl _) _⟩
        case measure => simp [intOf]; omega
      · have hk' : k = n + 1 := by omega
        rw [← R.out.1] at hown'
        have hZ := (hbel.cell (p := ⟨w.heap.size + 1 + 1, 0, none⟩) (by show w.heap.size + 1 + 1 < _; omega)).trans hWz
        have hF := (hbel.frozen (p := ⟨w.heap.size + 1 + 1, 0, none⟩) (by show w.heap.size + 1 + 1 < _; omega)).trans hWf
        go_wp2_with fail
        refine (trim_base wr (w.heap.size + 1 + 1 + 1) _ S R.out.2.1 ?_).mono ?_
        · have := hown'; rw [R.out.1] at this ⊢; exact this
        clear hown'
        rintro e w' ⟨⟨v', M, rfl, hM, bM, tM, vM, lM⟩, rfl⟩
        obtain ⟨ao, cp, hv⟩ := Limbs.slice (ownsRow_base0 hM)
        rw [hv]
        rw [hv] at hM
        clear hv
        have HV := hid vM
        have HK := hid hk'
        clear vM hk'
        have hM2 := ownsRow_setCell_below hM (a := ⟨w.heap.size + 1 + 1, 0, none⟩) (by show w.heap.size + 1 + 1 < _; omega) (.slice ao M.length cp)
        clear hM
        have hB2 := hbw.setCell (p := ⟨w.heap.size + 1 + 1, 0, none⟩) (by show w.heap.size ≤ w.heap.size + 1 + 1; omega) (.slice ao M.length cp)
        go_wp2
        refine bodyPost_ret (v := .agg #[.slice ao M.length cp]) (by simp [results, Tryd.results52, go_sem, hZ, hF]) rfl ⟨_, rfl, ⟨_, M, rfl, ownsRow_base0 hM2, bM, tM, ?_, ?_⟩, hB2⟩
        · rw [HV.out]; exact add_done A B S n k d HK.out HN.out.2.1 HN.out.2.2 hA hB R.out
        · have := R.out.1; omega
/-- Add: the sum. -/
theorem add_any (w : World) (a b : Value) (m n K K' : Nat) (hK : K ≤ 1000000000) (hK' : K' ≤ 1000000000) (ha : NatIs w a m K) (hb : NatIs w b n K') :
    Calls Tryd.prog 52 #[a, b] w fun e w' => ∃ v, e = .returned v ∧ NatIs w' v (m + n) (max K K' + 1) ∧ Below w.heap.size w w' := by
  obtain ⟨sa, A, rfl, oa, bA, tA, rfl, lA⟩ := ha
  obtain ⟨sb, B, rfl, ob, bB, tB, rfl, lB⟩ := hb
  obtain ⟨aa, ca, rfl⟩ := oa.slice
  obtain ⟨ab, cb, rfl⟩ := ob.slice
  refine (add_walk w aa ab A.length ca B.length cb (max A.length B.length) A B bA bB (by omega) (by omega) rfl rfl rfl oa ob).mono ?_
  rintro e w' ⟨v, rfl, hv, hw⟩
  exact ⟨v, rfl, hv.mono (by omega), hw⟩
end Go.Proofs.YtchibjdhdbkdhaaDoor
