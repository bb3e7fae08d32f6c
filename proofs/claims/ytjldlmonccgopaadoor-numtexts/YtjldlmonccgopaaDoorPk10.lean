/- Add, Sub, Ends, Mul, RAdd, RCmp, RSub, REnds. -/
import Derived.Test.YtjldlmonccgopaaDoorPk8
import Derived.Deep.RegionHeld3
import Derived.Deep.DrawnRows
import Derived.Test.YtjldlmonccgopaaDoorPk9
/- Add: the sum of two numbers. -/
namespace Go.Proofs.YtjldlmonccgopaaDoor
open Go.RowKit
set_option linter.unusedVariables false
set_option maxRecDepth 100000
set_option linter.unusedSimpArgs false
attribute [local go_sem ↓] Go.wp_at_zero Go.wp_at_succ

theorem limb_at (w0 w : World) (v : Value) (L : List Nat) (hb : Bd L) (h : Limbs w0 v L) (hw : Below w0.heap.size w0 w) (i : Nat) :
    Calls Tryd.prog 60 #[.agg #[v], .int .i64 i] w fun e w' => e = .returned (.int .u64 (lg L i : Int)) ∧ ∃ c, w' = w.alloc (.cells c 24) :=
  limb_any w v L hb (h.below hw) i
theorem add_next (A B S : List Nat) (k d n : Nat) (hk : k < n + 1) (h : S.length = n + 1 ∧ Bd S ∧ (∀ j, k ≤ j → lg S j = 0) ∧ pv S k + d * 4294967296 ^ k = pv A k + pv B k) :
    (S.set k ((lg A k + lg B k + d) % 4294967296)).length = n + 1 ∧ Bd (S.set k ((lg A k + lg B k + d) % 4294967296)) ∧ (∀ j, k + 1 ≤ j → lg (S.set k ((lg A k + lg B k + d) % 4294967296)) j = 0) ∧
      pv (S.set k ((lg A k + lg B k + d) % 4294967296)) (k + 1) + (lg A k + lg B k + d) / 4294967296 * 4294967296 ^ (k + 1) = pv A (k + 1) + pv B (k + 1) := by
  obtain ⟨h1, h2, h3, h4⟩ := h
  refine ⟨by simpa using h1, Bd_set h2 k _ (by omega), fun j hj => ?_, add_round A B S k d (by omega) h4⟩
  rw [lg_set_other S k _ j (by omega)]; exact h3 j (by omega)
theorem add_done (A B S : List Nat) (n k d : Nat) (hk : k = n + 1) (ha : A.length ≤ n) (hb : B.length ≤ n) (hA : Bd A) (hB : Bd B) (h : S.length = n + 1 ∧ Bd S ∧ (∀ j, k ≤ j → lg S j = 0) ∧ pv S k + d * 4294967296 ^ k = pv A k + pv B k) : val S = val A + val B := by
  obtain ⟨h1, h2, _, h4⟩ := h
  subst hk
  have e1 : pv S (n + 1) = val S := pv_val S _ (by omega)
  have e2 : pv A (n + 1) = val A := pv_val A _ (by omega)
  have e3 : pv B (n + 1) = val B := pv_val B _ (by omega)
  have e4 : pv A n = val A := pv_val A _ (by omega)
  have e5 : pv B n = val B := pv_val B _ (by omega)
  have l1 := pv_lt hA n
  have l2 := pv_lt hB n
  rw [e1, e2, e3, Nat.pow_succ] at h4
  have := no_carry h4 (by omega)
  exact this.2
theorem add_keep {W X : World} {B p q : Nat} {a b : Value} (hx : W.cell? ⟨p, 0, none⟩ = some a) (hy : W.cell? ⟨q, 0, none⟩ = some b) (hp : p < B) (hq : q < B) (h : Below B W X) : X.cell? ⟨p, 0, none⟩ = some a ∧ X.cell? ⟨q, 0, none⟩ = some b ∧ Below B W X :=
  ⟨(h.cell (by exact hp)).trans hx, (h.cell (by exact hq)).trans hy, h⟩
set_option maxHeartbeats 1000000 in
theorem add_walk (w : World) (aa ab : Option Addr) (na ca nb cb n : Nat) (A B : List Nat) (hA : Bd A) (hB : Bd B) (hna : na ≤ 1000000000) (hnb : nb ≤ 1000000000) (hn : max na nb = n) (hAl : A.length = na) (hBl : B.length = nb)
    (oa : Limbs w (.slice aa na ca) A) (ob : Limbs w (.slice ab nb cb) B) :
    Calls Tryd.prog 41 #[.agg #[.slice aa na ca], .agg #[.slice ab nb cb]] w fun e w' => ∃ v, e = .returned v ∧ NatIs w' v (val A + val B) (n + 1) ∧ Below w.heap.size w w' := by
  obtain ⟨i0, hi, hz0, hz1, hz2⟩ := info_parts Tryd.info66
  have HN : Hid (max na nb = n ∧ A.length ≤ n ∧ B.length ≤ n) := ⟨hn, by omega, by omega⟩
  have hn' : n ≤ 1000000000 := by omega
  clear hn hAl hBl
  rcases (show nb < na ∨ na < nb ∨ na ≤ nb ∧ nb ≤ na by omega) with hc | hc | ⟨hc, hc'⟩
  all_goals
    go_enter Tryd.func41, Tryd.ntmps41
    go_wp2_with (first | (at_make; refine wpList_make_full _ rfl _ _ 22 rfl (w.heap.size + 1 + 1 + 1) 66 i0 (.int .u32 0) 1 Tryd.underlying22 hi hz0 hz1 _ _ _ _ (n + 1) rfl rfl (by have := HN.out.1; omega) (by have := HN.out.1; omega) (by rw [hz2]; omega) (by unfold maxLen; omega) (by simp) ?_))
    intro w1 hown hgrow
    have hb1 : Below (w.heap.size + 1 + 1 + 1) (((w.alloc (Obj.cells #[Value.slice aa na ca] 24)).alloc (Obj.cells #[Value.slice ab nb cb] 24)).alloc (Obj.cells #[Value.slice none 0 0] 24)) w1 := by
      have := (Below.refl (w.heap.size + 1 + 1 + 1) _).grown hgrow (by simp) (by intro k hk; simp at hk)
      exact this
    simp only [toList_madeCells_one, Value.cells, Nat.mul_one] at hown
    rw [← u32s_rep] at hown
    have hWx : (((w.alloc (Obj.cells #[Value.slice aa na ca] 24)).alloc (Obj.cells #[Value.slice ab nb cb] 24)).alloc (Obj.cells #[Value.slice none 0 0] 24)).cell? ⟨w.heap.size, 0, none⟩ = some (.slice aa na ca) := by simp [go_sem]
    have hWy : (((w.alloc (Obj.cells #[Value.slice aa na ca] 24)).alloc (Obj.cells #[Value.slice ab nb cb] 24)).alloc (Obj.cells #[Value.slice none 0 0] 24)).cell? ⟨w.heap.size + 1, 0, none⟩ = some (.slice ab nb cb) := by simp [go_sem]
    have hWz : (((w.alloc (Obj.cells #[Value.slice aa na ca] 24)).alloc (Obj.cells #[Value.slice ab nb cb] 24)).alloc (Obj.cells #[Value.slice none 0 0] 24)).cell? ⟨w.heap.size + 1 + 1, 0, none⟩ = some (.slice none 0 0) := by simp [go_sem]
    have hWf : (((w.alloc (Obj.cells #[Value.slice aa na ca] 24)).alloc (Obj.cells #[Value.slice ab nb cb] 24)).alloc (Obj.cells #[Value.slice none 0 0] 24)).frozen? ⟨w.heap.size + 1 + 1, 0, none⟩ = false := by simp [go_sem]
    have hWb : Below w.heap.size w (((w.alloc (Obj.cells #[Value.slice aa na ca] 24)).alloc (Obj.cells #[Value.slice ab nb cb] 24)).alloc (Obj.cells #[Value.slice none 0 0] 24)) := (((Below.refl _ _).alloc (Nat.le_refl _) _).alloc (by simp) _).alloc (by simp; omega) _
    have hWs : (((w.alloc (Obj.cells #[Value.slice aa na ca] 24)).alloc (Obj.cells #[Value.slice ab nb cb] 24)).alloc (Obj.cells #[Value.slice none 0 0] 24)).heap.size = w.heap.size + 1 + 1 + 1 := by simp
    clear hgrow
    generalize ((w.alloc (Obj.cells #[Value.slice aa na ca] 24)).alloc (Obj.cells #[Value.slice ab nb cb] 24)).alloc (Obj.cells #[Value.slice none 0 0] 24) = W at *
    have hWt : w.heap.size + 1 + 1 + 1 ≤ W.heap.size := by omega
    clear hWs
    go_wp2
    go_loopw [6, 20] (fun c i wr => ∃ (k d : Nat) (S : List Nat), k ≤ n + 1 ∧ i = .int .i64 k ∧ c = .int .u64 d ∧ d ≤ 1 ∧ S.length = n + 1 ∧ Bd S ∧ (∀ j, k ≤ j → lg S j = 0) ∧ pv S k + d * 4294967296 ^ k = pv A k + pv B k ∧
        wr.ownsRow (w.heap.size + 1 + 1 + 1) 66 1 (.slice (some ⟨w.heap.size + 1 + 1 + 1, 0, none⟩) (n + 1) (n + 1)) (n + 1) (u32s S) ∧ Below (w.heap.size + 1 + 1 + 1) W wr) (fun _ i _ => n + 1 - (intOf i).toNat)
    case atStart => exact ⟨0, 0, List.replicate (n + 1) 0, Nat.zero_le _, rfl, rfl, by omega, by simp, Bd_rep _, fun j _ => lg_rep _ _, by simp [pv], hown, hb1⟩
    case round =>
      obtain ⟨k, d, S, hk, rfl, rfl, hd, hS, hSb, hSz, hpv, hown', hbel⟩ := hrel
      have R : Hid (S.length = n + 1 ∧ Bd S ∧ (∀ j, k ≤ j → lg S j = 0) ∧ pv S k + d * 4294967296 ^ k = pv A k + pv B k) := ⟨hS, hSb, hSz, hpv⟩
      clear hS hSb hSz hpv hown hb1
      have hbw : Below w.heap.size w wr := hWb.trans (hbel.mono (by omega))
      have e1 : wr.cell? ⟨w.heap.size, 0, none⟩ = some (.slice aa na ca) := (hbel.cell (by show w.heap.size < _; omega)).trans hWx
      have e2 : wr.cell? ⟨w.heap.size + 1, 0, none⟩ = some (.slice ab nb cb) := (hbel.cell (by show w.heap.size + 1 < _; omega)).trans hWy
      have hsz : w.heap.size ≤ wr.heap.size := hbw.size
      by_cases hlt : k < n + 1
      · go_wp2
        go_region_held3 (fun w' => w'.cell? ⟨w.heap.size, 0, none⟩ = some (.slice aa na ca) ∧ w'.cell? ⟨w.heap.size + 1, 0, none⟩ = some (.slice ab nb cb) ∧ Below (w.heap.size + 1 + 1 + 1) W w') 
          ((refine add_keep hWx hWy (by omega) (by omega) ?_; first | exact hbel.drew | exact below_alloc' hbel.drew hWt _ | exact (below_alloc' hbel hWt _).drew | exact below_alloc' (below_alloc' hbel.drew hWt _) hWt _))
          (first | (go_at_call_of 60 (Value.agg #[Value.slice aa na ca]); refine (limb_at w _ _ A hA oa ?_ k).mono ?_; exact hbw.drew; rintro e w' ⟨rfl, c1, rfl⟩) | (go_at_call_of 60 (Value.agg #[Value.slice ab nb cb]); refine (limb_at w _ _ B hB ob ?_ k).mono ?_; (first | exact hbw.drew.alloc hsz _ | exact (hbw.alloc hsz _).drew); rintro e w' ⟨rfl, c2, rfl⟩))
        have eT : IntKind.u64.wrap (IntKind.u64.wrap (↑(lg A k) + ↑(lg B k)) + ↑d) = ((lg A k + lg B k + d : Nat) : Int) := by
          have := hA k; have := hB k
          have e1 : IntKind.u64.wrap ((lg A k : Int) + (lg B k : Int)) = (lg A k : Int) + (lg B k : Int) := w64 _ (by omega) (by omega)
          rw [e1, w64 _ (by omega) (by omega)]; omega
        have hT2 : lg A k + lg B k + d < 8589934592 := by have := hA k; have := hB k; omega
        rw [eT]
        clear eT
        have RN := add_next A B S k d n (by omega) R.out
        generalize lg A k + lg B k + d = T at *
        have own2 : ((wr.alloc (Obj.cells c1 24)).alloc (Obj.cells c2 24)).drew.ownsRow (w.heap.size + 1 + 1 + 1) 66 1 (.slice (some ⟨w.heap.size + 1 + 1 + 1, 0, none⟩) (n + 1) (n + 1)) (n + 1) (u32s S) := ((hown'.alloc _).alloc _).drew
        have bel2 : Below (w.heap.size + 1 + 1 + 1) W ((wr.alloc (Obj.cells c1 24)).alloc (Obj.cells c2 24)).drew := (below_alloc' (below_alloc' hbel hWt _) hWt _).drew
        generalize ((wr.alloc (Obj.cells c1 24)).alloc (Obj.cells c2 24)).drew = w2 at *
        clear hown' hbel hbw e1 e2 hsz
        have hst := u32s_at own2 k (by rw [R.out.1]; omega)
        have hfr := own2.frozenAt k
        have own3 := own2.stored k (.int .u32 ((T % 4294967296 : Nat) : Int))
        rw [← u32s_set] at own3
        rw [show ((T % 4294967296 : Nat) : Int) = (T : Int) % 4294967296 by omega] at own3
        have HO := hid own3
        have HR := hid RN
        clear own3 own2 RN
        go_wp2
        go_roundw
        case rel => exact ⟨k + 1, T / 4294967296, S.set k (T % 4294967296), by omega, by go_num, by go_num, by omega, HR.out.1, HR.out.2.1, HR.out.2.2.1, HR.out.2.2.2, HO.out.1, bel2.setCell (by exact Nat.le_refl _) _⟩
        case measure => simp [intOf]; omega
      · have hk' : k = n + 1 := by omega
        rw [← R.out.1] at hown'
        have hZ := (hbel.cell (p := ⟨w.heap.size + 1 + 1, 0, none⟩) (by show w.heap.size + 1 + 1 < _; omega)).trans hWz
        have hF := (hbel.frozen (p := ⟨w.heap.size + 1 + 1, 0, none⟩) (by show w.heap.size + 1 + 1 < _; omega)).trans hWf
        go_wp2_with fail
        refine (trim_base wr (w.heap.size + 1 + 1 + 1) _ S R.out.2.1 ?_).mono ?_
        · have := hown'; rw [R.out.1] at this ⊢; exact this
        clear hown'
        rintro e w' ⟨⟨v', M, rfl, hM, bM, tM, vM, lM⟩, rfl⟩
        obtain ⟨ao, cp, hv⟩ := Limbs.slice (ownsRow_base0 hM)
        rw [hv]
        rw [hv] at hM
        clear hv
        have HV := hid vM
        have HK := hid hk'
        clear vM hk'
        have hM2 := ownsRow_setCell_below hM (a := ⟨w.heap.size + 1 + 1, 0, none⟩) (by show w.heap.size + 1 + 1 < _; omega) (.slice ao M.length cp)
        clear hM
        have hB2 := hbw.setCell (p := ⟨w.heap.size + 1 + 1, 0, none⟩) (by show w.heap.size ≤ w.heap.size + 1 + 1; omega) (.slice ao M.length cp)
        go_wp2
        refine bodyPost_ret (v := .agg #[.slice ao M.length cp]) (by simp [results, Tryd.results41, go_sem, hZ, hF]) rfl ⟨_, rfl, ⟨_, M, rfl, ownsRow_base0 hM2, bM, tM, ?_, ?_⟩, hB2⟩
        · rw [HV.out]; exact add_done A B S n k d HK.out HN.out.2.1 HN.out.2.2 hA hB R.out
        · have := R.out.1; omega
/-- Add: the sum. -/
theorem add_any (w : World) (a b : Value) (m n K K' : Nat) (hK : K ≤ 1000000000) (hK' : K' ≤ 1000000000) (ha : NatIs w a m K) (hb : NatIs w b n K') :
    Calls Tryd.prog 41 #[a, b] w fun e w' => ∃ v, e = .returned v ∧ NatIs w' v (m + n) (max K K' + 1) ∧ Below w.heap.size w w' := by
  obtain ⟨sa, A, rfl, oa, bA, tA, rfl, lA⟩ := ha
  obtain ⟨sb, B, rfl, ob, bB, tB, rfl, lB⟩ := hb
  obtain ⟨aa, ca, rfl⟩ := oa.slice
  obtain ⟨ab, cb, rfl⟩ := ob.slice
  refine (add_walk w aa ab A.length ca B.length cb (max A.length B.length) A B bA bB (by omega) (by omega) rfl rfl rfl oa ob).mono ?_
  rintro e w' ⟨v, rfl, hv, hw⟩
  exact ⟨v, rfl, hv.mono (by omega), hw⟩
end Go.Proofs.YtjldlmonccgopaaDoor
/- Sub: the difference of two numbers. -/
namespace Go.Proofs.YtjldlmonccgopaaDoor
open Go.RowKit
set_option linter.unusedVariables false
set_option maxRecDepth 100000
set_option linter.unusedSimpArgs false
attribute [local go_sem ↓] Go.wp_at_zero Go.wp_at_succ

/-- What 'a - b - c' is as a word, and what is borrowed. -/
def subT (a b c : Nat) : Nat := if b + c ≤ a then a - b - c else 18446744073709551616 + a - b - c
theorem subT_facts {a b c : Nat} (ha : a < 4294967296) (hb : b < 4294967296) (hc : c ≤ 1) : subT a b c < 18446744073709551616 ∧ subT a b c / 9223372036854775808 ≤ 1 ∧ subT a b c % 4294967296 + b + c = a + subT a b c / 9223372036854775808 * 4294967296 := by
  unfold subT; split <;> omega
theorem subT_wrap {a b c : Nat} (ha : a < 4294967296) (hb : b < 4294967296) (hc : c ≤ 1) : IntKind.u64.wrap (IntKind.u64.wrap ((a : Int) - (b : Int)) - (c : Int)) = ((subT a b c : Nat) : Int) := by
  rw [IntKind.wrap_u64, IntKind.wrap_u64]
  by_cases h : b + c ≤ a
  · rw [subT, if_pos h]; omega
  · rw [subT, if_neg h]; omega
def SubRel (A B S : List Nat) (n k d : Nat) : Prop := S.length = n ∧ Bd S ∧ pv S k + pv B k = pv A k + d * 4294967296 ^ k
theorem sub_next (A B S : List Nat) (n k d t q : Nat) (hk : k < n) (ht : t < 4294967296) (he : t + lg B k + d = lg A k + q * 4294967296) (h : SubRel A B S n k d) : SubRel A B (S.set k t) n (k + 1) q := by
  obtain ⟨h1, h2, h3⟩ := h
  refine ⟨by simpa using h1, Bd_set h2 _ _ ht, ?_⟩
  simp only [pv]
  rw [pv_set_past S k _ k (Nat.le_refl _), lg_set_same S k _ (by omega), Nat.pow_succ]
  generalize 4294967296 ^ k = p at *
  have e1 : (t + lg B k + d) * p = (lg A k + q * 4294967296) * p := by rw [he]
  rw [Nat.add_mul, Nat.add_mul, Nat.add_mul] at e1
  have e2 : q * (p * 4294967296) = q * 4294967296 * p := by rw [Nat.mul_comm p, ← Nat.mul_assoc]
  rw [e2]
  omega
theorem sub_done (A B S : List Nat) (n d : Nat) (ha : A.length = n) (hb : B.length ≤ n) (hle : val B ≤ val A) (h : SubRel A B S n n d) : val S = val A - val B := by
  obtain ⟨h1, h2, h3⟩ := h
  rw [pv_val S n (by omega), pv_val B n hb, pv_val A n (by omega)] at h3
  have h4 := val_lt h2
  rw [h1] at h4
  rcases Nat.eq_zero_or_pos d with e | e
  · rw [e] at h3; omega
  · have : 1 * 4294967296 ^ n ≤ d * 4294967296 ^ n := Nat.mul_le_mul_right _ e
    omega
theorem len_le_of_val {A B : List Nat} (bA : Bd A) (tB : Top B) (h : val B ≤ val A) : B.length ≤ A.length := by
  rcases Nat.lt_or_ge A.length B.length with e | e
  · have := val_lt_len bA tB e; omega
  · exact e
theorem two_keep {X : World} {p q : Nat} {a b : Value} (h1 : X.cell? ⟨p, 0, none⟩ = some a) (h2 : X.cell? ⟨q, 0, none⟩ = some b) (o : Obj) : (X.alloc o).cell? ⟨p, 0, none⟩ = some a ∧ (X.alloc o).cell? ⟨q, 0, none⟩ = some b :=
  ⟨(Below.cell ((Below.refl X.heap.size X).alloc (Nat.le_refl _) o) (World.block_lt_of_cell? X _ h1)).trans h1, (Below.cell ((Below.refl X.heap.size X).alloc (Nat.le_refl _) o) (World.block_lt_of_cell? X _ h2)).trans h2⟩
end Go.Proofs.YtjldlmonccgopaaDoor
/- What the laws share: four variables kept; a variable that is laid and then written; Sub's answer with its form. -/
namespace Go.Proofs.YtjldlmonccgopaaDoor
open Go.RowKit
set_option linter.unusedVariables false

theorem keep4 {W X : World} {p q r s : Nat} {a b c d : Value} (hp : W.cell? ⟨p, 0, none⟩ = some a) (hq : W.cell? ⟨q, 0, none⟩ = some b) (hr : W.cell? ⟨r, 0, none⟩ = some c) (hs : W.cell? ⟨s, 0, none⟩ = some d) (h : Below W.heap.size W X) :
    X.cell? ⟨p, 0, none⟩ = some a ∧ X.cell? ⟨q, 0, none⟩ = some b ∧ X.cell? ⟨r, 0, none⟩ = some c ∧ X.cell? ⟨s, 0, none⟩ = some d :=
  ⟨(keep3 hp hq hr h).1, (keep3 hp hq hr h).2.1, (keep3 hp hq hr h).2.2, (h.cell (World.block_lt_of_cell? W _ hs)).trans hs⟩
theorem end_set {X0 w13 : World} {g : Nat} {v : Value} {m K : Nat} (B3 : Below X0.heap.size X0 w13) (z0 : w13.heap[g]? = some (Obj.cells #[Value.slice none 0 0] 24)) (hg : X0.heap.size ≤ g) (m3 : NatIs w13 v m K) (u : Value) :
    Below X0.heap.size X0 (w13.setCell ⟨g, 0, none⟩ u) ∧ (w13.setCell ⟨g, 0, none⟩ u).heap[g]? = some (Obj.cells #[u] 24) ∧ NatIs (w13.setCell ⟨g, 0, none⟩ u) v m K :=
  ⟨B3.setCell (p := ⟨g, 0, none⟩) hg u, one_setCell (u := u) z0, m3.box z0 (by decide) u⟩
theorem end_new {X0 w13 : World} {v : Value} {m K : Nat} (B3 : Below X0.heap.size X0 w13) (m3 : NatIs w13 v m K) (u : Value) :
    Below X0.heap.size X0 (w13.alloc (Obj.cells #[u] 24)) ∧ (w13.alloc (Obj.cells #[u] 24)).heap[w13.heap.size]? = some (Obj.cells #[u] 24) ∧ NatIs (w13.alloc (Obj.cells #[u] 24)) v m K :=
  ⟨below_alloc' B3 (Nat.le_refl _) _, box_new _ _, m3.below ((Below.refl _ _).alloc (Nat.le_refl _) _)⟩
def subE (m n : Nat) : Int := if m < n then 11 else 0
end Go.Proofs.YtjldlmonccgopaaDoor
/- Mul: the product of two numbers. -/
namespace Go.Proofs.YtjldlmonccgopaaDoor
open Go.RowKit
set_option linter.unusedVariables false
set_option maxRecDepth 100000
set_option linter.unusedSimpArgs false
attribute [local go_sem ↓] Go.wp_at_zero Go.wp_at_succ

theorem mul_next (A B S P' : List Nat) (k n : Nat) (m1 : P'.length = n) (m2 : Bd P') (m3 : ∀ j, k + B.length < j → lg P' j = lg S j) (m4 : pv P' (k + B.length + 1) = pv S (k + B.length) + lg A k * val B * 4294967296 ^ k)
    (h : S.length = n ∧ Bd S ∧ (∀ j, k + B.length ≤ j → lg S j = 0) ∧ pv S (k + B.length) = pv A k * val B) :
    P'.length = n ∧ Bd P' ∧ (∀ j, k + 1 + B.length ≤ j → lg P' j = 0) ∧ pv P' (k + 1 + B.length) = pv A (k + 1) * val B := by
  obtain ⟨h1, h2, h3, h4⟩ := h
  refine ⟨m1, m2, fun j hj => by rw [m3 j (by omega)]; exact h3 j (by omega), ?_⟩
  rw [show k + 1 + B.length = k + B.length + 1 by omega, m4, h4, pv, Nat.add_mul]
  rw [Nat.mul_right_comm (lg A k)]
theorem mul_keep {W X : World} {p q r k g : Nat} {a b c : Value} (hp : W.cell? ⟨p, 0, none⟩ = some a) (hq : W.cell? ⟨q, 0, none⟩ = some b) (hr : W.cell? ⟨r, k, none⟩ = some c) (h : W.drew.grownBy X (some g)) (n1 : p ≠ g) (n2 : q ≠ g) (n3 : r ≠ g) :
    X.cell? ⟨p, 0, none⟩ = some a ∧ X.cell? ⟨q, 0, none⟩ = some b ∧ X.cell? ⟨r, k, none⟩ = some c :=
  ⟨h.cell hp (by simp; exact n1), h.cell hq (by simp; exact n2), h.cell hr (by simp; exact n3)⟩
end Go.Proofs.YtjldlmonccgopaaDoor
/- The document's digit and Add. -/
namespace Go.Proofs.YtjldlmonccgopaaDoor
open Go.RowKit
set_option linter.unusedVariables false
set_option maxRecDepth 100000
set_option linter.unusedSimpArgs false
attribute [local go_sem ↓] Go.wp_at_zero Go.wp_at_succ

/-- The document's digit: nought behind the end. -/
theorem rdigit_any (w : World) (v : Value) (L : List Nat) (hb : R.Bd L) (h : w.ownsRow 0 3 1 v L.length (i64s L)) (i : Nat) :
    Calls Tryd.prog 86 #[v, .int .i64 i] w fun e w' => e = .returned (.int .i64 (lg L i : Int)) ∧ w' = w := by
  have hlt := hb i
  rcases h.2 with ⟨h1, h2⟩ | ⟨g, cap, cur, rfl, _, hh, r1, r2, _⟩
  · have hL : L = [] := by simpa using h2
    subst hL
    have e : lg [] i = 0 := by simp [lg]
    rw [e, h1]
    go_enter Tryd.func86, Tryd.ntmps86
    go_wp2
    go_ret
    exact ⟨by simp, rfl⟩
  · unfold maxLen at r2
    by_cases hlt' : i < L.length
    · have hc := i64s_at (L := L) h i hlt'
      go_enter Tryd.func86, Tryd.ntmps86
      go_wp2
      go_ret
      exact ⟨by simp, rfl⟩
    · have e : lg L i = 0 := lg_past L i (by omega)
      rw [e]
      go_enter Tryd.func86, Tryd.ntmps86
      go_wp2
      go_ret
      exact ⟨by simp, rfl⟩
theorem R.Bd_app {D : List Nat} (h : R.Bd D) (x : Nat) (hx : x < 1000000000) : R.Bd (D ++ [x]) := by
  intro j
  rcases Nat.lt_trichotomy j D.length with e | e | e
  · rw [lg_append_old D _ j e]; exact h j
  · subst e; rw [lg_append_new]; omega
  · rw [lg_past _ j (by simp; omega)]; omega
theorem R.pv_app (D : List Nat) (x : Nat) : R.pv (D ++ [x]) (D ++ [x]).length = R.pv D D.length + x * 1000000000 ^ D.length := by
  rw [List.length_append, List.length_singleton]
  simp only [R.pv]
  rw [R.pv_congr (M := D) (fun j hj => lg_append_old D _ j hj), lg_append_new]
def RAddRel (A B D : List Nat) (d : Nat) : Prop := R.Bd D ∧ R.pv D D.length + d * 1000000000 ^ D.length = R.pv A D.length + R.pv B D.length
theorem RAddRel.step {A B D : List Nat} {d : Nat} (h : RAddRel A B D d) : RAddRel A B (D ++ [(lg A D.length + lg B D.length + d) % 1000000000]) ((lg A D.length + lg B D.length + d) / 1000000000) := by
  obtain ⟨h1, h2⟩ := h
  refine ⟨R.Bd_app h1 _ (by omega), ?_⟩
  rw [R.pv_app, List.length_append, List.length_singleton]
  simp only [R.pv, Nat.pow_succ]
  generalize 1000000000 ^ D.length = p at *
  have hd := Nat.div_add_mod (lg A D.length + lg B D.length + d) 1000000000
  generalize (lg A D.length + lg B D.length + d) % 1000000000 = r at *
  generalize (lg A D.length + lg B D.length + d) / 1000000000 = q at *
  have h3 : (1000000000 * q + r) * p = (lg A D.length + lg B D.length + d) * p := by rw [hd]
  rw [Nat.add_mul, Nat.add_mul, Nat.add_mul] at h3
  have h4 : q * (p * 1000000000) = 1000000000 * q * p := by rw [Nat.mul_comm p, ← Nat.mul_assoc, Nat.mul_comm q]
  rw [h4]
  omega
theorem RAddRel.done {A B D : List Nat} {d : Nat} (h : RAddRel A B D d) (hd : d < 1000000000) (ha : A.length ≤ D.length) (hb : B.length ≤ D.length) : R.Bd (D ++ [d]) ∧ R.val (D ++ [d]) = R.val A + R.val B := by
  obtain ⟨h1, h2⟩ := h
  refine ⟨R.Bd_app h1 d hd, ?_⟩
  unfold R.val
  rw [R.pv_app, h2, R.pv_val A _ ha, R.pv_val B _ hb]; rfl
theorem i64s_app (D : List Nat) (x : Nat) : i64s (D ++ [x]) = i64s D ++ [.int .i64 (x : Int)] := by simp [i64s]
theorem w64i (x : Int) (h0 : -9223372036854775808 ≤ x) (h1 : x ≤ 9223372036854775807) : IntKind.i64.wrap x = x := by
  simp [IntKind.wrap, IntKind.bits, IntKind.signed]; omega
set_option maxHeartbeats 2000000 in
theorem radd_walk (w : World) (aa ab : Option Addr) (na ca nb cb n : Nat) (A B : List Nat) (hA : R.Bd A) (hB : R.Bd B) (hna : na ≤ 1000000000) (hnb : nb ≤ 1000000000) (hn : max na nb = n) (hAl : A.length = na) (hBl : B.length = nb)
    (oa : w.ownsRow 0 3 1 (.slice aa na ca) na (i64s A)) (ob : w.ownsRow 0 3 1 (.slice ab nb cb) nb (i64s B)) :
    Calls Tryd.prog 74 #[.agg #[.slice aa na ca], .agg #[.slice ab nb cb]] w fun e w' => ∃ v, e = .returned v ∧ RefIs w' v (R.val A + R.val B) (n + 1) ∧ Below w.heap.size w w' := by
  obtain ⟨i0, hi, hz0, hz1, hz2⟩ := info_parts Tryd.info3
  have HN : Hid (max na nb = n ∧ A.length = na ∧ B.length = nb) := ⟨hn, hAl, hBl⟩
  have hn' : n ≤ 1000000000 := by omega
  have hna' : na ≤ n := by omega
  have hnb' : nb ≤ n := by omega
  have OA := hid (show w.ownsRow 0 3 1 (.slice aa na ca) A.length (i64s A) by rw [hAl]; exact oa)
  have OB := hid (show w.ownsRow 0 3 1 (.slice ab nb cb) B.length (i64s B) by rw [hBl]; exact ob)
  clear hn hAl hBl oa ob
  have hown0 : ((((w.alloc (Obj.cells #[Value.slice aa na ca] 29)).alloc (Obj.cells #[Value.slice ab nb cb] 29)).alloc (Obj.cells #[Value.slice none 0 0] 29)).alloc (Obj.cells #[] 3)).ownsRow (w.heap.size + 1 + 1 + 1) 3 1 (.slice (some ⟨w.heap.size + 1 + 1 + 1, 0, none⟩) 0 0) 0 (i64s []) := by
    have := World.ownsRow_made (base := w.heap.size + 1 + 1 + 1) (e := 3) (size := 1) (((w.alloc (Obj.cells #[Value.slice aa na ca] 29)).alloc (Obj.cells #[Value.slice ab nb cb] 29)).alloc (Obj.cells #[Value.slice none 0 0] 29)) #[] 0 (by simp) (by unfold maxLen; omega) (by simp)
    simpa [i64s] using this
  go_enter Tryd.func74, Tryd.ntmps74
  go_wp2
  have x1 : (((w.alloc (Obj.cells #[Value.slice aa na ca] 29)).alloc (Obj.cells #[Value.slice ab nb cb] 29)).alloc (Obj.cells #[Value.slice none 0 0] 29)).heap[w.heap.size]? = some (Obj.cells #[Value.slice aa na ca] 29) := box_alloc (box_alloc (box_new _ _) _) _
  have x2 : (((w.alloc (Obj.cells #[Value.slice aa na ca] 29)).alloc (Obj.cells #[Value.slice ab nb cb] 29)).alloc (Obj.cells #[Value.slice none 0 0] 29)).heap[w.heap.size + 1]? = some (Obj.cells #[Value.slice ab nb cb] 29) := box_alloc (by have := box_new (w.alloc (Obj.cells #[Value.slice aa na ca] 29)) (Obj.cells #[Value.slice ab nb cb] 29); simpa using this) _
  have x3 : (((w.alloc (Obj.cells #[Value.slice aa na ca] 29)).alloc (Obj.cells #[Value.slice ab nb cb] 29)).alloc (Obj.cells #[Value.slice none 0 0] 29)).heap[w.heap.size + 1 + 1]? = some (Obj.cells #[Value.slice none 0 0] 29) := by
    have := box_new ((w.alloc (Obj.cells #[Value.slice aa na ca] 29)).alloc (Obj.cells #[Value.slice ab nb cb] 29)) (Obj.cells #[Value.slice none 0 0] 29); simpa using this
  have hWb : Below w.heap.size w (((w.alloc (Obj.cells #[Value.slice aa na ca] 29)).alloc (Obj.cells #[Value.slice ab nb cb] 29)).alloc (Obj.cells #[Value.slice none 0 0] 29)) := below_alloc' (below_alloc' (below_alloc' (Below.refl _ _) (Nat.le_refl _) _) (Nat.le_refl _) _) (Nat.le_refl _) _
  have hWs : (((w.alloc (Obj.cells #[Value.slice aa na ca] 29)).alloc (Obj.cells #[Value.slice ab nb cb] 29)).alloc (Obj.cells #[Value.slice none 0 0] 29)).heap.size = w.heap.size + 1 + 1 + 1 := by simp
  have hb1 : Below (w.heap.size + 1 + 1 + 1) (((w.alloc (Obj.cells #[Value.slice aa na ca] 29)).alloc (Obj.cells #[Value.slice ab nb cb] 29)).alloc (Obj.cells #[Value.slice none 0 0] 29)) ((((w.alloc (Obj.cells #[Value.slice aa na ca] 29)).alloc (Obj.cells #[Value.slice ab nb cb] 29)).alloc (Obj.cells #[Value.slice none 0 0] 29)).alloc (Obj.cells #[] 3)) := below_alloc' (Below.refl _ _) (by omega) _
  generalize ((w.alloc (Obj.cells #[Value.slice aa na ca] 29)).alloc (Obj.cells #[Value.slice ab nb cb] 29)).alloc (Obj.cells #[Value.slice none 0 0] 29) = W at *
  have hWt : w.heap.size + 1 + 1 + 1 ≤ W.heap.size := by omega
  clear hWs
  go_loopw [5, 6, 7] (fun v c i wr => ∃ (d : Nat) (D : List Nat), D.length ≤ n ∧ i = .int .i64 (D.length : Nat) ∧ c = .int .i64 d ∧ d ≤ 1 ∧ RAddRel A B D d ∧ wr.ownsRow (w.heap.size + 1 + 1 + 1) 3 1 v D.length (i64s D) ∧ Below (w.heap.size + 1 + 1 + 1) W wr) (fun _ _ i _ => n - (intOf i).toNat)
  case atStart => exact ⟨0, [], by simp, rfl, rfl, by omega, ⟨by intro j; simp [lg], by simp [R.pv]⟩, hown0, hb1⟩
  case round =>
    obtain ⟨d, D, hk, rfl, rfl, hd, hR, hown, hbel⟩ := hrel
    have HR := hid hR
    clear hR hown0 hb1
    have hbw : Below w.heap.size w wr := hWb.trans (hbel.mono (by omega))
    have j1 := box_below hbel x1 (by omega)
    have j2 := box_below hbel x2 (by omega)
    have j3 := box_below hbel x3 (by omega)
    have e1 := cell_of_one j1
    have e2 := cell_of_one j2
    obtain ⟨k, hkD⟩ : ∃ k, k = D.length := ⟨_, rfl⟩
    have HK := hid hkD
    rw [← hkD] at hk hown ⊢
    clear hkD j1 j2
    by_cases hlt : k < n
    · have hor : k < na ∨ (¬ k < na ∧ k < nb) := by have := HN.out.1; omega
      have hA9 := hA k
      have hB9 := hB k
      have HS := hid (show RAddRel A B (D ++ [(lg A k + lg B k + d) % 1000000000]) ((lg A k + lg B k + d) / 1000000000) from by rw [HK.out]; exact HR.out.step)
      rcases hor with h1 | ⟨h1, h2⟩
      all_goals
        go_wp2
        go_region_held3 (fun w' => w'.cell? ⟨w.heap.size, 0, none⟩ = some (.slice aa na ca) ∧ w'.cell? ⟨w.heap.size + 1, 0, none⟩ = some (.slice ab nb cb)) ((first | go_keep))
          (first | (go_at_call_of 86 (Value.slice aa na ca); refine (rdigit_any _ _ A hA (ownsRow_below OA.out hbw.drew) k).mono ?_; rintro e w' ⟨rfl, rfl⟩) | (go_at_call_of 86 (Value.slice ab nb cb); refine (rdigit_any _ _ B hB (ownsRow_below OB.out hbw.drew) k).mono ?_; rintro e w' ⟨rfl, rfl⟩))
        have eT : IntKind.i64.wrap (IntKind.i64.wrap (↑d + ↑(lg A k)) + ↑(lg B k)) = ((lg A k + lg B k + d : Nat) : Int) := by
          rw [w64i ((d : Int) + (lg A k : Int)) (by omega) (by omega), w64i _ (by omega) (by omega)]; omega
        have hT2 : lg A k + lg B k + d < 2000000000 := by omega
        rw [eT]
        clear eT
        generalize lg A k + lg B k + d = T at *
        have hown2 := hown.drew
        have hbel2 := hbel.drew
        generalize wr.drew = w2 at *
        clear hown hbel hbw e1 e2 j3
        go_wp2_with (at_builtin; refine wpList_append_own _ rfl _ _ 27 rfl (w.heap.size + 1 + 1 + 1) 3 i0 (.int .i64 0) 1 8 Tryd.underlying27 hi hz0 hz1 hz2 rfl (by decide) _ _ _ rfl (hown2.alloc _) ⟨w2.heap.size, 0, none⟩ 1 1 [.int .i64 ((T : Int) % 1000000000)] rfl rfl (by intro j u hu; match j, hu with | 0, hu => simp at hu; subst hu; simp [Addr.add]) (by intro u hu; simp at hu; subst hu; rfl) (by unfold maxLen; omega) (by omega) (by have := hbel2.size; simp; omega) ?_)
        intro v' w1 hown3 hgrow hnil
        have hb3 : Below (w.heap.size + 1 + 1 + 1) W w1 := (below_alloc' hbel2 hWt _).grown hgrow (by have := hbel2.size; simp; omega) (fun q hq => (hown2.lt q hq).1)
        have hown4 : w1.ownsRow (w.heap.size + 1 + 1 + 1) 3 1 v' (D ++ [T % 1000000000]).length (i64s (D ++ [T % 1000000000])) := by
          rw [i64s_app, List.length_append, List.length_singleton, ← HK.out]; simpa using hown3
        have HO := hid hown4
        have hq2 : T / 1000000000 ≤ 1 := by omega
        have HL := hid (show (D ++ [T % 1000000000]).length = k + 1 from by rw [List.length_append, List.length_singleton, ← HK.out])
        clear hown3 hown4 hgrow hnil hown2 hbel2
        go_wp2
        go_roundw
        case rel => exact ⟨T / 1000000000, D ++ [T % 1000000000], by have := HL.out; omega, by rw [HL.out]; go_num, by go_num, hq2, HS.out, HO.out, hb3⟩
        case measure => simp [intOf]; omega
    · have hkn : k = n := by omega
      have h1 : ¬ k < na := by omega
      have h2 : ¬ k < nb := by omega
      have HF := hid (HR.out.done (by omega) (by have := HN.out; have := HK.out; omega) (by have := HN.out; have := HK.out; omega))
      have HL := hid (show (D ++ [d]).length = n + 1 from by rw [List.length_append, List.length_singleton, ← HK.out, hkn])
      clear hkn
      go_wp2_with (at_builtin; refine wpList_append_own _ rfl _ _ 27 rfl (w.heap.size + 1 + 1 + 1) 3 i0 (.int .i64 0) 1 8 Tryd.underlying27 hi hz0 hz1 hz2 rfl (by decide) _ _ _ rfl (hown.alloc _) ⟨wr.heap.size, 0, none⟩ 1 1 [.int .i64 (d : Int)] rfl rfl (by intro j u hu; match j, hu with | 0, hu => simp at hu; subst hu; simp [Addr.add]) (by intro u hu; simp at hu; subst hu; rfl) (by unfold maxLen; omega) (by omega) (by have := hbel.size; simp; omega) ?_)
      intro v' w1 hown3 hgrow hnil
      have hb3 : Below (w.heap.size + 1 + 1 + 1) W w1 := (below_alloc' hbel hWt _).grown hgrow (by have := hbel.size; simp; omega) (fun q hq => (hown.lt q hq).1)
      have hown4 : w1.ownsRow (w.heap.size + 1 + 1 + 1) 3 1 v' (D ++ [d]).length (i64s (D ++ [d])) := by
        rw [i64s_app, List.length_append, List.length_singleton, ← HK.out]; simpa using hown3
      clear hown3 hgrow hnil hown hbel e1 e2 j3 hbw
      obtain ⟨g, cap, hv⟩ : ∃ g cap, v' = .slice (some ⟨g, 0, none⟩) (D ++ [d]).length cap := by
        rcases hown4.2 with ⟨h0, h0'⟩ | ⟨g, cap, cur, hv, _⟩
        · have := HL.out; simp at h0'
        · exact ⟨g, cap, hv⟩
      rw [hv] at hown4 ⊢
      clear hv
      clear HR HK
      generalize D ++ [d] = E at *
      go_wp2_with fail
      refine (rtrim_base w1 (w.heap.size + 1 + 1 + 1) g cap E HF.out.1 hown4).mono ?_
      rintro e w3 ⟨⟨sl, M, rfl, hM, bM, tM, vM, lM⟩, hb4⟩
      have hx3 := box_below (hb3.trans (hb4.mono (by have := hb3.size; omega))) x3 (by omega)
      have hbw : Below w.heap.size w w3 := hWb.trans ((hb3.trans (hb4.mono (by have := hb3.size; omega))).mono (by omega))
      obtain ⟨ao, cp, hv⟩ := ints_slice hM
      rw [hv] at hM ⊢
      have cz := cell_of_one hx3
      have fz := free_of_one hx3
      have hM2 := own_box (ownsRow_base0 hM) hx3 (by decide) (.slice ao M.length cp)
      have hB2 := hbw.setCell (p := ⟨w.heap.size + 1 + 1, 0, none⟩) (by show w.heap.size ≤ w.heap.size + 1 + 1; omega) (.slice ao M.length cp)
      have hr := cell_of_one (one_setCell (u := .slice ao M.length cp) hx3)
      have HRr := hid hr
      have HV := hid (show R.val M = R.val A + R.val B ∧ M.length ≤ n + 1 from ⟨vM.trans HF.out.2, by have := HL.out; omega⟩)
      clear hv hM hx3 hr vM lM hb3 hb4 hown4
      go_wp2
      exact bodyPost_ret (v := .agg #[.slice ao M.length cp]) (by simp [results, Tryd.results74, go_sem, HRr.out]) rfl ⟨_, rfl, ⟨_, M, rfl, hM2, bM, tM, HV.out.1, HV.out.2⟩, hB2⟩
/-- The document's Add: the sum. -/
theorem radd_any (w : World) (a b : Value) (m n K K' : Nat) (hK : K ≤ 1000000000) (hK' : K' ≤ 1000000000) (ha : RefIs w a m K) (hb : RefIs w b n K') :
    Calls Tryd.prog 74 #[a, b] w fun e w' => ∃ v, e = .returned v ∧ RefIs w' v (m + n) (max K K' + 1) ∧ Below w.heap.size w w' := by
  obtain ⟨sa, A, rfl, oa, bA, tA, rfl, lA⟩ := ha
  obtain ⟨sb, B, rfl, ob, bB, tB, rfl, lB⟩ := hb
  obtain ⟨aa, ca, rfl⟩ := ints_slice oa
  obtain ⟨ab, cb, rfl⟩ := ints_slice ob
  refine (radd_walk w aa ab A.length ca B.length cb (max A.length B.length) A B bA bB (by omega) (by omega) rfl rfl rfl oa ob).mono ?_
  rintro e w' ⟨v, rfl, hv, hw⟩
  exact ⟨v, rfl, hv.mono (by omega), hw⟩
end Go.Proofs.YtjldlmonccgopaaDoor
/- The document's Cmp. -/
namespace Go.Proofs.YtjldlmonccgopaaDoor
open Go.RowKit
set_option linter.unusedVariables false
set_option maxRecDepth 100000
set_option linter.unusedSimpArgs false
attribute [local go_sem ↓] Go.wp_at_zero Go.wp_at_succ

theorem rcmp_all {A B : List Nat} (h : ∀ j, lg A j = lg B j) : R.val A = R.val B := by
  rw [← R.pv_val A (max A.length B.length) (by omega), ← R.pv_val B (max A.length B.length) (by omega)]
  exact R.pv_congr fun j _ => h j
theorem rcmp_below {A B : List Nat} {q n : Nat} (hA : R.Bd A) (hq : q + 1 ≤ n) (he : ∀ j, q + 1 ≤ j → lg A j = lg B j) (h : lg A q < lg B q) : R.val A < R.val B := by
  rw [← R.pv_val A (max n (max A.length B.length)) (by omega), ← R.pv_val B (max n (max A.length B.length)) (by omega)]
  exact R.pv_lt_at hA q _ (by omega) (fun j h1 _ => he j (by omega)) h
set_option maxHeartbeats 2000000 in
theorem rcmp_walk (w : World) (aa ab : Option Addr) (na ca nb cb n : Nat) (A B : List Nat) (hA : R.Bd A) (hB : R.Bd B) (hna : na ≤ 1000000000) (hnb : nb ≤ 1000000000) (hn : max na nb = n) (hAl : A.length = na) (hBl : B.length = nb)
    (oa : w.ownsRow 0 3 1 (.slice aa na ca) na (i64s A)) (ob : w.ownsRow 0 3 1 (.slice ab nb cb) nb (i64s B)) :
    Calls Tryd.prog 75 #[.agg #[.slice aa na ca], .agg #[.slice ab nb cb]] w fun e w' => e = .returned (.int .i64 (cmpI (R.val A) (R.val B))) ∧ Below w.heap.size w w' := by
  have HN : Hid (max na nb = n ∧ A.length = na ∧ B.length = nb) := ⟨hn, hAl, hBl⟩
  have hn' : n ≤ 1000000000 := by omega
  have hna' : na ≤ n := by omega
  have hnb' : nb ≤ n := by omega
  have OA := hid (show w.ownsRow 0 3 1 (.slice aa na ca) A.length (i64s A) by rw [hAl]; exact oa)
  have OB := hid (show w.ownsRow 0 3 1 (.slice ab nb cb) B.length (i64s B) by rw [hBl]; exact ob)
  have hor : (na < nb ∧ nb = n) ∨ (¬ na < nb ∧ na = n) := by omega
  clear hn hAl hBl oa ob
  have x1 : ((w.alloc (Obj.cells #[Value.slice aa na ca] 29)).alloc (Obj.cells #[Value.slice ab nb cb] 29)).heap[w.heap.size]? = some (Obj.cells #[Value.slice aa na ca] 29) := box_alloc (box_new _ _) _
  have x2 : ((w.alloc (Obj.cells #[Value.slice aa na ca] 29)).alloc (Obj.cells #[Value.slice ab nb cb] 29)).heap[w.heap.size + 1]? = some (Obj.cells #[Value.slice ab nb cb] 29) := by
    have := box_new (w.alloc (Obj.cells #[Value.slice aa na ca] 29)) (Obj.cells #[Value.slice ab nb cb] 29); simpa using this
  have hWb : Below w.heap.size w ((w.alloc (Obj.cells #[Value.slice aa na ca] 29)).alloc (Obj.cells #[Value.slice ab nb cb] 29)) := below_alloc' (below_alloc' (Below.refl _ _) (Nat.le_refl _) _) (Nat.le_refl _) _
  have X := hid (And.intro x1 (And.intro x2 hWb))
  clear x1 x2 hWb
  rcases hor with ⟨hlt, he⟩ | ⟨hlt, he⟩
  all_goals
    have HHe := hid he
    clear he
    go_enter Tryd.func75, Tryd.ntmps75
    go_wp2
    clear hlt
    generalize (w.alloc (Obj.cells #[Value.slice aa na ca] 29)).alloc (Obj.cells #[Value.slice ab nb cb] 29) = W at *
    go_loopw [5] (fun i wr => ∃ k : Nat, k ≤ n ∧ i = .int .i64 ((k : Int) - 1) ∧ Below W.heap.size W wr ∧ (∀ j, k ≤ j → lg A j = lg B j)) (fun i _ => (intOf i + 1).toNat)
    case atStart => exact ⟨n, Nat.le_refl _, by first | rfl | (rw [← HHe.out]), Below.refl _ _, fun j hj => by rw [lg_past A j (by have := HN.out; omega), lg_past B j (by have := HN.out; omega)]⟩
    case round =>
      obtain ⟨k, hk, rfl, hbel, heq⟩ := hrel
      have HE := hid heq
      clear heq
      have hbw : Below w.heap.size w wr := chain2 X.out.2.2 hbel
      have e1 := cell_of_one (box_below hbel X.out.1 (lt_of_block X.out.1))
      have e2 := cell_of_one (box_below hbel X.out.2.1 (lt_of_block X.out.2.1))
      by_cases hk0 : 0 < k
      · obtain ⟨q, rfl⟩ : ∃ q, k = q + 1 := ⟨k - 1, by omega⟩
        have hq1 : ((q + 1 : Nat) : Int) - 1 = (q : Int) := by omega
        rw [hq1]
        have hA9 := hA q
        have hB9 := hB q
        have hbd := hbw.drew
        have hbdd := hbw.drew.drew
        have hbl := hbel.drew.drew
        rcases Nat.lt_trichotomy (lg A q) (lg B q) with hc | hc | hc
        · go_wp2
          go_region_held3 (fun w' => w'.cell? ⟨w.heap.size, 0, none⟩ = some (.slice aa na ca) ∧ w'.cell? ⟨w.heap.size + 1, 0, none⟩ = some (.slice ab nb cb)) ((first | go_keep))
            (first | (go_at_call_of 86 (Value.slice aa na ca); refine (rdigit_any _ _ A hA (ownsRow_below OA.out hbd) q).mono ?_; rintro e w' ⟨rfl, rfl⟩) | (go_at_call_of 86 (Value.slice ab nb cb); refine (rdigit_any _ _ B hB (ownsRow_below OB.out hbd) q).mono ?_; rintro e w' ⟨rfl, rfl⟩))
          go_wp2
          go_ret
          exact ⟨by rw [cmpI_lt (rcmp_below hA (Nat.le_refl (q + 1)) HE.out hc)]; rfl, hbd⟩
        · have HC := hid hc
          go_wp2
          go_region_held3 (fun w' => w'.cell? ⟨w.heap.size, 0, none⟩ = some (.slice aa na ca) ∧ w'.cell? ⟨w.heap.size + 1, 0, none⟩ = some (.slice ab nb cb)) ((first | go_keep))
            (first | (go_at_call_of 86 (Value.slice aa na ca); refine (rdigit_any _ _ A hA (ownsRow_below OA.out hbd) q).mono ?_; rintro e w' ⟨rfl, rfl⟩; rw [HC.out]) | (go_at_call_of 86 (Value.slice ab nb cb); refine (rdigit_any _ _ B hB (ownsRow_below OB.out hbd) q).mono ?_; rintro e w' ⟨rfl, rfl⟩))
          go_wp2
          go_region_held3 (fun w' => w'.cell? ⟨w.heap.size, 0, none⟩ = some (.slice aa na ca) ∧ w'.cell? ⟨w.heap.size + 1, 0, none⟩ = some (.slice ab nb cb)) ((first | go_keep))
            (first | (go_at_call_of 86 (Value.slice aa na ca); refine (rdigit_any _ _ A hA (ownsRow_below OA.out hbdd) q).mono ?_; rintro e w' ⟨rfl, rfl⟩; rw [HC.out]) | (go_at_call_of 86 (Value.slice ab nb cb); refine (rdigit_any _ _ B hB (ownsRow_below OB.out hbdd) q).mono ?_; rintro e w' ⟨rfl, rfl⟩))
          go_wp2
          go_roundw
          case rel => exact ⟨q, by omega, by go_num, hbl, fun j hj => by
            by_cases e : j = q
            · rw [e]; exact HC.out
            · exact HE.out j (by omega)⟩
          case measure => simp [intOf] <;> omega
        · have hc' : ¬ lg A q < lg B q := by omega
          go_wp2
          go_region_held3 (fun w' => w'.cell? ⟨w.heap.size, 0, none⟩ = some (.slice aa na ca) ∧ w'.cell? ⟨w.heap.size + 1, 0, none⟩ = some (.slice ab nb cb)) ((first | go_keep))
            (first | (go_at_call_of 86 (Value.slice aa na ca); refine (rdigit_any _ _ A hA (ownsRow_below OA.out hbd) q).mono ?_; rintro e w' ⟨rfl, rfl⟩) | (go_at_call_of 86 (Value.slice ab nb cb); refine (rdigit_any _ _ B hB (ownsRow_below OB.out hbd) q).mono ?_; rintro e w' ⟨rfl, rfl⟩))
          go_wp2
          go_region_held3 (fun w' => w'.cell? ⟨w.heap.size, 0, none⟩ = some (.slice aa na ca) ∧ w'.cell? ⟨w.heap.size + 1, 0, none⟩ = some (.slice ab nb cb)) ((first | go_keep))
            (first | (go_at_call_of 86 (Value.slice aa na ca); refine (rdigit_any _ _ A hA (ownsRow_below OA.out hbdd) q).mono ?_; rintro e w' ⟨rfl, rfl⟩) | (go_at_call_of 86 (Value.slice ab nb cb); refine (rdigit_any _ _ B hB (ownsRow_below OB.out hbdd) q).mono ?_; rintro e w' ⟨rfl, rfl⟩))
          go_wp2
          go_ret
          exact ⟨by rw [cmpI_gt (rcmp_below hB (Nat.le_refl (q + 1)) (fun j hj => (HE.out j hj).symm) hc)]; rfl, hbdd⟩
      · have hjm : ¬ ((0 : Int) ≤ (k : Int) - 1) := by omega
        go_wp2
        go_ret
        exact ⟨by rw [cmpI_eq (rcmp_all (fun j => HE.out j (by omega)))]; rfl, hbw⟩
/-- The document's Cmp: the order. -/
theorem rcmp_any (w : World) (a b : Value) (m n K K' : Nat) (hK : K ≤ 1000000000) (hK' : K' ≤ 1000000000) (ha : RefIs w a m K) (hb : RefIs w b n K') :
    Calls Tryd.prog 75 #[a, b] w fun e w' => e = .returned (.int .i64 (cmpI m n)) ∧ Below w.heap.size w w' := by
  obtain ⟨sa, A, rfl, oa, bA, tA, rfl, lA⟩ := ha
  obtain ⟨sb, B, rfl, ob, bB, tB, rfl, lB⟩ := hb
  obtain ⟨aa, ca, rfl⟩ := ints_slice oa
  obtain ⟨ab, cb, rfl⟩ := ints_slice ob
  exact rcmp_walk w aa ab A.length ca B.length cb (max A.length B.length) A B bA bB (by omega) (by omega) rfl rfl rfl oa ob
end Go.Proofs.YtjldlmonccgopaaDoor
/- The document's Sub. -/
namespace Go.Proofs.YtjldlmonccgopaaDoor
open Go.RowKit
set_option linter.unusedVariables false
set_option maxRecDepth 100000
set_option linter.unusedSimpArgs false
attribute [local go_sem ↓] Go.wp_at_zero Go.wp_at_succ

set_option maxHeartbeats 2000000 in
theorem rsub_below (w : World) (aa ab : Option Addr) (la ca lb cb m n K K' : Nat) (hK : K ≤ 1000000000) (hK' : K' ≤ 1000000000) (ha : RefIs w (.agg #[.slice aa la ca]) m K) (hb : RefIs w (.agg #[.slice ab lb cb]) n K') (h : m < n) :
    Calls Tryd.prog 76 #[.agg #[.slice aa la ca], .agg #[.slice ab lb cb]] w fun e w' => e = .returned (.tuple #[.agg #[.slice none 0 0], .int .i64 11]) ∧ Below w.heap.size w w' := by
  have hWb : Below w.heap.size w (((w.alloc (Obj.cells #[Value.slice aa la ca] 29)).alloc (Obj.cells #[Value.slice ab lb cb] 29)).alloc (Obj.cells #[Value.slice none 0 0] 29)) := below_alloc' (below_alloc' (below_alloc' (Below.refl _ _) (Nat.le_refl _) _) (Nat.le_refl _) _) (Nat.le_refl _) _
  have x3 : (((w.alloc (Obj.cells #[Value.slice aa la ca] 29)).alloc (Obj.cells #[Value.slice ab lb cb] 29)).alloc (Obj.cells #[Value.slice none 0 0] 29)).heap[w.heap.size + 1 + 1]? = some (Obj.cells #[Value.slice none 0 0] 29) := by
    have := box_new ((w.alloc (Obj.cells #[Value.slice aa la ca] 29)).alloc (Obj.cells #[Value.slice ab lb cb] 29)) (Obj.cells #[Value.slice none 0 0] 29); simpa using this
  have na := ha.below hWb
  have nb := hb.below hWb
  go_enter Tryd.func76, Tryd.ntmps76
  go_wp2_with fail
  generalize ((w.alloc (Obj.cells #[Value.slice aa la ca] 29)).alloc (Obj.cells #[Value.slice ab lb cb] 29)).alloc (Obj.cells #[Value.slice none 0 0] 29) = W at *
  refine (rcmp_any _ _ _ _ _ _ _ hK hK' na nb).mono ?_
  rintro e w1 ⟨rfl, hb1⟩
  rw [cmpI_lt h]
  have hbw := chain2 hWb hb1
  have hx := box_below hb1 x3 (lt_of_block x3)
  have cz := cell_of_one hx
  have fz := free_of_one hx
  have hB2 := hbw.setCell (p := ⟨w.heap.size + 1 + 1, 0, none⟩) (by show w.heap.size ≤ w.heap.size + 1 + 1; omega) (.slice none 0 0)
  have hr := cell_of_one (one_setCell (u := .slice none 0 0) hx)
  have HRr := hid hr
  clear na nb ha hb hr
  go_wp2
  exact bodyPost_ret (v := .tuple #[.agg #[.slice none 0 0], .int .i64 11]) (by simp [results, Tryd.results76, go_sem, HRr.out]) rfl ⟨rfl, hB2⟩
def RSubRel (A B D : List Nat) (c : Nat) : Prop := R.Bd D ∧ R.pv D D.length + R.pv B D.length = R.pv A D.length + c * 1000000000 ^ D.length
theorem RSubRel.step {A B D : List Nat} {c x c' : Nat} (h : RSubRel A B D c) (hx : x < 1000000000) (he : x + lg B D.length + c = lg A D.length + c' * 1000000000) : RSubRel A B (D ++ [x]) c' := by
  obtain ⟨h1, h2⟩ := h
  refine ⟨R.Bd_app h1 _ hx, ?_⟩
  rw [R.pv_app, List.length_append, List.length_singleton]
  simp only [R.pv, Nat.pow_succ]
  generalize 1000000000 ^ D.length = p at *
  have h3 : (x + lg B D.length + c) * p = (lg A D.length + c' * 1000000000) * p := by rw [he]
  rw [Nat.add_mul, Nat.add_mul, Nat.add_mul] at h3
  have h4 : c' * (p * 1000000000) = c' * 1000000000 * p := by rw [Nat.mul_comm p, ← Nat.mul_assoc]
  rw [h4]
  omega
theorem RSubRel.done {A B D : List Nat} {c : Nat} (h : RSubRel A B D c) (hA : R.Bd A) (hB : R.Bd B) (tA : Top A) (tB : Top B) (hl : D.length = A.length) (hle : R.val B ≤ R.val A) : R.val D = R.val A - R.val B := by
  obtain ⟨h1, h2⟩ := h
  have hBl : B.length ≤ A.length := by
    rcases Nat.lt_or_ge A.length B.length with e | e
    · have := R.val_lt_len hA tB e; omega
    · exact e
  have e1 : R.pv D D.length = R.val D := rfl
  rw [e1, R.pv_val A _ (by omega), R.pv_val B _ (by omega)] at h2
  have h3 := R.val_lt h1
  have h4 := R.val_lt hA
  rw [← hl] at h4
  generalize 1000000000 ^ D.length = p at *
  rcases Nat.eq_zero_or_pos c with e | e
  · subst e; omega
  · have : 1 * p ≤ c * p := Nat.mul_le_mul_right _ e
    omega
theorem rtrim_len (w : World) (base g cap k : Nat) (L : List Nat) (hk : k = L.length) (hb : R.Bd L) (hown : w.ownsRow base 3 1 (.slice (some ⟨g, 0, none⟩) k cap) k (i64s L)) :
    Calls Tryd.prog 53 #[.slice (some ⟨g, 0, none⟩) k cap] w fun e w' => (∃ sl M, e = .returned (.agg #[sl]) ∧ w'.ownsRow base 3 1 sl M.length (i64s M) ∧ R.Bd M ∧ Top M ∧ R.val M = R.val L ∧ M.length ≤ L.length) ∧ Below w.heap.size w w' := by
  subst hk; exact rtrim_base w base g cap L hb hown
set_option maxHeartbeats 2000000 in
theorem rsub_walk (w : World) (aa ab : Option Addr) (na ca nb cb : Nat) (A B : List Nat) (hA : R.Bd A) (hB : R.Bd B) (tA : Top A) (tB : Top B) (hna : na ≤ 1000000000) (hnb : nb ≤ 1000000000) (hAl : A.length = na) (hBl : B.length = nb)
    (oa : w.ownsRow 0 3 1 (.slice aa na ca) na (i64s A)) (ob : w.ownsRow 0 3 1 (.slice ab nb cb) nb (i64s B)) (hle : R.val B ≤ R.val A) :
    Calls Tryd.prog 76 #[.agg #[.slice aa na ca], .agg #[.slice ab nb cb]] w fun e w' => ∃ v, e = .returned (.tuple #[v, .int .i64 0]) ∧ RefIs w' v (R.val A - R.val B) na ∧ Below w.heap.size w w' := by
  obtain ⟨i0, hi, hz0, hz1, hz2⟩ := info_parts Tryd.info3
  have HN : Hid (A.length = na ∧ B.length = nb) := ⟨hAl, hBl⟩
  have OA := hid (show w.ownsRow 0 3 1 (.slice aa na ca) A.length (i64s A) by rw [hAl]; exact oa)
  have OB := hid (show w.ownsRow 0 3 1 (.slice ab nb cb) B.length (i64s B) by rw [hBl]; exact ob)
  clear hAl hBl oa ob
  have hWb : Below w.heap.size w (((w.alloc (Obj.cells #[Value.slice aa na ca] 29)).alloc (Obj.cells #[Value.slice ab nb cb] 29)).alloc (Obj.cells #[Value.slice none 0 0] 29)) := below_alloc' (below_alloc' (below_alloc' (Below.refl _ _) (Nat.le_refl _) _) (Nat.le_refl _) _) (Nat.le_refl _) _
  have x1 : (((w.alloc (Obj.cells #[Value.slice aa na ca] 29)).alloc (Obj.cells #[Value.slice ab nb cb] 29)).alloc (Obj.cells #[Value.slice none 0 0] 29)).heap[w.heap.size]? = some (Obj.cells #[Value.slice aa na ca] 29) := box_alloc (box_alloc (box_new _ _) _) _
  have x2 : (((w.alloc (Obj.cells #[Value.slice aa na ca] 29)).alloc (Obj.cells #[Value.slice ab nb cb] 29)).alloc (Obj.cells #[Value.slice none 0 0] 29)).heap[w.heap.size + 1]? = some (Obj.cells #[Value.slice ab nb cb] 29) := box_alloc (by have := box_new (w.alloc (Obj.cells #[Value.slice aa na ca] 29)) (Obj.cells #[Value.slice ab nb cb] 29); simpa using this) _
  have x3 : (((w.alloc (Obj.cells #[Value.slice aa na ca] 29)).alloc (Obj.cells #[Value.slice ab nb cb] 29)).alloc (Obj.cells #[Value.slice none 0 0] 29)).heap[w.heap.size + 1 + 1]? = some (Obj.cells #[Value.slice none 0 0] 29) := by
    have := box_new ((w.alloc (Obj.cells #[Value.slice aa na ca] 29)).alloc (Obj.cells #[Value.slice ab nb cb] 29)) (Obj.cells #[Value.slice none 0 0] 29); simpa using this
  have ra : RefIs w (.agg #[.slice aa na ca]) (R.val A) na := ⟨_, A, rfl, OA.out, hA, tA, rfl, by have := HN.out.1; omega⟩
  have rb : RefIs w (.agg #[.slice ab nb cb]) (R.val B) nb := ⟨_, B, rfl, OB.out, hB, tB, rfl, by have := HN.out.2; omega⟩
  have ra' := ra.below hWb
  have rb' := rb.below hWb
  clear ra rb
  have HT := hid (And.intro tA tB)
  clear tA tB
  go_enter Tryd.func76, Tryd.ntmps76
  go_wp2_with fail
  generalize ((w.alloc (Obj.cells #[Value.slice aa na ca] 29)).alloc (Obj.cells #[Value.slice ab nb cb] 29)).alloc (Obj.cells #[Value.slice none 0 0] 29) = W at *
  refine (rcmp_any _ _ _ _ _ _ _ hna hnb ra' rb').mono ?_
  rintro e w1 ⟨rfl, hb1⟩
  obtain ⟨q, hq⟩ : ∃ q, cmpI (R.val A) (R.val B) = q := ⟨_, rfl⟩
  have hq0 : ¬ q < 0 := by rw [← hq]; unfold cmpI; repeat' split
                           all_goals omega
  rw [hq]
  have HLE := hid hle
  clear hq ra' rb' hle
  have y1 := box_below hb1 x1 (lt_of_block x1)
  have y2 := box_below hb1 x2 (lt_of_block x2)
  have y3 := box_below hb1 x3 (lt_of_block x3)
  have hbw1 := chain2 hWb hb1
  clear x1 x2 x3 hWb hb1
  have hown0 : (w1.alloc (Obj.cells #[] 3)).ownsRow w1.heap.size 3 1 (.slice (some ⟨w1.heap.size, 0, none⟩) 0 0) 0 (i64s []) := by
    have := World.ownsRow_made (base := w1.heap.size) (e := 3) (size := 1) w1 #[] 0 (by simp) (by unfold maxLen; omega) (by simp)
    simpa [i64s] using this
  have hb0 : Below w1.heap.size w1 (w1.alloc (Obj.cells #[] 3)) := below_alloc' (Below.refl _ _) (Nat.le_refl _) _
  go_wp2
  clear hq0
  go_loopw [6, 7, 8] (fun v c i wr => ∃ (d : Nat) (D : List Nat), D.length ≤ na ∧ i = .int .i64 (D.length : Nat) ∧ c = .int .i64 d ∧ d ≤ 1 ∧ RSubRel A B D d ∧ wr.ownsRow w1.heap.size 3 1 v D.length (i64s D) ∧ v ≠ .slice none 0 0 ∧ Below w1.heap.size w1 wr) (fun _ _ i _ => na - (intOf i).toNat)
  case atStart => exact ⟨0, [], by simp, rfl, rfl, by omega, ⟨by intro j; simp [lg], by simp [R.pv]⟩, hown0, by simp, hb0⟩
  case round =>
    obtain ⟨d, D, hk, rfl, rfl, hd, hR, hown, hnn, hbel⟩ := hrel
    have HR := hid hR
    have HNN := hid hnn
    clear hR hown0 hb0 hnn
    have hbw : Below w.heap.size w wr := chain2 hbw1 hbel
    have e1 := cell_of_one (box_below hbel y1 (lt_of_block y1))
    have e2 := cell_of_one (box_below hbel y2 (lt_of_block y2))
    have j3 := box_below hbel y3 (lt_of_block y3)
    obtain ⟨k, hkD⟩ : ∃ k, k = D.length := ⟨_, rfl⟩
    have HK := hid hkD
    rw [← hkD] at hk hown ⊢
    clear hkD
    by_cases hlt : k < na
    · obtain ⟨ga, cur, hv, hcc⟩ : ∃ ga cur : Nat, aa = some ⟨ga, 0, none⟩ ∧ na ≤ ca ∧ ca ≤ maxLen := by
        rcases OA.out.2 with ⟨h0, h0'⟩ | ⟨g, cap, cur, hv, _, _, r1, r2, _⟩
        · have := HN.out.1; simp at h0; omega
        · simp only [Value.slice.injEq] at hv
          obtain ⟨h1, h2, h3⟩ := hv
          exact ⟨g, 0, h1, by omega, by omega⟩
      have OA' := OA.out
      rw [hv] at OA' e1 ⊢
      have e3 := i64s_at (L := A) (g := ga) (cap := ca) (n := na) (by have := ownsRow_below OA' hbw; rw [HN.out.1] at this; exact this) k (by have := HN.out.1; omega)
      have hca := hcc.2
      unfold maxLen at hca
      have hcc1 := hcc.1
      have HOA := hid OA'
      clear hcc OA' hv OA
      have hA9 := hA k
      have hB9 := hB k
      have e1d := e1
      go_wp2
      go_region_held3 (fun w' => w'.cell? ⟨w.heap.size, 0, none⟩ = some (.slice (some ⟨ga, 0, none⟩) na ca) ∧ w'.cell? ⟨w.heap.size + 1, 0, none⟩ = some (.slice ab nb cb) ∧ w'.cell? ⟨ga, k, none⟩ = some (.int .i64 (lg A k : Int))) ((first | go_keep))
        (first | (go_at_call 86; refine (rdigit_any _ _ B hB (ownsRow_below OB.out hbw.drew) k).mono ?_; rintro e w' ⟨rfl, rfl⟩))
      have eT : IntKind.i64.wrap (IntKind.i64.wrap (↑(lg A k) - ↑(lg B k)) - ↑d) = (lg A k : Int) - (lg B k : Int) - (d : Int) := by
        rw [w64i ((lg A k : Int) - (lg B k : Int)) (by omega) (by omega), w64i _ (by omega) (by omega)]
      rw [eT]
      clear eT
      have hown2 := hown.drew
      have hbel2 := hbel.drew
      generalize wr.drew = w2 at *
      obtain ⟨x, t, hx9, ht, hx, hxt⟩ : ∃ x t : Nat, x < 1000000000 ∧ t ≤ 1 ∧ x + lg B k + d = lg A k + t * 1000000000 ∧ ((t = 1 ∧ (lg A k : Int) - (lg B k : Int) - (d : Int) = (x : Int) - 1000000000) ∨ (t = 0 ∧ (lg A k : Int) - (lg B k : Int) - (d : Int) = (x : Int))) := by
        rcases Nat.lt_or_ge (lg A k) (lg B k + d) with hc | hc
        · exact ⟨lg A k + 1000000000 - lg B k - d, 1, by omega, by omega, by omega, Or.inl ⟨rfl, by omega⟩⟩
        · exact ⟨lg A k - lg B k - d, 0, by omega, by omega, by omega, Or.inr ⟨rfl, by omega⟩⟩
      have HS := hid (show RSubRel A B (D ++ [x]) t from HR.out.step hx9 (by rw [← HK.out]; exact hx))
      have HL := hid (show (D ++ [x]).length = k + 1 from by rw [List.length_append, List.length_singleton, ← HK.out])
      clear hown hbel hbw e1 e2 e3 e1d j3 hx hA9 hB9
      generalize (lg A k : Int) - (lg B k : Int) - (d : Int) = y at *
      rcases hxt with ⟨rfl, hy⟩ | ⟨rfl, hy⟩
      all_goals
        rw [hy]
        clear hy
        try have hneg : (x : Int) - 1000000000 < 0 := by omega
        try have hneg2 : ¬ (x : Int) < 0 := by omega
        go_wp2_with (at_builtin; refine wpList_append_own _ rfl _ _ 27 rfl w1.heap.size 3 i0 (.int .i64 0) 1 8 Tryd.underlying27 hi hz0 hz1 hz2 rfl (by decide) _ _ _ rfl (hown2.alloc _) ⟨w2.heap.size, 0, none⟩ 1 1 [.int .i64 (x : Int)] rfl rfl (by intro j u hu; match j, hu with | 0, hu => simp at hu; subst hu; simp [Addr.add]) (by intro u hu; simp at hu; subst hu; rfl) (by unfold maxLen; omega) (by omega) (by have := hbel2.size; simp; omega) ?_)
        intro v' w3 hown3 hgrow hnil
        have hb3 : Below w1.heap.size w1 w3 := (below_alloc' hbel2 (Nat.le_refl _) _).grown hgrow (by have := hbel2.size; simp; omega) (fun q hq => (hown2.lt q hq).1)
        have hown4 : w3.ownsRow w1.heap.size 3 1 v' (D ++ [x]).length (i64s (D ++ [x])) := by
          rw [i64s_app, List.length_append, List.length_singleton, ← HK.out]; simpa using hown3
        have HO := hid hown4
        have HNN' := hid (show v' ≠ .slice none 0 0 from by
          intro e
          have h4 := hown4.1
          rcases hown4.2 with ⟨h0, h0'⟩ | ⟨g, cap, cur, hv, _⟩
          · simp at h0'
          · rw [e] at hv; simp at hv)
        clear hown3 hown4 hgrow hnil hown2 hbel2
        generalize D ++ [x] = E at *
        go_wp2
        go_roundw
        case rel => exact ⟨_, E, by have := HL.out; omega, by rw [HL.out]; go_num, by go_num, ht, HS.out, HO.out, HNN'.out, hb3⟩
        case measure => simp [intOf]; omega
    · have hkn : k = na := by omega
      have HF := hid (HR.out.done hA hB HT.out.1 HT.out.2 (by rw [← HK.out, hkn, HN.out.1]) HLE.out)
      have HBd := hid HR.out.1
      clear hkn
      obtain ⟨g, cap, hv⟩ : ∃ g cap, u6 = .slice (some ⟨g, 0, none⟩) k cap := by
        rcases hown.2 with ⟨h0, h0'⟩ | ⟨g, cap, cur, hv, _⟩
        · exact absurd h0 HNN.out
        · exact ⟨g, cap, hv⟩
      rw [hv] at hown ⊢
      clear hv HNN
      have hnk : ¬ k < na := hlt
      go_wp2_with fail
      refine (rtrim_len wr w1.heap.size g cap k D HK.out HBd.out hown).mono ?_
      rintro e w3 ⟨⟨sl, M, rfl, hM, bM, tM, vM, lM⟩, hb4⟩
      have hx3 := box_below hb4 j3 (lt_of_block j3)
      have hbw3 := chain2 hbw hb4
      obtain ⟨ao, cp, hv⟩ := ints_slice hM
      rw [hv] at hM ⊢
      have cz := cell_of_one hx3
      have fz := free_of_one hx3
      have hM2 := own_box (ownsRow_base0 hM) hx3 (by decide) (.slice ao M.length cp)
      have hB2 := hbw3.setCell (p := ⟨w.heap.size + 1 + 1, 0, none⟩) (by show w.heap.size ≤ w.heap.size + 1 + 1; omega) (.slice ao M.length cp)
      have hr := cell_of_one (one_setCell (u := .slice ao M.length cp) hx3)
      have HRr := hid hr
      have HV := hid (show R.val M = R.val A - R.val B ∧ M.length ≤ na from ⟨vM.trans HF.out, by have := HK.out; omega⟩)
      clear hv hM hx3 hr vM lM hb4 hown hbel hbw e1 e2 j3
      go_wp2
      exact bodyPost_ret (v := .tuple #[.agg #[.slice ao M.length cp], .int .i64 0]) (by simp [results, Tryd.results76, go_sem, HRr.out]) rfl ⟨_, rfl, ⟨_, M, rfl, hM2, bM, tM, HV.out.1, HV.out.2⟩, hB2⟩
/-- The document's Sub where it is not below 0: the difference. -/
theorem rsub_any (w : World) (a b : Value) (m n K K' : Nat) (hK : K ≤ 1000000000) (hK' : K' ≤ 1000000000) (ha : RefIs w a m K) (hb : RefIs w b n K') (h : n ≤ m) :
    Calls Tryd.prog 76 #[a, b] w fun e w' => ∃ v, e = .returned (.tuple #[v, .int .i64 0]) ∧ RefIs w' v (m - n) K ∧ Below w.heap.size w w' := by
  obtain ⟨sa, A, rfl, oa, bA, tA, rfl, lA⟩ := ha
  obtain ⟨sb, B, rfl, ob, bB, tB, rfl, lB⟩ := hb
  obtain ⟨aa, ca, rfl⟩ := ints_slice oa
  obtain ⟨ab, cb, rfl⟩ := ints_slice ob
  refine (rsub_walk w aa ab A.length ca B.length cb A B bA bB tA tB (by omega) (by omega) rfl rfl oa ob h).mono ?_
  rintro e w' ⟨v, rfl, hv, hw⟩
  exact ⟨v, rfl, hv.mono lA, hw⟩
end Go.Proofs.YtjldlmonccgopaaDoor
/- The document's Sub, below or not. -/
namespace Go.Proofs.YtjldlmonccgopaaDoor
open Go.RowKit
set_option linter.unusedVariables false

theorem rsub_both (w : World) (aa ab : Option Addr) (la ca lb cb m n K K' : Nat) (hK : K ≤ 1000000000) (hK' : K' ≤ 1000000000) (ha : RefIs w (.agg #[.slice aa la ca]) m K) (hb : RefIs w (.agg #[.slice ab lb cb]) n K') :
    Calls Tryd.prog 76 #[.agg #[.slice aa la ca], .agg #[.slice ab lb cb]] w fun e w' => ∃ ao l c, e = .returned (.tuple #[.agg #[.slice ao l c], .int .i64 (subE m n)]) ∧ RefIs w' (.agg #[.slice ao l c]) (m - n) K ∧ Below w.heap.size w w' := by
  by_cases h : m < n
  · refine (rsub_below w aa ab la ca lb cb m n K K' hK hK' ha hb h).mono ?_
    rintro e w' ⟨rfl, hw⟩
    exact ⟨none, 0, 0, by simp [subE, h], ⟨_, [], rfl, World.ownsRow_nil w' _ _ _, by intro j; simp [lg], fun h => by simp at h, by simp [R.val, R.pv]; omega, by simp⟩, hw⟩
  · refine (rsub_any w _ _ m n K K' hK hK' ha hb (by omega)).mono ?_
    rintro e w' ⟨v, rfl, nv, hw⟩
    obtain ⟨ao, l, c, rfl⟩ := nv.form
    exact ⟨ao, l, c, by simp [subE, h], nv, hw⟩
end Go.Proofs.YtjldlmonccgopaaDoor
