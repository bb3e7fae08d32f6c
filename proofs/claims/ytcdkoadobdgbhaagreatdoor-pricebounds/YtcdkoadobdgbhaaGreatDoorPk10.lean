/- Add, Sub, Ends, Mul, RAdd, RCmp, RSub, REnds, RMul, RSmall. -/
import Derived.Test.YtcdkoadobdgbhaaGreatDoorPk7
import Derived.Deep.RegionHeld3
import Derived.Deep.DrawnRows
import Derived.Test.YtcdkoadobdgbhaaGreatDoorPk5
/- Add: the sum of two numbers. -/
namespace Go.Proofs.YtcdkoadobdgbhaaGreatDoor
open Go.RowKit
set_option linter.unusedVariables false
set_option maxRecDepth 100000
set_option linter.unusedSimpArgs false
attribute [local go_sem ↓] Go.wp_at_zero Go.wp_at_succ

theorem limb_at (w0 w : World) (v : Value) (L : List Nat) (hb : Bd L) (h : Limbs w0 v L) (hw : Below w0.heap.size w0 w) (i : Nat) :
    Calls Tryz.prog 181 #[.agg #[v], .int .i64 i] w fun e w' => e = .returned (.int .u64 (lg L i : Int)) ∧ ∃ c, w' = w.alloc (.cells c 69) :=
  limb_any w v L hb (h.below hw) i
theorem add_next (A B S : List Nat) (k d n : Nat) (hk : k < n + 1) (h : S.length = n + 1 ∧ Bd S ∧ (∀ j, k ≤ j → lg S j = 0) ∧ pv S k + d * 4294967296 ^ k = pv A k + pv B k) :
    (S.set k ((lg A k + lg B k + d) % 4294967296)).length = n + 1 ∧ Bd (S.set k ((lg A k + lg B k + d) % 4294967296)) ∧ (∀ j, k + 1 ≤ j → lg (S.set k ((lg A k + lg B k + d) % 4294967296)) j = 0) ∧
      pv (S.set k ((lg A k + lg B k + d) % 4294967296)) (k + 1) + (lg A k + lg B k + d) / 4294967296 * 4294967296 ^ (k + 1) = pv A (k + 1) + pv B (k + 1) := by
  obtain ⟨h1, h2, h3, h4⟩ := h
  refine ⟨by simpa using h1, Bd_set h2 k _ (by omega), fun j hj => ?_, add_round A B S k d (by omega) h4⟩
  rw [lg_set_other S k _ j (by omega)]; exact h3 j (by omega)
theorem add_done (A B S : List Nat) (n k d : Nat) (hk : k = n + 1) (ha : A.length ≤ n) (hb : B.length ≤ n) (hA : Bd A) (hB : Bd B) (h : S.length = n + 1 ∧ Bd S ∧ (∀ j, k ≤ j → lg S j = 0) ∧ pv S k + d * 4294967296 ^ k = pv A k + pv B k) : val S = val A + val B := by
  obtain ⟨h1, h2, _, h4⟩ := h
  subst hk
  have e1 : pv S (n + 1) = val S := pv_val S _ (by omega)
  have e2 : pv A (n + 1) = val A := pv_val A _ (by omega)
  have e3 : pv B (n + 1) = val B := pv_val B _ (by omega)
  have e4 : pv A n = val A := pv_val A _ (by omega)
  have e5 : pv B n = val B := pv_val B _ (by omega)
  have l1 := pv_lt hA n
  have l2 := pv_lt hB n
  rw [e1, e2, e3, Nat.pow_succ] at h4
  have := no_carry h4 (by omega)
  exact this.2
theorem add_keep {W X : World} {B p q : Nat} {a b : Value} (hx : W.cell? ⟨p, 0, none⟩ = some a) (hy : W.cell? ⟨q, 0, none⟩ = some b) (hp : p < B) (hq : q < B) (h : Below B W X) : X.cell? ⟨p, 0, none⟩ = some a ∧ X.cell? ⟨q, 0, none⟩ = some b ∧ Below B W X :=
  ⟨(h.cell (by exact hp)).trans hx, (h.cell (by exact hq)).trans hy, h⟩
set_option maxHeartbeats 1000000 in
theorem add_walk (w : World) (aa ab : Option Addr) (na ca nb cb n : Nat) (A B : List Nat) (hA : Bd A) (hB : Bd B) (hna : na ≤ 1000000000) (hnb : nb ≤ 1000000000) (hn : max na nb = n) (hAl : A.length = na) (hBl : B.length = nb)
    (oa : Limbs w (.slice aa na ca) A) (ob : Limbs w (.slice ab nb cb) B) :
    Calls Tryz.prog 155 #[.agg #[.slice aa na ca], .agg #[.slice ab nb cb]] w fun e w' => ∃ v, e = .returned v ∧ NatIs w' v (val A + val B) (n + 1) ∧ Below w.heap.size w w' := by
  obtain ⟨i0, hi, hz0, hz1, hz2⟩ := info_parts Tryz.info213
  have HN : Hid (max na nb = n ∧ A.length ≤ n ∧ B.length ≤ n) := ⟨hn, by omega, by omega⟩
  have hn' : n ≤ 1000000000 := by omega
  clear hn hAl hBl
  rcases (show nb < na ∨ na < nb ∨ na ≤ nb ∧ nb ≤ na by omega) with hc | hc | ⟨hc, hc'⟩
  all_goals
    go_enter Tryz.func155, Tryz.ntmps155
    go_wp2_with (first | (at_make; refine wpList_make_full _ rfl _ _ 67 rfl (w.heap.size + 1 + 1 + 1) 213 i0 (.int .u32 0) 1 Tryz.underlying67 hi hz0 hz1 _ _ _ _ (n + 1) rfl rfl (by have := HN.out.1; omega) (by have := HN.out.1; omega) (by rw [hz2]; omega) (by unfold maxLen; omega) (by simp) ?_))
    intro w1 hown hgrow
    have hb1 : Below (w.heap.size + 1 + 1 + 1) (((w.alloc (Obj.cells #[Value.slice aa na ca] 69)).alloc (Obj.cells #[Value.slice ab nb cb] 69)).alloc (Obj.cells #[Value.slice none 0 0] 69)) w1 := by
      have := (Below.refl (w.heap.size + 1 + 1 + 1) _).grown hgrow (by simp) (by intro k hk; simp at hk)
      exact this
    simp only [toList_madeCells_one, Value.cells, Nat.mul_one] at hown
    rw [← u32s_rep] at hown
    have hWx : (((w.alloc (Obj.cells #[Value.slice aa na ca] 69)).alloc (Obj.cells #[Value.slice ab nb cb] 69)).alloc (Obj.cells #[Value.slice none 0 0] 69)).cell? ⟨w.heap.size, 0, none⟩ = some (.slice aa na ca) := by simp [go_sem]
    have hWy : (((w.alloc (Obj.cells #[Value.slice aa na ca] 69)).alloc (Obj.cells #[Value.slice ab nb cb] 69)).alloc (Obj.cells #[Value.slice none 0 0] 69)).cell? ⟨w.heap.size + 1, 0, none⟩ = some (.slice ab nb cb) := by simp [go_sem]
    have hWz : (((w.alloc (Obj.cells #[Value.slice aa na ca] 69)).alloc (Obj.cells #[Value.slice ab nb cb] 69)).alloc (Obj.cells #[Value.slice none 0 0] 69)).cell? ⟨w.heap.size + 1 + 1, 0, none⟩ = some (.slice none 0 0) := by simp [go_sem]
    have hWf : (((w.alloc (Obj.cells #[Value.slice aa na ca] 69)).alloc (Obj.cells #[Value.slice ab nb cb] 69)).alloc (Obj.cells #[Value.slice none 0 0] 69)).frozen? ⟨w.heap.size + 1 + 1, 0, none⟩ = false := by simp [go_sem]
    have hWb : Below w.heap.size w (((w.alloc (Obj.cells #[Value.slice aa na ca] 69)).alloc (Obj.cells #[Value.slice ab nb cb] 69)).alloc (Obj.cells #[Value.slice none 0 0] 69)) := (((Below.refl _ _).alloc (Nat.le_refl _) _).alloc (by simp) _).alloc (by simp; omega) _
    have hWs : (((w.alloc (Obj.cells #[Value.slice aa na ca] 69)).alloc (Obj.cells #[Value.slice ab nb cb] 69)).alloc (Obj.cells #[Value.slice none 0 0] 69)).heap.size = w.heap.size + 1 + 1 + 1 := by simp
    clear hgrow
    generalize ((w.alloc (Obj.cells #[Value.slice aa na ca] 69)).alloc (Obj.cells #[Value.slice ab nb cb] 69)).alloc (Obj.cells #[Value.slice none 0 0] 69) = W at *
    have hWt : w.heap.size + 1 + 1 + 1 ≤ W.heap.size := by omega
    clear hWs
    go_wp2
    go_loopw [6, 20] (fun c i wr => ∃ (k d : Nat) (S : List Nat), k ≤ n + 1 ∧ i = .int .i64 k ∧ c = .int .u64 d ∧ d ≤ 1 ∧ S.length = n + 1 ∧ Bd S ∧ (∀ j, k ≤ j → lg S j = 0) ∧ pv S k + d * 4294967296 ^ k = pv A k + pv B k ∧
        wr.ownsRow (w.heap.size + 1 + 1 + 1) 213 1 (.slice (some ⟨w.heap.size + 1 + 1 + 1, 0, none⟩) (n + 1) (n + 1)) (n + 1) (u32s S) ∧ Below (w.heap.size + 1 + 1 + 1) W wr) (fun _ i _ => n + 1 - (intOf i).toNat)
    case atStart => exact ⟨0, 0, List.replicate (n + 1) 0, Nat.zero_le _, rfl, rfl, by omega, by simp, Bd_rep _, fun j _ => lg_rep _ _, by simp [pv], hown, hb1⟩
    case round =>
      obtain ⟨k, d, S, hk, rfl, rfl, hd, hS, hSb, hSz, hpv, hown', hbel⟩ := hrel
      have R : Hid (S.length = n + 1 ∧ Bd S ∧ (∀ j, k ≤ j → lg S j = 0) ∧ pv S k + d * 4294967296 ^ k = pv A k + pv B k) := ⟨hS, hSb, hSz, hpv⟩
      clear hS hSb hSz hpv hown hb1
      have hbw : Below w.heap.size w wr := hWb.trans (hbel.mono (by omega))
      have e1 : wr.cell? ⟨w.heap.size, 0, none⟩ = some (.slice aa na ca) := (hbel.cell (by show w.heap.size < _; omega)).trans hWx
      have e2 : wr.cell? ⟨w.heap.size + 1, 0, none⟩ = some (.slice ab nb cb) := (hbel.cell (by show w.heap.size + 1 < _; omega)).trans hWy
      have hsz : w.heap.size ≤ wr.heap.size := hbw.size
      by_cases hlt : k < n + 1
      · go_wp2
        go_region_held3 (fun w' => w'.cell? ⟨w.heap.size, 0, none⟩ = some (.slice aa na ca) ∧ w'.cell? ⟨w.heap.size + 1, 0, none⟩ = some (.slice ab nb cb) ∧ Below (w.heap.size + 1 + 1 + 1) W w') 
          ((refine add_keep hWx hWy (by omega) (by omega) ?_; first | exact hbel.drew | exact below_alloc' hbel.drew hWt _ | exact (below_alloc' hbel hWt _).drew | exact below_alloc' (below_alloc' hbel.drew hWt _) hWt _))
          (first | (go_at_call_of 181 (Value.agg #[Value.slice aa na ca]); refine (limb_at w _ _ A hA oa ?_ k).mono ?_; exact hbw.drew; rintro e w' ⟨rfl, c1, rfl⟩) | (go_at_call_of 181 (Value.agg #[Value.slice ab nb cb]); refine (limb_at w _ _ B hB ob ?_ k).mono ?_; (first | exact hbw.drew.alloc hsz _ | exact (hbw.alloc hsz _).drew); rintro e w' ⟨rfl, c2, rfl⟩))
        have eT : IntKind.u64.wrap (IntKind.u64.wrap (↑(lg A k) + ↑(lg B k)) + ↑d) = ((lg A k + lg B k + d : Nat) : Int) := by
          have := hA k; have := hB k
          have e1 : IntKind.u64.wrap ((lg A k : Int) + (lg B k : Int)) = (lg A k : Int) + (lg B k : Int) := w64 _ (by omega) (by omega)
          rw [e1, w64 _ (by omega) (by omega)]; omega
        have hT2 : lg A k + lg B k + d < 8589934592 := by have := hA k; have := hB k; omega
        rw [eT]
        clear eT
        have RN := add_next A B S k d n (by omega) R.out
        generalize lg A k + lg B k + d = T at *
        have own2 : ((wr.alloc (Obj.cells c1 69)).alloc (Obj.cells c2 69)).drew.ownsRow (w.heap.size + 1 + 1 + 1) 213 1 (.slice (some ⟨w.heap.size + 1 + 1 + 1, 0, none⟩) (n + 1) (n + 1)) (n + 1) (u32s S) := ((hown'.alloc _).alloc _).drew
        have bel2 : Below (w.heap.size + 1 + 1 + 1) W ((wr.alloc (Obj.cells c1 69)).alloc (Obj.cells c2 69)).drew := (below_alloc' (below_alloc' hbel hWt _) hWt _).drew
        generalize ((wr.alloc (Obj.cells c1 69)).alloc (Obj.cells c2 69)).drew = w2 at *
        clear hown' hbel hbw e1 e2 hsz
        have hst := u32s_at own2 k (by rw [R.out.1]; omega)
        have hfr := own2.frozenAt k
        have own3 := own2.stored k (.int .u32 ((T % 4294967296 : Nat) : Int))
        rw [← u32s_set] at own3
        rw [show ((T % 4294967296 : Nat) : Int) = (T : Int) % 4294967296 by omega] at own3
        have HO := hid own3
        have HR := hid RN
        clear own3 own2 RN
        go_wp2
        go_roundw
        case rel => exact ⟨k + 1, T / 4294967296, S.set k (T % 4294967296), by omega, by go_num, by go_num, by omega, HR.out.1, HR.out.2.1, HR.out.2.2.1, HR.out.2.2.2, HO.out.1, bel2.setCell (by exact Nat.le_refl _) _⟩
        case measure => simp [intOf]; omega
      · have hk' : k = n + 1 := by omega
        rw [← R.out.1] at hown'
        have hZ := (hbel.cell (p := ⟨w.heap.size + 1 + 1, 0, none⟩) (by show w.heap.size + 1 + 1 < _; omega)).trans hWz
        have hF := (hbel.frozen (p := ⟨w.heap.size + 1 + 1, 0, none⟩) (by show w.heap.size + 1 + 1 < _; omega)).trans hWf
        go_wp2_with fail
        refine (trim_base wr (w.heap.size + 1 + 1 + 1) _ S R.out.2.1 ?_).mono ?_
        · have := hown'; rw [R.out.1] at this ⊢; exact this
        clear hown'
        rintro e w' ⟨⟨v', M, rfl, hM, bM, tM, vM, lM⟩, rfl⟩
        obtain ⟨ao, cp, hv⟩ := Limbs.slice (ownsRow_base0 hM)
        rw [hv]
        rw [hv] at hM
        clear hv
        have HV := hid vM
        have HK := hid hk'
        clear vM hk'
        have hM2 := ownsRow_setCell_below hM (a := ⟨w.heap.size + 1 + 1, 0, none⟩) (by show w.heap.size + 1 + 1 < _; omega) (.slice ao M.length cp)
        clear hM
        have hB2 := hbw.setCell (p := ⟨w.heap.size + 1 + 1, 0, none⟩) (by show w.heap.size ≤ w.heap.size + 1 + 1; omega) (.slice ao M.length cp)
        go_wp2
        refine bodyPost_ret (v := .agg #[.slice ao M.length cp]) (by simp [results, Tryz.results155, go_sem, hZ, hF]) rfl ⟨_, rfl, ⟨_, M, rfl, ownsRow_base0 hM2, bM, tM, ?_, ?_⟩, hB2⟩
        · rw [HV.out]; exact add_done A B S n k d HK.out HN.out.2.1 HN.out.2.2 hA hB R.out
        · have := R.out.1; omega
/-- Add: the sum. -/
theorem add_any (w : World) (a b : Value) (m n K K' : Nat) (hK : K ≤ 1000000000) (hK' : K' ≤ 1000000000) (ha : NatIs w a m K) (hb : NatIs w b n K') :
    Calls Tryz.prog 155 #[a, b] w fun e w' => ∃ v, e = .returned v ∧ NatIs w' v (m + n) (max K K' + 1) ∧ Below w.heap.size w w' := by
  obtain ⟨sa, A, rfl, oa, bA, tA, rfl, lA⟩ := ha
  obtain ⟨sb, B, rfl, ob, bB, tB, rfl, lB⟩ := hb
  obtain ⟨aa, ca, rfl⟩ := oa.slice
  obtain ⟨ab, cb, rfl⟩ := ob.slice
  refine (add_walk w aa ab A.length ca B.length cb (max A.length B.length) A B bA bB (by omega) (by omega) rfl rfl rfl oa ob).mono ?_
  rintro e w' ⟨v, rfl, hv, hw⟩
  exact ⟨v, rfl, hv.mono (by omega), hw⟩
end Go.Proofs.YtcdkoadobdgbhaaGreatDoor
/- Sub: the difference of two numbers. -/
namespace Go.Proofs.YtcdkoadobdgbhaaGreatDoor
open Go.RowKit
set_option linter.unusedVariables false
set_option maxRecDepth 100000
set_option linter.unusedSimpArgs false
attribute [local go_sem ↓] Go.wp_at_zero Go.wp_at_succ

/-- What 'a - b - c' is as a word, and what is borrowed. -/
def subT (a b c : Nat) : Nat := if b + c ≤ a then a - b - c else 18446744073709551616 + a - b - c
theorem subT_facts {a b c : Nat} (ha : a < 4294967296) (hb : b < 4294967296) (hc : c ≤ 1) : subT a b c < 18446744073709551616 ∧ subT a b c / 9223372036854775808 ≤ 1 ∧ subT a b c % 4294967296 + b + c = a + subT a b c / 9223372036854775808 * 4294967296 := by
  unfold subT; split <;> omega
theorem subT_wrap {a b c : Nat} (ha : a < 4294967296) (hb : b < 4294967296) (hc : c ≤ 1) : IntKind.u64.wrap (IntKind.u64.wrap ((a : Int) - (b : Int)) - (c : Int)) = ((subT a b c : Nat) : Int) := by
  rw [IntKind.wrap_u64, IntKind.wrap_u64]
  by_cases h : b + c ≤ a
  · rw [subT, if_pos h]; omega
  · rw [subT, if_neg h]; omega
def SubRel (A B S : List Nat) (n k d : Nat) : Prop := S.length = n ∧ Bd S ∧ pv S k + pv B k = pv A k + d * 4294967296 ^ k
theorem sub_next (A B S : List Nat) (n k d t q : Nat) (hk : k < n) (ht : t < 4294967296) (he : t + lg B k + d = lg A k + q * 4294967296) (h : SubRel A B S n k d) : SubRel A B (S.set k t) n (k + 1) q := by
  obtain ⟨h1, h2, h3⟩ := h
  refine ⟨by simpa using h1, Bd_set h2 _ _ ht, ?_⟩
  simp only [pv]
  rw [pv_set_past S k _ k (Nat.le_refl _), lg_set_same S k _ (by omega), Nat.pow_succ]
  generalize 4294967296 ^ k = p at *
  have e1 : (t + lg B k + d) * p = (lg A k + q * 4294967296) * p := by rw [he]
  rw [Nat.add_mul, Nat.add_mul, Nat.add_mul] at e1
  have e2 : q * (p * 4294967296) = q * 4294967296 * p := by rw [Nat.mul_comm p, ← Nat.mul_assoc]
  rw [e2]
  omega
theorem sub_done (A B S : List Nat) (n d : Nat) (ha : A.length = n) (hb : B.length ≤ n) (hle : val B ≤ val A) (h : SubRel A B S n n d) : val S = val A - val B := by
  obtain ⟨h1, h2, h3⟩ := h
  rw [pv_val S n (by omega), pv_val B n hb, pv_val A n (by omega)] at h3
  have h4 := val_lt h2
  rw [h1] at h4
  rcases Nat.eq_zero_or_pos d with e | e
  · rw [e] at h3; omega
  · have : 1 * 4294967296 ^ n ≤ d * 4294967296 ^ n := Nat.mul_le_mul_right _ e
    omega
theorem len_le_of_val {A B : List Nat} (bA : Bd A) (tB : Top B) (h : val B ≤ val A) : B.length ≤ A.length := by
  rcases Nat.lt_or_ge A.length B.length with e | e
  · have := val_lt_len bA tB e; omega
  · exact e
theorem two_keep {X : World} {p q : Nat} {a b : Value} (h1 : X.cell? ⟨p, 0, none⟩ = some a) (h2 : X.cell? ⟨q, 0, none⟩ = some b) (o : Obj) : (X.alloc o).cell? ⟨p, 0, none⟩ = some a ∧ (X.alloc o).cell? ⟨q, 0, none⟩ = some b :=
  ⟨(Below.cell ((Below.refl X.heap.size X).alloc (Nat.le_refl _) o) (World.block_lt_of_cell? X _ h1)).trans h1, (Below.cell ((Below.refl X.heap.size X).alloc (Nat.le_refl _) o) (World.block_lt_of_cell? X _ h2)).trans h2⟩
set_option maxHeartbeats 1000000 in
theorem sub_walk (w : World) (aa ab : Option Addr) (na ca nb cb : Nat) (A B : List Nat) (hA : Bd A) (hB : Bd B) (tA : Top A) (tB : Top B) (hna : na ≤ 1000000000) (hnb : nb ≤ 1000000000) (hAl : A.length = na) (hBl : B.length = nb)
    (oa : Limbs w (.slice aa na ca) A) (ob : Limbs w (.slice ab nb cb) B) (hle : val B ≤ val A) :
    Calls Tryz.prog 156 #[.agg #[.slice aa na ca], .agg #[.slice ab nb cb]] w fun e w' => ∃ v, e = .returned (.tuple #[v, .int .i64 0]) ∧ NatIs w' v (val A - val B) na ∧ Below w.heap.size w w' := by
  obtain ⟨i0, hi, hz0, hz1, hz2⟩ := info_parts Tryz.info213
  have hx0 : (((w.alloc (Obj.cells #[Value.slice aa na ca] 69)).alloc (Obj.cells #[Value.slice ab nb cb] 69)).alloc (Obj.cells #[Value.slice none 0 0] 69)).heap[w.heap.size]? = some (Obj.cells #[Value.slice aa na ca] 69) := box_alloc (box_alloc (box_new _ _) _) _
  have hy0 : (((w.alloc (Obj.cells #[Value.slice aa na ca] 69)).alloc (Obj.cells #[Value.slice ab nb cb] 69)).alloc (Obj.cells #[Value.slice none 0 0] 69)).heap[w.heap.size + 1]? = some (Obj.cells #[Value.slice ab nb cb] 69) := by
    have := box_alloc (box_new (w.alloc (Obj.cells #[Value.slice aa na ca] 69)) (Obj.cells #[Value.slice ab nb cb] 69)) (Obj.cells #[Value.slice none 0 0] 69); simpa using this
  have hz0' : (((w.alloc (Obj.cells #[Value.slice aa na ca] 69)).alloc (Obj.cells #[Value.slice ab nb cb] 69)).alloc (Obj.cells #[Value.slice none 0 0] 69)).heap[w.heap.size + 1 + 1]? = some (Obj.cells #[Value.slice none 0 0] 69) := by
    have := box_new ((w.alloc (Obj.cells #[Value.slice aa na ca] 69)).alloc (Obj.cells #[Value.slice ab nb cb] 69)) (Obj.cells #[Value.slice none 0 0] 69); simpa using this
  have hw0 : Below w.heap.size w (((w.alloc (Obj.cells #[Value.slice aa na ca] 69)).alloc (Obj.cells #[Value.slice ab nb cb] 69)).alloc (Obj.cells #[Value.slice none 0 0] 69)) := (((Below.refl _ _).alloc (Nat.le_refl _) _).alloc (by simp) _).alloc (by simp; omega) _
  have na0 : NatIs w (.agg #[.slice aa na ca]) (val A) na := ⟨_, A, rfl, oa, hA, tA, rfl, by omega⟩
  have nb0 : NatIs w (.agg #[.slice ab nb cb]) (val B) nb := ⟨_, B, rfl, ob, hB, tB, rfl, by omega⟩
  have hlb := len_le_of_val hA tB hle
  have HA := hid (And.intro hAl (And.intro hlb hle))
  obtain ⟨q, hq⟩ : ∃ q, cmpI (val A) (val B) = q := ⟨_, rfl⟩
  have hq0 : ¬ q < 0 := by rw [← hq]; unfold cmpI; split <;> (try split) <;> omega
  have HQ := hid hq
  clear hAl hBl hlb hle hq
  go_enter Tryz.func156, Tryz.ntmps156
  go_wp2_with fail
  generalize ((w.alloc (Obj.cells #[Value.slice aa na ca] 69)).alloc (Obj.cells #[Value.slice ab nb cb] 69)).alloc (Obj.cells #[Value.slice none 0 0] 69) = W at *
  refine (cmp_any W _ _ _ _ _ _ (na0.below hw0) (nb0.below hw0)).mono ?_
  rintro e wc ⟨rfl, hbc⟩
  rw [HQ.out]
  have hx := box_below hbc hx0 (lt_of_block hx0)
  have hy := box_below hbc hy0 (lt_of_block hy0)
  have hz := box_below hbc hz0' (lt_of_block hz0')
  have hwc := chain2 hw0 hbc
  have lz := lt_of_block hz
  have cx := cell_of_one hx
  have cy := cell_of_one hy
  clear hx0 hy0 hz0' hw0 hbc na0 nb0
  go_wp2_with (first | (at_make; refine wpList_make_full _ rfl _ _ 67 rfl wc.heap.size 213 i0 (.int .u32 0) 1 Tryz.underlying67 hi hz0 hz1 _ _ _ _ na rfl rfl rfl rfl (by rw [hz2]; omega) (by unfold maxLen; omega) (Nat.le_refl _) ?_))
  intro w1 hown hgrow
  have hb1 : Below wc.heap.size wc w1 := (Below.refl wc.heap.size wc).grown hgrow (Nat.le_refl _) (by intro k hk; simp at hk)
  simp only [toList_madeCells_one, Value.cells, Nat.mul_one] at hown
  rw [← u32s_rep] at hown
  clear hgrow cx cy
  go_wp2
  go_loopw [7, 21] (fun c i wr => ∃ (k d : Nat) (S : List Nat), k ≤ na ∧ i = .int .i64 k ∧ c = .int .u64 d ∧ d ≤ 1 ∧ SubRel A B S na k d ∧
      wr.ownsRow wc.heap.size 213 1 (.slice (some ⟨wc.heap.size, 0, none⟩) na na) na (u32s S) ∧ Below wc.heap.size wc wr) (fun _ i _ => na - (intOf i).toNat)
  case atStart => exact ⟨0, 0, List.replicate na 0, Nat.zero_le _, rfl, rfl, by omega, ⟨by simp, Bd_rep _, by simp [pv]⟩, hown, hb1⟩
  case round =>
    obtain ⟨k, d, S, hk, rfl, rfl, hd, hR, hown', hbel⟩ := hrel
    have R := hid hR
    clear hR hown hb1
    have hbw : Below w.heap.size w wr := chain2 hwc hbel
    have e1 := cell_of_one (box_below hbel hx (lt_of_block hx))
    have e2 := cell_of_one (box_below hbel hy (lt_of_block hy))
    have hsz : w.heap.size ≤ wr.heap.size := hbw.size
    by_cases hlt : k < na
    · go_wp2
      have K0 : wr.drew.cell? ⟨w.heap.size, 0, none⟩ = some (.slice aa na ca) ∧ wr.drew.cell? ⟨w.heap.size + 1, 0, none⟩ = some (.slice ab nb cb) := ⟨e1, e2⟩
      go_region_held3 (fun w' => w'.cell? ⟨w.heap.size, 0, none⟩ = some (.slice aa na ca) ∧ w'.cell? ⟨w.heap.size + 1, 0, none⟩ = some (.slice ab nb cb)) ((first | exact K0 | exact K1 | exact K2)) (first | (go_at_call_of 181 (Value.agg #[Value.slice aa na ca]); refine (limb_at w _ _ A hA oa ?_ k).mono ?_; exact hbw.drew; rintro e w' ⟨rfl, c1, rfl⟩; have K1 := two_keep e1 e2 (Obj.cells c1 69)) | (go_at_call_of 181 (Value.agg #[Value.slice ab nb cb]); refine (limb_at w _ _ B hB ob ?_ k).mono ?_; (first | exact hbw.drew.alloc hsz _ | exact (hbw.alloc hsz _).drew); rintro e w' ⟨rfl, c2, rfl⟩; have K2 := two_keep K1.1 K1.2 (Obj.cells c2 69)))
      rw [subT_wrap (hA k) (hB k) hd]
      have F := subT_facts (hA k) (hB k) hd
      have HN := hid (sub_next A B S na k d _ _ hlt (Nat.mod_lt _ (by omega)) F.2.2 R.out)
      have hT := F.1
      have hq1 := F.2.1
      generalize subT (lg A k) (lg B k) d = T at *
      have own2 : ((wr.alloc (Obj.cells c1 69)).alloc (Obj.cells c2 69)).drew.ownsRow wc.heap.size 213 1 (.slice (some ⟨wc.heap.size, 0, none⟩) na na) na (u32s S) := ((hown'.alloc _).alloc _).drew
      have bel2 : Below wc.heap.size wc ((wr.alloc (Obj.cells c1 69)).alloc (Obj.cells c2 69)).drew := (below_alloc' (below_alloc' hbel (Nat.le_refl _) _) (Nat.le_refl _) _).drew
      clear K0 K1 K2
      generalize ((wr.alloc (Obj.cells c1 69)).alloc (Obj.cells c2 69)).drew = w2 at *
      clear hown' hbel hbw e1 e2 hsz F
      have hst := u32s_at own2 k (by rw [R.out.1]; omega)
      have hfr := own2.frozenAt k
      have own3 := own2.stored k (.int .u32 ((T % 4294967296 : Nat) : Int))
      rw [← u32s_set] at own3
      rw [show ((T % 4294967296 : Nat) : Int) = (T : Int) % 4294967296 by omega] at own3
      have HO := hid own3
      clear own3 own2
      go_wp2
      go_roundw
      case rel => exact ⟨k + 1, T / 9223372036854775808, S.set k (T % 4294967296), by omega, by go_num, by go_num, hq1, HN.out, HO.out.1, bel2.setCell (Nat.le_refl _) _⟩
      case measure => simp [intOf]; omega
    · have hk' : k = na := by omega
      have hz' := box_below hbel hz (lt_of_block hz)
      have hZ := cell_of_one hz'
      have hF := free_of_one hz'
      have HV := hid (sub_done A B S na d HA.out.1 (by have := HA.out; omega) HA.out.2.2 (by have := R.out; rw [hk'] at this; exact this))
      clear hk' e1 e2 hx hy hz
      go_wp2_with fail
      refine (trim_base wr wc.heap.size _ S R.out.2.1 ?_).mono ?_
      · rw [R.out.1]; exact hown'
      clear hown'
      rintro e w' ⟨⟨v', M, rfl, hM, bM, tM, vM, lM⟩, rfl⟩
      obtain ⟨ao, cp, hv⟩ := Limbs.slice (ownsRow_base0 hM)
      rw [hv]
      rw [hv] at hM
      clear hv
      have HM := hid vM
      clear vM
      have hM2 := ownsRow_setCell_below hM (a := ⟨w.heap.size + 1 + 1, 0, none⟩) (by exact lz) (.slice ao M.length cp)
      clear hM
      have hB2 := hbw.setCell (p := ⟨w.heap.size + 1 + 1, 0, none⟩) (by show w.heap.size ≤ w.heap.size + 1 + 1; omega) (.slice ao M.length cp)
      have hr := cell_of_one (one_setCell (u := .slice ao M.length cp) hz')
      have HRr := hid hr
      clear hr hz'
      go_wp2
      refine bodyPost_ret (v := .tuple #[.agg #[.slice ao M.length cp], .int .i64 0]) (by simp [results, Tryz.results156, go_sem, HRr.out]) rfl ⟨_, rfl, ⟨_, M, rfl, ownsRow_base0 hM2, bM, tM, ?_, ?_⟩, hB2⟩
      · rw [HM.out]; exact HV.out
      · have := R.out.1; omega
set_option maxHeartbeats 400000 in
theorem sub_below (w : World) (aa ab : Option Addr) (la ca lb cb m n K K' : Nat) (ha : NatIs w (.agg #[.slice aa la ca]) m K) (hb : NatIs w (.agg #[.slice ab lb cb]) n K') (h : m < n) :
    Calls Tryz.prog 156 #[.agg #[.slice aa la ca], .agg #[.slice ab lb cb]] w fun e w' => e = .returned (.tuple #[.agg #[.slice none 0 0], .int .i64 11]) ∧ Below w.heap.size w w' := by
  have hz0' : (((w.alloc (Obj.cells #[Value.slice aa la ca] 69)).alloc (Obj.cells #[Value.slice ab lb cb] 69)).alloc (Obj.cells #[Value.slice none 0 0] 69)).heap[w.heap.size + 1 + 1]? = some (Obj.cells #[Value.slice none 0 0] 69) := by
    have := box_new ((w.alloc (Obj.cells #[Value.slice aa la ca] 69)).alloc (Obj.cells #[Value.slice ab lb cb] 69)) (Obj.cells #[Value.slice none 0 0] 69); simpa using this
  have hw0 : Below w.heap.size w (((w.alloc (Obj.cells #[Value.slice aa la ca] 69)).alloc (Obj.cells #[Value.slice ab lb cb] 69)).alloc (Obj.cells #[Value.slice none 0 0] 69)) := (((Below.refl _ _).alloc (Nat.le_refl _) _).alloc (by simp) _).alloc (by simp; omega) _
  go_enter Tryz.func156, Tryz.ntmps156
  go_wp2_with fail
  generalize ((w.alloc (Obj.cells #[Value.slice aa la ca] 69)).alloc (Obj.cells #[Value.slice ab lb cb] 69)).alloc (Obj.cells #[Value.slice none 0 0] 69) = W at *
  refine (cmp_any W _ _ _ _ _ _ (ha.below hw0) (hb.below hw0)).mono ?_
  rintro e wc ⟨rfl, hbc⟩
  rw [cmpI_lt h]
  have hz := box_below hbc hz0' (lt_of_block hz0')
  have hwc := chain2 hw0 hbc
  have cz := cell_of_one hz
  have fz := free_of_one hz
  have hr := cell_of_one (one_setCell (u := .slice none 0 0) hz)
  have hB2 := hwc.setCell (p := ⟨w.heap.size + 1 + 1, 0, none⟩) (by show w.heap.size ≤ w.heap.size + 1 + 1; omega) (.slice none 0 0)
  have HR := hid hr
  clear hz hz0' hr
  go_wp2
  exact bodyPost_ret (v := .tuple #[.agg #[.slice none 0 0], .int .i64 11]) (by simp [results, Tryz.results156, go_sem, HR.out]) rfl ⟨rfl, hB2⟩
/-- Sub where it is not below 0: the difference. -/
theorem sub_any (w : World) (a b : Value) (m n K K' : Nat) (hK : K ≤ 1000000000) (hK' : K' ≤ 1000000000) (ha : NatIs w a m K) (hb : NatIs w b n K') (h : n ≤ m) :
    Calls Tryz.prog 156 #[a, b] w fun e w' => ∃ v, e = .returned (.tuple #[v, .int .i64 0]) ∧ NatIs w' v (m - n) K ∧ Below w.heap.size w w' := by
  obtain ⟨sa, A, rfl, oa, bA, tA, rfl, lA⟩ := ha
  obtain ⟨sb, B, rfl, ob, bB, tB, rfl, lB⟩ := hb
  obtain ⟨aa, ca, rfl⟩ := oa.slice
  obtain ⟨ab, cb, rfl⟩ := ob.slice
  refine (sub_walk w aa ab A.length ca B.length cb A B bA bB tA tB (by omega) (by omega) rfl rfl oa ob h).mono ?_
  rintro e w' ⟨v, rfl, hv, hw⟩
  exact ⟨v, rfl, hv.mono lA, hw⟩
end Go.Proofs.YtcdkoadobdgbhaaGreatDoor
/- What the laws share: four variables kept; a variable that is laid and then written; Sub's answer with its form. -/
namespace Go.Proofs.YtcdkoadobdgbhaaGreatDoor
open Go.RowKit
set_option linter.unusedVariables false

def subE (m n : Nat) : Int := if m < n then 11 else 0
/-- Sub, below or not. -/
theorem sub_both (w : World) (aa ab : Option Addr) (la ca lb cb m n K K' : Nat) (hK : K ≤ 1000000000) (hK' : K' ≤ 1000000000) (ha : NatIs w (.agg #[.slice aa la ca]) m K) (hb : NatIs w (.agg #[.slice ab lb cb]) n K') :
    Calls Tryz.prog 156 #[.agg #[.slice aa la ca], .agg #[.slice ab lb cb]] w fun e w' => ∃ ao l c, e = .returned (.tuple #[.agg #[.slice ao l c], .int .i64 (subE m n)]) ∧ NatIs w' (.agg #[.slice ao l c]) (m - n) K ∧ Below w.heap.size w w' := by
  by_cases h : m < n
  · refine (sub_below w aa ab la ca lb cb m n K K' ha hb h).mono ?_
    rintro e w' ⟨rfl, hw⟩
    exact ⟨none, 0, 0, by simp [subE, h], ⟨_, [], rfl, World.ownsRow_nil w' _ _ _, by intro j; simp [lg], fun h => by simp at h, by simp [val, pv]; omega, by simp⟩, hw⟩
  · refine (sub_any w _ _ m n K K' hK hK' ha hb (by omega)).mono ?_
    rintro e w' ⟨v, rfl, nv, hw⟩
    obtain ⟨ao, l, c, rfl⟩ := nv.form
    exact ⟨ao, l, c, by simp [subE, h], nv, hw⟩
end Go.Proofs.YtcdkoadobdgbhaaGreatDoor
/- Mul: the product of two numbers. -/
namespace Go.Proofs.YtcdkoadobdgbhaaGreatDoor
open Go.RowKit
set_option linter.unusedVariables false
set_option maxRecDepth 100000
set_option linter.unusedSimpArgs false
attribute [local go_sem ↓] Go.wp_at_zero Go.wp_at_succ

theorem mul_next (A B S P' : List Nat) (k n : Nat) (m1 : P'.length = n) (m2 : Bd P') (m3 : ∀ j, k + B.length < j → lg P' j = lg S j) (m4 : pv P' (k + B.length + 1) = pv S (k + B.length) + lg A k * val B * 4294967296 ^ k)
    (h : S.length = n ∧ Bd S ∧ (∀ j, k + B.length ≤ j → lg S j = 0) ∧ pv S (k + B.length) = pv A k * val B) :
    P'.length = n ∧ Bd P' ∧ (∀ j, k + 1 + B.length ≤ j → lg P' j = 0) ∧ pv P' (k + 1 + B.length) = pv A (k + 1) * val B := by
  obtain ⟨h1, h2, h3, h4⟩ := h
  refine ⟨m1, m2, fun j hj => by rw [m3 j (by omega)]; exact h3 j (by omega), ?_⟩
  rw [show k + 1 + B.length = k + B.length + 1 by omega, m4, h4, pv, Nat.add_mul]
  rw [Nat.mul_right_comm (lg A k)]
theorem mul_keep {W X : World} {p q r k g : Nat} {a b c : Value} (hp : W.cell? ⟨p, 0, none⟩ = some a) (hq : W.cell? ⟨q, 0, none⟩ = some b) (hr : W.cell? ⟨r, k, none⟩ = some c) (h : W.drew.grownBy X (some g)) (n1 : p ≠ g) (n2 : q ≠ g) (n3 : r ≠ g) :
    X.cell? ⟨p, 0, none⟩ = some a ∧ X.cell? ⟨q, 0, none⟩ = some b ∧ X.cell? ⟨r, k, none⟩ = some c :=
  ⟨h.cell hp (by simp; exact n1), h.cell hq (by simp; exact n2), h.cell hr (by simp; exact n3)⟩
set_option maxHeartbeats 1000000 in
theorem mul_walk (w : World) (aa ab : Option Addr) (na ca nb cb n : Nat) (A B : List Nat) (hA : Bd A) (hB : Bd B) (hna : na ≤ 1000000000) (hnb : nb ≤ 1000000000) (hn : na + nb = n) (hAl : A.length = na) (hBl : B.length = nb)
    (oa : Limbs w (.slice aa na ca) A) (ob : Limbs w (.slice ab nb cb) B) :
    Calls Tryz.prog 180 #[.agg #[.slice aa na ca], .agg #[.slice ab nb cb]] w fun e w' => ∃ v, e = .returned v ∧ NatIs w' v (val A * val B) n ∧ Below w.heap.size w w' := by
  obtain ⟨i0, hi, hz0, hz1, hz2⟩ := info_parts Tryz.info213
  have HN : Hid (na + nb = n ∧ A.length = na ∧ B.length = nb) := ⟨hn, hAl, hBl⟩
  have hn' : n ≤ 2000000000 := by omega
  have hn1 : na ≤ n := by omega
  clear hn hAl hBl
  go_enter Tryz.func180, Tryz.ntmps180
  go_wp2_with (first | (at_make; refine wpList_make_full _ rfl _ _ 67 rfl (w.heap.size + 1 + 1 + 1) 213 i0 (.int .u32 0) 1 Tryz.underlying67 hi hz0 hz1 _ _ _ _ n rfl rfl (by have := HN.out.1; omega) (by have := HN.out.1; omega) (by rw [hz2]; omega) (by unfold maxLen; omega) (by simp) ?_))
  intro w1 hown hgrow
  have hb1 : Below (w.heap.size + 1 + 1 + 1) (((w.alloc (Obj.cells #[Value.slice aa na ca] 69)).alloc (Obj.cells #[Value.slice ab nb cb] 69)).alloc (Obj.cells #[Value.slice none 0 0] 69)) w1 := by
      have := (Below.refl (w.heap.size + 1 + 1 + 1) _).grown hgrow (by simp) (by intro k hk; simp at hk)
      exact this
  rw [toList_madeCells_one, ← u32s_rep] at hown
  have hWx : (((w.alloc (Obj.cells #[Value.slice aa na ca] 69)).alloc (Obj.cells #[Value.slice ab nb cb] 69)).alloc (Obj.cells #[Value.slice none 0 0] 69)).cell? ⟨w.heap.size, 0, none⟩ = some (.slice aa na ca) := by simp [go_sem]
  have hWy : (((w.alloc (Obj.cells #[Value.slice aa na ca] 69)).alloc (Obj.cells #[Value.slice ab nb cb] 69)).alloc (Obj.cells #[Value.slice none 0 0] 69)).cell? ⟨w.heap.size + 1, 0, none⟩ = some (.slice ab nb cb) := by simp [go_sem]
  have hWz : (((w.alloc (Obj.cells #[Value.slice aa na ca] 69)).alloc (Obj.cells #[Value.slice ab nb cb] 69)).alloc (Obj.cells #[Value.slice none 0 0] 69)).cell? ⟨w.heap.size + 1 + 1, 0, none⟩ = some (.slice none 0 0) := by simp [go_sem]
  have hWf : (((w.alloc (Obj.cells #[Value.slice aa na ca] 69)).alloc (Obj.cells #[Value.slice ab nb cb] 69)).alloc (Obj.cells #[Value.slice none 0 0] 69)).frozen? ⟨w.heap.size + 1 + 1, 0, none⟩ = false := by simp [go_sem]
  have hWb : Below w.heap.size w (((w.alloc (Obj.cells #[Value.slice aa na ca] 69)).alloc (Obj.cells #[Value.slice ab nb cb] 69)).alloc (Obj.cells #[Value.slice none 0 0] 69)) := (((Below.refl _ _).alloc (Nat.le_refl _) _).alloc (by simp) _).alloc (by simp; omega) _
  have hWs : (((w.alloc (Obj.cells #[Value.slice aa na ca] 69)).alloc (Obj.cells #[Value.slice ab nb cb] 69)).alloc (Obj.cells #[Value.slice none 0 0] 69)).heap.size = w.heap.size + 1 + 1 + 1 := by simp
  clear hgrow
  generalize ((w.alloc (Obj.cells #[Value.slice aa na ca] 69)).alloc (Obj.cells #[Value.slice ab nb cb] 69)).alloc (Obj.cells #[Value.slice none 0 0] 69) = W at *
  have hWt : w.heap.size + 1 + 1 + 1 ≤ W.heap.size := by omega
  clear hWs
  have e1 : w1.cell? ⟨w.heap.size, 0, none⟩ = some (.slice aa na ca) := (hb1.cell (by show w.heap.size < _; omega)).trans hWx
  have e2 : w1.cell? ⟨w.heap.size + 1, 0, none⟩ = some (.slice ab nb cb) := (hb1.cell (by show w.heap.size + 1 < _; omega)).trans hWy
  go_wp2
  go_loopw [18] (fun i wr => ∃ (k : Nat) (S : List Nat), k ≤ na ∧ i = .int .i64 k ∧ S.length = n ∧ Bd S ∧ (∀ j, k + B.length ≤ j → lg S j = 0) ∧ pv S (k + B.length) = pv A k * val B ∧
        wr.ownsRow (w.heap.size + 1 + 1 + 1) 213 1 (.slice (some ⟨w.heap.size + 1 + 1 + 1, 0, none⟩) n n) n (u32s S) ∧ Below (w.heap.size + 1 + 1 + 1) W wr) (fun i _ => na - (intOf i).toNat)
  case atStart => exact ⟨0, List.replicate n 0, Nat.zero_le _, rfl, by simp, Bd_rep _, fun j _ => lg_rep _ _, by simp [pv, pv_zero (fun j _ => lg_rep n j)], hown, hb1⟩
  case round =>
    clear e1 e2
    obtain ⟨k, S, hk, rfl, hS, hSb, hSz, hpv, hown', hbel⟩ := hrel
    have R : Hid (S.length = n ∧ Bd S ∧ (∀ j, k + B.length ≤ j → lg S j = 0) ∧ pv S (k + B.length) = pv A k * val B) := ⟨hS, hSb, hSz, hpv⟩
    clear hS hSb hSz hpv hown hb1
    have hbw : Below w.heap.size w wr := hWb.trans (hbel.mono (by omega))
    have e1 : wr.cell? ⟨w.heap.size, 0, none⟩ = some (.slice aa na ca) := (hbel.cell (by show w.heap.size < _; omega)).trans hWx
    have e2 : wr.cell? ⟨w.heap.size + 1, 0, none⟩ = some (.slice ab nb cb) := (hbel.cell (by show w.heap.size + 1 < _; omega)).trans hWy
    by_cases hlt : k < na
    · rcases oa.form with ⟨h0, _⟩ | ⟨ga, ca', hv, g1, g2, g3⟩
      · simp at h0; omega
      simp only [Value.slice.injEq] at hv
      obtain ⟨rfl, hh, rfl⟩ := hv
      rw [← hh] at g1
      clear hh
      have e3 := u32s_at (L := A) (by have := oa.below hbw; unfold Limbs at this; rw [HN.out.2.1] at this; exact this) k (by have := HN.out.2.1; omega)
      have hkn : (k : Int) ≤ (n : Int) := by omega
      have hkn' : ¬ n = k := by omega
      have hnb' : k + B.length < n := by have := HN.out; omega
      have hbn : (Value.slice ab nb cb).ownBlock ≠ some (w.heap.size + 1 + 1 + 1) := by
        intro h
        have := (World.ownsRow.lt ob _ h).2
        omega
      have HS := hid (And.intro hnb' hbn)
      clear hnb' hbn
      go_wp2
      go_region_held3 (fun w' => w'.cell? ⟨w.heap.size, 0, none⟩ = some (.slice (some ⟨ga, 0, none⟩) na ca) ∧ w'.cell? ⟨w.heap.size + 1, 0, none⟩ = some (.slice ab nb cb) ∧ w'.cell? ⟨ga, k, none⟩ = some (.int .u32 (lg A k : Int))) 
          ((first | exact K5 | go_keep))
          (first | (go_at_call 200; refine (times_any _ (w.heap.size + 1 + 1 + 1) (w.heap.size + 1 + 1 + 1) n n k (n - k) (n - k) (lg A k) _ S B R.out.2.1 hB R.out.1 (hA k) (by omega) (Nat.le_refl _) (by omega) HS.out.1 (R.out.2.2.1 _ (Nat.le_refl _)) HS.out.2 hown'.drew (ob.below hbw.drew)).mono ?_; rintro e w5 ⟨rfl, ⟨P', m1, m2, m3, m4, m5⟩, hgr5⟩; have K5 := mul_keep e1 e2 e3 hgr5 (by omega) (by omega) (by omega)))
      have HM := hid (mul_next A B S P' k n m1 m2 m3 m4 R.out)
      have hbel5 := hbel.drew.grown hgr5 (by have := hbel.size; show _ ≤ wr.heap.size; omega) (by intro q hq; simp at hq; omega)
      clear m1 m2 m3 m4 hgr5
      go_wp2
      go_roundw
      case rel => exact ⟨k + 1, P', by omega, by go_num, HM.out.1, HM.out.2.1, HM.out.2.2.1, HM.out.2.2.2, m5, hbel5⟩
      case measure => simp [intOf]; omega
    · have hk' : k = na := by omega
      have hZ := (hbel.cell (p := ⟨w.heap.size + 1 + 1, 0, none⟩) (by show w.heap.size + 1 + 1 < _; omega)).trans hWz
      have hF := (hbel.frozen (p := ⟨w.heap.size + 1 + 1, 0, none⟩) (by show w.heap.size + 1 + 1 < _; omega)).trans hWf
      have HK := hid hk'
      clear hk'
      go_wp2_with fail
      refine (trim_base wr (w.heap.size + 1 + 1 + 1) _ S R.out.2.1 ?_).mono ?_
      · rw [R.out.1]; exact hown'
      clear hown'
      rintro e w' ⟨⟨v', M, rfl, hM, bM, tM, vM, lM⟩, rfl⟩
      obtain ⟨ao, cp, hv⟩ := Limbs.slice (ownsRow_base0 hM)
      rw [hv]
      rw [hv] at hM
      clear hv
      have HV := hid vM
      clear vM
      have hM2 := ownsRow_setCell_below hM (a := ⟨w.heap.size + 1 + 1, 0, none⟩) (by show w.heap.size + 1 + 1 < _; omega) (.slice ao M.length cp)
      clear hM
      have hB2 := hbw.setCell (p := ⟨w.heap.size + 1 + 1, 0, none⟩) (by show w.heap.size ≤ w.heap.size + 1 + 1; omega) (.slice ao M.length cp)
      go_wp2
      refine bodyPost_ret (v := .agg #[.slice ao M.length cp]) (by simp [results, Tryz.results180, go_sem, hZ, hF]) rfl ⟨_, rfl, ⟨_, M, rfl, ownsRow_base0 hM2, bM, tM, ?_, ?_⟩, hB2⟩
      · rw [HV.out]
        obtain ⟨r1, _, r3, r4⟩ := R.out
        obtain ⟨q1, q2, q3⟩ := HN.out
        rw [HK.out, pv_val A na (by omega), pv_val S (na + B.length) (by omega)] at r4
        exact r4
      · have := R.out.1; omega
/-- Mul: the product. -/
theorem mul_any (w : World) (a b : Value) (m n K K' : Nat) (hK : K ≤ 1000000000) (hK' : K' ≤ 1000000000) (ha : NatIs w a m K) (hb : NatIs w b n K') :
    Calls Tryz.prog 180 #[a, b] w fun e w' => ∃ v, e = .returned v ∧ NatIs w' v (m * n) (K + K') ∧ Below w.heap.size w w' := by
  obtain ⟨sa, A, rfl, oa, bA, tA, rfl, lA⟩ := ha
  obtain ⟨sb, B, rfl, ob, bB, tB, rfl, lB⟩ := hb
  obtain ⟨aa, ca, rfl⟩ := oa.slice
  obtain ⟨ab, cb, rfl⟩ := ob.slice
  refine (mul_walk w aa ab A.length ca B.length cb (A.length + B.length) A B bA bB (by omega) (by omega) rfl rfl rfl oa ob).mono ?_
  rintro e w' ⟨v, rfl, hv, hw⟩
  exact ⟨v, rfl, hv.mono (by omega), hw⟩
end Go.Proofs.YtcdkoadobdgbhaaGreatDoor
/- The document's digit and Add. -/
namespace Go.Proofs.YtcdkoadobdgbhaaGreatDoor
open Go.RowKit
set_option linter.unusedVariables false
set_option maxRecDepth 100000
set_option linter.unusedSimpArgs false
attribute [local go_sem ↓] Go.wp_at_zero Go.wp_at_succ

/-- The document's digit: nought behind the end. -/
theorem rdigit_any (w : World) (v : Value) (L : List Nat) (hb : R.Bd L) (h : w.ownsRow 0 3 1 v L.length (i64s L)) (i : Nat) :
    Calls Tryz.prog 187 #[v, .int .i64 i] w fun e w' => e = .returned (.int .i64 (lg L i : Int)) ∧ w' = w := by
  have hlt := hb i
  rcases h.2 with ⟨h1, h2⟩ | ⟨g, cap, cur, rfl, _, hh, r1, r2, _⟩
  · have hL : L = [] := by simpa using h2
    subst hL
    have e : lg [] i = 0 := by simp [lg]
    rw [e, h1]
    go_enter Tryz.func187, Tryz.ntmps187
    go_wp2
    go_ret
    exact ⟨by simp, rfl⟩
  · unfold maxLen at r2
    by_cases hlt' : i < L.length
    · have hc := i64s_at (L := L) h i hlt'
      go_enter Tryz.func187, Tryz.ntmps187
      go_wp2
      go_ret
      exact ⟨by simp, rfl⟩
    · have e : lg L i = 0 := lg_past L i (by omega)
      rw [e]
      go_enter Tryz.func187, Tryz.ntmps187
      go_wp2
      go_ret
      exact ⟨by simp, rfl⟩
theorem R.Bd_app {D : List Nat} (h : R.Bd D) (x : Nat) (hx : x < 1000000000) : R.Bd (D ++ [x]) := by
  intro j
  rcases Nat.lt_trichotomy j D.length with e | e | e
  · rw [lg_append_old D _ j e]; exact h j
  · subst e; rw [lg_append_new]; omega
  · rw [lg_past _ j (by simp; omega)]; omega
theorem R.pv_app (D : List Nat) (x : Nat) : R.pv (D ++ [x]) (D ++ [x]).length = R.pv D D.length + x * 1000000000 ^ D.length := by
  rw [List.length_append, List.length_singleton]
  simp only [R.pv]
  rw [R.pv_congr (M := D) (fun j hj => lg_append_old D _ j hj), lg_append_new]
def RAddRel (A B D : List Nat) (d : Nat) : Prop := R.Bd D ∧ R.pv D D.length + d * 1000000000 ^ D.length = R.pv A D.length + R.pv B D.length
theorem RAddRel.step {A B D : List Nat} {d : Nat} (h : RAddRel A B D d) : RAddRel A B (D ++ [(lg A D.length + lg B D.length + d) % 1000000000]) ((lg A D.length + lg B D.length + d) / 1000000000) := by
  obtain ⟨h1, h2⟩ := h
  refine ⟨R.Bd_app h1 _ (by omega), ?_⟩
  rw [R.pv_app, List.length_append, List.length_singleton]
  simp only [R.pv, Nat.pow_succ]
  generalize 1000000000 ^ D.length = p at *
  have hd := Nat.div_add_mod (lg A D.length + lg B D.length + d) 1000000000
  generalize (lg A D.length + lg B D.length + d) % 1000000000 = r at *
  generalize (lg A D.length + lg B D.length + d) / 1000000000 = q at *
  have h3 : (1000000000 * q + r) * p = (lg A D.length + lg B D.length + d) * p := by rw [hd]
  rw [Nat.add_mul, Nat.add_mul, Nat.add_mul] at h3
  have h4 : q * (p * 1000000000) = 1000000000 * q * p := by rw [Nat.mul_comm p, ← Nat.mul_assoc, Nat.mul_comm q]
  rw [h4]
  omega
theorem RAddRel.done {A B D : List Nat} {d : Nat} (h : RAddRel A B D d) (hd : d < 1000000000) (ha : A.length ≤ D.length) (hb : B.length ≤ D.length) : R.Bd (D ++ [d]) ∧ R.val (D ++ [d]) = R.val A + R.val B := by
  obtain ⟨h1, h2⟩ := h
  refine ⟨R.Bd_app h1 d hd, ?_⟩
  unfold R.val
  rw [R.pv_app, h2, R.pv_val A _ ha, R.pv_val B _ hb]; rfl
theorem i64s_app (D : List Nat) (x : Nat) : i64s (D ++ [x]) = i64s D ++ [.int .i64 (x : Int)] := by simp [i64s]
theorem w64i (x : Int) (h0 : -9223372036854775808 ≤ x) (h1 : x ≤ 9223372036854775807) : IntKind.i64.wrap x = x := by
  simp [IntKind.wrap, IntKind.bits, IntKind.signed]; omega
set_option maxHeartbeats 2000000 in
theorem radd_walk (w : World) (aa ab : Option Addr) (na ca nb cb n : Nat) (A B : List Nat) (hA : R.Bd A) (hB : R.Bd B) (hna : na ≤ 1000000000) (hnb : nb ≤ 1000000000) (hn : max na nb = n) (hAl : A.length = na) (hBl : B.length = nb)
    (oa : w.ownsRow 0 3 1 (.slice aa na ca) na (i64s A)) (ob : w.ownsRow 0 3 1 (.slice ab nb cb) nb (i64s B)) :
    Calls Tryz.prog 160 #[.agg #[.slice aa na ca], .agg #[.slice ab nb cb]] w fun e w' => ∃ v, e = .returned v ∧ RefIs w' v (R.val A + R.val B) (n + 1) ∧ Below w.heap.size w w' := by
  obtain ⟨i0, hi, hz0, hz1, hz2⟩ := info_parts Tryz.info3
  have HN : Hid (max na nb = n ∧ A.length = na ∧ B.length = nb) := ⟨hn, hAl, hBl⟩
  have hn' : n ≤ 1000000000 := by omega
  have hna' : na ≤ n := by omega
  have hnb' : nb ≤ n := by omega
  have OA := hid (show w.ownsRow 0 3 1 (.slice aa na ca) A.length (i64s A) by rw [hAl]; exact oa)
  have OB := hid (show w.ownsRow 0 3 1 (.slice ab nb cb) B.length (i64s B) by rw [hBl]; exact ob)
  clear hn hAl hBl oa ob
  have hown0 : ((((w.alloc (Obj.cells #[Value.slice aa na ca] 31)).alloc (Obj.cells #[Value.slice ab nb cb] 31)).alloc (Obj.cells #[Value.slice none 0 0] 31)).alloc (Obj.cells #[] 3)).ownsRow (w.heap.size + 1 + 1 + 1) 3 1 (.slice (some ⟨w.heap.size + 1 + 1 + 1, 0, none⟩) 0 0) 0 (i64s []) := by
    have := World.ownsRow_made (base := w.heap.size + 1 + 1 + 1) (e := 3) (size := 1) (((w.alloc (Obj.cells #[Value.slice aa na ca] 31)).alloc (Obj.cells #[Value.slice ab nb cb] 31)).alloc (Obj.cells #[Value.slice none 0 0] 31)) #[] 0 (by simp) (by unfold maxLen; omega) (by simp)
    simpa [i64s] using this
  go_enter Tryz.func160, Tryz.ntmps160
  go_wp2
  have x1 : (((w.alloc (Obj.cells #[Value.slice aa na ca] 31)).alloc (Obj.cells #[Value.slice ab nb cb] 31)).alloc (Obj.cells #[Value.slice none 0 0] 31)).heap[w.heap.size]? = some (Obj.cells #[Value.slice aa na ca] 31) := box_alloc (box_alloc (box_new _ _) _) _
  have x2 : (((w.alloc (Obj.cells #[Value.slice aa na ca] 31)).alloc (Obj.cells #[Value.slice ab nb cb] 31)).alloc (Obj.cells #[Value.slice none 0 0] 31)).heap[w.heap.size + 1]? = some (Obj.cells #[Value.slice ab nb cb] 31) := box_alloc (by have := box_new (w.alloc (Obj.cells #[Value.slice aa na ca] 31)) (Obj.cells #[Value.slice ab nb cb] 31); simpa using this) _
  have x3 : (((w.alloc (Obj.cells #[Value.slice aa na ca] 31)).alloc (Obj.cells #[Value.slice ab nb cb] 31)).alloc (Obj.cells #[Value.slice none 0 0] 31)).heap[w.heap.size + 1 + 1]? = some (Obj.cells #[Value.slice none 0 0] 31) := by
    have := box_new ((w.alloc (Obj.cells #[Value.slice aa na ca] 31)).alloc (Obj.cells #[Value.slice ab nb cb] 31)) (Obj.cells #[Value.slice none 0 0] 31); simpa using this
  have hWb : Below w.heap.size w (((w.alloc (Obj.cells #[Value.slice aa na ca] 31)).alloc (Obj.cells #[Value.slice ab nb cb] 31)).alloc (Obj.cells #[Value.slice none 0 0] 31)) := below_alloc' (below_alloc' (below_alloc' (Below.refl _ _) (Nat.le_refl _) _) (Nat.le_refl _) _) (Nat.le_refl _) _
  have hWs : (((w.alloc (Obj.cells #[Value.slice aa na ca] 31)).alloc (Obj.cells #[Value.slice ab nb cb] 31)).alloc (Obj.cells #[Value.slice none 0 0] 31)).heap.size = w.heap.size + 1 + 1 + 1 := by simp
  have hb1 : Below (w.heap.size + 1 + 1 + 1) (((w.alloc (Obj.cells #[Value.slice aa na ca] 31)).alloc (Obj.cells #[Value.slice ab nb cb] 31)).alloc (Obj.cells #[Value.slice none 0 0] 31)) ((((w.alloc (Obj.cells #[Value.slice aa na ca] 31)).alloc (Obj.cells #[Value.slice ab nb cb] 31)).alloc (Obj.cells #[Value.slice none 0 0] 31)).alloc (Obj.cells #[] 3)) := below_alloc' (Below.refl _ _) (by omega) _
  generalize ((w.alloc (Obj.cells #[Value.slice aa na ca] 31)).alloc (Obj.cells #[Value.slice ab nb cb] 31)).alloc (Obj.cells #[Value.slice none 0 0] 31) = W at *
  have hWt : w.heap.size + 1 + 1 + 1 ≤ W.heap.size := by omega
  clear hWs
  go_loopw [5, 6, 7] (fun v c i wr => ∃ (d : Nat) (D : List Nat), D.length ≤ n ∧ i = .int .i64 (D.length : Nat) ∧ c = .int .i64 d ∧ d ≤ 1 ∧ RAddRel A B D d ∧ wr.ownsRow (w.heap.size + 1 + 1 + 1) 3 1 v D.length (i64s D) ∧ Below (w.heap.size + 1 + 1 + 1) W wr) (fun _ _ i _ => n - (intOf i).toNat)
  case atStart => exact ⟨0, [], by simp, rfl, rfl, by omega, ⟨by intro j; simp [lg], by simp [R.pv]⟩, hown0, hb1⟩
  case round =>
    obtain ⟨d, D, hk, rfl, rfl, hd, hR, hown, hbel⟩ := hrel
    have HR := hid hR
    clear hR hown0 hb1
    have hbw : Below w.heap.size w wr := hWb.trans (hbel.mono (by omega))
    have j1 := box_below hbel x1 (by omega)
    have j2 := box_below hbel x2 (by omega)
    have j3 := box_below hbel x3 (by omega)
    have e1 := cell_of_one j1
    have e2 := cell_of_one j2
    obtain ⟨k, hkD⟩ : ∃ k, k = D.length := ⟨_, rfl⟩
    have HK := hid hkD
    rw [← hkD] at hk hown ⊢
    clear hkD j1 j2
    by_cases hlt : k < n
    · have hor : k < na ∨ (¬ k < na ∧ k < nb) := by have := HN.out.1; omega
      have hA9 := hA k
      have hB9 := hB k
      have HS := hid (show RAddRel A B (D ++ [(lg A k + lg B k + d) % 1000000000]) ((lg A k + lg B k + d) / 1000000000) from by rw [HK.out]; exact HR.out.step)
      rcases hor with h1 | ⟨h1, h2⟩
      all_goals
        go_wp2
        go_region_held3 (fun w' => w'.cell? ⟨w.heap.size, 0, none⟩ = some (.slice aa na ca) ∧ w'.cell? ⟨w.heap.size + 1, 0, none⟩ = some (.slice ab nb cb)) ((first | go_keep))
          (first | (go_at_call_of 187 (Value.slice aa na ca); refine (rdigit_any _ _ A hA (ownsRow_below OA.out hbw.drew) k).mono ?_; rintro e w' ⟨rfl, rfl⟩) | (go_at_call_of 187 (Value.slice ab nb cb); refine (rdigit_any _ _ B hB (ownsRow_below OB.out hbw.drew) k).mono ?_; rintro e w' ⟨rfl, rfl⟩))
        have eT : IntKind.i64.wrap (IntKind.i64.wrap (↑d + ↑(lg A k)) + ↑(lg B k)) = ((lg A k + lg B k + d : Nat) : Int) := by
          rw [w64i ((d : Int) + (lg A k : Int)) (by omega) (by omega), w64i _ (by omega) (by omega)]; omega
        have hT2 : lg A k + lg B k + d < 2000000000 := by omega
        rw [eT]
        clear eT
        generalize lg A k + lg B k + d = T at *
        have hown2 := hown.drew
        have hbel2 := hbel.drew
        generalize wr.drew = w2 at *
        clear hown hbel hbw e1 e2 j3
        go_wp2_with (at_builtin; refine wpList_append_own _ rfl _ _ 29 rfl (w.heap.size + 1 + 1 + 1) 3 i0 (.int .i64 0) 1 8 Tryz.underlying29 hi hz0 hz1 hz2 rfl (by decide) _ _ _ rfl (hown2.alloc _) ⟨w2.heap.size, 0, none⟩ 1 1 [.int .i64 ((T : Int) % 1000000000)] rfl rfl (by intro j u hu; match j, hu with | 0, hu => simp at hu; subst hu; simp [Addr.add]) (by intro u hu; simp at hu; subst hu; rfl) (by unfold maxLen; omega) (by omega) (by have := hbel2.size; simp; omega) ?_)
        intro v' w1 hown3 hgrow hnil
        have hb3 : Below (w.heap.size + 1 + 1 + 1) W w1 := (below_alloc' hbel2 hWt _).grown hgrow (by have := hbel2.size; simp; omega) (fun q hq => (hown2.lt q hq).1)
        have hown4 : w1.ownsRow (w.heap.size + 1 + 1 + 1) 3 1 v' (D ++ [T % 1000000000]).length (i64s (D ++ [T % 1000000000])) := by
          rw [i64s_app, List.length_append, List.length_singleton, ← HK.out]; simpa using hown3
        have HO := hid hown4
        have hq2 : T / 1000000000 ≤ 1 := by omega
        have HL := hid (show (D ++ [T % 1000000000]).length = k + 1 from by rw [List.length_append, List.length_singleton, ← HK.out])
        clear hown3 hown4 hgrow hnil hown2 hbel2
        go_wp2
        go_roundw
        case rel => exact ⟨T / 1000000000, D ++ [T % 1000000000], by have := HL.out; omega, by rw [HL.out]; go_num, by go_num, hq2, HS.out, HO.out, hb3⟩
        case measure => simp [intOf]; omega
    · have hkn : k = n := by omega
      have h1 : ¬ k < na := by omega
      have h2 : ¬ k < nb := by omega
      have HF := hid (HR.out.done (by omega) (by have := HN.out; have := HK.out; omega) (by have := HN.out; have := HK.out; omega))
      have HL := hid (show (D ++ [d]).length = n + 1 from by rw [List.length_append, List.length_singleton, ← HK.out, hkn])
      clear hkn
      go_wp2_with (at_builtin; refine wpList_append_own _ rfl _ _ 29 rfl (w.heap.size + 1 + 1 + 1) 3 i0 (.int .i64 0) 1 8 Tryz.underlying29 hi hz0 hz1 hz2 rfl (by decide) _ _ _ rfl (hown.alloc _) ⟨wr.heap.size, 0, none⟩ 1 1 [.int .i64 (d : Int)] rfl rfl (by intro j u hu; match j, hu with | 0, hu => simp at hu; subst hu; simp [Addr.add]) (by intro u hu; simp at hu; subst hu; rfl) (by unfold maxLen; omega) (by omega) (by have := hbel.size; simp; omega) ?_)
      intro v' w1 hown3 hgrow hnil
      have hb3 : Below (w.heap.size + 1 + 1 + 1) W w1 := (below_alloc' hbel hWt _).grown hgrow (by have := hbel.size; simp; omega) (fun q hq => (hown.lt q hq).1)
      have hown4 : w1.ownsRow (w.heap.size + 1 + 1 + 1) 3 1 v' (D ++ [d]).length (i64s (D ++ [d])) := by
        rw [i64s_app, List.length_append, List.length_singleton, ← HK.out]; simpa using hown3
      clear hown3 hgrow hnil hown hbel e1 e2 j3 hbw
      obtain ⟨g, cap, hv⟩ : ∃ g cap, v' = .slice (some ⟨g, 0, none⟩) (D ++ [d]).length cap := by
        rcases hown4.2 with ⟨h0, h0'⟩ | ⟨g, cap, cur, hv, _⟩
        · have := HL.out; simp at h0'
        · exact ⟨g, cap, hv⟩
      rw [hv] at hown4 ⊢
      clear hv
      clear HR HK
      generalize D ++ [d] = E at *
      go_wp2_with fail
      refine (rtrim_base w1 (w.heap.size + 1 + 1 + 1) g cap E HF.out.1 hown4).mono ?_
      rintro e w3 ⟨⟨sl, M, rfl, hM, bM, tM, vM, lM⟩, hb4⟩
      have hx3 := box_below (hb3.trans (hb4.mono (by have := hb3.size; omega))) x3 (by omega)
      have hbw : Below w.heap.size w w3 := hWb.trans ((hb3.trans (hb4.mono (by have := hb3.size; omega))).mono (by omega))
      obtain ⟨ao, cp, hv⟩ := ints_slice hM
      rw [hv] at hM ⊢
      have cz := cell_of_one hx3
      have fz := free_of_one hx3
      have hM2 := own_box (ownsRow_base0 hM) hx3 (by decide) (.slice ao M.length cp)
      have hB2 := hbw.setCell (p := ⟨w.heap.size + 1 + 1, 0, none⟩) (by show w.heap.size ≤ w.heap.size + 1 + 1; omega) (.slice ao M.length cp)
      have hr := cell_of_one (one_setCell (u := .slice ao M.length cp) hx3)
      have HRr := hid hr
      have HV := hid (show R.val M = R.val A + R.val B ∧ M.length ≤ n + 1 from ⟨vM.trans HF.out.2, by have := HL.out; omega⟩)
      clear hv hM hx3 hr vM lM hb3 hb4 hown4
      go_wp2
      exact bodyPost_ret (v := .agg #[.slice ao M.length cp]) (by simp [results, Tryz.results160, go_sem, HRr.out]) rfl ⟨_, rfl, ⟨_, M, rfl, hM2, bM, tM, HV.out.1, HV.out.2⟩, hB2⟩
/-- The document's Add: the sum. -/
theorem radd_any (w : World) (a b : Value) (m n K K' : Nat) (hK : K ≤ 1000000000) (hK' : K' ≤ 1000000000) (ha : RefIs w a m K) (hb : RefIs w b n K') :
    Calls Tryz.prog 160 #[a, b] w fun e w' => ∃ v, e = .returned v ∧ RefIs w' v (m + n) (max K K' + 1) ∧ Below w.heap.size w w' := by
  obtain ⟨sa, A, rfl, oa, bA, tA, rfl, lA⟩ := ha
  obtain ⟨sb, B, rfl, ob, bB, tB, rfl, lB⟩ := hb
  obtain ⟨aa, ca, rfl⟩ := ints_slice oa
  obtain ⟨ab, cb, rfl⟩ := ints_slice ob
  refine (radd_walk w aa ab A.length ca B.length cb (max A.length B.length) A B bA bB (by omega) (by omega) rfl rfl rfl oa ob).mono ?_
  rintro e w' ⟨v, rfl, hv, hw⟩
  exact ⟨v, rfl, hv.mono (by omega), hw⟩
end Go.Proofs.YtcdkoadobdgbhaaGreatDoor
/- The document's Cmp. -/
namespace Go.Proofs.YtcdkoadobdgbhaaGreatDoor
open Go.RowKit
set_option linter.unusedVariables false
set_option maxRecDepth 100000
set_option linter.unusedSimpArgs false
attribute [local go_sem ↓] Go.wp_at_zero Go.wp_at_succ

theorem rcmp_all {A B : List Nat} (h : ∀ j, lg A j = lg B j) : R.val A = R.val B := by
  rw [← R.pv_val A (max A.length B.length) (by omega), ← R.pv_val B (max A.length B.length) (by omega)]
  exact R.pv_congr fun j _ => h j
theorem rcmp_below {A B : List Nat} {q n : Nat} (hA : R.Bd A) (hq : q + 1 ≤ n) (he : ∀ j, q + 1 ≤ j → lg A j = lg B j) (h : lg A q < lg B q) : R.val A < R.val B := by
  rw [← R.pv_val A (max n (max A.length B.length)) (by omega), ← R.pv_val B (max n (max A.length B.length)) (by omega)]
  exact R.pv_lt_at hA q _ (by omega) (fun j h1 _ => he j (by omega)) h
set_option maxHeartbeats 2000000 in
theorem rcmp_walk (w : World) (aa ab : Option Addr) (na ca nb cb n : Nat) (A B : List Nat) (hA : R.Bd A) (hB : R.Bd B) (hna : na ≤ 1000000000) (hnb : nb ≤ 1000000000) (hn : max na nb = n) (hAl : A.length = na) (hBl : B.length = nb)
    (oa : w.ownsRow 0 3 1 (.slice aa na ca) na (i64s A)) (ob : w.ownsRow 0 3 1 (.slice ab nb cb) nb (i64s B)) :
    Calls Tryz.prog 161 #[.agg #[.slice aa na ca], .agg #[.slice ab nb cb]] w fun e w' => e = .returned (.int .i64 (cmpI (R.val A) (R.val B))) ∧ Below w.heap.size w w' := by
  have HN : Hid (max na nb = n ∧ A.length = na ∧ B.length = nb) := ⟨hn, hAl, hBl⟩
  have hn' : n ≤ 1000000000 := by omega
  have hna' : na ≤ n := by omega
  have hnb' : nb ≤ n := by omega
  have OA := hid (show w.ownsRow 0 3 1 (.slice aa na ca) A.length (i64s A) by rw [hAl]; exact oa)
  have OB := hid (show w.ownsRow 0 3 1 (.slice ab nb cb) B.length (i64s B) by rw [hBl]; exact ob)
  have hor : (na < nb ∧ nb = n) ∨ (¬ na < nb ∧ na = n) := by omega
  clear hn hAl hBl oa ob
  have x1 : ((w.alloc (Obj.cells #[Value.slice aa na ca] 31)).alloc (Obj.cells #[Value.slice ab nb cb] 31)).heap[w.heap.size]? = some (Obj.cells #[Value.slice aa na ca] 31) := box_alloc (box_new _ _) _
  have x2 : ((w.alloc (Obj.cells #[Value.slice aa na ca] 31)).alloc (Obj.cells #[Value.slice ab nb cb] 31)).heap[w.heap.size + 1]? = some (Obj.cells #[Value.slice ab nb cb] 31) := by
    have := box_new (w.alloc (Obj.cells #[Value.slice aa na ca] 31)) (Obj.cells #[Value.slice ab nb cb] 31); simpa using this
  have hWb : Below w.heap.size w ((w.alloc (Obj.cells #[Value.slice aa na ca] 31)).alloc (Obj.cells #[Value.slice ab nb cb] 31)) := below_alloc' (below_alloc' (Below.refl _ _) (Nat.le_refl _) _) (Nat.le_refl _) _
  have X := hid (And.intro x1 (And.intro x2 hWb))
  clear x1 x2 hWb
  rcases hor with ⟨hlt, he⟩ | ⟨hlt, he⟩
  all_goals
    have HHe := hid he
    clear he
    go_enter Tryz.func161, Tryz.ntmps161
    go_wp2
    clear hlt
    generalize (w.alloc (Obj.cells #[Value.slice aa na ca] 31)).alloc (Obj.cells #[Value.slice ab nb cb] 31) = W at *
    go_loopw [5] (fun i wr => ∃ k : Nat, k ≤ n ∧ i = .int .i64 ((k : Int) - 1) ∧ Below W.heap.size W wr ∧ (∀ j, k ≤ j → lg A j = lg B j)) (fun i _ => (intOf i + 1).toNat)
    case atStart => exact ⟨n, Nat.le_refl _, by first | rfl | (rw [← HHe.out]), Below.refl _ _, fun j hj => by rw [lg_past A j (by have := HN.out; omega), lg_past B j (by have := HN.out; omega)]⟩
    case round =>
      obtain ⟨k, hk, rfl, hbel, heq⟩ := hrel
      have HE := hid heq
      clear heq
      have hbw : Below w.heap.size w wr := chain2 X.out.2.2 hbel
      have e1 := cell_of_one (box_below hbel X.out.1 (lt_of_block X.out.1))
      have e2 := cell_of_one (box_below hbel X.out.2.1 (lt_of_block X.out.2.1))
      by_cases hk0 : 0 < k
      · obtain ⟨q, rfl⟩ : ∃ q, k = q + 1 := ⟨k - 1, by omega⟩
        have hq1 : ((q + 1 : Nat) : Int) - 1 = (q : Int) := by omega
        rw [hq1]
        have hA9 := hA q
        have hB9 := hB q
        have hbd := hbw.drew
        have hbdd := hbw.drew.drew
        have hbl := hbel.drew.drew
        rcases Nat.lt_trichotomy (lg A q) (lg B q) with hc | hc | hc
        · go_wp2
          go_region_held3 (fun w' => w'.cell? ⟨w.heap.size, 0, none⟩ = some (.slice aa na ca) ∧ w'.cell? ⟨w.heap.size + 1, 0, none⟩ = some (.slice ab nb cb)) ((first | go_keep))
            (first | (go_at_call_of 187 (Value.slice aa na ca); refine (rdigit_any _ _ A hA (ownsRow_below OA.out hbd) q).mono ?_; rintro e w' ⟨rfl, rfl⟩) | (go_at_call_of 187 (Value.slice ab nb cb); refine (rdigit_any _ _ B hB (ownsRow_below OB.out hbd) q).mono ?_; rintro e w' ⟨rfl, rfl⟩))
          go_wp2
          go_ret
          exact ⟨by rw [cmpI_lt (rcmp_below hA (Nat.le_refl (q + 1)) HE.out hc)]; rfl, hbd⟩
        · have HC := hid hc
          go_wp2
          go_region_held3 (fun w' => w'.cell? ⟨w.heap.size, 0, none⟩ = some (.slice aa na ca) ∧ w'.cell? ⟨w.heap.size + 1, 0, none⟩ = some (.slice ab nb cb)) ((first | go_keep))
            (first | (go_at_call_of 187 (Value.slice aa na ca); refine (rdigit_any _ _ A hA (ownsRow_below OA.out hbd) q).mono ?_; rintro e w' ⟨rfl, rfl⟩; rw [HC.out]) | (go_at_call_of 187 (Value.slice ab nb cb); refine (rdigit_any _ _ B hB (ownsRow_below OB.out hbd) q).mono ?_; rintro e w' ⟨rfl, rfl⟩))
          go_wp2
          go_region_held3 (fun w' => w'.cell? ⟨w.heap.size, 0, none⟩ = some (.slice aa na ca) ∧ w'.cell? ⟨w.heap.size + 1, 0, none⟩ = some (.slice ab nb cb)) ((first | go_keep))
            (first | (go_at_call_of 187 (Value.slice aa na ca); refine (rdigit_any _ _ A hA (ownsRow_below OA.out hbdd) q).mono ?_; rintro e w' ⟨rfl, rfl⟩; rw [HC.out]) | (go_at_call_of 187 (Value.slice ab nb cb); refine (rdigit_any _ _ B hB (ownsRow_below OB.out hbdd) q).mono ?_; rintro e w' ⟨rfl, rfl⟩))
          go_wp2
          go_roundw
          case rel => exact ⟨q, by omega, by go_num, hbl, fun j hj => by
            by_cases e : j = q
            · rw [e]; exact HC.out
            · exact HE.out j (by omega)⟩
          case measure => simp [intOf] <;> omega
        · have hc' : ¬ lg A q < lg B q := by omega
          go_wp2
          go_region_held3 (fun w' => w'.cell? ⟨w.heap.size, 0, none⟩ = some (.slice aa na ca) ∧ w'.cell? ⟨w.heap.size + 1, 0, none⟩ = some (.slice ab nb cb)) ((first | go_keep))
            (first | (go_at_call_of 187 (Value.slice aa na ca); refine (rdigit_any _ _ A hA (ownsRow_below OA.out hbd) q).mono ?_; rintro e w' ⟨rfl, rfl⟩) | (go_at_call_of 187 (Value.slice ab nb cb); refine (rdigit_any _ _ B hB (ownsRow_below OB.out hbd) q).mono ?_; rintro e w' ⟨rfl, rfl⟩))
          go_wp2
          go_region_held3 (fun w' => w'.cell? ⟨w.heap.size, 0, none⟩ = some (.slice aa na ca) ∧ w'.cell? ⟨w.heap.size + 1, 0, none⟩ = some (.slice ab nb cb)) ((first | go_keep))
            (first | (go_at_call_of 187 (Value.slice aa na ca); refine (rdigit_any _ _ A hA (ownsRow_below OA.out hbdd) q).mono ?_; rintro e w' ⟨rfl, rfl⟩) | (go_at_call_of 187 (Value.slice ab nb cb); refine (rdigit_any _ _ B hB (ownsRow_below OB.out hbdd) q).mono ?_; rintro e w' ⟨rfl, rfl⟩))
          go_wp2
          go_ret
          exact ⟨by rw [cmpI_gt (rcmp_below hB (Nat.le_refl (q + 1)) (fun j hj => (HE.out j hj).symm) hc)]; rfl, hbdd⟩
      · have hjm : ¬ ((0 : Int) ≤ (k : Int) - 1) := by omega
        go_wp2
        go_ret
        exact ⟨by rw [cmpI_eq (rcmp_all (fun j => HE.out j (by omega)))]; rfl, hbw⟩
/-- The document's Cmp: the order. -/
theorem rcmp_any (w : World) (a b : Value) (m n K K' : Nat) (hK : K ≤ 1000000000) (hK' : K' ≤ 1000000000) (ha : RefIs w a m K) (hb : RefIs w b n K') :
    Calls Tryz.prog 161 #[a, b] w fun e w' => e = .returned (.int .i64 (cmpI m n)) ∧ Below w.heap.size w w' := by
  obtain ⟨sa, A, rfl, oa, bA, tA, rfl, lA⟩ := ha
  obtain ⟨sb, B, rfl, ob, bB, tB, rfl, lB⟩ := hb
  obtain ⟨aa, ca, rfl⟩ := ints_slice oa
  obtain ⟨ab, cb, rfl⟩ := ints_slice ob
  exact rcmp_walk w aa ab A.length ca B.length cb (max A.length B.length) A B bA bB (by omega) (by omega) rfl rfl rfl oa ob
end Go.Proofs.YtcdkoadobdgbhaaGreatDoor
/- The document's Sub. -/
namespace Go.Proofs.YtcdkoadobdgbhaaGreatDoor
open Go.RowKit
set_option linter.unusedVariables false
set_option maxRecDepth 100000
set_option linter.unusedSimpArgs false
attribute [local go_sem ↓] Go.wp_at_zero Go.wp_at_succ

set_option maxHeartbeats 2000000 in
theorem rsub_below (w : World) (aa ab : Option Addr) (la ca lb cb m n K K' : Nat) (hK : K ≤ 1000000000) (hK' : K' ≤ 1000000000) (ha : RefIs w (.agg #[.slice aa la ca]) m K) (hb : RefIs w (.agg #[.slice ab lb cb]) n K') (h : m < n) :
    Calls Tryz.prog 162 #[.agg #[.slice aa la ca], .agg #[.slice ab lb cb]] w fun e w' => e = .returned (.tuple #[.agg #[.slice none 0 0], .int .i64 11]) ∧ Below w.heap.size w w' := by
  have hWb : Below w.heap.size w (((w.alloc (Obj.cells #[Value.slice aa la ca] 31)).alloc (Obj.cells #[Value.slice ab lb cb] 31)).alloc (Obj.cells #[Value.slice none 0 0] 31)) := below_alloc' (below_alloc' (below_alloc' (Below.refl _ _) (Nat.le_refl _) _) (Nat.le_refl _) _) (Nat.le_refl _) _
  have x3 : (((w.alloc (Obj.cells #[Value.slice aa la ca] 31)).alloc (Obj.cells #[Value.slice ab lb cb] 31)).alloc (Obj.cells #[Value.slice none 0 0] 31)).heap[w.heap.size + 1 + 1]? = some (Obj.cells #[Value.slice none 0 0] 31) := by
    have := box_new ((w.alloc (Obj.cells #[Value.slice aa la ca] 31)).alloc (Obj.cells #[Value.slice ab lb cb] 31)) (Obj.cells #[Value.slice none 0 0] 31); simpa using this
  have na := ha.below hWb
  have nb := hb.below hWb
  go_enter Tryz.func162, Tryz.ntmps162
  go_wp2_with fail
  generalize ((w.alloc (Obj.cells #[Value.slice aa la ca] 31)).alloc (Obj.cells #[Value.slice ab lb cb] 31)).alloc (Obj.cells #[Value.slice none 0 0] 31) = W at *
  refine (rcmp_any _ _ _ _ _ _ _ hK hK' na nb).mono ?_
  rintro e w1 ⟨rfl, hb1⟩
  rw [cmpI_lt h]
  have hbw := chain2 hWb hb1
  have hx := box_below hb1 x3 (lt_of_block x3)
  have cz := cell_of_one hx
  have fz := free_of_one hx
  have hB2 := hbw.setCell (p := ⟨w.heap.size + 1 + 1, 0, none⟩) (by show w.heap.size ≤ w.heap.size + 1 + 1; omega) (.slice none 0 0)
  have hr := cell_of_one (one_setCell (u := .slice none 0 0) hx)
  have HRr := hid hr
  clear na nb ha hb hr
  go_wp2
  exact bodyPost_ret (v := .tuple #[.agg #[.slice none 0 0], .int .i64 11]) (by simp [results, Tryz.results162, go_sem, HRr.out]) rfl ⟨rfl, hB2⟩
def RSubRel (A B D : List Nat) (c : Nat) : Prop := R.Bd D ∧ R.pv D D.length + R.pv B D.length = R.pv A D.length + c * 1000000000 ^ D.length
theorem RSubRel.step {A B D : List Nat} {c x c' : Nat} (h : RSubRel A B D c) (hx : x < 1000000000) (he : x + lg B D.length + c = lg A D.length + c' * 1000000000) : RSubRel A B (D ++ [x]) c' := by
  obtain ⟨h1, h2⟩ := h
  refine ⟨R.Bd_app h1 _ hx, ?_⟩
  rw [R.pv_app, List.length_append, List.length_singleton]
  simp only [R.pv, Nat.pow_succ]
  generalize 1000000000 ^ D.length = p at *
  have h3 : (x + lg B D.length + c) * p = (lg A D.length + c' * 1000000000) * p := by rw [he]
  rw [Nat.add_mul, Nat.add_mul, Nat.add_mul] at h3
  have h4 : c' * (p * 1000000000) = c' * 1000000000 * p := by rw [Nat.mul_comm p, ← Nat.mul_assoc]
  rw [h4]
  omega
theorem RSubRel.done {A B D : List Nat} {c : Nat} (h : RSubRel A B D c) (hA : R.Bd A) (hB : R.Bd B) (tA : Top A) (tB : Top B) (hl : D.length = A.length) (hle : R.val B ≤ R.val A) : R.val D = R.val A - R.val B := by
  obtain ⟨h1, h2⟩ := h
  have hBl : B.length ≤ A.length := by
    rcases Nat.lt_or_ge A.length B.length with e | e
    · have := R.val_lt_len hA tB e; omega
    · exact e
  have e1 : R.pv D D.length = R.val D := rfl
  rw [e1, R.pv_val A _ (by omega), R.pv_val B _ (by omega)] at h2
  have h3 := R.val_lt h1
  have h4 := R.val_lt hA
  rw [← hl] at h4
  generalize 1000000000 ^ D.length = p at *
  rcases Nat.eq_zero_or_pos c with e | e
  · subst e; omega
  · have : 1 * p ≤ c * p := Nat.mul_le_mul_right _ e
    omega
theorem rtrim_len (w : World) (base g cap k : Nat) (L : List Nat) (hk : k = L.length) (hb : R.Bd L) (hown : w.ownsRow base 3 1 (.slice (some ⟨g, 0, none⟩) k cap) k (i64s L)) :
    Calls Tryz.prog 115 #[.slice (some ⟨g, 0, none⟩) k cap] w fun e w' => (∃ sl M, e = .returned (.agg #[sl]) ∧ w'.ownsRow base 3 1 sl M.length (i64s M) ∧ R.Bd M ∧ Top M ∧ R.val M = R.val L ∧ M.length ≤ L.length) ∧ Below w.heap.size w w' := by
  subst hk; exact rtrim_base w base g cap L hb hown
set_option maxHeartbeats 2000000 in
theorem rsub_walk (w : World) (aa ab : Option Addr) (na ca nb cb : Nat) (A B : List Nat) (hA : R.Bd A) (hB : R.Bd B) (tA : Top A) (tB : Top B) (hna : na ≤ 1000000000) (hnb : nb ≤ 1000000000) (hAl : A.length = na) (hBl : B.length = nb)
    (oa : w.ownsRow 0 3 1 (.slice aa na ca) na (i64s A)) (ob : w.ownsRow 0 3 1 (.slice ab nb cb) nb (i64s B)) (hle : R.val B ≤ R.val A) :
    Calls Tryz.prog 162 #[.agg #[.slice aa na ca], .agg #[.slice ab nb cb]] w fun e w' => ∃ v, e = .returned (.tuple #[v, .int .i64 0]) ∧ RefIs w' v (R.val A - R.val B) na ∧ Below w.heap.size w w' := by
  obtain ⟨i0, hi, hz0, hz1, hz2⟩ := info_parts Tryz.info3
  have HN : Hid (A.length = na ∧ B.length = nb) := ⟨hAl, hBl⟩
  have OA := hid (show w.ownsRow 0 3 1 (.slice aa na ca) A.length (i64s A) by rw [hAl]; exact oa)
  have OB := hid (show w.ownsRow 0 3 1 (.slice ab nb cb) B.length (i64s B) by rw [hBl]; exact ob)
  clear hAl hBl oa ob
  have hWb : Below w.heap.size w (((w.alloc (Obj.cells #[Value.slice aa na ca] 31)).alloc (Obj.cells #[Value.slice ab nb cb] 31)).alloc (Obj.cells #[Value.slice none 0 0] 31)) := below_alloc' (below_alloc' (below_alloc' (Below.refl _ _) (Nat.le_refl _) _) (Nat.le_refl _) _) (Nat.le_refl _) _
  have x1 : (((w.alloc (Obj.cells #[Value.slice aa na ca] 31)).alloc (Obj.cells #[Value.slice ab nb cb] 31)).alloc (Obj.cells #[Value.slice none 0 0] 31)).heap[w.heap.size]? = some (Obj.cells #[Value.slice aa na ca] 31) := box_alloc (box_alloc (box_new _ _) _) _
  have x2 : (((w.alloc (Obj.cells #[Value.slice aa na ca] 31)).alloc (Obj.cells #[Value.slice ab nb cb] 31)).alloc (Obj.cells #[Value.slice none 0 0] 31)).heap[w.heap.size + 1]? = some (Obj.cells #[Value.slice ab nb cb] 31) := box_alloc (by have := box_new (w.alloc (Obj.cells #[Value.slice aa na ca] 31)) (Obj.cells #[Value.slice ab nb cb] 31); simpa using this) _
  have x3 : (((w.alloc (Obj.cells #[Value.slice aa na ca] 31)).alloc (Obj.cells #[Value.slice ab nb cb] 31)).alloc (Obj.cells #[Value.slice none 0 0] 31)).heap[w.heap.size + 1 + 1]? = some (Obj.cells #[Value.slice none 0 0] 31) := by
    have := box_new ((w.alloc (Obj.cells #[Value.slice aa na ca] 31)).alloc (Obj.cells #[Value.slice ab nb cb] 31)) (Obj.cells #[Value.slice none 0 0] 31); simpa using this
  have ra : RefIs w (.agg #[.slice aa na ca]) (R.val A) na := ⟨_, A, rfl, OA.out, hA, tA, rfl, by have := HN.out.1; omega⟩
  have rb : RefIs w (.agg #[.slice ab nb cb]) (R.val B) nb := ⟨_, B, rfl, OB.out, hB, tB, rfl, by have := HN.out.2; omega⟩
  have ra' := ra.below hWb
  have rb' := rb.below hWb
  clear ra rb
  have HT := hid (And.intro tA tB)
  clear tA tB
  go_enter Tryz.func162, Tryz.ntmps162
  go_wp2_with fail
  generalize ((w.alloc (Obj.cells #[Value.slice aa na ca] 31)).alloc (Obj.cells #[Value.slice ab nb cb] 31)).alloc (Obj.cells #[Value.slice none 0 0] 31) = W at *
  refine (rcmp_any _ _ _ _ _ _ _ hna hnb ra' rb').mono ?_
  rintro e w1 ⟨rfl, hb1⟩
  obtain ⟨q, hq⟩ : ∃ q, cmpI (R.val A) (R.val B) = q := ⟨_, rfl⟩
  have hq0 : ¬ q < 0 := by rw [← hq]; unfold cmpI; repeat' split
                           all_goals omega
  rw [hq]
  have HLE := hid hle
  clear hq ra' rb' hle
  have y1 := box_below hb1 x1 (lt_of_block x1)
  have y2 := box_below hb1 x2 (lt_of_block x2)
  have y3 := box_below hb1 x3 (lt_of_block x3)
  have hbw1 := chain2 hWb hb1
  clear x1 x2 x3 hWb hb1
  have hown0 : (w1.alloc (Obj.cells #[] 3)).ownsRow w1.heap.size 3 1 (.slice (some ⟨w1.heap.size, 0, none⟩) 0 0) 0 (i64s []) := by
    have := World.ownsRow_made (base := w1.heap.size) (e := 3) (size := 1) w1 #[] 0 (by simp) (by unfold maxLen; omega) (by simp)
    simpa [i64s] using this
  have hb0 : Below w1.heap.size w1 (w1.alloc (Obj.cells #[] 3)) := below_alloc' (Below.refl _ _) (Nat.le_refl _) _
  go_wp2
  clear hq0
  go_loopw [6, 7, 8] (fun v c i wr => ∃ (d : Nat) (D : List Nat), D.length ≤ na ∧ i = .int .i64 (D.length : Nat) ∧ c = .int .i64 d ∧ d ≤ 1 ∧ RSubRel A B D d ∧ wr.ownsRow w1.heap.size 3 1 v D.length (i64s D) ∧ v ≠ .slice none 0 0 ∧ Below w1.heap.size w1 wr) (fun _ _ i _ => na - (intOf i).toNat)
  case atStart => exact ⟨0, [], by simp, rfl, rfl, by omega, ⟨by intro j; simp [lg], by simp [R.pv]⟩, hown0, by simp, hb0⟩
  case round =>
    obtain ⟨d, D, hk, rfl, rfl, hd, hR, hown, hnn, hbel⟩ := hrel
    have HR := hid hR
    have HNN := hid hnn
    clear hR hown0 hb0 hnn
    have hbw : Below w.heap.size w wr := chain2 hbw1 hbel
    have e1 := cell_of_one (box_below hbel y1 (lt_of_block y1))
    have e2 := cell_of_one (box_below hbel y2 (lt_of_block y2))
    have j3 := box_below hbel y3 (lt_of_block y3)
    obtain ⟨k, hkD⟩ : ∃ k, k = D.length := ⟨_, rfl⟩
    have HK := hid hkD
    rw [← hkD] at hk hown ⊢
    clear hkD
    by_cases hlt : k < na
    · obtain ⟨ga, cur, hv, hcc⟩ : ∃ ga cur : Nat, aa = some ⟨ga, 0, none⟩ ∧ na ≤ ca ∧ ca ≤ maxLen := by
        rcases OA.out.2 with ⟨h0, h0'⟩ | ⟨g, cap, cur, hv, _, _, r1, r2, _⟩
        · have := HN.out.1; simp at h0; omega
        · simp only [Value.slice.injEq] at hv
          obtain ⟨h1, h2, h3⟩ := hv
          exact ⟨g, 0, h1, by omega, by omega⟩
      have OA' := OA.out
      rw [hv] at OA' e1 ⊢
      have e3 := i64s_at (L := A) (g := ga) (cap := ca) (n := na) (by have := ownsRow_below OA' hbw; rw [HN.out.1] at this; exact this) k (by have := HN.out.1; omega)
      have hca := hcc.2
      unfold maxLen at hca
      have hcc1 := hcc.1
      have HOA := hid OA'
      clear hcc OA' hv OA
      have hA9 := hA k
      have hB9 := hB k
      have e1d := e1
      go_wp2
      go_region_held3 (fun w' => w'.cell? ⟨w.heap.size, 0, none⟩ = some (.slice (some ⟨ga, 0, none⟩) na ca) ∧ w'.cell? ⟨w.heap.size + 1, 0, none⟩ = some (.slice ab nb cb) ∧ w'.cell? ⟨ga, k, none⟩ = some (.int .i64 (lg A k : Int))) ((first | go_keep))
        (first | (go_at_call 187; refine (rdigit_any _ _ B hB (ownsRow_below OB.out hbw.drew) k).mono ?_; rintro e w' ⟨rfl, rfl⟩))
      have eT : IntKind.i64.wrap (IntKind.i64.wrap (↑(lg A k) - ↑(lg B k)) - ↑d) = (lg A k : Int) - (lg B k : Int) - (d : Int) := by
        rw [w64i ((lg A k : Int) - (lg B k : Int)) (by omega) (by omega), w64i _ (by omega) (by omega)]
      rw [eT]
      clear eT
      have hown2 := hown.drew
      have hbel2 := hbel.drew
      generalize wr.drew = w2 at *
      obtain ⟨x, t, hx9, ht, hx, hxt⟩ : ∃ x t : Nat, x < 1000000000 ∧ t ≤ 1 ∧ x + lg B k + d = lg A k + t * 1000000000 ∧ ((t = 1 ∧ (lg A k : Int) - (lg B k : Int) - (d : Int) = (x : Int) - 1000000000) ∨ (t = 0 ∧ (lg A k : Int) - (lg B k : Int) - (d : Int) = (x : Int))) := by
        rcases Nat.lt_or_ge (lg A k) (lg B k + d) with hc | hc
        · exact ⟨lg A k + 1000000000 - lg B k - d, 1, by omega, by omega, by omega, Or.inl ⟨rfl, by omega⟩⟩
        · exact ⟨lg A k - lg B k - d, 0, by omega, by omega, by omega, Or.inr ⟨rfl, by omega⟩⟩
      have HS := hid (show RSubRel A B (D ++ [x]) t from HR.out.step hx9 (by rw [← HK.out]; exact hx))
      have HL := hid (show (D ++ [x]).length = k + 1 from by rw [List.length_append, List.length_singleton, ← HK.out])
      clear hown hbel hbw e1 e2 e3 e1d j3 hx hA9 hB9
      generalize (lg A k : Int) - (lg B k : Int) - (d : Int) = y at *
      rcases hxt with ⟨rfl, hy⟩ | ⟨rfl, hy⟩
      all_goals
        rw [hy]
        clear hy
        try have hneg : (x : Int) - 1000000000 < 0 := by omega
        try have hneg2 : ¬ (x : Int) < 0 := by omega
        go_wp2_with (at_builtin; refine wpList_append_own _ rfl _ _ 29 rfl w1.heap.size 3 i0 (.int .i64 0) 1 8 Tryz.underlying29 hi hz0 hz1 hz2 rfl (by decide) _ _ _ rfl (hown2.alloc _) ⟨w2.heap.size, 0, none⟩ 1 1 [.int .i64 (x : Int)] rfl rfl (by intro j u hu; match j, hu with | 0, hu => simp at hu; subst hu; simp [Addr.add]) (by intro u hu; simp at hu; subst hu; rfl) (by unfold maxLen; omega) (by omega) (by have := hbel2.size; simp; omega) ?_)
        intro v' w3 hown3 hgrow hnil
        have hb3 : Below w1.heap.size w1 w3 := (below_alloc' hbel2 (Nat.le_refl _) _).grown hgrow (by have := hbel2.size; simp; omega) (fun q hq => (hown2.lt q hq).1)
        have hown4 : w3.ownsRow w1.heap.size 3 1 v' (D ++ [x]).length (i64s (D ++ [x])) := by
          rw [i64s_app, List.length_append, List.length_singleton, ← HK.out]; simpa using hown3
        have HO := hid hown4
        have HNN' := hid (show v' ≠ .slice none 0 0 from by
          intro e
          have h4 := hown4.1
          rcases hown4.2 with ⟨h0, h0'⟩ | ⟨g, cap, cur, hv, _⟩
          · simp at h0'
          · rw [e] at hv; simp at hv)
        clear hown3 hown4 hgrow hnil hown2 hbel2
        generalize D ++ [x] = E at *
        go_wp2
        go_roundw
        case rel => exact ⟨_, E, by have := HL.out; omega, by rw [HL.out]; go_num, by go_num, ht, HS.out, HO.out, HNN'.out, hb3⟩
        case measure => simp [intOf]; omega
    · have hkn : k = na := by omega
      have HF := hid (HR.out.done hA hB HT.out.1 HT.out.2 (by rw [← HK.out, hkn, HN.out.1]) HLE.out)
      have HBd := hid HR.out.1
      clear hkn
      obtain ⟨g, cap, hv⟩ : ∃ g cap, u6 = .slice (some ⟨g, 0, none⟩) k cap := by
        rcases hown.2 with ⟨h0, h0'⟩ | ⟨g, cap, cur, hv, _⟩
        · exact absurd h0 HNN.out
        · exact ⟨g, cap, hv⟩
      rw [hv] at hown ⊢
      clear hv HNN
      have hnk : ¬ k < na := hlt
      go_wp2_with fail
      refine (rtrim_len wr w1.heap.size g cap k D HK.out HBd.out hown).mono ?_
      rintro e w3 ⟨⟨sl, M, rfl, hM, bM, tM, vM, lM⟩, hb4⟩
      have hx3 := box_below hb4 j3 (lt_of_block j3)
      have hbw3 := chain2 hbw hb4
      obtain ⟨ao, cp, hv⟩ := ints_slice hM
      rw [hv] at hM ⊢
      have cz := cell_of_one hx3
      have fz := free_of_one hx3
      have hM2 := own_box (ownsRow_base0 hM) hx3 (by decide) (.slice ao M.length cp)
      have hB2 := hbw3.setCell (p := ⟨w.heap.size + 1 + 1, 0, none⟩) (by show w.heap.size ≤ w.heap.size + 1 + 1; omega) (.slice ao M.length cp)
      have hr := cell_of_one (one_setCell (u := .slice ao M.length cp) hx3)
      have HRr := hid hr
      have HV := hid (show R.val M = R.val A - R.val B ∧ M.length ≤ na from ⟨vM.trans HF.out, by have := HK.out; omega⟩)
      clear hv hM hx3 hr vM lM hb4 hown hbel hbw e1 e2 j3
      go_wp2
      exact bodyPost_ret (v := .tuple #[.agg #[.slice ao M.length cp], .int .i64 0]) (by simp [results, Tryz.results162, go_sem, HRr.out]) rfl ⟨_, rfl, ⟨_, M, rfl, hM2, bM, tM, HV.out.1, HV.out.2⟩, hB2⟩
/-- The document's Sub where it is not below 0: the difference. -/
theorem rsub_any (w : World) (a b : Value) (m n K K' : Nat) (hK : K ≤ 1000000000) (hK' : K' ≤ 1000000000) (ha : RefIs w a m K) (hb : RefIs w b n K') (h : n ≤ m) :
    Calls Tryz.prog 162 #[a, b] w fun e w' => ∃ v, e = .returned (.tuple #[v, .int .i64 0]) ∧ RefIs w' v (m - n) K ∧ Below w.heap.size w w' := by
  obtain ⟨sa, A, rfl, oa, bA, tA, rfl, lA⟩ := ha
  obtain ⟨sb, B, rfl, ob, bB, tB, rfl, lB⟩ := hb
  obtain ⟨aa, ca, rfl⟩ := ints_slice oa
  obtain ⟨ab, cb, rfl⟩ := ints_slice ob
  refine (rsub_walk w aa ab A.length ca B.length cb A B bA bB tA tB (by omega) (by omega) rfl rfl oa ob h).mono ?_
  rintro e w' ⟨v, rfl, hv, hw⟩
  exact ⟨v, rfl, hv.mono lA, hw⟩
end Go.Proofs.YtcdkoadobdgbhaaGreatDoor
/- The document's Sub, below or not. -/
namespace Go.Proofs.YtcdkoadobdgbhaaGreatDoor
open Go.RowKit
set_option linter.unusedVariables false

theorem rsub_both (w : World) (aa ab : Option Addr) (la ca lb cb m n K K' : Nat) (hK : K ≤ 1000000000) (hK' : K' ≤ 1000000000) (ha : RefIs w (.agg #[.slice aa la ca]) m K) (hb : RefIs w (.agg #[.slice ab lb cb]) n K') :
    Calls Tryz.prog 162 #[.agg #[.slice aa la ca], .agg #[.slice ab lb cb]] w fun e w' => ∃ ao l c, e = .returned (.tuple #[.agg #[.slice ao l c], .int .i64 (subE m n)]) ∧ RefIs w' (.agg #[.slice ao l c]) (m - n) K ∧ Below w.heap.size w w' := by
  by_cases h : m < n
  · refine (rsub_below w aa ab la ca lb cb m n K K' hK hK' ha hb h).mono ?_
    rintro e w' ⟨rfl, hw⟩
    exact ⟨none, 0, 0, by simp [subE, h], ⟨_, [], rfl, World.ownsRow_nil w' _ _ _, by intro j; simp [lg], fun h => by simp at h, by simp [R.val, R.pv]; omega, by simp⟩, hw⟩
  · refine (rsub_any w _ _ m n K K' hK hK' ha hb (by omega)).mono ?_
    rintro e w' ⟨v, rfl, nv, hw⟩
    obtain ⟨ao, l, c, rfl⟩ := nv.form
    exact ⟨ao, l, c, by simp [subE, h], nv, hw⟩
end Go.Proofs.YtcdkoadobdgbhaaGreatDoor
/- The document's Mul. -/
namespace Go.Proofs.YtcdkoadobdgbhaaGreatDoor
open Go.RowKit
set_option linter.unusedVariables false
set_option maxRecDepth 100000
set_option linter.unusedSimpArgs false
attribute [local go_sem ↓] Go.wp_at_zero Go.wp_at_succ

/-- A round of the inner loop: S is the row as it stands, P as it was. -/
def RTimesRel (P S B : List Nat) (n off f k d : Nat) : Prop := S.length = n ∧ R.Bd S ∧ (∀ j, off + k ≤ j → lg S j = lg P j) ∧ R.pv S (off + k) + d * 1000000000 ^ (off + k) = R.pv P (off + k) + f * R.pv B k * 1000000000 ^ off
theorem rtimes_next (P S B : List Nat) (n off f k d : Nat) (hk : off + k < n) (h : RTimesRel P S B n off f k d) :
    RTimesRel P (S.set (off + k) ((f * lg B k + lg P (off + k) + d) % 1000000000)) B n off f (k + 1) ((f * lg B k + lg P (off + k) + d) / 1000000000) := by
  obtain ⟨h1, h2, h3, h4⟩ := h
  refine ⟨by simpa using h1, R.Bd_set h2 _ _ (by omega), fun j hj => ?_, ?_⟩
  · rw [lg_set_other S _ _ j (by omega)]; exact h3 j (by omega)
  · rw [← Nat.add_assoc]
    simp only [R.pv]
    rw [R.pv_set_past S (off + k) _ (off + k) (Nat.le_refl _), lg_set_same S _ _ (by omega), Nat.pow_succ, Nat.pow_add]
    rw [Nat.pow_add] at h4
    generalize 1000000000 ^ off = p at *
    generalize 1000000000 ^ k = q at *
    have hd := Nat.div_add_mod (f * lg B k + lg P (off + k) + d) 1000000000
    generalize (f * lg B k + lg P (off + k) + d) % 1000000000 = r at *
    generalize (f * lg B k + lg P (off + k) + d) / 1000000000 = t at *
    have e1 : (1000000000 * t + r) * (p * q) = (f * lg B k + lg P (off + k) + d) * (p * q) := by rw [hd]
    rw [Nat.add_mul, Nat.add_mul, Nat.add_mul] at e1
    have e2 : t * (p * q * 1000000000) = 1000000000 * t * (p * q) := by rw [Nat.mul_comm (p * q), ← Nat.mul_assoc, Nat.mul_comm t]
    have e3 : f * (R.pv B k + lg B k * q) * p = f * R.pv B k * p + f * lg B k * (p * q) := by
      rw [Nat.mul_add, Nat.add_mul, ← Nat.mul_assoc, Nat.mul_comm p q, ← Nat.mul_assoc (f * lg B k)]
    rw [e2, e3]
    omega
theorem rtimes_done (P S B : List Nat) (n off f k d : Nat) (hk : off + k < n) (hB : B.length = k) (hd : d < 1000000000) (hz : lg P (off + k) = 0) (h : RTimesRel P S B n off f k d) :
    (S.set (off + k) d).length = n ∧ R.Bd (S.set (off + k) d) ∧ (∀ j, off + k < j → lg (S.set (off + k) d) j = lg P j) ∧ R.pv (S.set (off + k) d) (off + k + 1) = R.pv P (off + k) + f * R.val B * 1000000000 ^ off := by
  obtain ⟨h1, h2, h3, h4⟩ := h
  refine ⟨by simpa using h1, R.Bd_set h2 _ _ hd, fun j hj => ?_, ?_⟩
  · rw [lg_set_other S _ _ j (by omega)]; exact h3 j (by omega)
  · simp only [R.pv]
    rw [R.pv_set_past S (off + k) _ (off + k) (Nat.le_refl _), lg_set_same S _ _ (by omega), h4]
    rw [R.pv_val B k (by omega)]
theorem rmul_next (A B S P' : List Nat) (k n : Nat) (m1 : P'.length = n) (m2 : R.Bd P') (m3 : ∀ j, k + B.length < j → lg P' j = lg S j) (m4 : R.pv P' (k + B.length + 1) = R.pv S (k + B.length) + lg A k * R.val B * 1000000000 ^ k)
    (h : S.length = n ∧ R.Bd S ∧ (∀ j, k + B.length ≤ j → lg S j = 0) ∧ R.pv S (k + B.length) = R.pv A k * R.val B) :
    P'.length = n ∧ R.Bd P' ∧ (∀ j, k + 1 + B.length ≤ j → lg P' j = 0) ∧ R.pv P' (k + 1 + B.length) = R.pv A (k + 1) * R.val B := by
  obtain ⟨h1, h2, h3, h4⟩ := h
  refine ⟨m1, m2, fun j hj => by rw [m3 j (by omega)]; exact h3 j (by omega), ?_⟩
  rw [show k + 1 + B.length = k + B.length + 1 by omega, m4, h4, R.pv, Nat.add_mul]
  rw [Nat.mul_right_comm (lg A k)]
theorem rtimes_small {f b p c : Nat} (hf : f < 1000000000) (hb : b < 1000000000) (hp : p < 1000000000) (hc : c < 1000000000) : f * b ≤ 999999998000000001 ∧ f * b + p + c < 1000000000000000000 ∧ (f * b + p + c) / 1000000000 < 1000000000 := by
  have h1 : f * b ≤ 999999999 * 999999999 := Nat.mul_le_mul (by omega) (by omega)
  omega
theorem wrap64_same (x : Int) (h0 : -9223372036854775808 ≤ x) (h1 : x ≤ 9223372036854775807) : wrap64 x = x := by
  have h := w64i x h0 h1
  first | exact h | (simp only [IntKind.wrap] at h; simpa [wrap64] using h) | (unfold wrap64; omega)
theorem w64_r {f b p c : Nat} (hf : f < 1000000000) (hb : b < 1000000000) (hp : p < 1000000000) (hc : c < 1000000000) :
    wrap64 ((c : Int) + (p : Int) + wrap64 ((f : Int) * (b : Int))) = ((f * b + p + c : Nat) : Int) := by
  obtain ⟨h1, h2, h3⟩ := rtimes_small hf hb hp hc
  have e0 : (f : Int) * (b : Int) = ((f * b : Nat) : Int) := by simp
  rw [e0]
  generalize f * b = x at *
  rw [wrap64_same ((x : Nat) : Int) (by omega) (by omega), wrap64_same _ (by omega) (by omega)]; omega
set_option maxHeartbeats 2000000 in
theorem rmul_none (w : World) (aa ab : Option Addr) (na ca nb cb : Nat) (h : na = 0 ∨ nb = 0) :
    Calls Tryz.prog 69 #[.agg #[.slice aa na ca], .agg #[.slice ab nb cb]] w fun e w' => e = .returned (.agg #[.slice none 0 0]) ∧ Below w.heap.size w w' := by
  have hWb : Below w.heap.size w (((w.alloc (Obj.cells #[Value.slice aa na ca] 31)).alloc (Obj.cells #[Value.slice ab nb cb] 31)).alloc (Obj.cells #[Value.slice none 0 0] 31)) := below_alloc' (below_alloc' (below_alloc' (Below.refl _ _) (Nat.le_refl _) _) (Nat.le_refl _) _) (Nat.le_refl _) _
  have hB2 := hWb.setCell (p := ⟨w.heap.size + 1 + 1, 0, none⟩) (by show w.heap.size ≤ w.heap.size + 1 + 1; omega) (.slice none 0 0)
  have h' : na = 0 ∨ (na ≠ 0 ∧ nb = 0) := by omega
  clear h
  rcases h' with rfl | ⟨h1, rfl⟩
  · go_enter Tryz.func69, Tryz.ntmps69
    go_wp2
    exact bodyPost_ret (v := .agg #[.slice none 0 0]) (by simp [results, Tryz.results69, go_sem]) rfl ⟨rfl, by first | exact hB2 | exact hWb⟩
  · have h1' : ((na : Int) == 0) = false := beq_eq_false_iff_ne.2 (by omega)
    go_enter Tryz.func69, Tryz.ntmps69
    go_wp2
    exact bodyPost_ret (v := .agg #[.slice none 0 0]) (by simp [results, Tryz.results69, go_sem]) rfl ⟨rfl, by first | exact hB2 | exact hWb⟩
set_option maxHeartbeats 2000000 in
theorem rmul_walk (w : World) (aa ab : Option Addr) (na ca nb cb n : Nat) (A B : List Nat) (hA : R.Bd A) (hB : R.Bd B) (hna : na ≤ 1000000000) (hnb : nb ≤ 1000000000) (hn : na + nb = n) (hAl : A.length = na) (hBl : B.length = nb) (h1 : na ≠ 0) (h2 : nb ≠ 0)
    (oa : w.ownsRow 0 3 1 (.slice aa na ca) na (i64s A)) (ob : w.ownsRow 0 3 1 (.slice ab nb cb) nb (i64s B)) :
    Calls Tryz.prog 69 #[.agg #[.slice aa na ca], .agg #[.slice ab nb cb]] w fun e w' => ∃ v, e = .returned v ∧ RefIs w' v (R.val A * R.val B) n ∧ Below w.heap.size w w' := by
  obtain ⟨i0, hi, hz0, hz1, hz2⟩ := info_parts Tryz.info3
  have HN : Hid (na + nb = n ∧ A.length = na ∧ B.length = nb) := ⟨hn, hAl, hBl⟩
  have hn' : n ≤ 2000000000 := by omega
  have hn1 : na ≤ n := by omega
  have hor : ((na : Int) == 0) = false := beq_eq_false_iff_ne.2 (by omega)
  have hor2 : ((nb : Int) == 0) = false := beq_eq_false_iff_ne.2 (by omega)
  obtain ⟨ga, rfl, hca, hca2, hga⟩ : ∃ ga, aa = some ⟨ga, 0, none⟩ ∧ na ≤ ca ∧ ca ≤ maxLen ∧ ga < w.heap.size := by
    rcases oa.2 with ⟨h0, h0'⟩ | ⟨g, cap, cur, hv, _, hh, r1, r2, _⟩
    · simp at h0; omega
    · simp only [Value.slice.injEq] at hv
      obtain ⟨e1, e2, e3⟩ := hv
      exact ⟨g, e1, by omega, by omega, (Array.getElem?_eq_some_iff.1 hh).1⟩
  obtain ⟨gb, rfl, hcb, hcb2, hgb⟩ : ∃ gb, ab = some ⟨gb, 0, none⟩ ∧ nb ≤ cb ∧ cb ≤ maxLen ∧ gb < w.heap.size := by
    rcases ob.2 with ⟨h0, h0'⟩ | ⟨g, cap, cur, hv, _, hh, r1, r2, _⟩
    · simp at h0; omega
    · simp only [Value.slice.injEq] at hv
      obtain ⟨e1, e2, e3⟩ := hv
      exact ⟨g, e1, by omega, by omega, (Array.getElem?_eq_some_iff.1 hh).1⟩
  unfold maxLen at hca2 hcb2
  have OA := hid oa
  have OB := hid ob
  clear hn hAl hBl oa ob h1 h2
  go_enter Tryz.func69, Tryz.ntmps69
  go_wp2_with (first | (at_make; refine wpList_make_full _ rfl _ _ 29 rfl (w.heap.size + 1 + 1 + 1) 3 i0 (.int .i64 0) 1 Tryz.underlying29 hi hz0 hz1 _ _ _ _ n rfl rfl (by have := HN.out.1; omega) (by have := HN.out.1; omega) (by rw [hz2]; omega) (by unfold maxLen; omega) (by simp) ?_))
  intro w1 hown hgrow
  have hb1 : Below (w.heap.size + 1 + 1 + 1) (((w.alloc (Obj.cells #[Value.slice (some ⟨ga, 0, none⟩) na ca] 31)).alloc (Obj.cells #[Value.slice (some ⟨gb, 0, none⟩) nb cb] 31)).alloc (Obj.cells #[Value.slice none 0 0] 31)) w1 := by
    have := (Below.refl (w.heap.size + 1 + 1 + 1) _).grown hgrow (by simp) (by intro k hk; simp at hk)
    exact this
  rw [toList_madeCells_one, ← i64s_rep] at hown
  have x1 : (((w.alloc (Obj.cells #[Value.slice (some ⟨ga, 0, none⟩) na ca] 31)).alloc (Obj.cells #[Value.slice (some ⟨gb, 0, none⟩) nb cb] 31)).alloc (Obj.cells #[Value.slice none 0 0] 31)).heap[w.heap.size]? = some (Obj.cells #[Value.slice (some ⟨ga, 0, none⟩) na ca] 31) := box_alloc (box_alloc (box_new _ _) _) _
  have x2 : (((w.alloc (Obj.cells #[Value.slice (some ⟨ga, 0, none⟩) na ca] 31)).alloc (Obj.cells #[Value.slice (some ⟨gb, 0, none⟩) nb cb] 31)).alloc (Obj.cells #[Value.slice none 0 0] 31)).heap[w.heap.size + 1]? = some (Obj.cells #[Value.slice (some ⟨gb, 0, none⟩) nb cb] 31) := box_alloc (by have := box_new (w.alloc (Obj.cells #[Value.slice (some ⟨ga, 0, none⟩) na ca] 31)) (Obj.cells #[Value.slice (some ⟨gb, 0, none⟩) nb cb] 31); simpa using this) _
  have x3 : (((w.alloc (Obj.cells #[Value.slice (some ⟨ga, 0, none⟩) na ca] 31)).alloc (Obj.cells #[Value.slice (some ⟨gb, 0, none⟩) nb cb] 31)).alloc (Obj.cells #[Value.slice none 0 0] 31)).heap[w.heap.size + 1 + 1]? = some (Obj.cells #[Value.slice none 0 0] 31) := by
    have := box_new ((w.alloc (Obj.cells #[Value.slice (some ⟨ga, 0, none⟩) na ca] 31)).alloc (Obj.cells #[Value.slice (some ⟨gb, 0, none⟩) nb cb] 31)) (Obj.cells #[Value.slice none 0 0] 31); simpa using this
  have hWb : Below w.heap.size w (((w.alloc (Obj.cells #[Value.slice (some ⟨ga, 0, none⟩) na ca] 31)).alloc (Obj.cells #[Value.slice (some ⟨gb, 0, none⟩) nb cb] 31)).alloc (Obj.cells #[Value.slice none 0 0] 31)) := below_alloc' (below_alloc' (below_alloc' (Below.refl _ _) (Nat.le_refl _) _) (Nat.le_refl _) _) (Nat.le_refl _) _
  have hWs : (((w.alloc (Obj.cells #[Value.slice (some ⟨ga, 0, none⟩) na ca] 31)).alloc (Obj.cells #[Value.slice (some ⟨gb, 0, none⟩) nb cb] 31)).alloc (Obj.cells #[Value.slice none 0 0] 31)).heap.size = w.heap.size + 1 + 1 + 1 := by simp
  clear hgrow
  generalize ((w.alloc (Obj.cells #[Value.slice (some ⟨ga, 0, none⟩) na ca] 31)).alloc (Obj.cells #[Value.slice (some ⟨gb, 0, none⟩) nb cb] 31)).alloc (Obj.cells #[Value.slice none 0 0] 31) = W at *
  have hWt : w.heap.size + 1 + 1 + 1 ≤ W.heap.size := by omega
  clear hWs
  have e1 := cell_of_one (box_below hb1 x1 (by omega))
  have e2 := cell_of_one (box_below hb1 x2 (by omega))
  go_wp2
  clear e1 e2
  go_loopw [6] (fun i wr => ∃ (k : Nat) (S : List Nat), k ≤ na ∧ i = .int .i64 k ∧ (S.length = n ∧ R.Bd S ∧ (∀ j, k + B.length ≤ j → lg S j = 0) ∧ R.pv S (k + B.length) = R.pv A k * R.val B) ∧
        wr.ownsRow (w.heap.size + 1 + 1 + 1) 3 1 (.slice (some ⟨w.heap.size + 1 + 1 + 1, 0, none⟩) n n) n (i64s S) ∧ Below (w.heap.size + 1 + 1 + 1) W wr) (fun i _ => na - (intOf i).toNat)
  case atStart => exact ⟨0, List.replicate n 0, Nat.zero_le _, rfl, ⟨by simp, R.Bd_rep _, fun j _ => lg_rep _ _, by simp [R.pv, R.pv_zero (fun j _ => lg_rep n j)]⟩, hown, hb1⟩
  case round =>
    obtain ⟨k, S, hk, rfl, hRR, hown', hbel⟩ := hrel
    have RR := hid hRR
    clear hRR hown hb1
    have hbw : Below w.heap.size w wr := hWb.trans (hbel.mono (by omega))
    have e1 := cell_of_one (box_below hbel x1 (by omega))
    have e2 := cell_of_one (box_below hbel x2 (by omega))
    have j3 := box_below hbel x3 (by omega)
    by_cases hlt : k < na
    · have hknb : k + nb < n := by have := HN.out.1; omega
      go_wp2
      clear e1 e2 j3
      generalize hwo : wr = wo at *
      clear hwo
      go_loopw [7, 8] (fun c i wr => ∃ (j d : Nat) (T : List Nat), j ≤ nb ∧ i = .int .i64 j ∧ c = .int .i64 d ∧ d < 1000000000 ∧ RTimesRel S T B n k (lg A k) j d ∧ wr.ownsRow (w.heap.size + 1 + 1 + 1) 3 1 (.slice (some ⟨w.heap.size + 1 + 1 + 1, 0, none⟩) n n) n (i64s T) ∧ Below (w.heap.size + 1 + 1 + 1) W wr) (fun _ i _ => nb - (intOf i).toNat)
      case atStart => exact ⟨0, 0, S, Nat.zero_le _, rfl, rfl, by omega, ⟨RR.out.1, RR.out.2.1, fun j _ => rfl, by simp [R.pv]⟩, hown', hbel⟩
      case round =>
        obtain ⟨j, d, T, hj, rfl, rfl, hd, hR, hownT, hbelT⟩ := hrel
        have HR := hid hR
        clear hR hown' hbel hbw
        have hbw : Below w.heap.size w wr := hWb.trans (hbelT.mono (by omega))
        have e1 := cell_of_one (box_below hbelT x1 (by omega))
        have e2 := cell_of_one (box_below hbelT x2 (by omega))
        by_cases hjl : j < nb
        · have e3 := i64s_at (L := A) (g := ga) (cap := ca) (n := na) (ownsRow_below OA.out hbw) k (by have := HN.out.2.1; omega)
          have e4 := i64s_at (L := B) (g := gb) (cap := cb) (n := nb) (ownsRow_below OB.out hbw) j (by have := HN.out.2.2; omega)
          have c2 := i64s_at hownT (k + j) (by have := HR.out.1; omega)
          rw [HR.out.2.2.1 (k + j) (Nat.le_refl _)] at c2
          have fr := hownT.frozenAt (k + j)
          have HNx := hid (rtimes_next S T B n k (lg A k) j d (by omega) HR.out)
          have b1 := hA k
          have b2 := hB j
          have b3 := RR.out.2.1 (k + j)
          have O : ∀ q, ((wr.drewN q).setCell ⟨w.heap.size + 1 + 1 + 1, k + j, none⟩ (.int .i64 (((lg A k * lg B j + lg S (k + j) + d) % 1000000000 : Nat) : Int))).ownsRow (w.heap.size + 1 + 1 + 1) 3 1 (.slice (some ⟨w.heap.size + 1 + 1 + 1, 0, none⟩) n n) n (i64s (T.set (k + j) ((lg A k * lg B j + lg S (k + j) + d) % 1000000000))) ∧ Below (w.heap.size + 1 + 1 + 1) W ((wr.drewN q).setCell ⟨w.heap.size + 1 + 1 + 1, k + j, none⟩ (.int .i64 (((lg A k * lg B j + lg S (k + j) + d) % 1000000000 : Nat) : Int))) := by
            intro q
            have O1 := (own_drewN hownT q).stored (k + j) (.int .i64 (((lg A k * lg B j + lg S (k + j) + d) % 1000000000 : Nat) : Int))
            rw [← i64s_set] at O1
            exact ⟨O1.1, (below_drewN hbelT q).setCell (p := ⟨w.heap.size + 1 + 1 + 1, k + j, none⟩) (Nat.le_refl _) _⟩
          have HO := hid O
          have HW := hid (w64_r b1 b2 b3 hd)
          have HS := hid (rtimes_small b1 b2 b3 hd).2.2
          have HT := hid (rtimes_small b1 b2 b3 hd).2.1
          clear O hownT hbelT hbw
          have HAB := hid (And.intro hA hB)
          clear hA hB
          generalize lg B j = b at *
          generalize lg S (k + j) = p at *
          generalize lg A k = f at *
          go_wp2
          go_quiet (fail)
          rw [HW.out]
          have hT : f * b + p + d < 1000000000000000000 := HT.out
          generalize f * b + p + d = X at *
          rw [show ((X % 1000000000 : Nat) : Int) = (X : Int) % 1000000000 by omega] at HO
          go_wp2
          go_roundw
          case rel => exact ⟨j + 1, X / 1000000000, T.set (k + j) (X % 1000000000), by omega, by go_num, by go_num, HS.out, HNx.out, (HO.out _).1, (HO.out _).2⟩
          case measure => simp [intOf]; omega
        · have hjk : j = nb := by omega
          have fr := hownT.frozenAt (k + nb)
          have c2 := i64s_at hownT (k + nb) (by have := HR.out.1; omega)
          have O := hownT.stored (k + nb) (.int .i64 (d : Int))
          rw [← i64s_set] at O
          have HB2 := hid (hbelT.setCell (p := ⟨w.heap.size + 1 + 1 + 1, k + nb, none⟩) (Nat.le_refl _) (.int .i64 (d : Int)))
          have HO := hid O
          have HD := hid (show (T.set (k + nb) d).length = n ∧ R.Bd (T.set (k + nb) d) ∧ (∀ j, k + 1 + B.length ≤ j → lg (T.set (k + nb) d) j = 0) ∧ R.pv (T.set (k + nb) d) (k + 1 + B.length) = R.pv A (k + 1) * R.val B from by
            have h := HR.out
            rw [hjk] at h
            obtain ⟨m1, m2, m3, m4⟩ := rtimes_done S T B n k (lg A k) nb d hknb HN.out.2.2 hd (RR.out.2.2.1 (k + nb) (by have := HN.out.2.2; omega)) h
            exact rmul_next A B S _ k n m1 m2 (by rw [HN.out.2.2]; exact m3) (by rw [HN.out.2.2]; exact m4) RR.out)
          clear O hownT hbelT hjk
          go_wp2
          exact ⟨⟨k + 1, T.set (k + nb) d, by omega, by go_num, HD.out, HO.out.1, HB2.out⟩, by simp [intOf]; omega⟩
    · have hkn : k = na := by omega
      have HV := hid (show R.val S = R.val A * R.val B from by
        obtain ⟨r1, _, r3, r4⟩ := RR.out
        obtain ⟨q1, q2, q3⟩ := HN.out
        rw [hkn, R.pv_val A na (by omega), R.pv_val S (na + B.length) (by omega)] at r4
        exact r4)
      clear hkn
      go_wp2_with fail
      refine (rtrim_len wr (w.heap.size + 1 + 1 + 1) _ n n S RR.out.1.symm RR.out.2.1 hown').mono ?_
      rintro e w3 ⟨⟨sl, M, rfl, hM, bM, tM, vM, lM⟩, hb4⟩
      have hx3 := box_below hb4 j3 (lt_of_block j3)
      have hbw3 := chain2 hbw hb4
      obtain ⟨ao, cp, hv⟩ := ints_slice hM
      rw [hv] at hM ⊢
      have cz := cell_of_one hx3
      have fz := free_of_one hx3
      have hM2 := own_box (ownsRow_base0 hM) hx3 (by decide) (.slice ao M.length cp)
      have hB2 := hbw3.setCell (p := ⟨w.heap.size + 1 + 1, 0, none⟩) (by show w.heap.size ≤ w.heap.size + 1 + 1; omega) (.slice ao M.length cp)
      have hr := cell_of_one (one_setCell (u := .slice ao M.length cp) hx3)
      have HRr := hid hr
      have HV2 := hid (show R.val M = R.val A * R.val B ∧ M.length ≤ n from ⟨vM.trans HV.out, by have := RR.out.1; omega⟩)
      clear hv hM hx3 hr vM lM hb4 hown' hbel hbw e1 e2 j3
      go_wp2
      exact bodyPost_ret (v := .agg #[.slice ao M.length cp]) (by simp [results, Tryz.results69, go_sem, HRr.out]) rfl ⟨_, rfl, ⟨_, M, rfl, hM2, bM, tM, HV2.out.1, HV2.out.2⟩, hB2⟩
/-- The document's Mul: the product. -/
theorem rmul_any (w : World) (a b : Value) (m n K K' : Nat) (hK : K ≤ 1000000000) (hK' : K' ≤ 1000000000) (ha : RefIs w a m K) (hb : RefIs w b n K') :
    Calls Tryz.prog 69 #[a, b] w fun e w' => ∃ v, e = .returned v ∧ RefIs w' v (m * n) (K + K') ∧ Below w.heap.size w w' := by
  obtain ⟨sa, A, rfl, oa, bA, tA, rfl, lA⟩ := ha
  obtain ⟨sb, B, rfl, ob, bB, tB, rfl, lB⟩ := hb
  obtain ⟨aa, ca, rfl⟩ := ints_slice oa
  obtain ⟨ab, cb, rfl⟩ := ints_slice ob
  by_cases h : A.length = 0 ∨ B.length = 0
  · refine (rmul_none w aa ab A.length ca B.length cb h).mono ?_
    rintro e w' ⟨rfl, hw⟩
    have h0 : R.val A * R.val B = 0 := by
      rcases h with h | h
      · rw [List.eq_nil_of_length_eq_zero h]; simp [R.val, R.pv]
      · rw [List.eq_nil_of_length_eq_zero h]; simp [R.val, R.pv]
    exact ⟨_, rfl, ⟨_, [], rfl, World.ownsRow_nil w' _ _ _, by intro j; simp [lg], fun h => by simp at h, by rw [h0]; simp [R.val, R.pv], by simp⟩, hw⟩
  · refine (rmul_walk w aa ab A.length ca B.length cb (A.length + B.length) A B bA bB (by omega) (by omega) rfl rfl rfl (by omega) (by omega) oa ob).mono ?_
    rintro e w' ⟨v, rfl, hv, hw⟩
    exact ⟨v, rfl, hv.mono (by omega), hw⟩
end Go.Proofs.YtcdkoadobdgbhaaGreatDoor
/- The document's small: a number times a digit, and a digit more. -/
namespace Go.Proofs.YtcdkoadobdgbhaaGreatDoor
open Go.RowKit
set_option linter.unusedVariables false
set_option maxRecDepth 100000
set_option linter.unusedSimpArgs false

def RSmallRel (A D : List Nat) (f m c : Nat) : Prop := R.Bd D ∧ R.pv D D.length + c * 1000000000 ^ D.length = R.pv A D.length * f + m
theorem RSmallRel.step {A D : List Nat} {f m c : Nat} (h : RSmallRel A D f m c) : RSmallRel A (D ++ [(c + lg A D.length * f) % 1000000000]) f m ((c + lg A D.length * f) / 1000000000) := by
  obtain ⟨h1, h2⟩ := h
  refine ⟨R.Bd_app h1 _ (Nat.mod_lt _ (by omega)), ?_⟩
  rw [R.pv_app, List.length_append, List.length_singleton]
  show _ + _ = R.pv A (D.length + 1) * f + m
  simp only [R.pv]
  rw [Nat.pow_succ]
  generalize 1000000000 ^ D.length = p at *
  have hd := Nat.div_add_mod (c + lg A D.length * f) 1000000000
  generalize (c + lg A D.length * f) % 1000000000 = r at *
  generalize (c + lg A D.length * f) / 1000000000 = q at *
  have e1 : (1000000000 * q + r) * p = (c + lg A D.length * f) * p := by rw [hd]
  rw [Nat.add_mul, Nat.add_mul] at e1
  have e2 : q * (p * 1000000000) = 1000000000 * q * p := by rw [Nat.mul_comm p, ← Nat.mul_assoc, Nat.mul_comm q]
  have e3 : (R.pv A D.length + lg A D.length * p) * f = R.pv A D.length * f + lg A D.length * f * p := by rw [Nat.add_mul, Nat.mul_right_comm]
  rw [e2, e3]
  omega
theorem RSmallRel.done {A D : List Nat} {f m c : Nat} (h : RSmallRel A D f m c) (hc : c < 1000000000) (hl : D.length = A.length) : R.Bd (D ++ [c]) ∧ R.val (D ++ [c]) = R.val A * f + m := by
  obtain ⟨h1, h2⟩ := h
  refine ⟨R.Bd_app h1 _ hc, ?_⟩
  unfold R.val
  rw [R.pv_app, h2, hl]
theorem small_fits {x f c : Nat} (hx : x < 1000000000) (hf : f < 1000000000) (hc : c < 1000000000) : c + x * f < 1000000000000000000 ∧ x * f < 1000000000000000000 := by
  have : x * f ≤ 999999999 * 999999999 := Nat.mul_le_mul (by omega) (by omega)
  omega
theorem small_prod {x f y : Nat} (hy : x * f = y) (h : y < 1000000000000000000) : wrap64 ((x : Int) * (f : Int)) = (y : Int) := by
  have e : (x : Int) * (f : Int) = (y : Int) := by rw [← hy]; simp
  rw [e]; clear e hy; unfold wrap64; omega
set_option maxHeartbeats 2000000 in
theorem rsmall_walk (w : World) (aa : Option Addr) (na ca f m : Nat) (A : List Nat) (hA : R.Bd A) (hna : na ≤ 1000000000) (hAl : A.length = na) (hf : f < 1000000000) (hm : m < 1000000000) (oa : w.ownsRow 0 3 1 (.slice aa na ca) na (i64s A)) :
    Calls Tryz.prog 168 #[.agg #[.slice aa na ca], .int .i64 f, .int .i64 m] w fun e w' => ∃ v, e = .returned v ∧ RefIs w' v (R.val A * f + m) (na + 1) ∧ Below w.heap.size w w' := by
  obtain ⟨i0, hi, hz0, hz1, hz2⟩ := info_parts Tryz.info3
  have HN := hid hAl
  have OA := hid (show w.ownsRow 0 3 1 (.slice aa na ca) A.length (i64s A) by rw [hAl]; exact oa)
  clear hAl oa
  have hown0 : (((w.alloc (Obj.cells #[Value.slice aa na ca] 31)).alloc (Obj.cells #[Value.slice none 0 0] 31)).alloc (Obj.cells #[] 3)).ownsRow (w.heap.size + 1 + 1) 3 1 (.slice (some ⟨w.heap.size + 1 + 1, 0, none⟩) 0 0) 0 (i64s []) := by
    have := World.ownsRow_made (base := w.heap.size + 1 + 1) (e := 3) (size := 1) ((w.alloc (Obj.cells #[Value.slice aa na ca] 31)).alloc (Obj.cells #[Value.slice none 0 0] 31)) #[] 0 (by simp) (by unfold maxLen; omega) (by simp)
    simpa [i64s] using this
  go_enter Tryz.func168, Tryz.ntmps168
  go_wp2
  have x1 := box_alloc (box_new w (Obj.cells #[Value.slice aa na ca] 31)) (Obj.cells #[Value.slice none 0 0] 31)
  have x3 : ((w.alloc (Obj.cells #[Value.slice aa na ca] 31)).alloc (Obj.cells #[Value.slice none 0 0] 31)).heap[w.heap.size + 1]? = some (Obj.cells #[Value.slice none 0 0] 31) := by
    have := box_new (w.alloc (Obj.cells #[Value.slice aa na ca] 31)) (Obj.cells #[Value.slice none 0 0] 31); simpa using this
  have hWb : Below w.heap.size w ((w.alloc (Obj.cells #[Value.slice aa na ca] 31)).alloc (Obj.cells #[Value.slice none 0 0] 31)) := below_alloc' (below_alloc' (Below.refl _ _) (Nat.le_refl _) _) (Nat.le_refl _) _
  have hWs : ((w.alloc (Obj.cells #[Value.slice aa na ca] 31)).alloc (Obj.cells #[Value.slice none 0 0] 31)).heap.size = w.heap.size + 1 + 1 := by simp
  have hb1 : Below (w.heap.size + 1 + 1) ((w.alloc (Obj.cells #[Value.slice aa na ca] 31)).alloc (Obj.cells #[Value.slice none 0 0] 31)) (((w.alloc (Obj.cells #[Value.slice aa na ca] 31)).alloc (Obj.cells #[Value.slice none 0 0] 31)).alloc (Obj.cells #[] 3)) := below_alloc' (Below.refl _ _) (by omega) _
  generalize (w.alloc (Obj.cells #[Value.slice aa na ca] 31)).alloc (Obj.cells #[Value.slice none 0 0] 31) = W at *
  have hWt : w.heap.size + 1 + 1 ≤ W.heap.size := by omega
  clear hWs
  go_loopw [2, 7, 8] (fun c v i wr => ∃ (d : Nat) (D : List Nat), D.length ≤ na ∧ i = .int .i64 (D.length : Nat) ∧ c = .int .i64 d ∧ d < 1000000000 ∧ RSmallRel A D f m d ∧ wr.ownsRow (w.heap.size + 1 + 1) 3 1 v D.length (i64s D) ∧ Below (w.heap.size + 1 + 1) W wr) (fun _ _ i _ => na - (intOf i).toNat)
  case atStart => exact ⟨m, [], by simp, rfl, rfl, hm, ⟨by intro j; simp [lg], by simp [R.pv]⟩, hown0, hb1⟩
  case round =>
    obtain ⟨d, D, hk, rfl, rfl, hd, hR, hown, hbel⟩ := hrel
    have HR := hid hR
    clear hR hown0 hb1
    have hbw : Below w.heap.size w wr := hWb.trans (hbel.mono (by omega))
    have j1 := box_below hbel x1 (by omega)
    have e1 := cell_of_one j1
    obtain ⟨k, hkD⟩ : ∃ k, k = D.length := ⟨_, rfl⟩
    have HK := hid hkD
    rw [← hkD] at hk hown ⊢
    clear hkD j1
    by_cases hlt : k < na
    · have hA9 := hA k
      have HS := hid (show RSmallRel A (D ++ [(d + lg A k * f) % 1000000000]) f m ((d + lg A k * f) / 1000000000) from by rw [HK.out]; exact HR.out.step)
      obtain ⟨ga, rfl⟩ : ∃ ga, aa = some ⟨ga, 0, none⟩ := by
        rcases OA.out.2 with ⟨h', _⟩ | ⟨g, cap, cur, h', _⟩
        · simp at h'; omega
        · simp only [Value.slice.injEq] at h'; exact ⟨g, h'.1⟩
      have cA := i64s_at (by have := ownsRow_below OA.out hbw; rw [HN.out] at this; exact this) k (by have := HN.out; omega)
      obtain ⟨hT2, hT3⟩ := small_fits hA9 hf hd
      obtain ⟨y, hy⟩ : ∃ y, lg A k * f = y := ⟨_, rfl⟩
      rw [hy] at hT2 hT3 HS
      obtain ⟨T, hT⟩ : ∃ T, d + y = T := ⟨_, rfl⟩
      rw [hT] at hT2 HS
      have hTi : (d : Int) + (y : Int) = (T : Int) := by rw [← hT]; simp
      have eW := small_prod hy hT3
      have hsz := hbel.size
      clear hy hT
      generalize lg A k = x at *
      go_wp2_with (at_builtin; refine wpList_append_own _ rfl _ _ 29 rfl (w.heap.size + 1 + 1) 3 i0 (.int .i64 0) 1 8 Tryz.underlying29 hi hz0 hz1 hz2 rfl (by decide) _ _ _ rfl (hown.alloc _) ⟨wr.heap.size, 0, none⟩ 1 1 [.int .i64 ((T : Int) % 1000000000)] rfl rfl (by intro j u hu; match j, hu with | 0, hu => simp at hu; subst hu; simp [Addr.add]) (by intro u hu; simp at hu; subst hu; rfl) (by unfold maxLen; omega) (by omega) (by have := hbel.size; simp; omega) ?_)
      intro v' w1 hown3 hgrow hnil
      have hb3 : Below (w.heap.size + 1 + 1) W w1 := (below_alloc' hbel hWt _).grown hgrow (by have := hbel.size; simp; omega) (fun q hq => (hown.lt q hq).1)
      have hown4 : w1.ownsRow (w.heap.size + 1 + 1) 3 1 v' (D ++ [T % 1000000000]).length (i64s (D ++ [T % 1000000000])) := by
        rw [i64s_app, List.length_append, List.length_singleton, ← HK.out]; simpa using hown3
      have HO := hid hown4
      have HL := hid (show (D ++ [T % 1000000000]).length = k + 1 from by rw [List.length_append, List.length_singleton, ← HK.out])
      clear hown3 hown4 hgrow hnil hown hbel e1 hbw cA hTi
      go_wp2
      go_roundw
      case rel => exact ⟨T / 1000000000, D ++ [T % 1000000000], by have := HL.out; omega, by rw [HL.out]; go_num, by go_num, by omega, HS.out, HO.out, hb3⟩
      case measure => simp [intOf]; omega
    · have hkn : k = na := by omega
      have HF := hid (HR.out.done hd (by have := HN.out; have := HK.out; omega))
      have HL := hid (show (D ++ [d]).length = na + 1 from by rw [List.length_append, List.length_singleton, ← HK.out, hkn])
      clear hkn
      go_wp2_with (at_builtin; refine wpList_append_own _ rfl _ _ 29 rfl (w.heap.size + 1 + 1) 3 i0 (.int .i64 0) 1 8 Tryz.underlying29 hi hz0 hz1 hz2 rfl (by decide) _ _ _ rfl (hown.alloc _) ⟨wr.heap.size, 0, none⟩ 1 1 [.int .i64 (d : Int)] rfl rfl (by intro j u hu; match j, hu with | 0, hu => simp at hu; subst hu; simp [Addr.add]) (by intro u hu; simp at hu; subst hu; rfl) (by unfold maxLen; omega) (by omega) (by have := hbel.size; simp; omega) ?_)
      intro v' w1 hown3 hgrow hnil
      have hb3 : Below (w.heap.size + 1 + 1) W w1 := (below_alloc' hbel hWt _).grown hgrow (by have := hbel.size; simp; omega) (fun q hq => (hown.lt q hq).1)
      have hown4 : w1.ownsRow (w.heap.size + 1 + 1) 3 1 v' (D ++ [d]).length (i64s (D ++ [d])) := by
        rw [i64s_app, List.length_append, List.length_singleton, ← HK.out]; simpa using hown3
      clear hown3 hgrow hnil hown hbel e1 hbw
      obtain ⟨g, cap, hv⟩ : ∃ g cap, v' = .slice (some ⟨g, 0, none⟩) (D ++ [d]).length cap := by
        rcases hown4.2 with ⟨h0, h0'⟩ | ⟨g, cap, cur, hv, _⟩
        · have := HL.out; simp at h0'
        · exact ⟨g, cap, hv⟩
      rw [hv] at hown4 ⊢
      clear hv
      clear HR HK
      generalize D ++ [d] = E at *
      go_wp2_with fail
      refine (rtrim_base w1 (w.heap.size + 1 + 1) g cap E HF.out.1 hown4).mono ?_
      rintro e w3 ⟨⟨sl, M, rfl, hM, bM, tM, vM, lM⟩, hb4⟩
      have hx3 := box_below (hb3.trans (hb4.mono (by have := hb3.size; omega))) x3 (by omega)
      have hbw : Below w.heap.size w w3 := hWb.trans ((hb3.trans (hb4.mono (by have := hb3.size; omega))).mono (by omega))
      obtain ⟨ao, cp, hv⟩ := ints_slice hM
      rw [hv] at hM ⊢
      have cz := cell_of_one hx3
      have fz := free_of_one hx3
      have hM2 := own_box (ownsRow_base0 hM) hx3 (by decide) (.slice ao M.length cp)
      have hB2 := hbw.setCell (p := ⟨w.heap.size + 1, 0, none⟩) (by show w.heap.size ≤ w.heap.size + 1; omega) (.slice ao M.length cp)
      have hr := cell_of_one (one_setCell (u := .slice ao M.length cp) hx3)
      have HRr := hid hr
      have HV := hid (show R.val M = R.val A * f + m ∧ M.length ≤ na + 1 from ⟨vM.trans HF.out.2, by have := HL.out; omega⟩)
      clear hv hM hx3 hr vM lM hb3 hb4 hown4
      go_wp2
      exact bodyPost_ret (v := .agg #[.slice ao M.length cp]) (by simp [results, Tryz.results168, go_sem, HRr.out]) rfl ⟨_, rfl, ⟨_, M, rfl, hM2, bM, tM, HV.out.1, HV.out.2⟩, hB2⟩
theorem rsmall_any (w : World) (a : Value) (n K f m : Nat) (hK : K ≤ 1000000000) (hf : f < 1000000000) (hm : m < 1000000000) (ha : RefIs w a n K) :
    Calls Tryz.prog 168 #[a, .int .i64 f, .int .i64 m] w fun e w' => ∃ v, e = .returned v ∧ RefIs w' v (n * f + m) (K + 1) ∧ Below w.heap.size w w' := by
  obtain ⟨sa, A, rfl, oa, bA, tA, rfl, lA⟩ := ha
  obtain ⟨aa, ca, rfl⟩ := ints_slice oa
  refine (rsmall_walk w aa A.length ca f m A bA (by omega) rfl hf hm oa).mono ?_
  rintro e w' ⟨v, rfl, hv, hw⟩
  exact ⟨v, rfl, hv.mono (by omega), hw⟩
end Go.Proofs.YtcdkoadobdgbhaaGreatDoor
