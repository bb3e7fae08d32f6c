/- Add, Sub, Ends, Mul, RAdd. -/
import Derived.Test.YtjldlmonccgopaaGreatDoorPk6
import Derived.Deep.RegionHeld3
import Derived.Deep.DrawnRows
import Derived.Test.YtjldlmonccgopaaGreatDoorPk7
/- Add: the sum of two numbers. -/
namespace Go.Proofs.YtjldlmonccgopaaGreatDoor
open Go.RowKit
set_option linter.unusedVariables false
set_option maxRecDepth 100000
set_option linter.unusedSimpArgs false
attribute [local go_sem ↓] Go.wp_at_zero Go.wp_at_succ

theorem limb_at (w0 w : World) (v : Value) (L : List Nat) (hb : Bd L) (h : Limbs w0 v L) (hw : Below w0.heap.size w0 w) (i : Nat) :
    Calls Tryz.prog 93 #[.agg #[v], .int .i64 i] w fun e w' => e = .returned (.int .u64 (lg L i : Int)) ∧ ∃ c, w' = w.alloc (.cells c 25) :=
  limb_any w v L hb (h.below hw) i
theorem add_next (A B S : List Nat) (k d n : Nat) (hk : k < n + 1) (h : S.length = n + 1 ∧ Bd S ∧ (∀ j, k ≤ j → lg S j = 0) ∧ pv S k + d * 4294967296 ^ k = pv A k + pv B k) :
    (S.set k ((lg A k + lg B k + d) % 4294967296)).length = n + 1 ∧ Bd (S.set k ((lg A k + lg B k + d) % 4294967296)) ∧ (∀ j, k + 1 ≤ j → lg (S.set k ((lg A k + lg B k + d) % 4294967296)) j = 0) ∧
      pv (S.set k ((lg A k + lg B k + d) % 4294967296)) (k + 1) + (lg A k + lg B k + d) / 4294967296 * 4294967296 ^ (k + 1) = pv A (k + 1) + pv B (k + 1) := by
  obtain ⟨h1, h2, h3, h4⟩ := h
  refine ⟨by simpa using h1, Bd_set h2 k _ (by omega), fun j hj => ?_, add_round A B S k d (by omega) h4⟩
  rw [lg_set_other S k _ j (by omega)]; exact h3 j (by omega)
theorem add_done (A B S : List Nat) (n k d : Nat) (hk : k = n + 1) (ha : A.length ≤ n) (hb : B.length ≤ n) (hA : Bd A) (hB : Bd B) (h : S.length = n + 1 ∧ Bd S ∧ (∀ j, k ≤ j → lg S j = 0) ∧ pv S k + d * 4294967296 ^ k = pv A k + pv B k) : val S = val A + val B := by
  obtain ⟨h1, h2, _, h4⟩ := h
  subst hk
  have e1 : pv S (n + 1) = val S := pv_val S _ (by omega)
  have e2 : pv A (n + 1) = val A := pv_val A _ (by omega)
  have e3 : pv B (n + 1) = val B := pv_val B _ (by omega)
  have e4 : pv A n = val A := pv_val A _ (by omega)
  have e5 : pv B n = val B := pv_val B _ (by omega)
  have l1 := pv_lt hA n
  have l2 := pv_lt hB n
  rw [e1, e2, e3, Nat.pow_succ] at h4
  have := no_carry h4 (by omega)
  exact this.2
theorem add_keep {W X : World} {B p q : Nat} {a b : Value} (hx : W.cell? ⟨p, 0, none⟩ = some a) (hy : W.cell? ⟨q, 0, none⟩ = some b) (hp : p < B) (hq : q < B) (h : Below B W X) : X.cell? ⟨p, 0, none⟩ = some a ∧ X.cell? ⟨q, 0, none⟩ = some b ∧ Below B W X :=
  ⟨(h.cell (by exact hp)).trans hx, (h.cell (by exact hq)).trans hy, h⟩
set_option maxHeartbeats 1000000 in
theorem add_walk (w : World) (aa ab : Option Addr) (na ca nb cb n : Nat) (A B : List Nat) (hA : Bd A) (hB : Bd B) (hna : na ≤ 1000000000) (hnb : nb ≤ 1000000000) (hn : max na nb = n) (hAl : A.length = na) (hBl : B.length = nb)
    (oa : Limbs w (.slice aa na ca) A) (ob : Limbs w (.slice ab nb cb) B) :
    Calls Tryz.prog 59 #[.agg #[.slice aa na ca], .agg #[.slice ab nb cb]] w fun e w' => ∃ v, e = .returned v ∧ NatIs w' v (val A + val B) (n + 1) ∧ Below w.heap.size w w' := by
  obtain ⟨i0, hi, hz0, hz1, hz2⟩ := info_parts Tryz.info94
  have HN : Hid (max na nb = n ∧ A.length ≤ n ∧ B.length ≤ n) := ⟨hn, by omega, by omega⟩
  have hn' : n ≤ 1000000000 := by omega
  clear hn hAl hBl
  rcases (show nb < na ∨ na < nb ∨ na ≤ nb ∧ nb ≤ na by omega) with hc | hc | ⟨hc, hc'⟩
  all_goals
    go_enter Tryz.func59, Tryz.ntmps59
    go_wp2_with (first | (at_make; refine wpList_make_full _ rfl _ _ 23 rfl (w.heap.size + 1 + 1 + 1) 94 i0 (.int .u32 0) 1 Tryz.underlying23 hi hz0 hz1 _ _ _ _ (n + 1) rfl rfl (by have := HN.out.1; omega) (by have := HN.out.1; omega) (by rw [hz2]; omega) (by unfold maxLen; omega) (by simp) ?_))
    intro w1 hown hgrow
    have hb1 : Below (w.heap.size + 1 + 1 + 1) (((w.alloc (Obj.cells #[Value.slice aa na ca] 25)).alloc (Obj.cells #[Value.slice ab nb cb] 25)).alloc (Obj.cells #[Value.slice none 0 0] 25)) w1 := by
      have := (Below.refl (w.heap.size + 1 + 1 + 1) _).grown hgrow (by simp) (by intro k hk; simp at hk)
      exact this
    simp only [toList_madeCells_one, Value.cells, Nat.mul_one] at hown
    rw [← u32s_rep] at hown
    have hWx : (((w.alloc (Obj.cells #[Value.slice aa na ca] 25)).alloc (Obj.cells #[Value.slice ab nb cb] 25)).alloc (Obj.cells #[Value.slice none 0 0] 25)).cell? ⟨w.heap.size, 0, none⟩ = some (.slice aa na ca) := by simp [go_sem]
    have hWy : (((w.alloc (Obj.cells #[Value.slice aa na ca] 25)).alloc (Obj.cells #[Value.slice ab nb cb] 25)).alloc (Obj.cells #[Value.slice none 0 0] 25)).cell? ⟨w.heap.size + 1, 0, none⟩ = some (.slice ab nb cb) := by simp [go_sem]
    have hWz : (((w.alloc (Obj.cells #[Value.slice aa na ca] 25)).alloc (Obj.cells #[Value.slice ab nb cb] 25)).alloc (Obj.cells #[Value.slice none 0 0] 25)).cell? ⟨w.heap.size + 1 + 1, 0, none⟩ = some (.slice none 0 0) := by simp [go_sem]
    have hWf : (((w.alloc (Obj.cells #[Value.slice aa na ca] 25)).alloc (Obj.cells #[Value.slice ab nb cb] 25)).alloc (Obj.cells #[Value.slice none 0 0] 25)).frozen? ⟨w.heap.size + 1 + 1, 0, none⟩ = false := by simp [go_sem]
    have hWb : Below w.heap.size w (((w.alloc (Obj.cells #[Value.slice aa na ca] 25)).alloc (Obj.cells #[Value.slice ab nb cb] 25)).alloc (Obj.cells #[Value.slice none 0 0] 25)) := (((Below.refl _ _).alloc (Nat.le_refl _) _).alloc (by simp) _).alloc (by simp; omega) _
    have hWs : (((w.alloc (Obj.cells #[Value.slice aa na ca] 25)).alloc (Obj.cells #[Value.slice ab nb cb] 25)).alloc (Obj.cells #[Value.slice none 0 0] 25)).heap.size = w.heap.size + 1 + 1 + 1 := by simp
    clear hgrow
    generalize ((w.alloc (Obj.cells #[Value.slice aa na ca] 25)).alloc (Obj.cells #[Value.slice ab nb cb] 25)).alloc (Obj.cells #[Value.slice none 0 0] 25) = W at *
    have hWt : w.heap.size + 1 + 1 + 1 ≤ W.heap.size := by omega
    clear hWs
    go_wp2
    go_loopw [6, 20] (fun c i wr => ∃ (k d : Nat) (S : List Nat), k ≤ n + 1 ∧ i = .int .i64 k ∧ c = .int .u64 d ∧ d ≤ 1 ∧ S.length = n + 1 ∧ Bd S ∧ (∀ j, k ≤ j → lg S j = 0) ∧ pv S k + d * 4294967296 ^ k = pv A k + pv B k ∧
        wr.ownsRow (w.heap.size + 1 + 1 + 1) 94 1 (.slice (some ⟨w.heap.size + 1 + 1 + 1, 0, none⟩) (n + 1) (n + 1)) (n + 1) (u32s S) ∧ Below (w.heap.size + 1 + 1 + 1) W wr) (fun _ i _ => n + 1 - (intOf i).toNat)
    case atStart => exact ⟨0, 0, List.replicate (n + 1) 0, Nat.zero_le _, rfl, rfl, by omega, by simp, Bd_rep _, fun j _ => lg_rep _ _, by simp [pv], hown, hb1⟩
    case round =>
      obtain ⟨k, d, S, hk, rfl, rfl, hd, hS, hSb, hSz, hpv, hown', hbel⟩ := hrel
      have R : Hid (S.length = n + 1 ∧ Bd S ∧ (∀ j, k ≤ j → lg S j = 0) ∧ pv S k + d * 4294967296 ^ k = pv A k + pv B k) := ⟨hS, hSb, hSz, hpv⟩
      clear hS hSb hSz hpv hown hb1
      have hbw : Below w.heap.size w wr := hWb.trans (hbel.mono (by omega))
      have e1 : wr.cell? ⟨w.heap.size, 0, none⟩ = some (.slice aa na ca) := (hbel.cell (by show w.heap.size < _; omega)).trans hWx
      have e2 : wr.cell? ⟨w.heap.size + 1, 0, none⟩ = some (.slice ab nb cb) := (hbel.cell (by show w.heap.size + 1 < _; omega)).trans hWy
      have hsz : w.heap.size ≤ wr.heap.size := hbw.size
      by_cases hlt : k < n + 1
      · go_wp2
        go_region_held3 (fun w' => w'.cell? ⟨w.heap.size, 0, none⟩ = some (.slice aa na ca) ∧ w'.cell? ⟨w.heap.size + 1, 0, none⟩ = some (.slice ab nb cb) ∧ Below (w.heap.size + 1 + 1 + 1) W w') 
          ((refine add_keep hWx hWy (by omega) (by omega) ?_; first | exact hbel.drew | exact below_alloc' hbel.drew hWt _ | exact (below_alloc' hbel hWt _).drew | exact below_alloc' (below_alloc' hbel.drew hWt _) hWt _))
          (first | (go_at_call_of 93 (Value.agg #[Value.slice aa na ca]); refine (limb_at w _ _ A hA oa ?_ k).mono ?_; exact hbw.drew; rintro e w' ⟨rfl, c1, rfl⟩) | (go_at_call_of 93 (Value.agg #[Value.slice ab nb cb]); refine (limb_at w _ _ B hB ob ?_ k).mono ?_; (first | exact hbw.drew.alloc hsz _ | exact (hbw.alloc hsz _).drew); rintro e w' ⟨rfl, c2, rfl⟩))
        have eT : IntKind.u64.wrap (IntKind.u64.wrap (↑(lg A k) + ↑(lg B k)) + ↑d) = ((lg A k + lg B k + d : Nat) : Int) := by
          have := hA k; have := hB k
          have e1 : IntKind.u64.wrap ((lg A k : Int) + (lg B k : Int)) = (lg A k : Int) + (lg B k : Int) := w64 _ (by omega) (by omega)
          rw [e1, w64 _ (by omega) (by omega)]; omega
        have hT2 : lg A k + lg B k + d < 8589934592 := by have := hA k; have := hB k; omega
        rw [eT]
        clear eT
        have RN := add_next A B S k d n (by omega) R.out
        generalize lg A k + lg B k + d = T at *
        have own2 : ((wr.alloc (Obj.cells c1 25)).alloc (Obj.cells c2 25)).drew.ownsRow (w.heap.size + 1 + 1 + 1) 94 1 (.slice (some ⟨w.heap.size + 1 + 1 + 1, 0, none⟩) (n + 1) (n + 1)) (n + 1) (u32s S) := ((hown'.alloc _).alloc _).drew
        have bel2 : Below (w.heap.size + 1 + 1 + 1) W ((wr.alloc (Obj.cells c1 25)).alloc (Obj.cells c2 25)).drew := (below_alloc' (below_alloc' hbel hWt _) hWt _).drew
        generalize ((wr.alloc (Obj.cells c1 25)).alloc (Obj.cells c2 25)).drew = w2 at *
        clear hown' hbel hbw e1 e2 hsz
        have hst := u32s_at own2 k (by rw [R.out.1]; omega)
        have hfr := own2.frozenAt k
        have own3 := own2.stored k (.int .u32 ((T % 4294967296 : Nat) : Int))
        rw [← u32s_set] at own3
        rw [show ((T % 4294967296 : Nat) : Int) = (T : Int) % 4294967296 by omega] at own3
        have HO := hid own3
        have HR := hid RN
        clear own3 own2 RN
        go_wp2
        go_roundw
        case rel => exact ⟨k + 1, T / 4294967296, S.set k (T % 4294967296), by omega, by go_num, by go_num, by omega, HR.out.1, HR.out.2.1, HR.out.2.2.1, HR.out.2.2.2, HO.out.1, bel2.setCell (by exact Nat.le_refl _) _⟩
        case measure => simp [intOf]; omega
      · have hk' : k = n + 1 := by omega
        rw [← R.out.1] at hown'
        have hZ := (hbel.cell (p := ⟨w.heap.size + 1 + 1, 0, none⟩) (by show w.heap.size + 1 + 1 < _; omega)).trans hWz
        have hF := (hbel.frozen (p := ⟨w.heap.size + 1 + 1, 0, none⟩) (by show w.heap.size + 1 + 1 < _; omega)).trans hWf
        go_wp2_with fail
        refine (trim_base wr (w.heap.size + 1 + 1 + 1) _ S R.out.2.1 ?_).mono ?_
        · have := hown'; rw [R.out.1] at this ⊢; exact this
        clear hown'
        rintro e w' ⟨⟨v', M, rfl, hM, bM, tM, vM, lM⟩, rfl⟩
        obtain ⟨ao, cp, hv⟩ := Limbs.slice (ownsRow_base0 hM)
        rw [hv]
        rw [hv] at hM
        clear hv
        have HV := hid vM
        have HK := hid hk'
        clear vM hk'
        have hM2 := ownsRow_setCell_below hM (a := ⟨w.heap.size + 1 + 1, 0, none⟩) (by show w.heap.size + 1 + 1 < _; omega) (.slice ao M.length cp)
        clear hM
        have hB2 := hbw.setCell (p := ⟨w.heap.size + 1 + 1, 0, none⟩) (by show w.heap.size ≤ w.heap.size + 1 + 1; omega) (.slice ao M.length cp)
        go_wp2
        refine bodyPost_ret (v := .agg #[.slice ao M.length cp]) (by simp [results, Tryz.results59, go_sem, hZ, hF]) rfl ⟨_, rfl, ⟨_, M, rfl, ownsRow_base0 hM2, bM, tM, ?_, ?_⟩, hB2⟩
        · rw [HV.out]; exact add_done A B S n k d HK.out HN.out.2.1 HN.out.2.2 hA hB R.out
        · have := R.out.1; omega
/-- Add: the sum. -/
theorem add_any (w : World) (a b : Value) (m n K K' : Nat) (hK : K ≤ 1000000000) (hK' : K' ≤ 1000000000) (ha : NatIs w a m K) (hb : NatIs w b n K') :
    Calls Tryz.prog 59 #[a, b] w fun e w' => ∃ v, e = .returned v ∧ NatIs w' v (m + n) (max K K' + 1) ∧ Below w.heap.size w w' := by
  obtain ⟨sa, A, rfl, oa, bA, tA, rfl, lA⟩ := ha
  obtain ⟨sb, B, rfl, ob, bB, tB, rfl, lB⟩ := hb
  obtain ⟨aa, ca, rfl⟩ := oa.slice
  obtain ⟨ab, cb, rfl⟩ := ob.slice
  refine (add_walk w aa ab A.length ca B.length cb (max A.length B.length) A B bA bB (by omega) (by omega) rfl rfl rfl oa ob).mono ?_
  rintro e w' ⟨v, rfl, hv, hw⟩
  exact ⟨v, rfl, hv.mono (by omega), hw⟩
end Go.Proofs.YtjldlmonccgopaaGreatDoor
/- Sub: the difference of two numbers. -/
namespace Go.Proofs.YtjldlmonccgopaaGreatDoor
open Go.RowKit
set_option linter.unusedVariables false
set_option maxRecDepth 100000
set_option linter.unusedSimpArgs false
attribute [local go_sem ↓] Go.wp_at_zero Go.wp_at_succ

/-- What 'a - b - c' is as a word, and what is borrowed. -/
def subT (a b c : Nat) : Nat := if b + c ≤ a then a - b - c else 18446744073709551616 + a - b - c
theorem subT_facts {a b c : Nat} (ha : a < 4294967296) (hb : b < 4294967296) (hc : c ≤ 1) : subT a b c < 18446744073709551616 ∧ subT a b c / 9223372036854775808 ≤ 1 ∧ subT a b c % 4294967296 + b + c = a + subT a b c / 9223372036854775808 * 4294967296 := by
  unfold subT; split <;> omega
theorem subT_wrap {a b c : Nat} (ha : a < 4294967296) (hb : b < 4294967296) (hc : c ≤ 1) : IntKind.u64.wrap (IntKind.u64.wrap ((a : Int) - (b : Int)) - (c : Int)) = ((subT a b c : Nat) : Int) := by
  rw [IntKind.wrap_u64, IntKind.wrap_u64]
  by_cases h : b + c ≤ a
  · rw [subT, if_pos h]; omega
  · rw [subT, if_neg h]; omega
def SubRel (A B S : List Nat) (n k d : Nat) : Prop := S.length = n ∧ Bd S ∧ pv S k + pv B k = pv A k + d * 4294967296 ^ k
theorem sub_next (A B S : List Nat) (n k d t q : Nat) (hk : k < n) (ht : t < 4294967296) (he : t + lg B k + d = lg A k + q * 4294967296) (h : SubRel A B S n k d) : SubRel A B (S.set k t) n (k + 1) q := by
  obtain ⟨h1, h2, h3⟩ := h
  refine ⟨by simpa using h1, Bd_set h2 _ _ ht, ?_⟩
  simp only [pv]
  rw [pv_set_past S k _ k (Nat.le_refl _), lg_set_same S k _ (by omega), Nat.pow_succ]
  generalize 4294967296 ^ k = p at *
  have e1 : (t + lg B k + d) * p = (lg A k + q * 4294967296) * p := by rw [he]
  rw [Nat.add_mul, Nat.add_mul, Nat.add_mul] at e1
  have e2 : q * (p * 4294967296) = q * 4294967296 * p := by rw [Nat.mul_comm p, ← Nat.mul_assoc]
  rw [e2]
  omega
theorem sub_done (A B S : List Nat) (n d : Nat) (ha : A.length = n) (hb : B.length ≤ n) (hle : val B ≤ val A) (h : SubRel A B S n n d) : val S = val A - val B := by
  obtain ⟨h1, h2, h3⟩ := h
  rw [pv_val S n (by omega), pv_val B n hb, pv_val A n (by omega)] at h3
  have h4 := val_lt h2
  rw [h1] at h4
  rcases Nat.eq_zero_or_pos d with e | e
  · rw [e] at h3; omega
  · have : 1 * 4294967296 ^ n ≤ d * 4294967296 ^ n := Nat.mul_le_mul_right _ e
    omega
theorem len_le_of_val {A B : List Nat} (bA : Bd A) (tB : Top B) (h : val B ≤ val A) : B.length ≤ A.length := by
  rcases Nat.lt_or_ge A.length B.length with e | e
  · have := val_lt_len bA tB e; omega
  · exact e
theorem two_keep {X : World} {p q : Nat} {a b : Value} (h1 : X.cell? ⟨p, 0, none⟩ = some a) (h2 : X.cell? ⟨q, 0, none⟩ = some b) (o : Obj) : (X.alloc o).cell? ⟨p, 0, none⟩ = some a ∧ (X.alloc o).cell? ⟨q, 0, none⟩ = some b :=
  ⟨(Below.cell ((Below.refl X.heap.size X).alloc (Nat.le_refl _) o) (World.block_lt_of_cell? X _ h1)).trans h1, (Below.cell ((Below.refl X.heap.size X).alloc (Nat.le_refl _) o) (World.block_lt_of_cell? X _ h2)).trans h2⟩
set_option maxHeartbeats 1000000 in
theorem sub_walk (w : World) (aa ab : Option Addr) (na ca nb cb : Nat) (A B : List Nat) (hA : Bd A) (hB : Bd B) (tA : Top A) (tB : Top B) (hna : na ≤ 1000000000) (hnb : nb ≤ 1000000000) (hAl : A.length = na) (hBl : B.length = nb)
    (oa : Limbs w (.slice aa na ca) A) (ob : Limbs w (.slice ab nb cb) B) (hle : val B ≤ val A) :
    Calls Tryz.prog 60 #[.agg #[.slice aa na ca], .agg #[.slice ab nb cb]] w fun e w' => ∃ v, e = .returned (.tuple #[v, .int .i64 0]) ∧ NatIs w' v (val A - val B) na ∧ Below w.heap.size w w' := by
  obtain ⟨i0, hi, hz0, hz1, hz2⟩ := info_parts Tryz.info94
  have hx0 : (((w.alloc (Obj.cells #[Value.slice aa na ca] 25)).alloc (Obj.cells #[Value.slice ab nb cb] 25)).alloc (Obj.cells #[Value.slice none 0 0] 25)).heap[w.heap.size]? = some (Obj.cells #[Value.slice aa na ca] 25) := box_alloc (box_alloc (box_new _ _) _) _
  have hy0 : (((w.alloc (Obj.cells #[Value.slice aa na ca] 25)).alloc (Obj.cells #[Value.slice ab nb cb] 25)).alloc (Obj.cells #[Value.slice none 0 0] 25)).heap[w.heap.size + 1]? = some (Obj.cells #[Value.slice ab nb cb] 25) := by
    have := box_alloc (box_new (w.alloc (Obj.cells #[Value.slice aa na ca] 25)) (Obj.cells #[Value.slice ab nb cb] 25)) (Obj.cells #[Value.slice none 0 0] 25); simpa using this
  have hz0' : (((w.alloc (Obj.cells #[Value.slice aa na ca] 25)).alloc (Obj.cells #[Value.slice ab nb cb] 25)).alloc (Obj.cells #[Value.slice none 0 0] 25)).heap[w.heap.size + 1 + 1]? = some (Obj.cells #[Value.slice none 0 0] 25) := by
    have := box_new ((w.alloc (Obj.cells #[Value.slice aa na ca] 25)).alloc (Obj.cells #[Value.slice ab nb cb] 25)) (Obj.cells #[Value.slice none 0 0] 25); simpa using this
  have hw0 : Below w.heap.size w (((w.alloc (Obj.cells #[Value.slice aa na ca] 25)).alloc (Obj.cells #[Value.slice ab nb cb] 25)).alloc (Obj.cells #[Value.slice none 0 0] 25)) := (((Below.refl _ _).alloc (Nat.le_refl _) _).alloc (by simp) _).alloc (by simp; omega) _
  have na0 : NatIs w (.agg #[.slice aa na ca]) (val A) na := ⟨_, A, rfl, oa, hA, tA, rfl, by omega⟩
  have nb0 : NatIs w (.agg #[.slice ab nb cb]) (val B) nb := ⟨_, B, rfl, ob, hB, tB, rfl, by omega⟩
  have hlb := len_le_of_val hA tB hle
  have HA := hid (And.intro hAl (And.intro hlb hle))
  obtain ⟨q, hq⟩ : ∃ q, cmpI (val A) (val B) = q := ⟨_, rfl⟩
  have hq0 : ¬ q < 0 := by rw [← hq]; unfold cmpI; split <;> (try split) <;> omega
  have HQ := hid hq
  clear hAl hBl hlb hle hq
  go_enter Tryz.func60, Tryz.ntmps60
  go_wp2_with fail
  generalize ((w.alloc (Obj.cells #[Value.slice aa na ca] 25)).alloc (Obj.cells #[Value.slice ab nb cb] 25)).alloc (Obj.cells #[Value.slice none 0 0] 25) = W at *
  refine (cmp_any W _ _ _ _ _ _ (na0.below hw0) (nb0.below hw0)).mono ?_
  rintro e wc ⟨rfl, hbc⟩
  rw [HQ.out]
  have hx := box_below hbc hx0 (lt_of_block hx0)
  have hy := box_below hbc hy0 (lt_of_block hy0)
  have hz := box_below hbc hz0' (lt_of_block hz0')
  have hwc := chain2 hw0 hbc
  have lz := lt_of_block hz
  have cx := cell_of_one hx
  have cy := cell_of_one hy
  clear hx0 hy0 hz0' hw0 hbc na0 nb0
  go_wp2_with (first | (at_make; refine wpList_make_full _ rfl _ _ 23 rfl wc.heap.size 94 i0 (.int .u32 0) 1 Tryz.underlying23 hi hz0 hz1 _ _ _ _ na rfl rfl rfl rfl (by rw [hz2]; omega) (by unfold maxLen; omega) (Nat.le_refl _) ?_))
  intro w1 hown hgrow
  have hb1 : Below wc.heap.size wc w1 := (Below.refl wc.heap.size wc).grown hgrow (Nat.le_refl _) (by intro k hk; simp at hk)
  simp only [toList_madeCells_one, Value.cells, Nat.mul_one] at hown
  rw [← u32s_rep] at hown
  clear hgrow cx cy
  go_wp2
  go_loopw [7, 21] (fun c i wr => ∃ (k d : Nat) (S : List Nat), k ≤ na ∧ i = .int .i64 k ∧ c = .int .u64 d ∧ d ≤ 1 ∧ SubRel A B S na k d ∧
      wr.ownsRow wc.heap.size 94 1 (.slice (some ⟨wc.heap.size, 0, none⟩) na na) na (u32s S) ∧ Below wc.heap.size wc wr) (fun _ i _ => na - (intOf i).toNat)
  case atStart => exact ⟨0, 0, List.replicate na 0, Nat.zero_le _, rfl, rfl, by omega, ⟨by simp, Bd_rep _, by simp [pv]⟩, hown, hb1⟩
  case round =>
    obtain ⟨k, d, S, hk, rfl, rfl, hd, hR, hown', hbel⟩ := hrel
    have R := hid hR
    clear hR hown hb1
    have hbw : Below w.heap.size w wr := chain2 hwc hbel
    have e1 := cell_of_one (box_below hbel hx (lt_of_block hx))
    have e2 := cell_of_one (box_below hbel hy (lt_of_block hy))
    have hsz : w.heap.size ≤ wr.heap.size := hbw.size
    by_cases hlt : k < na
    · go_wp2
      have K0 : wr.drew.cell? ⟨w.heap.size, 0, none⟩ = some (.slice aa na ca) ∧ wr.drew.cell? ⟨w.heap.size + 1, 0, none⟩ = some (.slice ab nb cb) := ⟨e1, e2⟩
      go_region_held3 (fun w' => w'.cell? ⟨w.heap.size, 0, none⟩ = some (.slice aa na ca) ∧ w'.cell? ⟨w.heap.size + 1, 0, none⟩ = some (.slice ab nb cb)) ((first | exact K0 | exact K1 | exact K2)) (first | (go_at_call_of 93 (Value.agg #[Value.slice aa na ca]); refine (limb_at w _ _ A hA oa ?_ k).mono ?_; exact hbw.drew; rintro e w' ⟨rfl, c1, rfl⟩; have K1 := two_keep e1 e2 (Obj.cells c1 25)) | (go_at_call_of 93 (Value.agg #[Value.slice ab nb cb]); refine (limb_at w _ _ B hB ob ?_ k).mono ?_; (first | exact hbw.drew.alloc hsz _ | exact (hbw.alloc hsz _).drew); rintro e w' ⟨rfl, c2, rfl⟩; have K2 := two_keep K1.1 K1.2 (Obj.cells c2 25)))
      rw [subT_wrap (hA k) (hB k) hd]
      have F := subT_facts (hA k) (hB k) hd
      have HN := hid (sub_next A B S na k d _ _ hlt (Nat.mod_lt _ (by omega)) F.2.2 R.out)
      have hT := F.1
      have hq1 := F.2.1
      generalize subT (lg A k) (lg B k) d = T at *
      have own2 : ((wr.alloc (Obj.cells c1 25)).alloc (Obj.cells c2 25)).drew.ownsRow wc.heap.size 94 1 (.slice (some ⟨wc.heap.size, 0, none⟩) na na) na (u32s S) := ((hown'.alloc _).alloc _).drew
      have bel2 : Below wc.heap.size wc ((wr.alloc (Obj.cells c1 25)).alloc (Obj.cells c2 25)).drew := (below_alloc' (below_alloc' hbel (Nat.le_refl _) _) (Nat.le_refl _) _).drew
      clear K0 K1 K2
      generalize ((wr.alloc (Obj.cells c1 25)).alloc (Obj.cells c2 25)).drew = w2 at *
      clear hown' hbel hbw e1 e2 hsz F
      have hst := u32s_at own2 k (by rw [R.out.1]; omega)
      have hfr := own2.frozenAt k
      have own3 := own2.stored k (.int .u32 ((T % 4294967296 : Nat) : Int))
      rw [← u32s_set] at own3
      rw [show ((T % 4294967296 : Nat) : Int) = (T : Int) % 4294967296 by omega] at own3
      have HO := hid own3
      clear own3 own2
      go_wp2
      go_roundw
      case rel => exact ⟨k + 1, T / 9223372036854775808, S.set k (T % 4294967296), by omega, by go_num, by go_num, hq1, HN.out, HO.out.1, bel2.setCell (Nat.le_refl _) _⟩
      case measure => simp [intOf]; omega
    · have hk' : k = na := by omega
      have hz' := box_below hbel hz (lt_of_block hz)
      have hZ := cell_of_one hz'
      have hF := free_of_one hz'
      have HV := hid (sub_done A B S na d HA.out.1 (by have := HA.out; omega) HA.out.2.2 (by have := R.out; rw [hk'] at this; exact this))
      clear hk' e1 e2 hx hy hz
      go_wp2_with fail
      refine (trim_base wr wc.heap.size _ S R.out.2.1 ?_).mono ?_
      · rw [R.out.1]; exact hown'
      clear hown'
      rintro e w' ⟨⟨v', M, rfl, hM, bM, tM, vM, lM⟩, rfl⟩
      obtain ⟨ao, cp, hv⟩ := Limbs.slice (ownsRow_base0 hM)
      rw [hv]
      rw [hv] at hM
      clear hv
      have HM := hid vM
      clear vM
      have hM2 := ownsRow_setCell_below hM (a := ⟨w.heap.size + 1 + 1, 0, none⟩) (by exact lz) (.slice ao M.length cp)
      clear hM
      have hB2 := hbw.setCell (p := ⟨w.heap.size + 1 + 1, 0, none⟩) (by show w.heap.size ≤ w.heap.size + 1 + 1; omega) (.slice ao M.length cp)
      have hr := cell_of_one (one_setCell (u := .slice ao M.length cp) hz')
      have HRr := hid hr
      clear hr hz'
      go_wp2
      refine bodyPost_ret (v := .tuple #[.agg #[.slice ao M.length cp], .int .i64 0]) (by simp [results, Tryz.results60, go_sem, HRr.out]) rfl ⟨_, rfl, ⟨_, M, rfl, ownsRow_base0 hM2, bM, tM, ?_, ?_⟩, hB2⟩
      · rw [HM.out]; exact HV.out
      · have := R.out.1; omega
set_option maxHeartbeats 400000 in
theorem sub_below (w : World) (aa ab : Option Addr) (la ca lb cb m n K K' : Nat) (ha : NatIs w (.agg #[.slice aa la ca]) m K) (hb : NatIs w (.agg #[.slice ab lb cb]) n K') (h : m < n) :
    Calls Tryz.prog 60 #[.agg #[.slice aa la ca], .agg #[.slice ab lb cb]] w fun e w' => e = .returned (.tuple #[.agg #[.slice none 0 0], .int .i64 11]) ∧ Below w.heap.size w w' := by
  have hz0' : (((w.alloc (Obj.cells #[Value.slice aa la ca] 25)).alloc (Obj.cells #[Value.slice ab lb cb] 25)).alloc (Obj.cells #[Value.slice none 0 0] 25)).heap[w.heap.size + 1 + 1]? = some (Obj.cells #[Value.slice none 0 0] 25) := by
    have := box_new ((w.alloc (Obj.cells #[Value.slice aa la ca] 25)).alloc (Obj.cells #[Value.slice ab lb cb] 25)) (Obj.cells #[Value.slice none 0 0] 25); simpa using this
  have hw0 : Below w.heap.size w (((w.alloc (Obj.cells #[Value.slice aa la ca] 25)).alloc (Obj.cells #[Value.slice ab lb cb] 25)).alloc (Obj.cells #[Value.slice none 0 0] 25)) := (((Below.refl _ _).alloc (Nat.le_refl _) _).alloc (by simp) _).alloc (by simp; omega) _
  go_enter Tryz.func60, Tryz.ntmps60
  go_wp2_with fail
  generalize ((w.alloc (Obj.cells #[Value.slice aa la ca] 25)).alloc (Obj.cells #[Value.slice ab lb cb] 25)).alloc (Obj.cells #[Value.slice none 0 0] 25) = W at *
  refine (cmp_any W _ _ _ _ _ _ (ha.below hw0) (hb.below hw0)).mono ?_
  rintro e wc ⟨rfl, hbc⟩
  rw [cmpI_lt h]
  have hz := box_below hbc hz0' (lt_of_block hz0')
  have hwc := chain2 hw0 hbc
  have cz := cell_of_one hz
  have fz := free_of_one hz
  have hr := cell_of_one (one_setCell (u := .slice none 0 0) hz)
  have hB2 := hwc.setCell (p := ⟨w.heap.size + 1 + 1, 0, none⟩) (by show w.heap.size ≤ w.heap.size + 1 + 1; omega) (.slice none 0 0)
  have HR := hid hr
  clear hz hz0' hr
  go_wp2
  exact bodyPost_ret (v := .tuple #[.agg #[.slice none 0 0], .int .i64 11]) (by simp [results, Tryz.results60, go_sem, HR.out]) rfl ⟨rfl, hB2⟩
/-- Sub where it is not below 0: the difference. -/
theorem sub_any (w : World) (a b : Value) (m n K K' : Nat) (hK : K ≤ 1000000000) (hK' : K' ≤ 1000000000) (ha : NatIs w a m K) (hb : NatIs w b n K') (h : n ≤ m) :
    Calls Tryz.prog 60 #[a, b] w fun e w' => ∃ v, e = .returned (.tuple #[v, .int .i64 0]) ∧ NatIs w' v (m - n) K ∧ Below w.heap.size w w' := by
  obtain ⟨sa, A, rfl, oa, bA, tA, rfl, lA⟩ := ha
  obtain ⟨sb, B, rfl, ob, bB, tB, rfl, lB⟩ := hb
  obtain ⟨aa, ca, rfl⟩ := oa.slice
  obtain ⟨ab, cb, rfl⟩ := ob.slice
  refine (sub_walk w aa ab A.length ca B.length cb A B bA bB tA tB (by omega) (by omega) rfl rfl oa ob h).mono ?_
  rintro e w' ⟨v, rfl, hv, hw⟩
  exact ⟨v, rfl, hv.mono lA, hw⟩
end Go.Proofs.YtjldlmonccgopaaGreatDoor
/- What the laws share: four variables kept; a variable that is laid and then written; Sub's answer with its form. -/
namespace Go.Proofs.YtjldlmonccgopaaGreatDoor
open Go.RowKit
set_option linter.unusedVariables false

theorem keep4 {W X : World} {p q r s : Nat} {a b c d : Value} (hp : W.cell? ⟨p, 0, none⟩ = some a) (hq : W.cell? ⟨q, 0, none⟩ = some b) (hr : W.cell? ⟨r, 0, none⟩ = some c) (hs : W.cell? ⟨s, 0, none⟩ = some d) (h : Below W.heap.size W X) :
    X.cell? ⟨p, 0, none⟩ = some a ∧ X.cell? ⟨q, 0, none⟩ = some b ∧ X.cell? ⟨r, 0, none⟩ = some c ∧ X.cell? ⟨s, 0, none⟩ = some d :=
  ⟨(keep3 hp hq hr h).1, (keep3 hp hq hr h).2.1, (keep3 hp hq hr h).2.2, (h.cell (World.block_lt_of_cell? W _ hs)).trans hs⟩
theorem end_set {X0 w13 : World} {g : Nat} {v : Value} {m K : Nat} (B3 : Below X0.heap.size X0 w13) (z0 : w13.heap[g]? = some (Obj.cells #[Value.slice none 0 0] 25)) (hg : X0.heap.size ≤ g) (m3 : NatIs w13 v m K) (u : Value) :
    Below X0.heap.size X0 (w13.setCell ⟨g, 0, none⟩ u) ∧ (w13.setCell ⟨g, 0, none⟩ u).heap[g]? = some (Obj.cells #[u] 25) ∧ NatIs (w13.setCell ⟨g, 0, none⟩ u) v m K :=
  ⟨B3.setCell (p := ⟨g, 0, none⟩) hg u, one_setCell (u := u) z0, m3.box z0 (by decide) u⟩
theorem end_new {X0 w13 : World} {v : Value} {m K : Nat} (B3 : Below X0.heap.size X0 w13) (m3 : NatIs w13 v m K) (u : Value) :
    Below X0.heap.size X0 (w13.alloc (Obj.cells #[u] 25)) ∧ (w13.alloc (Obj.cells #[u] 25)).heap[w13.heap.size]? = some (Obj.cells #[u] 25) ∧ NatIs (w13.alloc (Obj.cells #[u] 25)) v m K :=
  ⟨below_alloc' B3 (Nat.le_refl _) _, box_new _ _, m3.below ((Below.refl _ _).alloc (Nat.le_refl _) _)⟩
theorem sub_form (w : World) (a b : Value) (m n K K' : Nat) (hK : K ≤ 1000000000) (hK' : K' ≤ 1000000000) (ha : NatIs w a m K) (hb : NatIs w b n K') (h : n ≤ m) :
    Calls Tryz.prog 60 #[a, b] w fun e w' => ∃ ao l c, e = .returned (.tuple #[.agg #[.slice ao l c], .int .i64 0]) ∧ NatIs w' (.agg #[.slice ao l c]) (m - n) K ∧ Below w.heap.size w w' := by
  refine (sub_any w a b m n K K' hK hK' ha hb h).mono ?_
  rintro e w' ⟨v, rfl, nv, hb⟩
  obtain ⟨ao, l, c, rfl⟩ := nv.form
  exact ⟨ao, l, c, rfl, nv, hb⟩
def subE (m n : Nat) : Int := if m < n then 11 else 0
/-- Sub, below or not. -/
theorem sub_both (w : World) (aa ab : Option Addr) (la ca lb cb m n K K' : Nat) (hK : K ≤ 1000000000) (hK' : K' ≤ 1000000000) (ha : NatIs w (.agg #[.slice aa la ca]) m K) (hb : NatIs w (.agg #[.slice ab lb cb]) n K') :
    Calls Tryz.prog 60 #[.agg #[.slice aa la ca], .agg #[.slice ab lb cb]] w fun e w' => ∃ ao l c, e = .returned (.tuple #[.agg #[.slice ao l c], .int .i64 (subE m n)]) ∧ NatIs w' (.agg #[.slice ao l c]) (m - n) K ∧ Below w.heap.size w w' := by
  by_cases h : m < n
  · refine (sub_below w aa ab la ca lb cb m n K K' ha hb h).mono ?_
    rintro e w' ⟨rfl, hw⟩
    exact ⟨none, 0, 0, by simp [subE, h], ⟨_, [], rfl, World.ownsRow_nil w' _ _ _, by intro j; simp [lg], fun h => by simp at h, by simp [val, pv]; omega, by simp⟩, hw⟩
  · refine (sub_any w _ _ m n K K' hK hK' ha hb (by omega)).mono ?_
    rintro e w' ⟨v, rfl, nv, hw⟩
    obtain ⟨ao, l, c, rfl⟩ := nv.form
    exact ⟨ao, l, c, by simp [subE, h], nv, hw⟩
end Go.Proofs.YtjldlmonccgopaaGreatDoor
/- Mul: the product of two numbers. -/
namespace Go.Proofs.YtjldlmonccgopaaGreatDoor
open Go.RowKit
set_option linter.unusedVariables false
set_option maxRecDepth 100000
set_option linter.unusedSimpArgs false
attribute [local go_sem ↓] Go.wp_at_zero Go.wp_at_succ

theorem mul_next (A B S P' : List Nat) (k n : Nat) (m1 : P'.length = n) (m2 : Bd P') (m3 : ∀ j, k + B.length < j → lg P' j = lg S j) (m4 : pv P' (k + B.length + 1) = pv S (k + B.length) + lg A k * val B * 4294967296 ^ k)
    (h : S.length = n ∧ Bd S ∧ (∀ j, k + B.length ≤ j → lg S j = 0) ∧ pv S (k + B.length) = pv A k * val B) :
    P'.length = n ∧ Bd P' ∧ (∀ j, k + 1 + B.length ≤ j → lg P' j = 0) ∧ pv P' (k + 1 + B.length) = pv A (k + 1) * val B := by
  obtain ⟨h1, h2, h3, h4⟩ := h
  refine ⟨m1, m2, fun j hj => by rw [m3 j (by omega)]; exact h3 j (by omega), ?_⟩
  rw [show k + 1 + B.length = k + B.length + 1 by omega, m4, h4, pv, Nat.add_mul]
  rw [Nat.mul_right_comm (lg A k)]
theorem mul_keep {W X : World} {p q r k g : Nat} {a b c : Value} (hp : W.cell? ⟨p, 0, none⟩ = some a) (hq : W.cell? ⟨q, 0, none⟩ = some b) (hr : W.cell? ⟨r, k, none⟩ = some c) (h : W.drew.grownBy X (some g)) (n1 : p ≠ g) (n2 : q ≠ g) (n3 : r ≠ g) :
    X.cell? ⟨p, 0, none⟩ = some a ∧ X.cell? ⟨q, 0, none⟩ = some b ∧ X.cell? ⟨r, k, none⟩ = some c :=
  ⟨h.cell hp (by simp; exact n1), h.cell hq (by simp; exact n2), h.cell hr (by simp; exact n3)⟩
set_option maxHeartbeats 1000000 in
theorem mul_walk (w : World) (aa ab : Option Addr) (na ca nb cb n : Nat) (A B : List Nat) (hA : Bd A) (hB : Bd B) (hna : na ≤ 1000000000) (hnb : nb ≤ 1000000000) (hn : na + nb = n) (hAl : A.length = na) (hBl : B.length = nb)
    (oa : Limbs w (.slice aa na ca) A) (ob : Limbs w (.slice ab nb cb) B) :
    Calls Tryz.prog 92 #[.agg #[.slice aa na ca], .agg #[.slice ab nb cb]] w fun e w' => ∃ v, e = .returned v ∧ NatIs w' v (val A * val B) n ∧ Below w.heap.size w w' := by
  obtain ⟨i0, hi, hz0, hz1, hz2⟩ := info_parts Tryz.info94
  have HN : Hid (na + nb = n ∧ A.length = na ∧ B.length = nb) := ⟨hn, hAl, hBl⟩
  have hn' : n ≤ 2000000000 := by omega
  have hn1 : na ≤ n := by omega
  clear hn hAl hBl
  go_enter Tryz.func92, Tryz.ntmps92
  go_wp2_with (first | (at_make; refine wpList_make_full _ rfl _ _ 23 rfl (w.heap.size + 1 + 1 + 1) 94 i0 (.int .u32 0) 1 Tryz.underlying23 hi hz0 hz1 _ _ _ _ n rfl rfl (by have := HN.out.1; omega) (by have := HN.out.1; omega) (by rw [hz2]; omega) (by unfold maxLen; omega) (by simp) ?_))
  intro w1 hown hgrow
  have hb1 : Below (w.heap.size + 1 + 1 + 1) (((w.alloc (Obj.cells #[Value.slice aa na ca] 25)).alloc (Obj.cells #[Value.slice ab nb cb] 25)).alloc (Obj.cells #[Value.slice none 0 0] 25)) w1 := by
      have := (Below.refl (w.heap.size + 1 + 1 + 1) _).grown hgrow (by simp) (by intro k hk; simp at hk)
      exact this
  rw [toList_madeCells_one, ← u32s_rep] at hown
  have hWx : (((w.alloc (Obj.cells #[Value.slice aa na ca] 25)).alloc (Obj.cells #[Value.slice ab nb cb] 25)).alloc (Obj.cells #[Value.slice none 0 0] 25)).cell? ⟨w.heap.size, 0, none⟩ = some (.slice aa na ca) := by simp [go_sem]
  have hWy : (((w.alloc (Obj.cells #[Value.slice aa na ca] 25)).alloc (Obj.cells #[Value.slice ab nb cb] 25)).alloc (Obj.cells #[Value.slice none 0 0] 25)).cell? ⟨w.heap.size + 1, 0, none⟩ = some (.slice ab nb cb) := by simp [go_sem]
  have hWz : (((w.alloc (Obj.cells #[Value.slice aa na ca] 25)).alloc (Obj.cells #[Value.slice ab nb cb] 25)).alloc (Obj.cells #[Value.slice none 0 0] 25)).cell? ⟨w.heap.size + 1 + 1, 0, none⟩ = some (.slice none 0 0) := by simp [go_sem]
  have hWf : (((w.alloc (Obj.cells #[Value.slice aa na ca] 25)).alloc (Obj.cells #[Value.slice ab nb cb] 25)).alloc (Obj.cells #[Value.slice none 0 0] 25)).frozen? ⟨w.heap.size + 1 + 1, 0, none⟩ = false := by simp [go_sem]
  have hWb : Below w.heap.size w (((w.alloc (Obj.cells #[Value.slice aa na ca] 25)).alloc (Obj.cells #[Value.slice ab nb cb] 25)).alloc (Obj.cells #[Value.slice none 0 0] 25)) := (((Below.refl _ _).alloc (Nat.le_refl _) _).alloc (by simp) _).alloc (by simp; omega) _
  have hWs : (((w.alloc (Obj.cells #[Value.slice aa na ca] 25)).alloc (Obj.cells #[Value.slice ab nb cb] 25)).alloc (Obj.cells #[Value.slice none 0 0] 25)).heap.size = w.heap.size + 1 + 1 + 1 := by simp
  clear hgrow
  generalize ((w.alloc (Obj.cells #[Value.slice aa na ca] 25)).alloc (Obj.cells #[Value.slice ab nb cb] 25)).alloc (Obj.cells #[Value.slice none 0 0] 25) = W at *
  have hWt : w.heap.size + 1 + 1 + 1 ≤ W.heap.size := by omega
  clear hWs
  have e1 : w1.cell? ⟨w.heap.size, 0, none⟩ = some (.slice aa na ca) := (hb1.cell (by show w.heap.size < _; omega)).trans hWx
  have e2 : w1.cell? ⟨w.heap.size + 1, 0, none⟩ = some (.slice ab nb cb) := (hb1.cell (by show w.heap.size + 1 < _; omega)).trans hWy
  go_wp2
  go_loopw [18] (fun i wr => ∃ (k : Nat) (S : List Nat), k ≤ na ∧ i = .int .i64 k ∧ S.length = n ∧ Bd S ∧ (∀ j, k + B.length ≤ j → lg S j = 0) ∧ pv S (k + B.length) = pv A k * val B ∧
        wr.ownsRow (w.heap.size + 1 + 1 + 1) 94 1 (.slice (some ⟨w.heap.size + 1 + 1 + 1, 0, none⟩) n n) n (u32s S) ∧ Below (w.heap.size + 1 + 1 + 1) W wr) (fun i _ => na - (intOf i).toNat)
  case atStart => exact ⟨0, List.replicate n 0, Nat.zero_le _, rfl, by simp, Bd_rep _, fun j _ => lg_rep _ _, by simp [pv, pv_zero (fun j _ => lg_rep n j)], hown, hb1⟩
  case round =>
    clear e1 e2
    obtain ⟨k, S, hk, rfl, hS, hSb, hSz, hpv, hown', hbel⟩ := hrel
    have R : Hid (S.length = n ∧ Bd S ∧ (∀ j, k + B.length ≤ j → lg S j = 0) ∧ pv S (k + B.length) = pv A k * val B) := ⟨hS, hSb, hSz, hpv⟩
    clear hS hSb hSz hpv hown hb1
    have hbw : Below w.heap.size w wr := hWb.trans (hbel.mono (by omega))
    have e1 : wr.cell? ⟨w.heap.size, 0, none⟩ = some (.slice aa na ca) := (hbel.cell (by show w.heap.size < _; omega)).trans hWx
    have e2 : wr.cell? ⟨w.heap.size + 1, 0, none⟩ = some (.slice ab nb cb) := (hbel.cell (by show w.heap.size + 1 < _; omega)).trans hWy
    by_cases hlt : k < na
    · rcases oa.form with ⟨h0, _⟩ | ⟨ga, ca', hv, g1, g2, g3⟩
      · simp at h0; omega
      simp only [Value.slice.injEq] at hv
      obtain ⟨rfl, hh, rfl⟩ := hv
      rw [← hh] at g1
      clear hh
      have e3 := u32s_at (L := A) (by have := oa.below hbw; unfold Limbs at this; rw [HN.out.2.1] at this; exact this) k (by have := HN.out.2.1; omega)
      have hkn : (k : Int) ≤ (n : Int) := by omega
      have hkn' : ¬ n = k := by omega
      have hnb' : k + B.length < n := by have := HN.out; omega
      have hbn : (Value.slice ab nb cb).ownBlock ≠ some (w.heap.size + 1 + 1 + 1) := by
        intro h
        have := (World.ownsRow.lt ob _ h).2
        omega
      have HS := hid (And.intro hnb' hbn)
      clear hnb' hbn
      go_wp2
      go_region_held3 (fun w' => w'.cell? ⟨w.heap.size, 0, none⟩ = some (.slice (some ⟨ga, 0, none⟩) na ca) ∧ w'.cell? ⟨w.heap.size + 1, 0, none⟩ = some (.slice ab nb cb) ∧ w'.cell? ⟨ga, k, none⟩ = some (.int .u32 (lg A k : Int))) 
          ((first | exact K5 | go_keep))
          (first | (go_at_call 118; refine (times_any _ (w.heap.size + 1 + 1 + 1) (w.heap.size + 1 + 1 + 1) n n k (n - k) (n - k) (lg A k) _ S B R.out.2.1 hB R.out.1 (hA k) (by omega) (Nat.le_refl _) (by omega) HS.out.1 (R.out.2.2.1 _ (Nat.le_refl _)) HS.out.2 hown'.drew (ob.below hbw.drew)).mono ?_; rintro e w5 ⟨rfl, ⟨P', m1, m2, m3, m4, m5⟩, hgr5⟩; have K5 := mul_keep e1 e2 e3 hgr5 (by omega) (by omega) (by omega)))
      have HM := hid (mul_next A B S P' k n m1 m2 m3 m4 R.out)
      have hbel5 := hbel.drew.grown hgr5 (by have := hbel.size; show _ ≤ wr.heap.size; omega) (by intro q hq; simp at hq; omega)
      clear m1 m2 m3 m4 hgr5
      go_wp2
      go_roundw
      case rel => exact ⟨k + 1, P', by omega, by go_num, HM.out.1, HM.out.2.1, HM.out.2.2.1, HM.out.2.2.2, m5, hbel5⟩
      case measure => simp [intOf]; omega
    · have hk' : k = na := by omega
      have hZ := (hbel.cell (p := ⟨w.heap.size + 1 + 1, 0, none⟩) (by show w.heap.size + 1 + 1 < _; omega)).trans hWz
      have hF := (hbel.frozen (p := ⟨w.heap.size + 1 + 1, 0, none⟩) (by show w.heap.size + 1 + 1 < _; omega)).trans hWf
      have HK := hid hk'
      clear hk'
      go_wp2_with fail
      refine (trim_base wr (w.heap.size + 1 + 1 + 1) _ S R.out.2.1 ?_).mono ?_
      · rw [R.out.1]; exact hown'
      clear hown'
      rintro e w' ⟨⟨v', M, rfl, hM, bM, tM, vM, lM⟩, rfl⟩
      obtain ⟨ao, cp, hv⟩ := Limbs.slice (ownsRow_base0 hM)
      rw [hv]
      rw [hv] at hM
      clear hv
      have HV := hid vM
      clear vM
      have hM2 := ownsRow_setCell_below hM (a := ⟨w.heap.size + 1 + 1, 0, none⟩) (by show w.heap.size + 1 + 1 < _; omega) (.slice ao M.length cp)
      clear hM
      have hB2 := hbw.setCell (p := ⟨w.heap.size + 1 + 1, 0, none⟩) (by show w.heap.size ≤ w.heap.size + 1 + 1; omega) (.slice ao M.length cp)
      go_wp2
      refine bodyPost_ret (v := .agg #[.slice ao M.length cp]) (by simp [results, Tryz.results92, go_sem, hZ, hF]) rfl ⟨_, rfl, ⟨_, M, rfl, ownsRow_base0 hM2, bM, tM, ?_, ?_⟩, hB2⟩
      · rw [HV.out]
        obtain ⟨r1, _, r3, r4⟩ := R.out
        obtain ⟨q1, q2, q3⟩ := HN.out
        rw [HK.out, pv_val A na (by omega), pv_val S (na + B.length) (by omega)] at r4
        exact r4
      · have := R.out.1; omega
/-- Mul: the product. -/
theorem mul_any (w : World) (a b : Value) (m n K K' : Nat) (hK : K ≤ 1000000000) (hK' : K' ≤ 1000000000) (ha : NatIs w a m K) (hb : NatIs w b n K') :
    Calls Tryz.prog 92 #[a, b] w fun e w' => ∃ v, e = .returned v ∧ NatIs w' v (m * n) (K + K') ∧ Below w.heap.size w w' := by
  obtain ⟨sa, A, rfl, oa, bA, tA, rfl, lA⟩ := ha
  obtain ⟨sb, B, rfl, ob, bB, tB, rfl, lB⟩ := hb
  obtain ⟨aa, ca, rfl⟩ := oa.slice
  obtain ⟨ab, cb, rfl⟩ := ob.slice
  refine (mul_walk w aa ab A.length ca B.length cb (A.length + B.length) A B bA bB (by omega) (by omega) rfl rfl rfl oa ob).mono ?_
  rintro e w' ⟨v, rfl, hv, hw⟩
  exact ⟨v, rfl, hv.mono (by omega), hw⟩
end Go.Proofs.YtjldlmonccgopaaGreatDoor
/- The document's digit and Add. -/
namespace Go.Proofs.YtjldlmonccgopaaGreatDoor
open Go.RowKit
set_option linter.unusedVariables false
set_option maxRecDepth 100000
set_option linter.unusedSimpArgs false
attribute [local go_sem ↓] Go.wp_at_zero Go.wp_at_succ

/-- The document's digit: nought behind the end. -/
theorem rdigit_any (w : World) (v : Value) (L : List Nat) (hb : R.Bd L) (h : w.ownsRow 0 3 1 v L.length (i64s L)) (i : Nat) :
    Calls Tryz.prog 106 #[v, .int .i64 i] w fun e w' => e = .returned (.int .i64 (lg L i : Int)) ∧ w' = w := by
  have hlt := hb i
  rcases h.2 with ⟨h1, h2⟩ | ⟨g, cap, cur, rfl, _, hh, r1, r2, _⟩
  · have hL : L = [] := by simpa using h2
    subst hL
    have e : lg [] i = 0 := by simp [lg]
    rw [e, h1]
    go_enter Tryz.func106, Tryz.ntmps106
    go_wp2
    go_ret
    exact ⟨by simp, rfl⟩
  · unfold maxLen at r2
    by_cases hlt' : i < L.length
    · have hc := i64s_at (L := L) h i hlt'
      go_enter Tryz.func106, Tryz.ntmps106
      go_wp2
      go_ret
      exact ⟨by simp, rfl⟩
    · have e : lg L i = 0 := lg_past L i (by omega)
      rw [e]
      go_enter Tryz.func106, Tryz.ntmps106
      go_wp2
      go_ret
      exact ⟨by simp, rfl⟩
theorem R.Bd_app {D : List Nat} (h : R.Bd D) (x : Nat) (hx : x < 1000000000) : R.Bd (D ++ [x]) := by
  intro j
  rcases Nat.lt_trichotomy j D.length with e | e | e
  · rw [lg_append_old D _ j e]; exact h j
  · subst e; rw [lg_append_new]; omega
  · rw [lg_past _ j (by simp; omega)]; omega
theorem R.pv_app (D : List Nat) (x : Nat) : R.pv (D ++ [x]) (D ++ [x]).length = R.pv D D.length + x * 1000000000 ^ D.length := by
  rw [List.length_append, List.length_singleton]
  simp only [R.pv]
  rw [R.pv_congr (M := D) (fun j hj => lg_append_old D _ j hj), lg_append_new]
def RAddRel (A B D : List Nat) (d : Nat) : Prop := R.Bd D ∧ R.pv D D.length + d * 1000000000 ^ D.length = R.pv A D.length + R.pv B D.length
theorem RAddRel.step {A B D : List Nat} {d : Nat} (h : RAddRel A B D d) : RAddRel A B (D ++ [(lg A D.length + lg B D.length + d) % 1000000000]) ((lg A D.length + lg B D.length + d) / 1000000000) := by
  obtain ⟨h1, h2⟩ := h
  refine ⟨R.Bd_app h1 _ (by omega), ?_⟩
  rw [R.pv_app, List.length_append, List.length_singleton]
  simp only [R.pv, Nat.pow_succ]
  generalize 1000000000 ^ D.length = p at *
  have hd := Nat.div_add_mod (lg A D.length + lg B D.length + d) 1000000000
  generalize (lg A D.length + lg B D.length + d) % 1000000000 = r at *
  generalize (lg A D.length + lg B D.length + d) / 1000000000 = q at *
  have h3 : (1000000000 * q + r) * p = (lg A D.length + lg B D.length + d) * p := by rw [hd]
  rw [Nat.add_mul, Nat.add_mul, Nat.add_mul] at h3
  have h4 : q * (p * 1000000000) = 1000000000 * q * p := by rw [Nat.mul_comm p, ← Nat.mul_assoc, Nat.mul_comm q]
  rw [h4]
  omega
theorem RAddRel.done {A B D : List Nat} {d : Nat} (h : RAddRel A B D d) (hd : d < 1000000000) (ha : A.length ≤ D.length) (hb : B.length ≤ D.length) : R.Bd (D ++ [d]) ∧ R.val (D ++ [d]) = R.val A + R.val B := by
  obtain ⟨h1, h2⟩ := h
  refine ⟨R.Bd_app h1 d hd, ?_⟩
  unfold R.val
  rw [R.pv_app, h2, R.pv_val A _ ha, R.pv_val B _ hb]; rfl
theorem i64s_app (D : List Nat) (x : Nat) : i64s (D ++ [x]) = i64s D ++ [.int .i64 (x : Int)] := by simp [i64s]
theorem w64i (x : Int) (h0 : -9223372036854775808 ≤ x) (h1 : x ≤ 9223372036854775807) : IntKind.i64.wrap x = x := by
  simp [IntKind.wrap, IntKind.bits, IntKind.signed]; omega
set_option maxHeartbeats 2000000 in
theorem radd_walk (w : World) (aa ab : Option Addr) (na ca nb cb n : Nat) (A B : List Nat) (hA : R.Bd A) (hB : R.Bd B) (hna : na ≤ 1000000000) (hnb : nb ≤ 1000000000) (hn : max na nb = n) (hAl : A.length = na) (hBl : B.length = nb)
    (oa : w.ownsRow 0 3 1 (.slice aa na ca) na (i64s A)) (ob : w.ownsRow 0 3 1 (.slice ab nb cb) nb (i64s B)) :
    Calls Tryz.prog 79 #[.agg #[.slice aa na ca], .agg #[.slice ab nb cb]] w fun e w' => ∃ v, e = .returned v ∧ RefIs w' v (R.val A + R.val B) (n + 1) ∧ Below w.heap.size w w' := by
  obtain ⟨i0, hi, hz0, hz1, hz2⟩ := info_parts Tryz.info3
  have HN : Hid (max na nb = n ∧ A.length = na ∧ B.length = nb) := ⟨hn, hAl, hBl⟩
  have hn' : n ≤ 1000000000 := by omega
  have hna' : na ≤ n := by omega
  have hnb' : nb ≤ n := by omega
  have OA := hid (show w.ownsRow 0 3 1 (.slice aa na ca) A.length (i64s A) by rw [hAl]; exact oa)
  have OB := hid (show w.ownsRow 0 3 1 (.slice ab nb cb) B.length (i64s B) by rw [hBl]; exact ob)
  clear hn hAl hBl oa ob
  have hown0 : ((((w.alloc (Obj.cells #[Value.slice aa na ca] 32)).alloc (Obj.cells #[Value.slice ab nb cb] 32)).alloc (Obj.cells #[Value.slice none 0 0] 32)).alloc (Obj.cells #[] 3)).ownsRow (w.heap.size + 1 + 1 + 1) 3 1 (.slice (some ⟨w.heap.size + 1 + 1 + 1, 0, none⟩) 0 0) 0 (i64s []) := by
    have := World.ownsRow_made (base := w.heap.size + 1 + 1 + 1) (e := 3) (size := 1) (((w.alloc (Obj.cells #[Value.slice aa na ca] 32)).alloc (Obj.cells #[Value.slice ab nb cb] 32)).alloc (Obj.cells #[Value.slice none 0 0] 32)) #[] 0 (by simp) (by unfold maxLen; omega) (by simp)
    simpa [i64s] using this
  go_enter Tryz.func79, Tryz.ntmps79
  go_wp2
  have x1 : (((w.alloc (Obj.cells #[Value.slice aa na ca] 32)).alloc (Obj.cells #[Value.slice ab nb cb] 32)).alloc (Obj.cells #[Value.slice none 0 0] 32)).heap[w.heap.size]? = some (Obj.cells #[Value.slice aa na ca] 32) := box_alloc (box_alloc (box_new _ _) _) _
  have x2 : (((w.alloc (Obj.cells #[Value.slice aa na ca] 32)).alloc (Obj.cells #[Value.slice ab nb cb] 32)).alloc (Obj.cells #[Value.slice none 0 0] 32)).heap[w.heap.size + 1]? = some (Obj.cells #[Value.slice ab nb cb] 32) := box_alloc (by have := box_new (w.alloc (Obj.cells #[Value.slice aa na ca] 32)) (Obj.cells #[Value.slice ab nb cb] 32); simpa using this) _
  have x3 : (((w.alloc (Obj.cells #[Value.slice aa na ca] 32)).alloc (Obj.cells #[Value.slice ab nb cb] 32)).alloc (Obj.cells #[Value.slice none 0 0] 32)).heap[w.heap.size + 1 + 1]? = some (Obj.cells #[Value.slice none 0 0] 32) := by
    have := box_new ((w.alloc (Obj.cells #[Value.slice aa na ca] 32)).alloc (Obj.cells #[Value.slice ab nb cb] 32)) (Obj.cells #[Value.slice none 0 0] 32); simpa using this
  have hWb : Below w.heap.size w (((w.alloc (Obj.cells #[Value.slice aa na ca] 32)).alloc (Obj.cells #[Value.slice ab nb cb] 32)).alloc (Obj.cells #[Value.slice none 0 0] 32)) := below_alloc' (below_alloc' (below_alloc' (Below.refl _ _) (Nat.le_refl _) _) (Nat.le_refl _) _) (Nat.le_refl _) _
  have hWs : (((w.alloc (Obj.cells #[Value.slice aa na ca] 32)).alloc (Obj.cells #[Value.slice ab nb cb] 32)).alloc (Obj.cells #[Value.slice none 0 0] 32)).heap.size = w.heap.size + 1 + 1 + 1 := by simp
  have hb1 : Below (w.heap.size + 1 + 1 + 1) (((w.alloc (Obj.cells #[Value.slice aa na ca] 32)).alloc (Obj.cells #[Value.slice ab nb cb] 32)).alloc (Obj.cells #[Value.slice none 0 0] 32)) ((((w.alloc (Obj.cells #[Value.slice aa na ca] 32)).alloc (Obj.cells #[Value.slice ab nb cb] 32)).alloc (Obj.cells #[Value.slice none 0 0] 32)).alloc (Obj.cells #[] 3)) := below_alloc' (Below.refl _ _) (by omega) _
  generalize ((w.alloc (Obj.cells #[Value.slice aa na ca] 32)).alloc (Obj.cells #[Value.slice ab nb cb] 32)).alloc (Obj.cells #[Value.slice none 0 0] 32) = W at *
  have hWt : w.heap.size + 1 + 1 + 1 ≤ W.heap.size := by omega
  clear hWs
  go_loopw [5, 6, 7] (fun v c i wr => ∃ (d : Nat) (D : List Nat), D.length ≤ n ∧ i = .int .i64 (D.length : Nat) ∧ c = .int .i64 d ∧ d ≤ 1 ∧ RAddRel A B D d ∧ wr.ownsRow (w.heap.size + 1 + 1 + 1) 3 1 v D.length (i64s D) ∧ Below (w.heap.size + 1 + 1 + 1) W wr) (fun _ _ i _ => n - (intOf i).toNat)
  case atStart => exact ⟨0, [], by simp, rfl, rfl, by omega, ⟨by intro j; simp [lg], by simp [R.pv]⟩, hown0, hb1⟩
  case round =>
    obtain ⟨d, D, hk, rfl, rfl, hd, hR, hown, hbel⟩ := hrel
    have HR := hid hR
    clear hR hown0 hb1
    have hbw : Below w.heap.size w wr := hWb.trans (hbel.mono (by omega))
    have j1 := box_below hbel x1 (by omega)
    have j2 := box_below hbel x2 (by omega)
    have j3 := box_below hbel x3 (by omega)
    have e1 := cell_of_one j1
    have e2 := cell_of_one j2
    obtain ⟨k, hkD⟩ : ∃ k, k = D.length := ⟨_, rfl⟩
    have HK := hid hkD
    rw [← hkD] at hk hown ⊢
    clear hkD j1 j2
    by_cases hlt : k < n
    · have hor : k < na ∨ (¬ k < na ∧ k < nb) := by have := HN.out.1; omega
      have hA9 := hA k
      have hB9 := hB k
      have HS := hid (show RAddRel A B (D ++ [(lg A k + lg B k + d) % 1000000000]) ((lg A k + lg B k + d) / 1000000000) from by rw [HK.out]; exact HR.out.step)
      rcases hor with h1 | ⟨h1, h2⟩
      all_goals
        go_wp2
        go_region_held3 (fun w' => w'.cell? ⟨w.heap.size, 0, none⟩ = some (.slice aa na ca) ∧ w'.cell? ⟨w.heap.size + 1, 0, none⟩ = some (.slice ab nb cb)) ((first | go_keep))
          (first | (go_at_call_of 106 (Value.slice aa na ca); refine (rdigit_any _ _ A hA (ownsRow_below OA.out hbw.drew) k).mono ?_; rintro e w' ⟨rfl, rfl⟩) | (go_at_call_of 106 (Value.slice ab nb cb); refine (rdigit_any _ _ B hB (ownsRow_below OB.out hbw.drew) k).mono ?_; rintro e w' ⟨rfl, rfl⟩))
        have eT : IntKind.i64.wrap (IntKind.i64.wrap (↑d + ↑(lg A k)) + ↑(lg B k)) = ((lg A k + lg B k + d : Nat) : Int) := by
          rw [w64i ((d : Int) + (lg A k : Int)) (by omega) (by omega), w64i _ (by omega) (by omega)]; omega
        have hT2 : lg A k + lg B k + d < 2000000000 := by omega
        rw [eT]
        clear eT
        generalize lg A k + lg B k + d = T at *
        have hown2 := hown.drew
        have hbel2 := hbel.drew
        generalize wr.drew = w2 at *
        clear hown hbel hbw e1 e2 j3
        go_wp2_with (at_builtin; refine wpList_append_own _ rfl _ _ 30 rfl (w.heap.size + 1 + 1 + 1) 3 i0 (.int .i64 0) 1 8 Tryz.underlying30 hi hz0 hz1 hz2 rfl (by decide) _ _ _ rfl (hown2.alloc _) ⟨w2.heap.size, 0, none⟩ 1 1 [.int .i64 ((T : Int) % 1000000000)] rfl rfl (by intro j u hu; match j, hu with | 0, hu => simp at hu; subst hu; simp [Addr.add]) (by intro u hu; simp at hu; subst hu; rfl) (by unfold maxLen; omega) (by omega) (by have := hbel2.size; simp; omega) ?_)
        intro v' w1 hown3 hgrow hnil
        have hb3 : Below (w.heap.size + 1 + 1 + 1) W w1 := (below_alloc' hbel2 hWt _).grown hgrow (by have := hbel2.size; simp; omega) (fun q hq => (hown2.lt q hq).1)
        have hown4 : w1.ownsRow (w.heap.size + 1 + 1 + 1) 3 1 v' (D ++ [T % 1000000000]).length (i64s (D ++ [T % 1000000000])) := by
          rw [i64s_app, List.length_append, List.length_singleton, ← HK.out]; simpa using hown3
        have HO := hid hown4
        have hq2 : T / 1000000000 ≤ 1 := by omega
        have HL := hid (show (D ++ [T % 1000000000]).length = k + 1 from by rw [List.length_append, List.length_singleton, ← HK.out])
        clear hown3 hown4 hgrow hnil hown2 hbel2
        go_wp2
        go_roundw
        case rel => exact ⟨T / 1000000000, D ++ [T % 1000000000], by have := HL.out; omega, by rw [HL.out]; go_num, by go_num, hq2, HS.out, HO.out, hb3⟩
        case measure => simp [intOf]; omega
    · have hkn : k = n := by omega
      have h1 : ¬ k < na := by omega
      have h2 : ¬ k < nb := by omega
      have HF := hid (HR.out.done (by omega) (by have := HN.out; have := HK.out; omega) (by have := HN.out; have := HK.out; omega))
      have HL := hid (show (D ++ [d]).length = n + 1 from by rw [List.length_append, List.length_singleton, ← HK.out, hkn])
      clear hkn
      go_wp2_with (at_builtin; refine wpList_append_own _ rfl _ _ 30 rfl (w.heap.size + 1 + 1 + 1) 3 i0 (.int .i64 0) 1 8 Tryz.underlying30 hi hz0 hz1 hz2 rfl (by decide) _ _ _ rfl (hown.alloc _) ⟨wr.heap.size, 0, none⟩ 1 1 [.int .i64 (d : Int)] rfl rfl (by intro j u hu; match j, hu with | 0, hu => simp at hu; subst hu; simp [Addr.add]) (by intro u hu; simp at hu; subst hu; rfl) (by unfold maxLen; omega) (by omega) (by have := hbel.size; simp; omega) ?_)
      intro v' w1 hown3 hgrow hnil
      have hb3 : Below (w.heap.size + 1 + 1 + 1) W w1 := (below_alloc' hbel hWt _).grown hgrow (by have := hbel.size; simp; omega) (fun q hq => (hown.lt q hq).1)
      have hown4 : w1.ownsRow (w.heap.size + 1 + 1 + 1) 3 1 v' (D ++ [d]).length (i64s (D ++ [d])) := by
        rw [i64s_app, List.length_append, List.length_singleton, ← HK.out]; simpa using hown3
      clear hown3 hgrow hnil hown hbel e1 e2 j3 hbw
      obtain ⟨g, cap, hv⟩ : ∃ g cap, v' = .slice (some ⟨g, 0, none⟩) (D ++ [d]).length cap := by
        rcases hown4.2 with ⟨h0, h0'⟩ | ⟨g, cap, cur, hv, _⟩
        · have := HL.out; simp at h0'
        · exact ⟨g, cap, hv⟩
      rw [hv] at hown4 ⊢
      clear hv
      clear HR HK
      generalize D ++ [d] = E at *
      go_wp2_with fail
      refine (rtrim_base w1 (w.heap.size + 1 + 1 + 1) g cap E HF.out.1 hown4).mono ?_
      rintro e w3 ⟨⟨sl, M, rfl, hM, bM, tM, vM, lM⟩, hb4⟩
      have hx3 := box_below (hb3.trans (hb4.mono (by have := hb3.size; omega))) x3 (by omega)
      have hbw : Below w.heap.size w w3 := hWb.trans ((hb3.trans (hb4.mono (by have := hb3.size; omega))).mono (by omega))
      obtain ⟨ao, cp, hv⟩ := ints_slice hM
      rw [hv] at hM ⊢
      have cz := cell_of_one hx3
      have fz := free_of_one hx3
      have hM2 := own_box (ownsRow_base0 hM) hx3 (by decide) (.slice ao M.length cp)
      have hB2 := hbw.setCell (p := ⟨w.heap.size + 1 + 1, 0, none⟩) (by show w.heap.size ≤ w.heap.size + 1 + 1; omega) (.slice ao M.length cp)
      have hr := cell_of_one (one_setCell (u := .slice ao M.length cp) hx3)
      have HRr := hid hr
      have HV := hid (show R.val M = R.val A + R.val B ∧ M.length ≤ n + 1 from ⟨vM.trans HF.out.2, by have := HL.out; omega⟩)
      clear hv hM hx3 hr vM lM hb3 hb4 hown4
      go_wp2
      exact bodyPost_ret (v := .agg #[.slice ao M.length cp]) (by simp [results, Tryz.results79, go_sem, HRr.out]) rfl ⟨_, rfl, ⟨_, M, rfl, hM2, bM, tM, HV.out.1, HV.out.2⟩, hB2⟩
/-- The document's Add: the sum. -/
theorem radd_any (w : World) (a b : Value) (m n K K' : Nat) (hK : K ≤ 1000000000) (hK' : K' ≤ 1000000000) (ha : RefIs w a m K) (hb : RefIs w b n K') :
    Calls Tryz.prog 79 #[a, b] w fun e w' => ∃ v, e = .returned v ∧ RefIs w' v (m + n) (max K K' + 1) ∧ Below w.heap.size w w' := by
  obtain ⟨sa, A, rfl, oa, bA, tA, rfl, lA⟩ := ha
  obtain ⟨sb, B, rfl, ob, bB, tB, rfl, lB⟩ := hb
  obtain ⟨aa, ca, rfl⟩ := ints_slice oa
  obtain ⟨ab, cb, rfl⟩ := ints_slice ob
  refine (radd_walk w aa ab A.length ca B.length cb (max A.length B.length) A B bA bB (by omega) (by omega) rfl rfl rfl oa ob).mono ?_
  rintro e w' ⟨v, rfl, hv, hw⟩
  exact ⟨v, rfl, hv.mono (by omega), hw⟩
end Go.Proofs.YtjldlmonccgopaaGreatDoor
