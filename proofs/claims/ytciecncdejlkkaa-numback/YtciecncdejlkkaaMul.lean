/- Mul: the product of two numbers. -/
import Derived.Test.YtciecncdejlkkaaTimes
import Derived.Deep.RegionHeld3
import Derived.Deep.DrawnRows
namespace Go.Proofs.Ytciecncdejlkkaa
open Go.RowKit
set_option linter.unusedVariables false
set_option maxRecDepth 100000
set_option linter.unusedSimpArgs false
attribute [local go_sem ↓] Go.wp_at_zero Go.wp_at_succ

theorem mul_next (A B S P' : List Nat) (k n : Nat) (m1 : P'.length = n) (m2 : Bd P') (m3 : ∀ j, k + B.length < j → lg P' j = lg S j) (m4 : pv P' (k + B.length + 1) = pv S (k + B.length) + lg A k * val B * 4294967296 ^ k)
    (h : S.length = n ∧ Bd S ∧ (∀ j, k + B.length ≤ j → lg S j = 0) ∧ pv S (k + B.length) = pv A k * val B) :
    P'.length = n ∧ Bd P' ∧ (∀ j, k + 1 + B.length ≤ j → lg P' j = 0) ∧ pv P' (k + 1 + B.length) = pv A (k + 1) * val B := by
  obtain ⟨h1, h2, h3, h4⟩ := h
  refine ⟨m1, m2, fun j hj => by rw [m3 j (by omega)]; exact h3 j (by omega), ?_⟩
  rw [show k + 1 + B.length = k + B.length + 1 by omega, m4, h4, pv, Nat.add_mul]
  rw [Nat.mul_right_comm (lg A k)]
theorem mul_keep {W X : World} {p q r k g : Nat} {a b c : Value} (hp : W.cell? ⟨p, 0, none⟩ = some a) (hq : W.cell? ⟨q, 0, none⟩ = some b) (hr : W.cell? ⟨r, k, none⟩ = some c) (h : W.drew.grownBy X (some g)) (n1 : p ≠ g) (n2 : q ≠ g) (n3 : r ≠ g) :
    X.cell? ⟨p, 0, none⟩ = some a ∧ X.cell? ⟨q, 0, none⟩ = some b ∧ X.cell? ⟨r, k, none⟩ = some c :=
  ⟨h.cell hp (by simp; exact n1), h.cell hq (by simp; exact n2), h.cell hr (by simp; exact n3)⟩
set_option maxHeartbeats 1000000 in
theorem mul_walk (w : World) (aa ab : Option Addr) (na ca nb cb n : Nat) (A B : List Nat) (hA : Bd A) (hB : Bd B) (hna : na ≤ 1000000000) (hnb : nb ≤ 1000000000) (hn : na + nb = n) (hAl : A.length = na) (hBl : B.length = nb)
    (oa : Limbs w (.slice aa na ca) A) (ob : Limbs w (.slice ab nb cb) B) :
    Calls Try.prog 21 #[.agg #[.slice aa na ca], .agg #[.slice ab nb cb]] w fun e w' => ∃ v, e = .returned v ∧ NatIs w' v (val A * val B) n ∧ Below w.heap.size w w' := by
  obtain ⟨i0, hi, hz0, hz1, hz2⟩ := info_parts Try.info56
  have HN : Hid (na + nb = n ∧ A.length = na ∧ B.length = nb) := ⟨hn, hAl, hBl⟩
  have hn' : n ≤ 2000000000 := by omega
  have hn1 : na ≤ n := by omega
  clear hn hAl hBl
  go_enter Try.func21, Try.ntmps21
  go_wp2_with (first | (at_make; refine wpList_make_full _ rfl _ _ 24 rfl (w.heap.size + 1 + 1 + 1) 56 i0 (.int .u32 0) 1 Try.underlying24 hi hz0 hz1 _ _ _ _ n rfl rfl (by have := HN.out.1; omega) (by have := HN.out.1; omega) (by rw [hz2]; omega) (by unfold maxLen; omega) (by simp) ?_))
  intro w1 hown hgrow
  have hb1 : Below (w.heap.size + 1 + 1 + 1) (((w.alloc (Obj.cells #[Value.slice aa na ca] 26)).alloc (Obj.cells #[Value.slice ab nb cb] 26)).alloc (Obj.cells #[Value.slice none 0 0] 26)) w1 := by
      have := (Below.refl (w.heap.size + 1 + 1 + 1) _).grown hgrow (by simp) (by intro k hk; simp at hk)
      exact this
  rw [toList_madeCells_one, ← u32s_rep] at hown
  have hWx : (((w.alloc (Obj.cells #[Value.slice aa na ca] 26)).alloc (Obj.cells #[Value.slice ab nb cb] 26)).alloc (Obj.cells #[Value.slice none 0 0] 26)).cell? ⟨w.heap.size, 0, none⟩ = some (.slice aa na ca) := by simp [go_sem]
  have hWy : (((w.alloc (Obj.cells #[Value.slice aa na ca] 26)).alloc (Obj.cells #[Value.slice ab nb cb] 26)).alloc (Obj.cells #[Value.slice none 0 0] 26)).cell? ⟨w.heap.size + 1, 0, none⟩ = some (.slice ab nb cb) := by simp [go_sem]
  have hWz : (((w.alloc (Obj.cells #[Value.slice aa na ca] 26)).alloc (Obj.cells #[Value.slice ab nb cb] 26)).alloc (Obj.cells #[Value.slice none 0 0] 26)).cell? ⟨w.heap.size + 1 + 1, 0, none⟩ = some (.slice none 0 0) := by simp [go_sem]
  have hWf : (((w.alloc (Obj.cells #[Value.slice aa na ca] 26)).alloc (Obj.cells #[Value.slice ab nb cb] 26)).alloc (Obj.cells #[Value.slice none 0 0] 26)).frozen? ⟨w.heap.size + 1 + 1, 0, none⟩ = false := by simp [go_sem]
  have hWb : Below w.heap.size w (((w.alloc (Obj.cells #[Value.slice aa na ca] 26)).alloc (Obj.cells #[Value.slice ab nb cb] 26)).alloc (Obj.cells #[Value.slice none 0 0] 26)) := (((Below.refl _ _).alloc (Nat.le_refl _) _).alloc (by simp) _).alloc (by simp; omega) _
  have hWs : (((w.alloc (Obj.cells #[Value.slice aa na ca] 26)).alloc (Obj.cells #[Value.slice ab nb cb] 26)).alloc (Obj.cells #[Value.slice none 0 0] 26)).heap.size = w.heap.size + 1 + 1 + 1 := by simp
  clear hgrow
  generalize ((w.alloc (Obj.cells #[Value.slice aa na ca] 26)).alloc (Obj.cells #[Value.slice ab nb cb] 26)).alloc (Obj.cells #[Value.slice none 0 0] 26) = W at *
  have hWt : w.heap.size + 1 + 1 + 1 ≤ W.heap.size := by omega
  clear hWs
  have e1 : w1.cell? ⟨w.heap.size, 0, none⟩ = some (.slice aa na ca) := (hb1.cell (by show w.heap.size < _; omega)).trans hWx
  have e2 : w1.cell? ⟨w.heap.size + 1, 0, none⟩ = some (.slice ab nb cb) := (hb1.cell (by show w.heap.size + 1 < _; omega)).trans hWy
  go_wp2
  go_loopw [18] (fun i wr => ∃ (k : Nat) (S : List Nat), k ≤ na ∧ i = .int .i64 k ∧ S.length = n ∧ Bd S ∧ (∀ j, k + B.length ≤ j → lg S j = 0) ∧ pv S (k + B.length) = pv A k * val B ∧
        wr.ownsRow (w.heap.size + 1 + 1 + 1) 56 1 (.slice (some ⟨w.heap.size + 1 + 1 + 1, 0, none⟩) n n) n (u32s S) ∧ Below (w.heap.size + 1 + 1 + 1) W wr) (fun i _ => na - (intOf i).toNat)
  case atStart => exact ⟨0, List.replicate n 0, Nat.zero_le _, rfl, by simp, Bd_rep _, fun j _ => lg_rep _ _, by simp [pv, pv_zero (fun j _ => lg_rep n j)], hown, hb1⟩
  case round =>
    clear e1 e2
    obtain ⟨k, S, hk, rfl, hS, hSb, hSz, hpv, hown', hbel⟩ := hrel
    have R : Hid (S.length = n ∧ Bd S ∧ (∀ j, k + B.length ≤ j → lg S j = 0) ∧ pv S (k + B.length) = pv A k * val B) := ⟨hS, hSb, hSz, hpv⟩
    clear hS hSb hSz hpv hown hb1
    have hbw : Below w.heap.size w wr := hWb.trans (hbel.mono (by omega))
    have e1 : wr.cell? ⟨w.heap.size, 0, none⟩ = some (.slice aa na ca) := (hbel.cell (by show w.heap.size < _; omega)).trans hWx
    have e2 : wr.cell? ⟨w.heap.size + 1, 0, none⟩ = some (.slice ab nb cb) := (hbel.cell (by show w.heap.size + 1 < _; omega)).trans hWy
    by_cases hlt : k < na
    · rcases oa.form with ⟨h0, _⟩ | ⟨ga, ca', hv, g1, g2, g3⟩
      · simp at h0; omega
      simp only [Value.slice.injEq] at hv
      obtain ⟨rfl, hh, rfl⟩ := hv
      rw [← hh] at g1
      clear hh
      have e3 := u32s_at (L := A) (by have := oa.below hbw; unfold Limbs at this; rw [HN.out.2.1] at this; exact this) k (by have := HN.out.2.1; omega)
      have hkn : (k : Int) ≤ (n : Int) := by omega
      have hkn' : ¬ n = k := by omega
      have hnb' : k + B.length < n := by have := HN.out; omega
      have hbn : (Value.slice ab nb cb).ownBlock ≠ some (w.heap.size + 1 + 1 + 1) := by
        intro h
        have := (World.ownsRow.lt ob _ h).2
        omega
      have HS := hid (And.intro hnb' hbn)
      clear hnb' hbn
      go_wp2
      go_region_held3 (fun w' => w'.cell? ⟨w.heap.size, 0, none⟩ = some (.slice (some ⟨ga, 0, none⟩) na ca) ∧ w'.cell? ⟨w.heap.size + 1, 0, none⟩ = some (.slice ab nb cb) ∧ w'.cell? ⟨ga, k, none⟩ = some (.int .u32 (lg A k : Int))) 
          ((first | exact K5 | go_keep))
          (first | (go_at_call 34; refine (times_any _ (w.heap.size + 1 + 1 + 1) (w.heap.size + 1 + 1 + 1) n n k (n - k) (n - k) (lg A k) _ S B R.out.2.1 hB R.out.1 (hA k) (by omega) (Nat.le_refl _) (by omega) HS.out.1 (R.out.2.2.1 _ (Nat.le_refl _)) HS.out.2 hown'.drew (ob.below hbw.drew)).mono ?_; rintro e w5 ⟨rfl, ⟨P', m1, m2, m3, m4, m5⟩, hgr5⟩; have K5 := mul_keep e1 e2 e3 hgr5 (by omega) (by omega) (by omega)))
      have HM := hid (mul_next A B S P' k n m1 m2 m3 m4 R.out)
      have hbel5 := hbel.drew.grown hgr5 (by have := hbel.size; show _ ≤ wr.heap.size; omega) (by intro q hq; simp at hq; omega)
      clear m1 m2 m3 m4 hgr5
      go_wp2
      go_roundw
      case rel => exact ⟨k + 1, P', by omega, by go_num, HM.out.1, HM.out.2.1, HM.out.2.2.1, HM.out.2.2.2, m5, hbel5⟩
      case measure => simp [intOf]; omega
    · have hk' : k = na := by omega
      have hZ := (hbel.cell (p := ⟨w.heap.size + 1 + 1, 0, none⟩) (by show w.heap.size + 1 + 1 < _; omega)).trans hWz
      have hF := (hbel.frozen (p := ⟨w.heap.size + 1 + 1, 0, none⟩) (by show w.heap.size + 1 + 1 < _; omega)).trans hWf
      have HK := hid hk'
      clear hk'
      go_wp2_with fail
      refine (trim_base wr (w.heap.size + 1 + 1 + 1) _ S R.out.2.1 ?_).mono ?_
      · rw [R.out.1]; exact hown'
      clear hown'
      rintro e w' ⟨⟨v', M, rfl, hM, bM, tM, vM, lM⟩, rfl⟩
      obtain ⟨ao, cp, hv⟩ := Limbs.slice (ownsRow_base0 hM)
      rw [hv]
      rw [hv] at hM
      clear hv
      have HV := hid vM
      clear vM
      have hM2 := ownsRow_setCell_below hM (a := ⟨w.heap.size + 1 + 1, 0, none⟩) (by show w.heap.size + 1 + 1 < _; omega) (.slice ao M.length cp)
      clear hM
      have hB2 := hbw.setCell (p := ⟨w.heap.size + 1 + 1, 0, none⟩) (by show w.heap.size ≤ w.heap.size + 1 + 1; omega) (.slice ao M.length cp)
      go_wp2
      refine bodyPost_ret (v := .agg #[.slice ao M.length cp]) (by simp [results, Try.results21, go_sem, hZ, hF]) rfl ⟨_, rfl, ⟨_, M, rfl, ownsRow_base0 hM2, bM, tM, ?_, ?_⟩, hB2⟩
      · rw [HV.out]
        obtain ⟨r1, _, r3, r4⟩ := R.out
        obtain ⟨q1, q2, q3⟩ := HN.out
        rw [HK.out, pv_val A na (by omega), pv_val S (na + B.length) (by omega)] at r4
        exact r4
      · have := R.out.1; omega
/-- Mul: the product. -/
theorem mul_any (w : World) (a b : Value) (m n K K' : Nat) (hK : K ≤ 1000000000) (hK' : K' ≤ 1000000000) (ha : NatIs w a m K) (hb : NatIs w b n K') :
    Calls Try.prog 21 #[a, b] w fun e w' => ∃ v, e = .returned v ∧ NatIs w' v (m * n) (K + K') ∧ Below w.heap.size w w' := by
  obtain ⟨sa, A, rfl, oa, bA, tA, rfl, lA⟩ := ha
  obtain ⟨sb, B, rfl, ob, bB, tB, rfl, lB⟩ := hb
  obtain ⟨aa, ca, rfl⟩ := oa.slice
  obtain ⟨ab, cb, rfl⟩ := ob.slice
  refine (mul_walk w aa ab A.length ca B.length cb (A.length + B.length) A B bA bB (by omega) (by omega) rfl rfl rfl oa ob).mono ?_
  rintro e w' ⟨v, rfl, hv, hw⟩
  exact ⟨v, rfl, hv.mono (by omega), hw⟩
end Go.Proofs.Ytciecncdejlkkaa
