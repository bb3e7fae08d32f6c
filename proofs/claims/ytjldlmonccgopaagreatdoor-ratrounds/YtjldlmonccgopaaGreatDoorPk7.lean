/- RParse, SParse, Of, NOf, DivLimb, Times. -/
import Derived.Test.YtjldlmonccgopaaGreatDoorPk6
import Derived.BigQuiet
/- The document's Parse. -/
namespace Go.Proofs.YtjldlmonccgopaaGreatDoor
open Go.RowKit
set_option linter.unusedVariables false
set_option maxRecDepth 100000
set_option linter.unusedSimpArgs false

set_option maxHeartbeats 800000 in
theorem rparse_empty (s : ByteArray) (w : World) (h : s.size = 0) :
    Calls Tryz.prog 54 #[.string s] w fun e w' => e = .returned (.tuple #[.agg #[.slice none 0 0], .int .i64 10]) ∧ Below w.heap.size w w' := by
  have h' : ((s.size : Int) == 0) = true := by simp [h]
  clear h
  go_enter Tryz.func54, Tryz.ntmps54
  go_wp2
  refine bodyPost_ret (v := .tuple #[.agg #[.slice none 0 0], .int .i64 10]) (by simp [results, Tryz.results54, go_sem]) rfl ⟨rfl, ?_⟩
  exact (Below.refl _ _).alloc (Nat.le_refl _) _
set_option maxHeartbeats 800000 in
theorem rparse_nought (s : ByteArray) (w : World) (h : 1 < s.size) (h0 : bt s 0 = 48) :
    Calls Tryz.prog 54 #[.string s] w fun e w' => e = .returned (.tuple #[.agg #[.slice none 0 0], .int .i64 10]) ∧ Below w.heap.size w w' := by
  have hp : 0 < s.size := by omega
  have e0 : (s[0]'hp).toNat = 48 := by rw [bt_at s 0 (by omega)]; exact h0
  have h' : ((s.size : Int) == 0) = false := beq_eq_false_iff_ne.2 (by omega)
  clear h0
  go_enter Tryz.func54, Tryz.ntmps54
  go_wp2
  refine bodyPost_ret (v := .tuple #[.agg #[.slice none 0 0], .int .i64 10]) (by simp [results, Tryz.results54, go_sem]) rfl ⟨rfl, ?_⟩
  exact (Below.refl _ _).alloc (Nat.le_refl _) _
theorem Tryz.info3 : (Tryz.prog.info? 3).map (fun i => (i.zero, i.size, i.bytes)) = some (some (.int .i64 0), 1, 8) := by kernel_rfl
/-- What k digits from place a on are worth. -/
def sv (s : ByteArray) (a : Nat) : Nat → Nat
  | 0 => 0
  | k + 1 => sv s a k * 10 + (bt s (a + k) - 48)
theorem sv_lt {s : ByteArray} (a n : Nat) (h : ∀ k, k < n → 48 ≤ bt s (a + k) ∧ bt s (a + k) ≤ 57) : sv s a n < 10 ^ n := by
  induction n with
  | zero => simp [sv]
  | succ n ih =>
    have h1 := ih (fun k hk => h k (by omega))
    have h2 := h n (by omega)
    simp only [sv, Nat.pow_succ]; omega
theorem dv_sv (s : ByteArray) (a k : Nat) : dv s (a + k) = dv s a * 10 ^ k + sv s a k := by
  induction k with
  | zero => simp [sv]
  | succ k ih => rw [← Nat.add_assoc, dv, ih, sv, Nat.pow_succ, Nat.add_mul, Nat.mul_assoc]; omega
/-- What holds at the head of a round: t digits of nine signs each are taken off the end. -/
def RRel (s : ByteArray) (t : Nat) (D : List Nat) : Prop := D.length = t ∧ R.Bd D ∧ dv s s.size = dv s (s.size - 9 * t) * 10 ^ (9 * t) + R.pv D t
theorem lg_append_old (D : List Nat) (x j : Nat) (h : j < D.length) : lg (D ++ [x]) j = lg D j := by simp [lg, List.getD, List.getElem?_append_left h]
theorem lg_append_new (D : List Nat) (x : Nat) : lg (D ++ [x]) D.length = x := by simp [lg, List.getD]
theorem RRel.step {s : ByteArray} {t : Nat} {D : List Nat} (h : RRel s t D) (ht : 9 * t < s.size) (hd : ∀ k, k < s.size → 48 ≤ bt s k ∧ bt s k ≤ 57) (a k : Nat) (hk : k ≤ 9) (ha : a + k = s.size - 9 * t) (hz : k < 9 → a = 0) : RRel s (t + 1) (D ++ [sv s a k]) := by
  obtain ⟨h1, h2, h3⟩ := h
  have hx := sv_lt (s := s) a k (fun j hj => hd (a + j) (by omega))
  have hx9 : sv s a k < 1000000000 := by
    have : 10 ^ k ≤ 10 ^ 9 := Nat.pow_le_pow_right (by omega) hk
    have h9 : (10 : Nat) ^ 9 = 1000000000 := by decide
    omega
  refine ⟨by simp [h1], fun j => ?_, ?_⟩
  · rcases Nat.lt_trichotomy j D.length with e | e | e
    · rw [lg_append_old D _ j e]; exact h2 j
    · subst e; rw [lg_append_new]; exact hx9
    · rw [lg_past _ j (by simp; omega)]; omega
  · have e1 : R.pv (D ++ [sv s a k]) (t + 1) = R.pv D t + sv s a k * 1000000000 ^ t := by
      simp only [R.pv]
      rw [R.pv_congr (M := D) (fun j hj => lg_append_old D _ j (by omega)), ← h1, lg_append_new]
    rw [e1, h3, ← ha, dv_sv s a k]
    have e2 : 10 ^ (9 * t) = 1000000000 ^ t := Nat.pow_mul 10 9 t
    have e3 : s.size - 9 * (t + 1) = if k < 9 then 0 else a := by split <;> omega
    rw [e3, Nat.add_mul]
    by_cases hk9 : k < 9
    · rw [if_pos hk9, hz hk9]; simp [dv, e2]; omega
    · rw [if_neg hk9]
      have hk' : k = 9 := by omega
      subst hk'
      rw [show 9 * (t + 1) = 9 + 9 * t by omega, Nat.pow_add, ← Nat.mul_assoc, e2]; omega
theorem sv_small (s : ByteArray) (a n : Nat) (hn : n ≤ 8) (h : ∀ k, k < n → 48 ≤ bt s (a + k) ∧ bt s (a + k) ≤ 57) : sv s a n < 100000000 := by
  have h1 := sv_lt (s := s) a n h
  have h2 := pow10_le hn
  omega
theorem sv_next (s : ByteArray) (a j : Nat) (h : a ≤ j) : sv s a (j + 1 - a) = sv s a (j - a) * 10 + (bt s j - 48) := by
  rw [show j + 1 - a = (j - a) + 1 by omega, sv, show a + (j - a) = j by omega]
set_option maxHeartbeats 1600000 in
theorem rparse_loop (s : ByteArray) (w : World) (hs : s.size ≤ 1000000000) (h : s.size ≠ 0) (h0 : 1 < s.size → bt s 0 ≠ 48) :
    Calls Tryz.prog 54 #[.string s] w fun e w' => ((Txt s ∧ ∃ v, e = .returned (.tuple #[v, .int .i64 0]) ∧ RefIs w' v (num s) (s.size / 9 + 1)) ∨ (¬ Txt s ∧ e = .returned (.tuple #[.agg #[.slice none 0 0], .int .i64 10]))) ∧ Below w.heap.size w w' := by
  obtain ⟨i0, hi, hz0, hz1, hz2⟩ := info_parts Tryz.info3
  have hp : 0 < s.size := by omega
  have e0 := bt_at s 0 hp
  have h' : ((s.size : Int) == 0) = false := beq_eq_false_iff_ne.2 (by omega)
  have H0 := hid (And.intro h h0)
  have hg : s.size ≤ 1 ∨ 1 < s.size ∧ ((bt s 0 : Int) == 48) = false := by
    by_cases h1 : 1 < s.size
    · right; refine ⟨h1, ?_⟩; have := h0 h1; exact beq_eq_false_iff_ne.2 (by omega)
    · left; omega
  clear h0 h
  have hWz : (w.alloc (Obj.cells #[Value.slice none 0 0] 32)).cell? ⟨w.heap.size, 0, none⟩ = some (.slice none 0 0) := by simp [go_sem]
  have hWf : (w.alloc (Obj.cells #[Value.slice none 0 0] 32)).frozen? ⟨w.heap.size, 0, none⟩ = false := by simp [go_sem]
  have hWb : Below w.heap.size w (w.alloc (Obj.cells #[Value.slice none 0 0] 32)) := (Below.refl _ _).alloc (Nat.le_refl _) _
  have hWs : (w.alloc (Obj.cells #[Value.slice none 0 0] 32)).heap.size = w.heap.size + 1 := by simp
  rcases hg with h1 | ⟨h1, h2⟩
  all_goals
    go_enter Tryz.func54, Tryz.ntmps54
    go_wp2
    go_loop [4] (fun i => ∃ k : Nat, k ≤ s.size ∧ i = .int .i64 k ∧ ∀ j, j < k → 48 ≤ bt s j ∧ bt s j ≤ 57) (fun i => s.size - (intOf i).toNat)
    case atStart => exact ⟨0, Nat.zero_le _, rfl, fun j hj => by omega⟩
    case round =>
      obtain ⟨k, hk, rfl, hd⟩ := hrel
      have HD := hid hd
      clear hd
      by_cases hlt : k < s.size
      · have ek := bt_at s k hlt
        rcases (show bt s k < 48 ∨ 57 < bt s k ∨ 48 ≤ bt s k ∧ bt s k ≤ 57 by omega) with hc | hc | ⟨hc, hc'⟩
        · go_wp2
          refine bodyPost_ret (v := .tuple #[.agg #[.slice none 0 0], .int .i64 10]) (by simp [results, Tryz.results54, go_sem]) rfl ⟨Or.inr ⟨fun h => by have := (h.2.2 k hlt).1; omega, rfl⟩, ?_⟩
          exact (Below.refl _ _).alloc (Nat.le_refl _) _
        · have hc' : ¬ bt s k < 48 := by omega
          go_wp2
          refine bodyPost_ret (v := .tuple #[.agg #[.slice none 0 0], .int .i64 10]) (by simp [results, Tryz.results54, go_sem]) rfl ⟨Or.inr ⟨fun h => by have := (h.2.2 k hlt).2; omega, rfl⟩, ?_⟩
          exact (Below.refl _ _).alloc (Nat.le_refl _) _
        · go_wp2
          go_round
          case rel => exact ⟨k + 1, by omega, by go_num, fun j hj => by
            by_cases e : j = k
            · subst e; exact ⟨hc, hc'⟩
            · exact HD.out j (by omega)⟩
          case measure => simp [intOf]; omega
      · have HD2 := hid (show ∀ j, j < s.size → 48 ≤ bt s j ∧ bt s j ≤ 57 from fun j hj => HD.out j (by omega))
        clear HD
        go_wp2
        clear hlt hk h'
        try clear h2
        clear h1
        have hown0 : ((w.alloc (Obj.cells #[Value.slice none 0 0] 32)).alloc (Obj.cells #[] 3)).ownsRow (w.heap.size + 1) 3 1 (.slice (some ⟨w.heap.size + 1, 0, none⟩) 0 0) 0 (i64s []) := by
          have := World.ownsRow_made (base := w.heap.size + 1) (e := 3) (size := 1) (w.alloc (Obj.cells #[Value.slice none 0 0] 32)) #[] 0 (by simp) (by unfold maxLen; omega) (by simp)
          simpa [i64s] using this
        have hbel0 : Below (w.heap.size + 1) (w.alloc (Obj.cells #[Value.slice none 0 0] 32)) ((w.alloc (Obj.cells #[Value.slice none 0 0] 32)).alloc (Obj.cells #[] 3)) := (Below.refl _ _).alloc (by simp) _
        have hWt : w.heap.size + 1 ≤ (w.alloc (Obj.cells #[Value.slice none 0 0] 32)).heap.size := by simp
        clear hWs
        generalize (w.alloc (Obj.cells #[Value.slice none 0 0] 32)).alloc (Obj.cells #[] 3) = W1 at *
        generalize w.alloc (Obj.cells #[Value.slice none 0 0] 32) = W at *
        go_loopw [5, 6] (fun v e wr => ∃ (t : Nat) (D : List Nat), e = .int .i64 ((s.size : Int) - 9 * (t : Int)) ∧ 9 * t < s.size + 9 ∧ RRel s t D ∧ wr.ownsRow (w.heap.size + 1) 3 1 v t (i64s D) ∧ v ≠ .slice none 0 0 ∧ Below (w.heap.size + 1) W wr) (fun _ e _ => (intOf e + 9).toNat)
        case atStart => exact ⟨0, [], by simp, by omega, ⟨rfl, by intro j; simp [lg], by simp [R.pv]⟩, hown0, by simp, hbel0⟩
        case round =>
          obtain ⟨t, D, rfl, ht, hR, hown', hnn, hbel⟩ := hrel
          have HR := hid hR
          have HN := hid hnn
          clear hR hnn hown0 hbel0
          by_cases hlt : 9 * t < s.size
          · obtain ⟨a, k, hk9, hak, hz⟩ : ∃ a k, k ≤ 9 ∧ a + k = s.size - 9 * t ∧ (k < 9 → a = 0) := by
              by_cases e : s.size - 9 * t ≤ 9
              · exact ⟨0, s.size - 9 * t, e, by omega, fun _ => rfl⟩
              · exact ⟨s.size - 9 * t - 9, 9, by omega, by omega, fun h => by omega⟩
            have hR2 := HR.out.step hlt HD2.out a k hk9 hak hz
            have HR2 := hid hR2
            have HA := hid (And.intro hak hz)
            clear hR2
            rcases (show s.size < 9 * t + 9 ∨ s.size ≤ 9 * t + 9 ∧ 9 * t + 9 ≤ s.size ∨ 9 * t + 9 < s.size by omega) with hc | ⟨hc, hc'⟩ | hc
            all_goals try (exfalso; omega)
            all_goals
              go_wp2
              go_loop [7, 8] (fun n i => ∃ j : Nat, a ≤ j ∧ j ≤ a + k ∧ i = .int .i64 j ∧ n = .int .i64 (sv s a (j - a))) (fun _ i => a + k - (intOf i).toNat)
              case atStart => exact ⟨a, Nat.le_refl _, by omega, by have := HA.out; go_num, by simp [sv]⟩
              case round =>
                obtain ⟨j, hj1, hj2, rfl, rfl⟩ := hrel
                by_cases hj : j < a + k
                · have hjs : j < s.size := by have := HA.out.1; omega
                  have ej := bt_at s j hjs
                  have hd1 := (HD2.out j hjs).1
                  have hd2 := (HD2.out j hjs).2
                  have hsv := sv_small s a (j - a) (by omega) (fun i hi => HD2.out (a + i) (by have := HA.out.1; omega))
                  have hsn := hid (sv_next s a j hj1)
                  have hje : (j : Int) < (s.size : Int) - 9 * (t : Int) := by have := HA.out.1; omega
                  generalize sv s a (j - a) = x at *
                  go_wp2
                  go_round
                  case rel => exact ⟨j + 1, by omega, by omega, by go_num, by rw [hsn.out]; go_num⟩
                  case measure => simp [intOf]; omega
                · have hje : ¬ (j : Int) < (s.size : Int) - 9 * (t : Int) := by have := HA.out.1; omega
                  have hjk : j - a = k := by omega
                  rw [hjk]
                  clear hjk
                  have HX := hid (show sv s a k = sv s a k from rfl)
                  generalize sv s a k = x at *
                  go_wp2_with (at_builtin; refine wpList_append_own _ rfl _ _ 30 rfl (w.heap.size + 1) 3 i0 (.int .i64 0) 1 8 Tryz.underlying30 hi hz0 hz1 hz2 rfl (by decide) _ _ _ rfl (hown'.alloc _) ⟨wr.heap.size, 0, none⟩ 1 1 [.int .i64 (x : Int)] rfl rfl (by intro j u hu; match j, hu with | 0, hu => simp at hu; subst hu; simp [Addr.add]) (by intro u hu; simp at hu; subst hu; rfl) (by unfold maxLen; omega) (by omega) (by have := hbel.size; simp; omega) ?_)
                  intro v' w1 hown2 hgrow hnil
                  have hb2 : Below (w.heap.size + 1) W w1 := (below_alloc' hbel hWt _).grown hgrow (by have := hbel.size; simp; omega) (fun q hq => (hown'.lt q hq).1)
                  have hown3 : w1.ownsRow (w.heap.size + 1) 3 1 v' (t + 1) (i64s (D ++ [x])) := by simpa [i64s] using hown2
                  have hnn2 : v' ≠ .slice none 0 0 := hnil
                  have HN2 := hid hnn2
                  clear hown2 hgrow hnil hnn2 hown' hbel
                  go_wp2
                  go_roundw
                  case rel => exact ⟨t + 1, D ++ [x], by go_num, by omega, HR2.out, hown3, HN2.out, hb2⟩
                  case measure => simp [intOf]; omega
          · obtain ⟨g, cp, hu⟩ : ∃ g cp, u5 = .slice (some ⟨g, 0, none⟩) D.length cp := by
              rcases hown'.2 with ⟨h, _⟩ | ⟨g, cp, cur, hv, _⟩
              · exact absurd h HN.out
              · exact ⟨g, cp, by rw [hv, HR.out.1]⟩
            have hbw : Below w.heap.size w wr := hWb.trans (hbel.mono (by omega))
            have hZ := (hbel.cell (p := ⟨w.heap.size, 0, none⟩) (by show w.heap.size < _; omega)).trans hWz
            have hF := (hbel.frozen (p := ⟨w.heap.size, 0, none⟩) (by show w.heap.size < _; omega)).trans hWf
            have hsz : w.heap.size < wr.heap.size := by have := hbel.size; omega
            have hown2 : wr.ownsRow (w.heap.size + 1) 3 1 (.slice (some ⟨g, 0, none⟩) D.length cp) D.length (i64s D) := by
              have := hown'; rw [hu, ← HR.out.1] at this; exact this
            have hval : R.val D = num s := by
              obtain ⟨r1, r2, r3⟩ := HR.out
              rw [show s.size - 9 * t = 0 by omega] at r3
              simp only [dv, Nat.zero_mul, Nat.zero_add] at r3
              unfold num; rw [r3, R.pv_val D t (by omega)]
            have HV := hid hval
            have HL := hid (show D.length ≤ s.size / 9 + 1 from by have := HR.out.1; omega)
            rw [hu]
            clear hval hown' hu
            go_wp2_with fail
            refine (rtrim_base wr (w.heap.size + 1) g cp D HR.out.2.1 hown2).mono ?_
            rintro e w2 ⟨⟨sl, M, rfl, hM, bM, tM, vM, lM⟩, hb2⟩
            obtain ⟨ao, cap, hsl⟩ := ints_slice hM
            rw [hsl]
            rw [hsl] at hM
            have hZ2 := (hb2.cell (p := ⟨w.heap.size, 0, none⟩) (by exact hsz)).trans hZ
            have hF2 := (hb2.frozen (p := ⟨w.heap.size, 0, none⟩) (by exact hsz)).trans hF
            have hM2 := ownsRow_setCell_below hM (a := ⟨w.heap.size, 0, none⟩) (by show w.heap.size < _; omega) (.slice ao M.length cap)
            have hB2 := (hbw.trans (hb2.mono (by omega))).setCell (p := ⟨w.heap.size, 0, none⟩) (Nat.le_refl _) (.slice ao M.length cap)
            have HM := hid (show R.val M = num s from by rw [vM]; exact HV.out)
            clear hM hsl vM hown2 hZ hF
            go_wp2
            exact bodyPost_ret (v := .tuple #[.agg #[.slice ao M.length cap], .int .i64 0]) (by simp [results, Tryz.results54, go_sem, hZ2]) rfl ⟨Or.inl ⟨⟨H0.out.1, H0.out.2, HD2.out⟩, _, rfl, _, M, rfl, ownsRow_base0 hM2, bM, tM, HM.out, Nat.le_trans lM HL.out⟩, hB2⟩
theorem rparse_yes (s : ByteArray) (w : World) (hs : s.size ≤ 1000000000) (h : Txt s) :
    Calls Tryz.prog 54 #[.string s] w fun e w' => (∃ v, e = .returned (.tuple #[v, .int .i64 0]) ∧ RefIs w' v (num s) (s.size / 9 + 1)) ∧ Below w.heap.size w w' := by
  refine (rparse_loop s w hs h.1 h.2.1).mono ?_
  rintro e w' ⟨h' | h', hw⟩
  · exact ⟨h'.2, hw⟩
  · exact absurd h h'.1
theorem rparse_no (s : ByteArray) (w : World) (hs : s.size ≤ 1000000000) (h : ¬ Txt s) :
    Calls Tryz.prog 54 #[.string s] w fun e w' => e = .returned (.tuple #[.agg #[.slice none 0 0], .int .i64 10]) ∧ Below w.heap.size w w' := by
  by_cases h0 : s.size = 0
  · exact rparse_empty s w h0
  · by_cases h1 : 1 < s.size ∧ bt s 0 = 48
    · exact rparse_nought s w h1.1 h1.2
    · refine (rparse_loop s w hs h0 (fun a b => h1 ⟨a, b⟩)).mono ?_
      rintro e w' ⟨h' | h', hw⟩
      · exact absurd h'.1 h
      · exact ⟨h'.2, hw⟩
end Go.Proofs.YtjldlmonccgopaaGreatDoor
/- The document's whole numbers: Make, Parse. -/
namespace Go.Proofs.YtjldlmonccgopaaGreatDoor
open Go.RowKit
set_option linter.unusedVariables false
set_option maxRecDepth 100000
set_option linter.unusedSimpArgs false

theorem ref_len {w : World} {ao : Option Addr} {l c m K : Nat} (h : RefIs w (.agg #[.slice ao l c]) m K) : (0 < l ↔ 0 < m) ∧ l ≤ K := by
  obtain ⟨sl, L, h1, h2, h3, h4, h5, h6⟩ := h
  simp only [Value.agg.injEq, Array.mk.injEq, List.cons.injEq, and_true] at h1
  obtain ⟨ao', c', hs⟩ := ints_slice h2
  rw [← h1] at hs
  simp only [Value.slice.injEq] at hs
  obtain ⟨_, hl, _⟩ := hs
  refine ⟨?_, by omega⟩
  rw [hl, ← h5]
  constructor
  · intro hp
    have := R.val_lt_len (L := []) (M := L) (by intro j; simp [lg]) h4 (by simpa using hp)
    have e : R.val [] = 0 := rfl
    omega
  · intro hp
    rcases Nat.eq_zero_or_pos L.length with e | e
    · rw [List.eq_nil_of_length_eq_zero e] at hp
      have e : R.val [] = 0 := rfl
      omega
    · exact e
set_option maxHeartbeats 800000 in
/-- The document's Make. -/
theorem smake_any (w : World) (b : Bool) (a : Value) (m K : Nat) (ha : RefIs w a m K) :
    Calls Tryz.prog 56 #[.bool b, a] w fun e w' => ∃ v, e = .returned v ∧ RNumIs w' v (sgn b m) K ∧ Below w.heap.size w w' := by
  obtain ⟨ao, l, c, rfl⟩ := ha.form
  have hl := ref_len ha
  have HD := hid (show decide (sgn b m < 0) = (b && decide (0 < l)) by rw [sgn_neg]; congr 1; exact decide_eq_decide.2 hl.1.symm)
  have hB := fun v : Value => boxed2 (Below.refl w.heap.size w) (Obj.cells #[.slice ao l c] 32) (Obj.cells #[v, .slice ao l c] 34)
  clear hl
  cases b
  · go_enter Tryz.func56, Tryz.ntmps56
    go_wp2_with fail
    exact bodyPost_ret (v := .agg #[.bool false, .slice ao l c]) (by simp [results, Tryz.results56, go_sem]) rfl ⟨_, rfl, ⟨ao, l, c, by rw [HD.out]; rfl, by rw [sgn_abs]; exact ha.below (hB _)⟩, hB _⟩
  · go_enter Tryz.func56, Tryz.ntmps56
    go_wp2_with fail
    exact bodyPost_ret (v := .agg #[.bool (decide (0 < l)), .slice ao l c]) (by simp [results, Tryz.results56, go_sem]) rfl ⟨_, rfl, ⟨ao, l, c, by rw [HD.out]; rfl, by rw [sgn_abs]; exact ha.below (hB _)⟩, hB _⟩
set_option maxHeartbeats 800000 in
theorem sparse_minus_no (s : ByteArray) (w : World) (hs : s.size ≤ 1000000000) (h0 : 0 < s.size) (h : bt s 0 = 45) (ht : ¬ Txt (s.extract 1 s.size)) :
    Calls Tryz.prog 53 #[.string s] w fun e w' => e = .returned (.tuple #[.agg #[.bool false, .slice none 0 0], .int .i64 10]) ∧ Below w.heap.size w w' := by
  have hx := box_new w (Obj.cells #[.bool false, .slice none 0 0] 34)
  have hB : Below w.heap.size w (w.alloc (Obj.cells #[.bool false, .slice none 0 0] 34)) := (Below.refl _ _).alloc (Nat.le_refl _) _
  have hb : (s[0]'h0).toNat = 45 := by rw [bt_at]; exact h
  have h2 : s[0]'h0 = 45 := UInt8.toNat_inj.1 hb
  have hte : (s.extract 1 s.size).size ≤ 1000000000 := by simp; omega
  clear h
  go_enter Tryz.func53, Tryz.ntmps53
  go_wp2_with fail
  generalize w.alloc (Obj.cells #[.bool false, .slice none 0 0] 34) = W at *
  generalize s.extract 1 s.size = t at *
  refine (rparse_no t W hte ht).mono ?_
  rintro e w1 ⟨rfl, hb1⟩
  have hx3 := below_alloc' hb1 (Nat.le_refl _) (Obj.cells #[.slice none 0 0] 32)
  have hx1 := box_below hx3 hx (lt_of_block hx)
  have c1 := chain2 hB hx3
  have u2 := two_cell0 hx1
  have u3 := two_cell1 hx1
  have v2 := two_free (k := 0) hx1
  have v3 := two_free (k := 1) hx1
  obtain ⟨k0, k1, kB⟩ := end_two c1 (Nat.le_refl _) hx1 (.bool false) (.slice none 0 0)
  have HK := hid (And.intro k0 k1)
  clear k0 k1 hx hx1
  go_wp2
  exact bodyPost_ret (v := .tuple #[.agg #[.bool false, .slice none 0 0], .int .i64 10]) (by simp [results, Tryz.results53, go_sem, HK.out.1, HK.out.2]) rfl ⟨rfl, kB⟩
set_option maxHeartbeats 800000 in
theorem sparse_minus_nought (s : ByteArray) (w : World) (hs : s.size ≤ 1000000000) (h0 : 0 < s.size) (h : bt s 0 = 45) (ht : Txt (s.extract 1 s.size)) (hz : num (s.extract 1 s.size) = 0) :
    Calls Tryz.prog 53 #[.string s] w fun e w' => e = .returned (.tuple #[.agg #[.bool false, .slice none 0 0], .int .i64 10]) ∧ Below w.heap.size w w' := by
  have hx := box_new w (Obj.cells #[.bool false, .slice none 0 0] 34)
  have hB : Below w.heap.size w (w.alloc (Obj.cells #[.bool false, .slice none 0 0] 34)) := (Below.refl _ _).alloc (Nat.le_refl _) _
  have hb : (s[0]'h0).toNat = 45 := by rw [bt_at]; exact h
  have h2 : s[0]'h0 = 45 := UInt8.toNat_inj.1 hb
  have hte : (s.extract 1 s.size).size ≤ 1000000000 := by simp; omega
  clear h
  go_enter Tryz.func53, Tryz.ntmps53
  go_wp2_with fail
  generalize w.alloc (Obj.cells #[.bool false, .slice none 0 0] 34) = W at *
  generalize s.extract 1 s.size = t at *
  refine (rparse_yes t W hte ht).mono ?_
  rintro e w1 ⟨⟨v, rfl, nv⟩, hb1⟩
  obtain ⟨ar, lr, cr, rfl⟩ := nv.form
  have hl : lr = 0 := by have := (ref_len nv).1; omega
  subst hl
  have hx3 := below_alloc' hb1 (Nat.le_refl _) (Obj.cells #[.slice ar 0 cr] 32)
  have hx1 := box_below hx3 hx (lt_of_block hx)
  have c1 := chain2 hB hx3
  have u2 := two_cell0 hx1
  have u3 := two_cell1 hx1
  have v2 := two_free (k := 0) hx1
  have v3 := two_free (k := 1) hx1
  obtain ⟨k0, k1, kB⟩ := end_two c1 (Nat.le_refl _) hx1 (.bool false) (.slice none 0 0)
  have HK := hid (And.intro k0 k1)
  clear k0 k1 hx hx1
  go_wp2
  exact bodyPost_ret (v := .tuple #[.agg #[.bool false, .slice none 0 0], .int .i64 10]) (by simp [results, Tryz.results53, go_sem, HK.out.1, HK.out.2]) rfl ⟨rfl, kB⟩
set_option maxHeartbeats 800000 in
theorem sparse_minus (s t : ByteArray) (w : World) (hs : s.size ≤ 1000000000) (h0 : 0 < s.size) (h : bt s 0 = 45) (he : s.extract 1 s.size = t) (ht : Txt t) (hz : num t ≠ 0) :
    Calls Tryz.prog 53 #[.string s] w fun e w' => ∃ v, e = .returned (.tuple #[v, .int .i64 0]) ∧ RNumIs w' v (sgn true (num t)) (t.size / 9 + 1) ∧ Below w.heap.size w w' := by
  have hx := box_new w (Obj.cells #[.bool false, .slice none 0 0] 34)
  have hB : Below w.heap.size w (w.alloc (Obj.cells #[.bool false, .slice none 0 0] 34)) := (Below.refl _ _).alloc (Nat.le_refl _) _
  have hb : (s[0]'h0).toNat = 45 := by rw [bt_at]; exact h
  have h2 : s[0]'h0 = 45 := UInt8.toNat_inj.1 hb
  have hte : t.size ≤ 1000000000 := by rw [← he]; simp; omega
  have HE := hid he
  clear h he
  go_enter Tryz.func53, Tryz.ntmps53
  go_wp2_with fail
  generalize w.alloc (Obj.cells #[.bool false, .slice none 0 0] 34) = W at *
  rw [HE.out]
  refine (rparse_yes t W hte ht).mono ?_
  rintro e w1 ⟨⟨v, rfl, nv⟩, hb1⟩
  obtain ⟨ar, lr, cr, rfl⟩ := nv.form
  have hx3 := below_alloc' hb1 (Nat.le_refl _) (Obj.cells #[.slice ar lr cr] 32)
  have hx1 := box_below hx3 hx (lt_of_block hx)
  have c1 := chain2 hB hx3
  have n1 := nv.below ((Below.refl _ _).alloc (Nat.le_refl _) (Obj.cells #[.slice ar lr cr] 32))
  have hn := box_new w1 (Obj.cells #[.slice ar lr cr] 32)
  have hl0 : ((lr : Int) == 0) = false := by have := (ref_len nv).1; simp; omega
  clear hx hx3 hb1
  go_wp2_with fail
  generalize w1.alloc (Obj.cells #[.slice ar lr cr] 32) = W1 at *
  refine (smake_any W1 true _ _ _ n1).mono ?_
  rintro e w2 ⟨v, rfl, ⟨aq, lq, cq, rfl, n2⟩, hb2⟩
  have hx2 := box_below hb2 hx1 (lt_of_block hx1)
  have u2 := two_cell0 hx2
  have u3 := two_cell1 hx2
  have v2 := two_free (k := 0) hx2
  have v3 := two_free (k := 1) hx2
  obtain ⟨k0, k1, kB⟩ := end_two (chain2 c1 hb2) (Nat.le_refl _) hx2 (.bool (decide (sgn true (num t) < 0))) (.slice aq lq cq)
  have n3 := n2.box2 hx2 (by decide) (.bool (decide (sgn true (num t) < 0))) (.slice aq lq cq)
  have HK := hid (And.intro k0 k1)
  clear k0 k1 hx2
  go_wp2
  exact bodyPost_ret (v := .tuple #[.agg #[.bool (decide (sgn true (num t) < 0)), .slice aq lq cq], .int .i64 0]) (by simp [results, Tryz.results53, go_sem, HK.out.1, HK.out.2]) rfl ⟨_, rfl, ⟨aq, lq, cq, rfl, n3⟩, kB⟩
set_option maxHeartbeats 800000 in
theorem sparse_plain_no (s : ByteArray) (w : World) (hs : s.size ≤ 1000000000) (h0 : 0 < s.size) (h : bt s 0 ≠ 45) (ht : ¬ Txt s) :
    Calls Tryz.prog 53 #[.string s] w fun e w' => e = .returned (.tuple #[.agg #[.bool false, .slice none 0 0], .int .i64 10]) ∧ Below w.heap.size w w' := by
  have hx := box_new w (Obj.cells #[.bool false, .slice none 0 0] 34)
  have hB : Below w.heap.size w (w.alloc (Obj.cells #[.bool false, .slice none 0 0] 34)) := (Below.refl _ _).alloc (Nat.le_refl _) _
  have hb : (s[0]'h0).toNat ≠ 45 := by rw [bt_at]; exact h
  have h2 : (((s[0]'h0).toNat : Int) == 45) = false := by simp; omega
  clear h
  go_enter Tryz.func53, Tryz.ntmps53
  go_wp2_with fail
  generalize w.alloc (Obj.cells #[.bool false, .slice none 0 0] 34) = W at *
  refine (rparse_no s W hs ht).mono ?_
  rintro e w1 ⟨rfl, hb1⟩
  have hx3 := below_alloc' hb1 (Nat.le_refl _) (Obj.cells #[.slice none 0 0] 32)
  have hx1 := box_below hx3 hx (lt_of_block hx)
  have c1 := chain2 hB hx3
  have u2 := two_cell0 hx1
  have u3 := two_cell1 hx1
  have v2 := two_free (k := 0) hx1
  have v3 := two_free (k := 1) hx1
  obtain ⟨k0, k1, kB⟩ := end_two c1 (Nat.le_refl _) hx1 (.bool false) (.slice none 0 0)
  have HK := hid (And.intro k0 k1)
  clear k0 k1 hx hx1
  go_wp2
  exact bodyPost_ret (v := .tuple #[.agg #[.bool false, .slice none 0 0], .int .i64 10]) (by simp [results, Tryz.results53, go_sem, HK.out.1, HK.out.2]) rfl ⟨rfl, kB⟩
set_option maxHeartbeats 800000 in
theorem sparse_plain (s : ByteArray) (w : World) (hs : s.size ≤ 1000000000) (h0 : 0 < s.size) (h : bt s 0 ≠ 45) (ht : Txt s) :
    Calls Tryz.prog 53 #[.string s] w fun e w' => ∃ v, e = .returned (.tuple #[v, .int .i64 0]) ∧ RNumIs w' v (sgn false (num s)) (s.size / 9 + 1) ∧ Below w.heap.size w w' := by
  have hx := box_new w (Obj.cells #[.bool false, .slice none 0 0] 34)
  have hB : Below w.heap.size w (w.alloc (Obj.cells #[.bool false, .slice none 0 0] 34)) := (Below.refl _ _).alloc (Nat.le_refl _) _
  have hb : (s[0]'h0).toNat ≠ 45 := by rw [bt_at]; exact h
  have h2 : (((s[0]'h0).toNat : Int) == 45) = false := by simp; omega
  clear h
  go_enter Tryz.func53, Tryz.ntmps53
  go_wp2_with fail
  generalize w.alloc (Obj.cells #[.bool false, .slice none 0 0] 34) = W at *
  refine (rparse_yes s W hs ht).mono ?_
  rintro e w1 ⟨⟨v, rfl, nv⟩, hb1⟩
  obtain ⟨ar, lr, cr, rfl⟩ := nv.form
  have hx3 := below_alloc' hb1 (Nat.le_refl _) (Obj.cells #[.slice ar lr cr] 32)
  have hx1 := box_below hx3 hx (lt_of_block hx)
  have c1 := chain2 hB hx3
  have n1 := nv.below ((Below.refl _ _).alloc (Nat.le_refl _) (Obj.cells #[.slice ar lr cr] 32))
  have hn := box_new w1 (Obj.cells #[.slice ar lr cr] 32)
  clear hx hx3 hb1
  go_wp2_with fail
  generalize w1.alloc (Obj.cells #[.slice ar lr cr] 32) = W1 at *
  refine (smake_any W1 false _ _ _ n1).mono ?_
  rintro e w2 ⟨v, rfl, ⟨aq, lq, cq, rfl, n2⟩, hb2⟩
  have hx2 := box_below hb2 hx1 (lt_of_block hx1)
  have u2 := two_cell0 hx2
  have u3 := two_cell1 hx2
  have v2 := two_free (k := 0) hx2
  have v3 := two_free (k := 1) hx2
  obtain ⟨k0, k1, kB⟩ := end_two (chain2 c1 hb2) (Nat.le_refl _) hx2 (.bool (decide (sgn false (num s) < 0))) (.slice aq lq cq)
  have n3 := n2.box2 hx2 (by decide) (.bool (decide (sgn false (num s) < 0))) (.slice aq lq cq)
  have HK := hid (And.intro k0 k1)
  clear k0 k1 hx2
  go_wp2
  exact bodyPost_ret (v := .tuple #[.agg #[.bool (decide (sgn false (num s) < 0)), .slice aq lq cq], .int .i64 0]) (by simp [results, Tryz.results53, go_sem, HK.out.1, HK.out.2]) rfl ⟨_, rfl, ⟨aq, lq, cq, rfl, n3⟩, kB⟩
set_option maxHeartbeats 800000 in
theorem sparse_empty (s : ByteArray) (w : World) (h0 : s.size = 0) :
    Calls Tryz.prog 53 #[.string s] w fun e w' => e = .returned (.tuple #[.agg #[.bool false, .slice none 0 0], .int .i64 10]) ∧ Below w.heap.size w w' := by
  have hx := box_new w (Obj.cells #[.bool false, .slice none 0 0] 34)
  have hB : Below w.heap.size w (w.alloc (Obj.cells #[.bool false, .slice none 0 0] 34)) := (Below.refl _ _).alloc (Nat.le_refl _) _
  have HT := hid (show ¬ Txt s from fun h => h.1 h0)
  have h1 : ¬ 0 < s.size := by omega
  have HZ := hid h0
  clear h0
  go_enter Tryz.func53, Tryz.ntmps53
  go_wp2_with fail
  generalize w.alloc (Obj.cells #[.bool false, .slice none 0 0] 34) = W at *
  refine (rparse_no s W (by have := HZ.out; omega) HT.out).mono ?_
  rintro e w1 ⟨rfl, hb1⟩
  have hx3 := below_alloc' hb1 (Nat.le_refl _) (Obj.cells #[.slice none 0 0] 32)
  have hx1 := box_below hx3 hx (lt_of_block hx)
  have c1 := chain2 hB hx3
  have u2 := two_cell0 hx1
  have u3 := two_cell1 hx1
  have v2 := two_free (k := 0) hx1
  have v3 := two_free (k := 1) hx1
  obtain ⟨k0, k1, kB⟩ := end_two c1 (Nat.le_refl _) hx1 (.bool false) (.slice none 0 0)
  have HK := hid (And.intro k0 k1)
  clear k0 k1 hx hx1
  go_wp2
  exact bodyPost_ret (v := .tuple #[.agg #[.bool false, .slice none 0 0], .int .i64 10]) (by simp [results, Tryz.results53, go_sem, HK.out.1, HK.out.2]) rfl ⟨rfl, kB⟩
end Go.Proofs.YtjldlmonccgopaaGreatDoor
/- Of: a word's number. -/
namespace Go.Proofs.YtjldlmonccgopaaGreatDoor
open Go.RowKit
set_option linter.unusedVariables false
set_option maxRecDepth 100000
set_option linter.unusedSimpArgs false

theorem two_val (a b : Nat) : val [a, b] = a + b * 4294967296 := by simp [val, pv, lg]
theorem two_bd (a b : Nat) (ha : a < 4294967296) (hb : b < 4294967296) : Bd [a, b] := by
  intro j
  match j with
  | 0 => simpa [lg] using ha
  | 1 => simpa [lg] using hb
  | j + 2 => simp [lg]
theorem boxed2' (w : World) (A B : Obj) : Below w.heap.size w ((w.alloc A).alloc B) := below_alloc' (below_alloc' (Below.refl _ _) (Nat.le_refl _) A) (Nat.le_refl _) B
set_option maxHeartbeats 400000 in
theorem of_any (n : Nat) (hn : n < 18446744073709551616) (w : World) :
    Calls Tryz.prog 31 #[.int .u64 n] w fun e w' => ∃ v, e = .returned v ∧ NatIs w' v n 2 ∧ Below w.heap.size w w' := by
  have hown : ((w.alloc (Obj.cells #[Value.slice none 0 0] 25)).alloc (Obj.cells #[Value.int .u32 ((n : Int) % 4294967296), Value.int .u32 ((n : Int) / 4294967296)] 94)).ownsRow (w.heap.size + 1) 94 1 (.slice (some ⟨w.heap.size + 1, 0, none⟩) 2 2) 2 (u32s [n % 4294967296, n / 4294967296]) := by
    have h := World.ownsRow_lit (base := w.heap.size + 1) (e := 94) (size := 1) (w.alloc (Obj.cells #[Value.slice none 0 0] 25)) #[Value.int .u32 ((n : Int) % 4294967296), Value.int .u32 ((n : Int) / 4294967296)] 2 (by simp) (by unfold maxLen; omega) (by simp)
    simpa [u32s] using h
  have hx : ((w.alloc (Obj.cells #[Value.slice none 0 0] 25)).alloc (Obj.cells #[Value.int .u32 ((n : Int) % 4294967296), Value.int .u32 ((n : Int) / 4294967296)] 94)).heap[w.heap.size]? = some (Obj.cells #[Value.slice none 0 0] 25) := box_alloc (box_new _ _) _
  have hb : Below w.heap.size w ((w.alloc (Obj.cells #[Value.slice none 0 0] 25)).alloc (Obj.cells #[Value.int .u32 ((n : Int) % 4294967296), Value.int .u32 ((n : Int) / 4294967296)] 94)) := boxed2' w _ _
  go_enter Tryz.func31, Tryz.ntmps31
  go_wp2_with fail
  generalize (w.alloc (Obj.cells #[Value.slice none 0 0] 25)).alloc (Obj.cells #[Value.int .u32 ((n : Int) % 4294967296), Value.int .u32 ((n : Int) / 4294967296)] 94) = W at *
  refine (trim_base W (w.heap.size + 1) _ [n % 4294967296, n / 4294967296] (two_bd _ _ (by omega) (by omega)) hown).mono ?_
  rintro e w' ⟨⟨v', M, rfl, hM, bM, tM, vM, lM⟩, rfl⟩
  obtain ⟨ao, cp, hv⟩ := Limbs.slice (ownsRow_base0 hM)
  rw [hv]
  rw [hv] at hM
  have HV := hid vM
  have hc := cell_of_one hx
  have hf := free_of_one hx
  have hM2 := ownsRow_setCell_below hM (a := ⟨w.heap.size, 0, none⟩) (by show w.heap.size < _; omega) (.slice ao M.length cp)
  have hB2 := hb.setCell (p := ⟨w.heap.size, 0, none⟩) (Nat.le_refl _) (.slice ao M.length cp)
  clear hv vM hx hM hown
  go_wp2
  refine bodyPost_ret (v := .agg #[.slice ao M.length cp]) (by simp [results, Tryz.results31, go_sem, hc]) rfl ⟨_, rfl, ⟨_, M, rfl, ownsRow_base0 hM2, bM, tM, ?_, lM⟩, hB2⟩
  rw [HV.out, two_val]; omega
theorem of_lit (n : Nat) (z : Int) (hz : z = (n : Int)) (hn : n < 18446744073709551616) (w : World) :
    Calls Tryz.prog 31 #[.int .u64 z] w fun e w' => ∃ v, e = .returned v ∧ NatIs w' v n 2 ∧ Below w.heap.size w w' := by
  subst hz; exact of_any n hn w
end Go.Proofs.YtjldlmonccgopaaGreatDoor
/- Whole numbers: Of. -/
namespace Go.Proofs.YtjldlmonccgopaaGreatDoor
open Go.RowKit
set_option linter.unusedVariables false
set_option maxRecDepth 100000
set_option linter.unusedSimpArgs false

set_option maxHeartbeats 1000000 in
theorem nof_any (w : World) (z : Int) (h1 : -9223372036854775808 ≤ z) (h2 : z < 9223372036854775808) :
    Calls Tryz.prog 11 #[.int .i64 z] w fun e w' => ∃ v, e = .returned v ∧ NumIs w' v z 2 ∧ Below w.heap.size w w' := by
  have hy := box_new w (Obj.cells #[.slice none 0 0, .bool false] 27)
  have hB : Below w.heap.size w (w.alloc (Obj.cells #[.slice none 0 0, .bool false] 27)) := (Below.refl _ _).alloc (Nat.le_refl _) _
  by_cases hz : z < 0
  · obtain ⟨m, hm⟩ : ∃ m : Nat, z = -(m : Int) := ⟨z.natAbs, by omega⟩
    have e0 : IntKind.u64.wrap (-(IntKind.u64.wrap z)) = (m : Int) := by
      simp [IntKind.wrap, IntKind.bits, IntKind.signed]; omega
    have hm2 : m < 18446744073709551616 := by omega
    have HM := hid (And.intro hm hz)
    have hn : z.natAbs = m := by omega
    clear hm
    have HN := hid hn
    clear hn
    go_enter Tryz.func11, Tryz.ntmps11
    go_wp2_with fail
    refine (of_any m hm2 _).mono ?_
    rintro e w1 ⟨v, rfl, nv, hb⟩
    obtain ⟨a1, l1, c1, rfl⟩ := nv.form
    have y1 := box_below hb hy (by simp)
    have u0 := two_cell0 y1
    have u1 := two_cell1 y1
    have v0 := two_free (k := 0) y1
    have v1 := two_free (k := 1) y1
    obtain ⟨k0, k1, kB⟩ := end_two (chain2 hB hb) (Nat.le_refl _) y1 (.slice a1 l1 c1) (.bool true)
    have n4 := nv.box2 y1 (by decide) (.slice a1 l1 c1) (.bool true)
    have HK := hid (And.intro k0 k1)
    clear k0 k1 nv hb y1
    go_wp2
    exact bodyPost_ret (v := .agg #[.slice a1 l1 c1, .bool true]) (by simp [results, Tryz.results11, go_sem, HK.out.1, HK.out.2]) rfl ⟨_, rfl, ⟨a1, l1, c1, by simp [HM.out.2], HN.out.symm ▸ n4⟩, kB⟩
  · obtain ⟨m, hm⟩ : ∃ m : Nat, z = (m : Int) := ⟨z.natAbs, by omega⟩
    have hm2 : m < 18446744073709551616 := by omega
    have HM := hid (And.intro hm hz)
    subst hm
    go_enter Tryz.func11, Tryz.ntmps11
    go_wp2_with fail
    refine (of_any m hm2 _).mono ?_
    rintro e w1 ⟨v, rfl, nv, hb⟩
    obtain ⟨a1, l1, c1, rfl⟩ := nv.form
    have y1 := box_below hb hy (by simp)
    have u0 := two_cell0 y1
    have u1 := two_cell1 y1
    have v0 := two_free (k := 0) y1
    have v1 := two_free (k := 1) y1
    obtain ⟨k0, k1, kB⟩ := end_two (chain2 hB hb) (Nat.le_refl _) y1 (.slice a1 l1 c1) (.bool false)
    have n4 := nv.box2 y1 (by decide) (.slice a1 l1 c1) (.bool false)
    have HK := hid (And.intro k0 k1)
    clear k0 k1 nv hb y1
    go_wp2
    exact bodyPost_ret (v := .agg #[.slice a1 l1 c1, .bool false]) (by simp [results, Tryz.results11, go_sem, HK.out.1, HK.out.2]) rfl ⟨_, rfl, ⟨a1, l1, c1, by simp, by rw [Int.natAbs_natCast]; exact n4⟩, kB⟩
end Go.Proofs.YtjldlmonccgopaaGreatDoor
/- divideByLimb: limbs divided by one limb, where they stand. -/
namespace Go.Proofs.YtjldlmonccgopaaGreatDoor
open Go.RowKit
set_option linter.unusedVariables false
set_option maxRecDepth 100000
set_option linter.unusedSimpArgs false

theorem pv_set_in (S : List Nat) (m q n : Nat) (hm : m < n) (hs : m < S.length) : pv (S.set m q) n + lg S m * 4294967296 ^ m = pv S n + q * 4294967296 ^ m := by
  induction n with
  | zero => omega
  | succ n ih =>
    simp only [pv]
    by_cases e : m = n
    · subst e
      rw [pv_set_past S m q m (Nat.le_refl _), lg_set_same S m q hs]; omega
    · rw [lg_set_other S m q n e]
      have := ih (by omega)
      omega
/-- A round of the division by one limb: k limbs from the top are divided, r is left. -/
def DivRel (L S : List Nat) (n d k r : Nat) : Prop := S.length = n ∧ Bd S ∧ (∀ j, j < n - k → lg S j = lg L j) ∧ pv S n * d + r * 4294967296 ^ (n - k) + pv L (n - k) = val L + pv L (n - k) * d
theorem div_round (L S : List Nat) (n d k r m : Nat) (hL : L.length = n) (hk : k < n) (hm : m + 1 + k = n) (hd : 0 < d) (hr : r < d) (hx : lg L m < 4294967296) (h : DivRel L S n d k r) :
    DivRel L (S.set m ((r * 4294967296 + lg L m) / d)) n d (k + 1) ((r * 4294967296 + lg L m) % d) ∧ (r * 4294967296 + lg L m) / d < 4294967296 := by
  obtain ⟨h1, h2, h3, h4⟩ := h
  have hq : (r * 4294967296 + lg L m) / d < 4294967296 := by
    rw [Nat.div_lt_iff_lt_mul hd]
    have : (r + 1) * 4294967296 ≤ d * 4294967296 := Nat.mul_le_mul_right _ hr
    rw [Nat.mul_comm 4294967296 d]; omega
  refine ⟨⟨by simpa using h1, Bd_set h2 _ _ hq, fun j hj => ?_, ?_⟩, hq⟩
  · rw [lg_set_other S m _ j (by omega)]; exact h3 j (by omega)
  · have e1 := pv_set_in S m ((r * 4294967296 + lg L m) / d) n (by omega) (by omega)
    rw [h3 m (by omega)] at e1
    have e2 : n - k = m + 1 := by omega
    have e3 : n - (k + 1) = m := by omega
    rw [e2, Nat.pow_succ] at h4
    simp only [pv] at h4
    rw [e3]
    have hd' := Nat.div_add_mod (r * 4294967296 + lg L m) d
    generalize (r * 4294967296 + lg L m) / d = q at *
    generalize (r * 4294967296 + lg L m) % d = r' at *
    generalize pv (S.set m q) n = V' at *
    generalize pv S n = V at *
    generalize 4294967296 ^ m = p at *
    generalize pv L m = l at *
    generalize lg L m = x at *
    generalize val L = v at *
    have a1 : (V' + x * p) * d = (V + q * p) * d := by rw [e1]
    rw [Nat.add_mul, Nat.add_mul] at a1
    have a2 : (d * q + r') * p = (r * 4294967296 + x) * p := by rw [hd']
    rw [Nat.add_mul, Nat.add_mul] at a2
    have a3 : q * p * d = d * q * p := by rw [Nat.mul_right_comm, Nat.mul_comm q d]
    have a4 : r * (p * 4294967296) = r * 4294967296 * p := by rw [Nat.mul_comm p, ← Nat.mul_assoc]
    have a5 : (l + x * p) * d = l * d + x * p * d := Nat.add_mul _ _ _
    rw [a4, a5] at h4
    omega
theorem div_done (L S : List Nat) (n d r : Nat) (hL : L.length = n) (hd : 0 < d) (hr : r < d) (h : DivRel L S n d n r) : val S = val L / d ∧ r = val L % d := by
  obtain ⟨h1, h2, h3, h4⟩ := h
  simp only [Nat.sub_self, Nat.pow_zero, Nat.mul_one, pv, Nat.zero_mul, Nat.add_zero] at h4
  rw [pv_val S n (by omega)] at h4
  rw [← h4]
  constructor
  · rw [Nat.add_comm, Nat.add_mul_div_right _ _ hd, Nat.div_eq_of_lt hr]; omega
  · rw [Nat.add_comm, Nat.add_mul_mod_self_right, Nat.mod_eq_of_lt hr]
theorem or_sum (r x : Nat) (hr : r < 4294967296) (hx : x < 4294967296) : bits .or .u64 ((r : Int) * 4294967296) (x : Int) = ((r * 4294967296 + x : Nat) : Int) := by
  have e : (r : Int) * 4294967296 = ((r * 4294967296 : Nat) : Int) := by omega
  rw [e, bits_or_u64_nat _ _ (by omega) (by omega)]
  have := Nat.two_pow_add_eq_or_of_lt (i := 32) (b := x) (by omega) r
  rw [Nat.mul_comm r 4294967296]
  exact congrArg _ this.symm
set_option maxHeartbeats 800000 in
theorem divl_any (w : World) (base g n cap : Nat) (L : List Nat) (hb : Bd L) (hl : L.length = n) (hcap : n ≤ cap) (hcm : cap ≤ maxLen) (hown : w.ownsRow base 94 1 (.slice (some ⟨g, 0, none⟩) n cap) n (u32s L)) (d : Nat) (hd : 0 < d) (hd2 : d < 4294967296) :
    Calls Tryz.prog 97 #[.slice (some ⟨g, 0, none⟩) n cap, .int .u32 d] w fun e w' => e = .returned (.int .u32 ((val L % d : Nat) : Int)) ∧ (∃ L', L'.length = n ∧ Bd L' ∧ val L' = val L / d ∧ w'.ownsRow base 94 1 (.slice (some ⟨g, 0, none⟩) n cap) n (u32s L')) ∧ w.grownBy w' (some g) := by
  have HF := hid hl
  clear hl
  unfold maxLen at hcm
  go_enter Tryz.func97, Tryz.ntmps97
  go_wp2
  go_loopw [5, 12] (fun c i wr => ∃ (k r : Nat) (S : List Nat), k ≤ n ∧ i = .int .i64 k ∧ c = .int .u64 r ∧ r < d ∧ DivRel L S n d k r ∧
        wr.ownsRow base 94 1 (.slice (some ⟨g, 0, none⟩) n cap) n (u32s S) ∧ w.grownBy wr (some g)) (fun _ i _ => n - (intOf i).toNat)
  case atStart => exact ⟨0, 0, L, Nat.zero_le _, rfl, rfl, hd, ⟨HF.out, hb, fun j _ => rfl, by simp only [Nat.sub_zero]; rw [pv_val L n (by have := HF.out; omega)]; omega⟩, hown, World.grownBy.refl _ _⟩
  case round =>
    obtain ⟨k, r, S, hk, rfl, rfl, hr, hR, hown', hgr⟩ := hrel
    have R := hid hR
    clear hR hown
    by_cases hlt : k < n
    · obtain ⟨m, hm⟩ : ∃ m : Nat, (n : Int) - 1 - k = m := ⟨n - 1 - k, by omega⟩
      have hm' : m < n := by omega
      have hst := u32s_at hown' m (by have := R.out.1; omega)
      rw [R.out.2.2.1 m (by omega)] at hst
      have hfr := hown'.frozenAt m
      have hx := hb m
      have N := hid (div_round L S n d k r m HF.out hlt (by omega) hd hr hx R.out)
      have OS := hid (or_sum r (lg L m) (by omega) hx)
      have O := hown'.stored m (.int .u32 (((r * 4294967296 + lg L m) / d : Nat) : Int))
      rw [← u32s_set] at O
      have HO := hid O
      have hT : r * 4294967296 + lg L m < 18446744073709551616 := by omega
      clear O hown'
      generalize lg L m = x at *
      go_wp2
      rw [OS.out]
      have HT := hid hT
      generalize r * 4294967296 + x = T at *
      have e1 : ((T : Nat) : Int).tmod (d : Int) = ((T % d : Nat) : Int) := by rw [Int.tmod_eq_emod_of_nonneg (by omega)]; omega
      have e2 : IntKind.u64.wrap (((T : Nat) : Int).tdiv (d : Int)) % 4294967296 = ((T / d : Nat) : Int) := by
        have h1 : ((T : Nat) : Int).tdiv (d : Int) = ((T / d : Nat) : Int) := by rw [Int.tdiv_eq_ediv_of_nonneg (by omega)]; omega
        have h2 := N.out.2
        rw [h1]
        generalize T / d = Q at h2 ⊢
        rw [w64 _ (by omega) (by omega)]; omega
      rw [e1, e2]
      go_roundw
      case rel => exact ⟨k + 1, T % d, S.set m (T / d), by omega, by go_num, rfl, Nat.mod_lt _ hd, N.out.1, HO.out.1, grown_trans hgr HO.out.2⟩
      case measure => simp [intOf]; omega
    · have hk' : k = n := by omega
      have N := hid (div_done L S n d r HF.out hd hr (by have := R.out; rw [hk'] at this; exact this))
      clear hk'
      have hr' : r < 4294967296 := by omega
      go_wp2
      go_ret
      exact ⟨by rw [← N.out.2]; rfl, ⟨S, R.out.1, R.out.2.1, N.out.1, hown'⟩, hgr⟩
end Go.Proofs.YtjldlmonccgopaaGreatDoor
/- addTimes: factor times some limbs added to a row from a place on. -/
namespace Go.Proofs.YtjldlmonccgopaaGreatDoor
open Go.RowKit
set_option linter.unusedVariables false
set_option maxRecDepth 100000
set_option linter.unusedSimpArgs false

/-- A round of 'addTimes': S is the row as it stands, P as it was. -/
def TimesRel (P S B : List Nat) (n off f k d : Nat) : Prop := S.length = n ∧ Bd S ∧ (∀ j, off + k ≤ j → lg S j = lg P j) ∧ pv S (off + k) + d * 4294967296 ^ (off + k) = pv P (off + k) + f * pv B k * 4294967296 ^ off
theorem times_next (P S B : List Nat) (n off f k d : Nat) (hk : off + k < n) (h : TimesRel P S B n off f k d) :
    TimesRel P (S.set (off + k) ((f * lg B k + lg P (off + k) + d) % 4294967296)) B n off f (k + 1) ((f * lg B k + lg P (off + k) + d) / 4294967296) := by
  obtain ⟨h1, h2, h3, h4⟩ := h
  refine ⟨by simpa using h1, Bd_set h2 _ _ (by omega), fun j hj => ?_, ?_⟩
  · rw [lg_set_other S _ _ j (by omega)]; exact h3 j (by omega)
  · rw [← Nat.add_assoc]
    simp only [pv]
    rw [pv_set_past S (off + k) _ (off + k) (Nat.le_refl _), lg_set_same S _ _ (by omega), Nat.pow_succ, Nat.pow_add]
    rw [Nat.pow_add] at h4
    generalize 4294967296 ^ off = p at *
    generalize 4294967296 ^ k = q at *
    have hd := Nat.div_add_mod (f * lg B k + lg P (off + k) + d) 4294967296
    generalize (f * lg B k + lg P (off + k) + d) % 4294967296 = r at *
    generalize (f * lg B k + lg P (off + k) + d) / 4294967296 = t at *
    have e1 : (4294967296 * t + r) * (p * q) = (f * lg B k + lg P (off + k) + d) * (p * q) := by rw [hd]
    rw [Nat.add_mul, Nat.add_mul, Nat.add_mul] at e1
    have e2 : t * (p * q * 4294967296) = 4294967296 * t * (p * q) := by rw [Nat.mul_comm (p * q), ← Nat.mul_assoc, Nat.mul_comm t]
    have e3 : f * (pv B k + lg B k * q) * p = f * pv B k * p + f * lg B k * (p * q) := by
      rw [Nat.mul_add, Nat.add_mul, ← Nat.mul_assoc, Nat.mul_comm p q, ← Nat.mul_assoc (f * lg B k)]
    rw [e2, e3]
    omega
theorem times_done (P S B : List Nat) (n off f k d : Nat) (hk : off + k < n) (hB : B.length = k) (hd : d < 4294967296) (hz : lg P (off + k) = 0) (h : TimesRel P S B n off f k d) :
    (S.set (off + k) d).length = n ∧ Bd (S.set (off + k) d) ∧ (∀ j, off + k < j → lg (S.set (off + k) d) j = lg P j) ∧ pv (S.set (off + k) d) (off + k + 1) = pv P (off + k) + f * val B * 4294967296 ^ off := by
  obtain ⟨h1, h2, h3, h4⟩ := h
  refine ⟨by simpa using h1, Bd_set h2 _ _ hd, fun j hj => ?_, ?_⟩
  · rw [lg_set_other S _ _ j (by omega)]; exact h3 j (by omega)
  · simp only [pv]
    rw [pv_set_past S (off + k) _ (off + k) (Nat.le_refl _), lg_set_same S _ _ (by omega), h4]
    rw [pv_val B k (by omega)]
theorem times_small {f b p c : Nat} (hf : f < 4294967296) (hb : b < 4294967296) (hp : p < 4294967296) (hc : c < 4294967296) : f * b ≤ 18446744065119617025 ∧ f * b + p + c < 18446744073709551616 ∧ (f * b + p + c) / 4294967296 < 4294967296 := by
  have h1 : f * b ≤ 4294967295 * 4294967295 := Nat.mul_le_mul (by omega) (by omega)
  omega
theorem w64_3 {f b p c : Nat} (hf : f < 4294967296) (hb : b < 4294967296) (hp : p < 4294967296) (hc : c < 4294967296) :
    IntKind.u64.wrap (IntKind.u64.wrap (IntKind.u64.wrap ((f : Int) * (b : Int)) + (p : Int)) + (c : Int)) = ((f * b + p + c : Nat) : Int) := by
  obtain ⟨h1, h2, h3⟩ := times_small hf hb hp hc
  have e0 : (f : Int) * (b : Int) = ((f * b : Nat) : Int) := by simp
  rw [e0]
  generalize f * b = x at *
  have e1 : IntKind.u64.wrap ((x : Nat) : Int) = (x : Int) := w64 _ (by omega) (by omega)
  have e2 : IntKind.u64.wrap ((x : Int) + (p : Int)) = (x : Int) + (p : Int) := w64 _ (by omega) (by omega)
  rw [e1, e2, w64 _ (by omega) (by omega)]; omega
theorem own_drewN {w : World} {base : Nat} {e : TypeId} {size : Nat} {v : Value} {n : Nat} {xs : List Value} (h : w.ownsRow base e size v n xs) (q : Nat) : (w.drewN q).ownsRow base e size v n xs := h
theorem grown_drewN {a w : World} {row : Option Nat} (h : a.grownBy w row) (q : Nat) : a.grownBy (w.drewN q) row := ⟨h.os, h.tape, h.output, h.size, h.block⟩
set_option maxHeartbeats 1000000 in
theorem times_some (w : World) (base g n cap off m c f gb k cb : Nat) (P B : List Nat) (hP : Bd P) (hB : Bd B) (hPn : P.length = n) (hBk : B.length = k) (hf : f < 4294967296) (hm : off + m = n) (hc : m ≤ c) (hcm : c ≤ 1000000000000)
    (hk : off + k < n) (hkc : k ≤ cb) (hcb : cb ≤ maxLen) (hz : lg P (off + k) = 0) (hne : gb ≠ g)
    (hown : w.ownsRow base 94 1 (.slice (some ⟨g, 0, none⟩) n cap) n (u32s P)) (hob : w.ownsRow 0 94 1 (.slice (some ⟨gb, 0, none⟩) k cb) k (u32s B)) :
    Calls Tryz.prog 118 #[.slice (some ⟨g, off, none⟩) m c, .slice (some ⟨gb, 0, none⟩) k cb, .int .u32 f] w fun e w' => e = .returned (.tuple #[]) ∧ (∃ P', P'.length = n ∧ Bd P' ∧ (∀ j, off + k < j → lg P' j = lg P j) ∧ pv P' (off + k + 1) = pv P (off + k) + f * val B * 4294967296 ^ off ∧ w'.ownsRow base 94 1 (.slice (some ⟨g, 0, none⟩) n cap) n (u32s P')) ∧ w.grownBy w' (some g) := by
  have HP := hid (And.intro hPn (And.intro hBk hz))
  clear hPn hBk hz
  unfold maxLen at hcb
  have hm1 : k < m := by omega
  have HM := hid hm
  clear hm
  go_enter Tryz.func118, Tryz.ntmps118
  go_wp2
  go_loopw [6, 11] (fun cc i wr => ∃ (j d : Nat) (S : List Nat), j ≤ k ∧ i = .int .i64 j ∧ cc = .int .u64 d ∧ d < 4294967296 ∧ TimesRel P S B n off f j d ∧ wr.ownsRow base 94 1 (.slice (some ⟨g, 0, none⟩) n cap) n (u32s S) ∧ w.grownBy wr (some g)) (fun _ i _ => k - (intOf i).toNat)
  case atStart => exact ⟨0, 0, P, Nat.zero_le _, rfl, rfl, by omega, ⟨HP.out.1, hP, fun j _ => rfl, by simp [pv]⟩, hown, World.grownBy.refl _ _⟩
  case round =>
    obtain ⟨j, d, S, hj, rfl, rfl, hd, hR, hown', hgr⟩ := hrel
    have hob' : wr.ownsRow 0 94 1 (.slice (some ⟨gb, 0, none⟩) k cb) k (u32s B) := hob.kept hgr (Or.inr (by simp [Value.ownBlock]; exact hne))
    have HR := hid hR
    clear hR hown
    by_cases hlt : j < k
    · have c1 := u32s_at hob' j (by have := HP.out.2.1; omega)
      have c2 := u32s_at hown' (off + j) (by have := HR.out.1; omega)
      rw [HR.out.2.2.1 (off + j) (Nat.le_refl _)] at c2
      have fr := hown'.frozenAt (off + j)
      have HN := hid (times_next P S B n off f j d (by omega) HR.out)
      have b1 := hB j
      have b2 := hP (off + j)
      have O : ∀ q, ((wr.drewN q).setCell ⟨g, off + j, none⟩ (.int .u32 (((f * lg B j + lg P (off + j) + d) % 4294967296 : Nat) : Int))).ownsRow base 94 1 (.slice (some ⟨g, 0, none⟩) n cap) n (u32s (S.set (off + j) ((f * lg B j + lg P (off + j) + d) % 4294967296))) ∧ w.grownBy ((wr.drewN q).setCell ⟨g, off + j, none⟩ (.int .u32 (((f * lg B j + lg P (off + j) + d) % 4294967296 : Nat) : Int))) (some g) := by
        intro q
        have O1 := (own_drewN hown' q).stored (off + j) (.int .u32 (((f * lg B j + lg P (off + j) + d) % 4294967296 : Nat) : Int))
        rw [← u32s_set] at O1
        exact ⟨O1.1, grown_trans (grown_drewN hgr q) O1.2⟩
      have HO := hid O
      have HW := hid (w64_3 hf b1 b2 hd)
      have HS := hid (times_small hf b1 b2 hd).2.2
      have HT := hid (times_small hf b1 b2 hd).2.1
      clear O hown' hob' hP hB
      generalize lg B j = b at *
      generalize lg P (off + j) = p at *
      go_wp2
      go_quiet (fail)
      rw [HW.out]
      have hT : f * b + p + d < 18446744073709551616 := HT.out
      generalize f * b + p + d = T at *
      rw [show ((T % 4294967296 : Nat) : Int) = (T : Int) % 4294967296 by omega] at HO
      go_wp2
      go_roundw
      case rel => exact ⟨j + 1, T / 4294967296, S.set (off + j) (T % 4294967296), by omega, by go_num, by go_num, HS.out, HN.out, (HO.out _).1, (HO.out _).2⟩
      case measure => simp [intOf]; omega
    · have hjk : j = k := by omega
      have fr := hown'.frozenAt (off + k)
      have c2 := u32s_at hown' (off + k) (by have := HR.out.1; omega)
      have O := hown'.stored (off + k) (.int .u32 (d : Int))
      rw [← u32s_set] at O
      have HO := hid O
      have HD := hid (times_done P S B n off f k d hk HP.out.2.1 hd HP.out.2.2 (by have := HR.out; rw [hjk] at this; exact this))
      clear O hown' hob' hjk
      go_wp2
      go_end0
      exact ⟨rfl, ⟨S.set (off + k) d, HD.out.1, HD.out.2.1, HD.out.2.2.1, HD.out.2.2.2, HO.out.1⟩, grown_trans hgr HO.out.2⟩
set_option maxHeartbeats 400000 in
theorem times_none (w : World) (base g n cap off m c f cb : Nat) (ab : Option Addr) (P : List Nat) (hP : Bd P) (hPn : P.length = n) (hm : off + m = n) (hc : m ≤ c) (hk : off < n) (hz : lg P off = 0)
    (hown : w.ownsRow base 94 1 (.slice (some ⟨g, 0, none⟩) n cap) n (u32s P)) :
    Calls Tryz.prog 118 #[.slice (some ⟨g, off, none⟩) m c, .slice ab 0 cb, .int .u32 f] w fun e w' => e = .returned (.tuple #[]) ∧ (∃ P', P'.length = n ∧ Bd P' ∧ (∀ j, off < j → lg P' j = lg P j) ∧ pv P' (off + 1) = pv P off ∧ w'.ownsRow base 94 1 (.slice (some ⟨g, 0, none⟩) n cap) n (u32s P')) ∧ w.grownBy w' (some g) := by
  have HP := hid (And.intro hPn hz)
  have hm1 : 0 < m := by omega
  have c2 := u32s_at hown off (by omega)
  have fr := hown.frozenAt off
  have O := hown.stored off (.int .u32 ((0 : Nat) : Int))
  rw [← u32s_set] at O
  have HO := hid O
  clear hPn hz hm O hown
  go_enter Tryz.func118, Tryz.ntmps118
  go_wp2
  refine wp_loop_rounds 1 ?_
  rw [rounds_succ]
  go_wp2
  go_end0
  refine ⟨rfl, ⟨P.set off 0, by simpa using HP.out.1, Bd_set hP _ _ (by omega), fun j hj => lg_set_other P off 0 j (by omega), ?_, HO.out.1⟩, HO.out.2⟩
  simp only [pv]
  rw [pv_set_past P off 0 off (Nat.le_refl _), lg_set_same P off 0 (by have := HP.out.1; omega)]
  simp
theorem times_any (w : World) (base g n cap off m c f : Nat) (v : Value) (P B : List Nat) (hP : Bd P) (hB : Bd B) (hPn : P.length = n) (hf : f < 4294967296) (hm : off + m = n) (hc : m ≤ c) (hcm : c ≤ 1000000000000)
    (hk : off + B.length < n) (hz : lg P (off + B.length) = 0) (hne : v.ownBlock ≠ some g)
    (hown : w.ownsRow base 94 1 (.slice (some ⟨g, 0, none⟩) n cap) n (u32s P)) (hob : Limbs w v B) :
    Calls Tryz.prog 118 #[.slice (some ⟨g, off, none⟩) m c, v, .int .u32 f] w fun e w' => e = .returned (.tuple #[]) ∧ (∃ P', P'.length = n ∧ Bd P' ∧ (∀ j, off + B.length < j → lg P' j = lg P j) ∧ pv P' (off + B.length + 1) = pv P (off + B.length) + f * val B * 4294967296 ^ off ∧ w'.ownsRow base 94 1 (.slice (some ⟨g, 0, none⟩) n cap) n (u32s P')) ∧ w.grownBy w' (some g) := by
  rcases hob.form with ⟨rfl, rfl⟩ | ⟨gb, cb, rfl, h1, h2, _⟩
  · refine (times_none w base g n cap off m c f 0 none P hP hPn hm hc (by simpa using hk) (by simpa using hz) hown).mono ?_
    rintro e w' ⟨rfl, ⟨P', r1, r2, r3, r4, r5⟩, hg⟩
    exact ⟨rfl, ⟨P', r1, r2, by simpa using r3, by simpa [val, pv] using r4, r5⟩, hg⟩
  · exact times_some w base g n cap off m c f gb B.length cb P B hP hB hPn rfl hf hm hc hcm hk h1 h2 hz (by simpa [Value.ownBlock] using hne) hown hob
end Go.Proofs.YtjldlmonccgopaaGreatDoor
