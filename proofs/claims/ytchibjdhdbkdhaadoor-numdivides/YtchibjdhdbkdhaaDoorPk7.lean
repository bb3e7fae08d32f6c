/- RParse, SParse, DivLimb, Times, Take. -/
import Derived.Test.YtchibjdhdbkdhaaDoorPk6
import Derived.BigQuiet
/- The document's Parse. -/
namespace Go.Proofs.YtchibjdhdbkdhaaDoor
open Go.RowKit
set_option linter.unusedVariables false
set_option maxRecDepth 100000
set_option linter.unusedSimpArgs false

set_option maxHeartbeats 800000 in
theorem rparse_empty (s : ByteArray) (w : World) (h : s.size = 0) :
    Calls Tryd.prog 47 #[.string s] w fun e w' => e = .returned (.tuple #[.agg #[.slice none 0 0], .int .i64 10]) ∧ Below w.heap.size w w' := by
  have h' : ((s.size : Int) == 0) = true := by simp [h]
  clear h
  go_enter Tryd.func47, Tryd.ntmps47
  go_wp2
  refine bodyPost_ret (v := .tuple #[.agg #[.slice none 0 0], .int .i64 10]) (by simp [results, Tryd.results47, go_sem]) rfl ⟨rfl, ?_⟩
  exact (Below.refl _ _).alloc (Nat.le_refl _) _
set_option maxHeartbeats 800000 in
theorem rparse_nought (s : ByteArray) (w : World) (h : 1 < s.size) (h0 : bt s 0 = 48) :
    Calls Tryd.prog 47 #[.string s] w fun e w' => e = .returned (.tuple #[.agg #[.slice none 0 0], .int .i64 10]) ∧ Below w.heap.size w w' := by
  have hp : 0 < s.size := by omega
  have e0 : (s[0]'hp).toNat = 48 := by rw [bt_at s 0 (by omega)]; exact h0
  have h' : ((s.size : Int) == 0) = false := beq_eq_false_iff_ne.2 (by omega)
  clear h0
  go_enter Tryd.func47, Tryd.ntmps47
  go_wp2
  refine bodyPost_ret (v := .tuple #[.agg #[.slice none 0 0], .int .i64 10]) (by simp [results, Tryd.results47, go_sem]) rfl ⟨rfl, ?_⟩
  exact (Below.refl _ _).alloc (Nat.le_refl _) _
theorem Tryd.info3 : (Tryd.prog.info? 3).map (fun i => (i.zero, i.size, i.bytes)) = some (some (.int .i64 0), 1, 8) := by kernel_rfl
/-- What k digits from place a on are worth. -/
def sv (s : ByteArray) (a : Nat) : Nat → Nat
  | 0 => 0
  | k + 1 => sv s a k * 10 + (bt s (a + k) - 48)
theorem sv_lt {s : ByteArray} (a n : Nat) (h : ∀ k, k < n → 48 ≤ bt s (a + k) ∧ bt s (a + k) ≤ 57) : sv s a n < 10 ^ n := by
  induction n with
  | zero => simp [sv]
  | succ n ih =>
    have h1 := ih (fun k hk => h k (by omega))
    have h2 := h n (by omega)
    simp only [sv, Nat.pow_succ]; omega
theorem dv_sv (s : ByteArray) (a k : Nat) : dv s (a + k) = dv s a * 10 ^ k + sv s a k := by
  induction k with
  | zero => simp [sv]
  | succ k ih => rw [← Nat.add_assoc, dv, ih, sv, Nat.pow_succ, Nat.add_mul, Nat.mul_assoc]; omega
/-- What holds at the head of a round: t digits of nine signs each are taken off the end. -/
def RRel (s : ByteArray) (t : Nat) (D : List Nat) : Prop := D.length = t ∧ R.Bd D ∧ dv s s.size = dv s (s.size - 9 * t) * 10 ^ (9 * t) + R.pv D t
theorem lg_append_old (D : List Nat) (x j : Nat) (h : j < D.length) : lg (D ++ [x]) j = lg D j := by simp [lg, List.getD, List.getElem?_append_left h]
theorem lg_append_new (D : List Nat) (x : Nat) : lg (D ++ [x]) D.length = x := by simp [lg, List.getD]
theorem RRel.step {s : ByteArray} {t : Nat} {D : List Nat} (h : RRel s t D) (ht : 9 * t < s.size) (hd : ∀ k, k < s.size → 48 ≤ bt s k ∧ bt s k ≤ 57) (a k : Nat) (hk : k ≤ 9) (ha : a + k = s.size - 9 * t) (hz : k < 9 → a = 0) : RRel s (t + 1) (D ++ [sv s a k]) := by
  obtain ⟨h1, h2, h3⟩ := h
  have hx := sv_lt (s := s) a k (fun j hj => hd (a + j) (by omega))
  have hx9 : sv s a k < 1000000000 := by
    have : 10 ^ k ≤ 10 ^ 9 := Nat.pow_le_pow_right (by omega) hk
    have h9 : (10 : Nat) ^ 9 = 1000000000 := by decide
    omega
  refine ⟨by simp [h1], fun j => ?_, ?_⟩
  · rcases Nat.lt_trichotomy j D.length with e | e | e
    · rw [lg_append_old D _ j e]; exact h2 j
    · subst e; rw [lg_append_new]; exact hx9
    · rw [lg_past _ j (by simp; omega)]; omega
  · have e1 : R.pv (D ++ [sv s a k]) (t + 1) = R.pv D t + sv s a k * 1000000000 ^ t := by
      simp only [R.pv]
      rw [R.pv_congr (M := D) (fun j hj => lg_append_old D _ j (by omega)), ← h1, lg_append_new]
    rw [e1, h3, ← ha, dv_sv s a k]
    have e2 : 10 ^ (9 * t) = 1000000000 ^ t := Nat.pow_mul 10 9 t
    have e3 : s.size - 9 * (t + 1) = if k < 9 then 0 else a := by split <;> omega
    rw [e3, Nat.add_mul]
    by_cases hk9 : k < 9
    · rw [if_pos hk9, hz hk9]; simp [dv, e2]; omega
    · rw [if_neg hk9]
      have hk' : k = 9 := by omega
      subst hk'
      rw [show 9 * (t + 1) = 9 + 9 * t by omega, Nat.pow_add, ← Nat.mul_assoc, e2]; omega
theorem sv_small (s : ByteArray) (a n : Nat) (hn : n ≤ 8) (h : ∀ k, k < n → 48 ≤ bt s (a + k) ∧ bt s (a + k) ≤ 57) : sv s a n < 100000000 := by
  have h1 := sv_lt (s := s) a n h
  have h2 := pow10_le hn
  omega
theorem sv_next (s : ByteArray) (a j : Nat) (h : a ≤ j) : sv s a (j + 1 - a) = sv s a (j - a) * 10 + (bt s j - 48) := by
  rw [show j + 1 - a = (j - a) + 1 by omega, sv, show a + (j - a) = j by omega]
set_option maxHeartbeats 1600000 in
theorem rparse_loop (s : ByteArray) (w : World) (hs : s.size ≤ 1000000000) (h : s.size ≠ 0) (h0 : 1 < s.size → bt s 0 ≠ 48) :
    Calls Tryd.prog 47 #[.string s] w fun e w' => ((Txt s ∧ ∃ v, e = .returned (.tuple #[v, .int .i64 0]) ∧ RefIs w' v (num s) (s.size / 9 + 1)) ∨ (¬ Txt s ∧ e = .returned (.tuple #[.agg #[.slice none 0 0], .int .i64 10]))) ∧ Below w.heap.size w w' := by
  obtain ⟨i0, hi, hz0, hz1, hz2⟩ := info_parts Tryd.info3
  have hp : 0 < s.size := by omega
  have e0 := bt_at s 0 hp
  have h' : ((s.size : Int) == 0) = false := beq_eq_false_iff_ne.2 (by omega)
  have H0 := hid (And.intro h h0)
  have hg : s.size ≤ 1 ∨ 1 < s.size ∧ ((bt s 0 : Int) == 48) = false := by
    by_cases h1 : 1 < s.size
    · right; refine ⟨h1, ?_⟩; have := h0 h1; exact beq_eq_false_iff_ne.2 (by omega)
    · left; omega
  clear h0 h
  have hWz : (w.alloc (Obj.cells #[Value.slice none 0 0] 29)).cell? ⟨w.heap.size, 0, none⟩ = some (.slice none 0 0) := by simp [go_sem]
  have hWf : (w.alloc (Obj.cells #[Value.slice none 0 0] 29)).frozen? ⟨w.heap.size, 0, none⟩ = false := by simp [go_sem]
  have hWb : Below w.heap.size w (w.alloc (Obj.cells #[Value.slice none 0 0] 29)) := (Below.refl _ _).alloc (Nat.le_refl _) _
  have hWs : (w.alloc (Obj.cells #[Value.slice none 0 0] 29)).heap.size = w.heap.size + 1 := by simp
  rcases hg with h1 | ⟨h1, h2⟩
  all_goals
    go_enter Tryd.func47, Tryd.ntmps47
    go_wp2
    go_loop [4] (fun i => ∃ k : Nat, k ≤ s.size ∧ i = .int .i64 k ∧ ∀ j, j < k → 48 ≤ bt s j ∧ bt s j ≤ 57) (fun i => s.size - (intOf i).toNat)
    case atStart => exact ⟨0, Nat.zero_le _, rfl, fun j hj => by omega⟩
    case round =>
      obtain ⟨k, hk, rfl, hd⟩ := hrel
      have HD := hid hd
      clear hd
      by_cases hlt : k < s.size
      · have ek := bt_at s k hlt
        rcases (show bt s k < 48 ∨ 57 < bt s k ∨ 48 ≤ bt s k ∧ bt s k ≤ 57 by omega) with hc | hc | ⟨hc, hc'⟩
        · go_wp2
          refine bodyPost_ret (v := .tuple #[.agg #[.slice none 0 0], .int .i64 10]) (by simp [results, Tryd.results47, go_sem]) rfl ⟨Or.inr ⟨fun h => by have := (h.2.2 k hlt).1; omega, rfl⟩, ?_⟩
          exact (Below.refl _ _).alloc (Nat.le_refl _) _
        · have hc' : ¬ bt s k < 48 := by omega
          go_wp2
          refine bodyPost_ret (v := .tuple #[.agg #[.slice none 0 0], .int .i64 10]) (by simp [results, Tryd.results47, go_sem]) rfl ⟨Or.inr ⟨fun h => by have := (h.2.2 k hlt).2; omega, rfl⟩, ?_⟩
          exact (Below.refl _ _).alloc (Nat.le_refl _) _
        · go_wp2
          go_round
          case rel => exact ⟨k + 1, by omega, by go_num, fun j hj => by
            by_cases e : j = k
            · subst e; exact ⟨hc, hc'⟩
            · exact HD.out j (by omega)⟩
          case measure => simp [intOf]; omega
      · have HD2 := hid (show ∀ j, j < s.size → 48 ≤ bt s j ∧ bt s j ≤ 57 from fun j hj => HD.out j (by omega))
        clear HD
        go_wp2
        clear hlt hk h'
        try clear h2
        clear h1
        have hown0 : ((w.alloc (Obj.cells #[Value.slice none 0 0] 29)).alloc (Obj.cells #[] 3)).ownsRow (w.heap.size + 1) 3 1 (.slice (some ⟨w.heap.size + 1, 0, none⟩) 0 0) 0 (i64s []) := by
          have := World.ownsRow_made (base := w.heap.size + 1) (e := 3) (size := 1) (w.alloc (Obj.cells #[Value.slice none 0 0] 29)) #[] 0 (by simp) (by unfold maxLen; omega) (by simp)
          simpa [i64s] using this
        have hbel0 : Below (w.heap.size + 1) (w.alloc (Obj.cells #[Value.slice none 0 0] 29)) ((w.alloc (Obj.cells #[Value.slice none 0 0] 29)).alloc (Obj.cells #[] 3)) := (Below.refl _ _).alloc (by simp) _
        have hWt : w.heap.size + 1 ≤ (w.alloc (Obj.cells #[Value.slice none 0 0] 29)).heap.size := by simp
        clear hWs
        generalize (w.alloc (Obj.cells #[Value.slice none 0 0] 29)).alloc (Obj.cells #[] 3) = W1 at *
        generalize w.alloc (Obj.cells #[Value.slice none 0 0] 29) = W at *
        go_loopw [5, 6] (fun v e wr => ∃ (t : Nat) (D : List Nat), e = .int .i64 ((s.size : Int) - 9 * (t : Int)) ∧ 9 * t < s.size + 9 ∧ RRel s t D ∧ wr.ownsRow (w.heap.size + 1) 3 1 v t (i64s D) ∧ v ≠ .slice none 0 0 ∧ Below (w.heap.size + 1) W wr) (fun _ e _ => (intOf e + 9).toNat)
        case atStart => exact ⟨0, [], by simp, by omega, ⟨rfl, by intro j; simp [lg], by simp [R.pv]⟩, hown0, by simp, hbel0⟩
        case round =>
          obtain ⟨t, D, rfl, ht, hR, hown', hnn, hbel⟩ := hrel
          have HR := hid hR
          have HN := hid hnn
          clear hR hnn hown0 hbel0
          by_cases hlt : 9 * t < s.size
          · obtain ⟨a, k, hk9, hak, hz⟩ : ∃ a k, k ≤ 9 ∧ a + k = s.size - 9 * t ∧ (k < 9 → a = 0) := by
              by_cases e : s.size - 9 * t ≤ 9
              · exact ⟨0, s.size - 9 * t, e, by omega, fun _ => rfl⟩
              · exact ⟨s.size - 9 * t - 9, 9, by omega, by omega, fun h => by omega⟩
            have hR2 := HR.out.step hlt HD2.out a k hk9 hak hz
            have HR2 := hid hR2
            have HA := hid (And.intro hak hz)
            clear hR2
            rcases (show s.size < 9 * t + 9 ∨ s.size ≤ 9 * t + 9 ∧ 9 * t + 9 ≤ s.size ∨ 9 * t + 9 < s.size by omega) with hc | ⟨hc, hc'⟩ | hc
            all_goals try (exfalso; omega)
            all_goals
              go_wp2
              go_loop [7, 8] (fun n i => ∃ j : Nat, a ≤ j ∧ j ≤ a + k ∧ i = .int .i64 j ∧ n = .int .i64 (sv s a (j - a))) (fun _ i => a + k - (intOf i).toNat)
              case atStart => exact ⟨a, Nat.le_refl _, by omega, by have := HA.out; go_num, by simp [sv]⟩
              case round =>
                obtain ⟨j, hj1, hj2, rfl, rfl⟩ := hrel
                by_cases hj : j < a + k
                · have hjs : j < s.size := by have := HA.out.1; omega
                  have ej := bt_at s j hjs
                  have hd1 := (HD2.out j hjs).1
                  have hd2 := (HD2.out j hjs).2
                  have hsv := sv_small s a (j - a) (by omega) (fun i hi => HD2.out (a + i) (by have := HA.out.1; omega))
                  have hsn := hid (sv_next s a j hj1)
                  have hje : (j : Int) < (s.size : Int) - 9 * (t : Int) := by have := HA.out.1; omega
                  generalize sv s a (j - a) = x at *
                  go_wp2
                  go_round
                  case rel => exact ⟨j + 1, by omega, by omega, by go_num, by rw [hsn.out]; go_num⟩
                  case measure => simp [intOf]; omega
                · have hje : ¬ (j : Int) < (s.size : Int) - 9 * (t : Int) := by have := HA.out.1; omega
                  have hjk : j - a = k := by omega
                  rw [hjk]
                  clear hjk
                  have HX := hid (show sv s a k = sv s a k from rfl)
                  generalize sv s a k = x at *
                  go_wp2_with (at_builtin; refine wpList_append_own _ rfl _ _ 27 rfl (w.heap.size + 1) 3 i0 (.int .i64 0) 1 8 Tryd.underlying27 hi hz0 hz1 hz2 rfl (by decide) _ _ _ rfl (hown'.alloc _) ⟨wr.heap.size, 0, none⟩ 1 1 [.int .i64 (x : Int)] rfl rfl (by intro j u hu; match j, hu with | 0, hu => simp at hu; subst hu; simp [Addr.add]) (by intro u hu; simp at hu; subst hu; rfl) (by unfold maxLen; omega) (by omega) (by have := hbel.size; simp; omega) ?_)
                  intro v' w1 hown2 hgrow hnil
                  have hb2 : Below (w.heap.size + 1) W w1 := (below_alloc' hbel hWt _).grown hgrow (by have := hbel.size; simp; omega) (fun q hq => (hown'.lt q hq).1)
                  have hown3 : w1.ownsRow (w.heap.size + 1) 3 1 v' (t + 1) (i64s (D ++ [x])) := by simpa [i64s] using hown2
                  have hnn2 : v' ≠ .slice none 0 0 := hnil
                  have HN2 := hid hnn2
                  clear hown2 hgrow hnil hnn2 hown' hbel
                  go_wp2
                  go_roundw
                  case rel => exact ⟨t + 1, D ++ [x], by go_num, by omega, HR2.out, hown3, HN2.out, hb2⟩
                  case measure => simp [intOf]; omega
          · obtain ⟨g, cp, hu⟩ : ∃ g cp, u5 = .slice (some ⟨g, 0, none⟩) D.length cp := by
              rcases hown'.2 with ⟨h, _⟩ | ⟨g, cp, cur, hv, _⟩
              · exact absurd h HN.out
              · exact ⟨g, cp, by rw [hv, HR.out.1]⟩
            have hbw : Below w.heap.size w wr := hWb.trans (hbel.mono (by omega))
            have hZ := (hbel.cell (p := ⟨w.heap.size, 0, none⟩) (by show w.heap.size < _; omega)).trans hWz
            have hF := (hbel.frozen (p := ⟨w.heap.size, 0, none⟩) (by show w.heap.size < _; omega)).trans hWf
            have hsz : w.heap.size < wr.heap.size := by have := hbel.size; omega
            have hown2 : wr.ownsRow (w.heap.size + 1) 3 1 (.slice (some ⟨g, 0, none⟩) D.length cp) D.length (i64s D) := by
              have := hown'; rw [hu, ← HR.out.1] at this; exact this
            have hval : R.val D = num s := by
              obtain ⟨r1, r2, r3⟩ := HR.out
              rw [show s.size - 9 * t = 0 by omega] at r3
              simp only [dv, Nat.zero_mul, Nat.zero_add] at r3
              unfold num; rw [r3, R.pv_val D t (by omega)]
            have HV := hid hval
            have HL := hid (show D.length ≤ s.size / 9 + 1 from by have := HR.out.1; omega)
            rw [hu]
            clear hval hown' hu
            go_wp2_with fail
            refine (rtrim_base wr (w.heap.size + 1) g cp D HR.out.2.1 hown2).mono ?_
            rintro e w2 ⟨⟨sl, M, rfl, hM, bM, tM, vM, lM⟩, hb2⟩
            obtain ⟨ao, cap, hsl⟩ := ints_slice hM
            rw [hsl]
            rw [hsl] at hM
            have hZ2 := (hb2.cell (p := ⟨w.heap.size, 0, none⟩) (by exact hsz)).trans hZ
            have hF2 := (hb2.frozen (p := ⟨w.heap.size, 0, none⟩) (by exact hsz)).trans hF
            have hM2 := ownsRow_setCell_below hM (a := ⟨w.heap.size, 0, none⟩) (by show w.heap.size < _; omega) (.slice ao M.length cap)
            have hB2 := (hbw.trans (hb2.mono (by omega))).setCell (p := ⟨w.heap.size, 0, none⟩) (Nat.le_refl _) (.slice ao M.length cap)
            have HM := hid (show R.val M = num s from by rw [vM]; exact HV.out)
            clear hM hsl vM hown2 hZ hF
            go_wp2
            exact bodyPost_ret (v := .tuple #[.agg #[.slice ao M.length cap], .int .i64 0]) (by simp [results, Tryd.results47, go_sem, hZ2]) rfl ⟨Or.inl ⟨⟨H0.out.1, H0.out.2, HD2.out⟩, _, rfl, _, M, rfl, ownsRow_base0 hM2, bM, tM, HM.out, Nat.le_trans lM HL.out⟩, hB2⟩
theorem rparse_yes (s : ByteArray) (w : World) (hs : s.size ≤ 1000000000) (h : Txt s) :
    Calls Tryd.prog 47 #[.string s] w fun e w' => (∃ v, e = .returned (.tuple #[v, .int .i64 0]) ∧ RefIs w' v (num s) (s.size / 9 + 1)) ∧ Below w.heap.size w w' := by
  refine (rparse_loop s w hs h.1 h.2.1).mono ?_
  rintro e w' ⟨h' | h', hw⟩
  · exact ⟨h'.2, hw⟩
  · exact absurd h h'.1
theorem rparse_no (s : ByteArray) (w : World) (hs : s.size ≤ 1000000000) (h : ¬ Txt s) :
    Calls Tryd.prog 47 #[.string s] w fun e w' => e = .returned (.tuple #[.agg #[.slice none 0 0], .int .i64 10]) ∧ Below w.heap.size w w' := by
  by_cases h0 : s.size = 0
  · exact rparse_empty s w h0
  · by_cases h1 : 1 < s.size ∧ bt s 0 = 48
    · exact rparse_nought s w h1.1 h1.2
    · refine (rparse_loop s w hs h0 (fun a b => h1 ⟨a, b⟩)).mono ?_
      rintro e w' ⟨h' | h', hw⟩
      · exact absurd h'.1 h
      · exact ⟨h'.2, hw⟩
end Go.Proofs.YtchibjdhdbkdhaaDoor
/- The document's whole numbers: Make, Parse. -/
namespace Go.Proofs.YtchibjdhdbkdhaaDoor
open Go.RowKit
set_option linter.unusedVariables false
set_option maxRecDepth 100000
set_option linter.unusedSimpArgs false

theorem ref_len {w : World} {ao : Option Addr} {l c m K : Nat} (h : RefIs w (.agg #[.slice ao l c]) m K) : (0 < l ↔ 0 < m) ∧ l ≤ K := by
  obtain ⟨sl, L, h1, h2, h3, h4, h5, h6⟩ := h
  simp only [Value.agg.injEq, Array.mk.injEq, List.cons.injEq, and_true] at h1
  obtain ⟨ao', c', hs⟩ := ints_slice h2
  rw [← h1] at hs
  simp only [Value.slice.injEq] at hs
  obtain ⟨_, hl, _⟩ := hs
  refine ⟨?_, by omega⟩
  rw [hl, ← h5]
  constructor
  · intro hp
    have := R.val_lt_len (L := []) (M := L) (by intro j; simp [lg]) h4 (by simpa using hp)
    have e : R.val [] = 0 := rfl
    omega
  · intro hp
    rcases Nat.eq_zero_or_pos L.length with e | e
    · rw [List.eq_nil_of_length_eq_zero e] at hp
      have e : R.val [] = 0 := rfl
      omega
    · exact e
set_option maxHeartbeats 800000 in
/-- The document's Make. -/
theorem smake_any (w : World) (b : Bool) (a : Value) (m K : Nat) (ha : RefIs w a m K) :
    Calls Tryd.prog 29 #[.bool b, a] w fun e w' => ∃ v, e = .returned v ∧ RNumIs w' v (sgn b m) K ∧ Below w.heap.size w w' := by
  obtain ⟨ao, l, c, rfl⟩ := ha.form
  have hl := ref_len ha
  have HD := hid (show decide (sgn b m < 0) = (b && decide (0 < l)) by rw [sgn_neg]; congr 1; exact decide_eq_decide.2 hl.1.symm)
  have hB := fun v : Value => boxed2 (Below.refl w.heap.size w) (Obj.cells #[.slice ao l c] 29) (Obj.cells #[v, .slice ao l c] 31)
  clear hl
  cases b
  · go_enter Tryd.func29, Tryd.ntmps29
    go_wp2_with fail
    exact bodyPost_ret (v := .agg #[.bool false, .slice ao l c]) (by simp [results, Tryd.results29, go_sem]) rfl ⟨_, rfl, ⟨ao, l, c, by rw [HD.out]; rfl, by rw [sgn_abs]; exact ha.below (hB _)⟩, hB _⟩
  · go_enter Tryd.func29, Tryd.ntmps29
    go_wp2_with fail
    exact bodyPost_ret (v := .agg #[.bool (decide (0 < l)), .slice ao l c]) (by simp [results, Tryd.results29, go_sem]) rfl ⟨_, rfl, ⟨ao, l, c, by rw [HD.out]; rfl, by rw [sgn_abs]; exact ha.below (hB _)⟩, hB _⟩
set_option maxHeartbeats 800000 in
theorem sparse_minus_no (s : ByteArray) (w : World) (hs : s.size ≤ 1000000000) (h0 : 0 < s.size) (h : bt s 0 = 45) (ht : ¬ Txt (s.extract 1 s.size)) :
    Calls Tryd.prog 25 #[.string s] w fun e w' => e = .returned (.tuple #[.agg #[.bool false, .slice none 0 0], .int .i64 10]) ∧ Below w.heap.size w w' := by
  have hx := box_new w (Obj.cells #[.bool false, .slice none 0 0] 31)
  have hB : Below w.heap.size w (w.alloc (Obj.cells #[.bool false, .slice none 0 0] 31)) := (Below.refl _ _).alloc (Nat.le_refl _) _
  have hb : (s[0]'h0).toNat = 45 := by rw [bt_at]; exact h
  have h2 : s[0]'h0 = 45 := UInt8.toNat_inj.1 hb
  have hte : (s.extract 1 s.size).size ≤ 1000000000 := by simp; omega
  clear h
  go_enter Tryd.func25, Tryd.ntmps25
  go_wp2_with fail
  generalize w.alloc (Obj.cells #[.bool false, .slice none 0 0] 31) = W at *
  generalize s.extract 1 s.size = t at *
  refine (rparse_no t W hte ht).mono ?_
  rintro e w1 ⟨rfl, hb1⟩
  have hx3 := below_alloc' hb1 (Nat.le_refl _) (Obj.cells #[.slice none 0 0] 29)
  have hx1 := box_below hx3 hx (lt_of_block hx)
  have c1 := chain2 hB hx3
  have u2 := two_cell0 hx1
  have u3 := two_cell1 hx1
  have v2 := two_free (k := 0) hx1
  have v3 := two_free (k := 1) hx1
  obtain ⟨k0, k1, kB⟩ := end_two c1 (Nat.le_refl _) hx1 (.bool false) (.slice none 0 0)
  have HK := hid (And.intro k0 k1)
  clear k0 k1 hx hx1
  go_wp2
  exact bodyPost_ret (v := .tuple #[.agg #[.bool false, .slice none 0 0], .int .i64 10]) (by simp [results, Tryd.results25, go_sem, HK.out.1, HK.out.2]) rfl ⟨rfl, kB⟩
set_option maxHeartbeats 800000 in
theorem sparse_minus_nought (s : ByteArray) (w : World) (hs : s.size ≤ 1000000000) (h0 : 0 < s.size) (h : bt s 0 = 45) (ht : Txt (s.extract 1 s.size)) (hz : num (s.extract 1 s.size) = 0) :
    Calls Tryd.prog 25 #[.string s] w fun e w' => e = .returned (.tuple #[.agg #[.bool false, .slice none 0 0], .int .i64 10]) ∧ Below w.heap.size w w' := by
  have hx := box_new w (Obj.cells #[.bool false, .slice none 0 0] 31)
  have hB : Below w.heap.size w (w.alloc (Obj.cells #[.bool false, .slice none 0 0] 31)) := (Below.refl _ _).alloc (Nat.le_refl _) _
  have hb : (s[0]'h0).toNat = 45 := by rw [bt_at]; exact h
  have h2 : s[0]'h0 = 45 := UInt8.toNat_inj.1 hb
  have hte : (s.extract 1 s.size).size ≤ 1000000000 := by simp; omega
  clear h
  go_enter Tryd.func25, Tryd.ntmps25
  go_wp2_with fail
  generalize w.alloc (Obj.cells #[.bool false, .slice none 0 0] 31) = W at *
  generalize s.extract 1 s.size = t at *
  refine (rparse_yes t W hte ht).mono ?_
  rintro e w1 ⟨⟨v, rfl, nv⟩, hb1⟩
  obtain ⟨ar, lr, cr, rfl⟩ := nv.form
  have hl : lr = 0 := by have := (ref_len nv).1; omega
  subst hl
  have hx3 := below_alloc' hb1 (Nat.le_refl _) (Obj.cells #[.slice ar 0 cr] 29)
  have hx1 := box_below hx3 hx (lt_of_block hx)
  have c1 := chain2 hB hx3
  have u2 := two_cell0 hx1
  have u3 := two_cell1 hx1
  have v2 := two_free (k := 0) hx1
  have v3 := two_free (k := 1) hx1
  obtain ⟨k0, k1, kB⟩ := end_two c1 (Nat.le_refl _) hx1 (.bool false) (.slice none 0 0)
  have HK := hid (And.intro k0 k1)
  clear k0 k1 hx hx1
  go_wp2
  exact bodyPost_ret (v := .tuple #[.agg #[.bool false, .slice none 0 0], .int .i64 10]) (by simp [results, Tryd.results25, go_sem, HK.out.1, HK.out.2]) rfl ⟨rfl, kB⟩
set_option maxHeartbeats 800000 in
theorem sparse_minus (s t : ByteArray) (w : World) (hs : s.size ≤ 1000000000) (h0 : 0 < s.size) (h : bt s 0 = 45) (he : s.extract 1 s.size = t) (ht : Txt t) (hz : num t ≠ 0) :
    Calls Tryd.prog 25 #[.string s] w fun e w' => ∃ v, e = .returned (.tuple #[v, .int .i64 0]) ∧ RNumIs w' v (sgn true (num t)) (t.size / 9 + 1) ∧ Below w.heap.size w w' := by
  have hx := box_new w (Obj.cells #[.bool false, .slice none 0 0] 31)
  have hB : Below w.heap.size w (w.alloc (Obj.cells #[.bool false, .slice none 0 0] 31)) := (Below.refl _ _).alloc (Nat.le_refl _) _
  have hb : (s[0]'h0).toNat = 45 := by rw [bt_at]; exact h
  have h2 : s[0]'h0 = 45 := UInt8.toNat_inj.1 hb
  have hte : t.size ≤ 1000000000 := by rw [← he]; simp; omega
  have HE := hid he
  clear h he
  go_enter Tryd.func25, Tryd.ntmps25
  go_wp2_with fail
  generalize w.alloc (Obj.cells #[.bool false, .slice none 0 0] 31) = W at *
  rw [HE.out]
  refine (rparse_yes t W hte ht).mono ?_
  rintro e w1 ⟨⟨v, rfl, nv⟩, hb1⟩
  obtain ⟨ar, lr, cr, rfl⟩ := nv.form
  have hx3 := below_alloc' hb1 (Nat.le_refl _) (Obj.cells #[.slice ar lr cr] 29)
  have hx1 := box_below hx3 hx (lt_of_block hx)
  have c1 := chain2 hB hx3
  have n1 := nv.below ((Below.refl _ _).alloc (Nat.le_refl _) (Obj.cells #[.slice ar lr cr] 29))
  have hn := box_new w1 (Obj.cells #[.slice ar lr cr] 29)
  have hl0 : ((lr : Int) == 0) = false := by have := (ref_len nv).1; simp; omega
  clear hx hx3 hb1
  go_wp2_with fail
  generalize w1.alloc (Obj.cells #[.slice ar lr cr] 29) = W1 at *
  refine (smake_any W1 true _ _ _ n1).mono ?_
  rintro e w2 ⟨v, rfl, ⟨aq, lq, cq, rfl, n2⟩, hb2⟩
  have hx2 := box_below hb2 hx1 (lt_of_block hx1)
  have u2 := two_cell0 hx2
  have u3 := two_cell1 hx2
  have v2 := two_free (k := 0) hx2
  have v3 := two_free (k := 1) hx2
  obtain ⟨k0, k1, kB⟩ := end_two (chain2 c1 hb2) (Nat.le_refl _) hx2 (.bool (decide (sgn true (num t) < 0))) (.slice aq lq cq)
  have n3 := n2.box2 hx2 (by decide) (.bool (decide (sgn true (num t) < 0))) (.slice aq lq cq)
  have HK := hid (And.intro k0 k1)
  clear k0 k1 hx2
  go_wp2
  exact bodyPost_ret (v := .tuple #[.agg #[.bool (decide (sgn true (num t) < 0)), .slice aq lq cq], .int .i64 0]) (by simp [results, Tryd.results25, go_sem, HK.out.1, HK.out.2]) rfl ⟨_, rfl, ⟨aq, lq, cq, rfl, n3⟩, kB⟩
set_option maxHeartbeats 800000 in
theorem sparse_plain_no (s : ByteArray) (w : World) (hs : s.size ≤ 1000000000) (h0 : 0 < s.size) (h : bt s 0 ≠ 45) (ht : ¬ Txt s) :
    Calls Tryd.prog 25 #[.string s] w fun e w' => e = .returned (.tuple #[.agg #[.bool false, .slice none 0 0], .int .i64 10]) ∧ Below w.heap.size w w' := by
  have hx := box_new w (Obj.cells #[.bool false, .slice none 0 0] 31)
  have hB : Below w.heap.size w (w.alloc (Obj.cells #[.bool false, .slice none 0 0] 31)) := (Below.refl _ _).alloc (Nat.le_refl _) _
  have hb : (s[0]'h0).toNat ≠ 45 := by rw [bt_at]; exact h
  have h2 : (((s[0]'h0).toNat : Int) == 45) = false := by simp; omega
  clear h
  go_enter Tryd.func25, Tryd.ntmps25
  go_wp2_with fail
  generalize w.alloc (Obj.cells #[.bool false, .slice none 0 0] 31) = W at *
  refine (rparse_no s W hs ht).mono ?_
  rintro e w1 ⟨rfl, hb1⟩
  have hx3 := below_alloc' hb1 (Nat.le_refl _) (Obj.cells #[.slice none 0 0] 29)
  have hx1 := box_below hx3 hx (lt_of_block hx)
  have c1 := chain2 hB hx3
  have u2 := two_cell0 hx1
  have u3 := two_cell1 hx1
  have v2 := two_free (k := 0) hx1
  have v3 := two_free (k := 1) hx1
  obtain ⟨k0, k1, kB⟩ := end_two c1 (Nat.le_refl _) hx1 (.bool false) (.slice none 0 0)
  have HK := hid (And.intro k0 k1)
  clear k0 k1 hx hx1
  go_wp2
  exact bodyPost_ret (v := .tuple #[.agg #[.bool false, .slice none 0 0], .int .i64 10]) (by simp [results, Tryd.results25, go_sem, HK.out.1, HK.out.2]) rfl ⟨rfl, kB⟩
set_option maxHeartbeats 800000 in
theorem sparse_plain (s : ByteArray) (w : World) (hs : s.size ≤ 1000000000) (h0 : 0 < s.size) (h : bt s 0 ≠ 45) (ht : Txt s) :
    Calls Tryd.prog 25 #[.string s] w fun e w' => ∃ v, e = .returned (.tuple #[v, .int .i64 0]) ∧ RNumIs w' v (sgn false (num s)) (s.size / 9 + 1) ∧ Below w.heap.size w w' := by
  have hx := box_new w (Obj.cells #[.bool false, .slice none 0 0] 31)
  have hB : Below w.heap.size w (w.alloc (Obj.cells #[.bool false, .slice none 0 0] 31)) := (Below.refl _ _).alloc (Nat.le_refl _) _
  have hb : (s[0]'h0).toNat ≠ 45 := by rw [bt_at]; exact h
  have h2 : (((s[0]'h0).toNat : Int) == 45) = false := by simp; omega
  clear h
  go_enter Tryd.func25, Tryd.ntmps25
  go_wp2_with fail
  generalize w.alloc (Obj.cells #[.bool false, .slice none 0 0] 31) = W at *
  refine (rparse_yes s W hs ht).mono ?_
  rintro e w1 ⟨⟨v, rfl, nv⟩, hb1⟩
  obtain ⟨ar, lr, cr, rfl⟩ := nv.form
  have hx3 := below_alloc' hb1 (Nat.le_refl _) (Obj.cells #[.slice ar lr cr] 29)
  have hx1 := box_below hx3 hx (lt_of_block hx)
  have c1 := chain2 hB hx3
  have n1 := nv.below ((Below.refl _ _).alloc (Nat.le_refl _) (Obj.cells #[.slice ar lr cr] 29))
  have hn := box_new w1 (Obj.cells #[.slice ar lr cr] 29)
  clear hx hx3 hb1
  go_wp2_with fail
  generalize w1.alloc (Obj.cells #[.slice ar lr cr] 29) = W1 at *
  refine (smake_any W1 false _ _ _ n1).mono ?_
  rintro e w2 ⟨v, rfl, ⟨aq, lq, cq, rfl, n2⟩, hb2⟩
  have hx2 := box_below hb2 hx1 (lt_of_block hx1)
  have u2 := two_cell0 hx2
  have u3 := two_cell1 hx2
  have v2 := two_free (k := 0) hx2
  have v3 := two_free (k := 1) hx2
  obtain ⟨k0, k1, kB⟩ := end_two (chain2 c1 hb2) (Nat.le_refl _) hx2 (.bool (decide (sgn false (num s) < 0))) (.slice aq lq cq)
  have n3 := n2.box2 hx2 (by decide) (.bool (decide (sgn false (num s) < 0))) (.slice aq lq cq)
  have HK := hid (And.intro k0 k1)
  clear k0 k1 hx2
  go_wp2
  exact bodyPost_ret (v := .tuple #[.agg #[.bool (decide (sgn false (num s) < 0)), .slice aq lq cq], .int .i64 0]) (by simp [results, Tryd.results25, go_sem, HK.out.1, HK.out.2]) rfl ⟨_, rfl, ⟨aq, lq, cq, rfl, n3⟩, kB⟩
set_option maxHeartbeats 800000 in
theorem sparse_empty (s : ByteArray) (w : World) (h0 : s.size = 0) :
    Calls Tryd.prog 25 #[.string s] w fun e w' => e = .returned (.tuple #[.agg #[.bool false, .slice none 0 0], .int .i64 10]) ∧ Below w.heap.size w w' := by
  have hx := box_new w (Obj.cells #[.bool false, .slice none 0 0] 31)
  have hB : Below w.heap.size w (w.alloc (Obj.cells #[.bool false, .slice none 0 0] 31)) := (Below.refl _ _).alloc (Nat.le_refl _) _
  have HT := hid (show ¬ Txt s from fun h => h.1 h0)
  have h1 : ¬ 0 < s.size := by omega
  have HZ := hid h0
  clear h0
  go_enter Tryd.func25, Tryd.ntmps25
  go_wp2_with fail
  generalize w.alloc (Obj.cells #[.bool false, .slice none 0 0] 31) = W at *
  refine (rparse_no s W (by have := HZ.out; omega) HT.out).mono ?_
  rintro e w1 ⟨rfl, hb1⟩
  have hx3 := below_alloc' hb1 (Nat.le_refl _) (Obj.cells #[.slice none 0 0] 29)
  have hx1 := box_below hx3 hx (lt_of_block hx)
  have c1 := chain2 hB hx3
  have u2 := two_cell0 hx1
  have u3 := two_cell1 hx1
  have v2 := two_free (k := 0) hx1
  have v3 := two_free (k := 1) hx1
  obtain ⟨k0, k1, kB⟩ := end_two c1 (Nat.le_refl _) hx1 (.bool false) (.slice none 0 0)
  have HK := hid (And.intro k0 k1)
  clear k0 k1 hx hx1
  go_wp2
  exact bodyPost_ret (v := .tuple #[.agg #[.bool false, .slice none 0 0], .int .i64 10]) (by simp [results, Tryd.results25, go_sem, HK.out.1, HK.out.2]) rfl ⟨rfl, kB⟩
end Go.Proofs.YtchibjdhdbkdhaaDoor
/- divideByLimb: limbs divided by one limb, where they stand. -/
namespace Go.Proofs.YtchibjdhdbkdhaaDoor
open Go.RowKit
set_option linter.unusedVariables false
set_option maxRecDepth 100000
set_option linter.unusedSimpArgs false

theorem pv_set_in (S : List Nat) (m q n : Nat) (hm : m < n) (hs : m < S.length) : pv (S.set m q) n + lg S m * 4294967296 ^ m = pv S n + q * 4294967296 ^ m := by
  induction n with
  | zero => omega
  | succ n ih =>
    simp only [pv]
    by_cases e : m = n
    · subst e
      rw [pv_set_past S m q m (Nat.le_refl _), lg_set_same S m q hs]; omega
    · rw [lg_set_other S m q n e]
      have := ih (by omega)
      omega
/-- A round of the division by one limb: k limbs from the top are divided, r is left. -/
def DivRel (L S : List Nat) (n d k r : Nat) : Prop := S.length = n ∧ Bd S ∧ (∀ j, j < n - k → lg S j = lg L j) ∧ pv S n * d + r * 4294967296 ^ (n - k) + pv L (n - k) = val L + pv L (n - k) * d
theorem div_round (L S : List Nat) (n d k r m : Nat) (hL : L.length = n) (hk : k < n) (hm : m + 1 + k = n) (hd : 0 < d) (hr : r < d) (hx : lg L m < 4294967296) (h : DivRel L S n d k r) :
    DivRel L (S.set m ((r * 4294967296 + lg L m) / d)) n d (k + 1) ((r * 4294967296 + lg L m) % d) ∧ (r * 4294967296 + lg L m) / d < 4294967296 := by
  obtain ⟨h1, h2, h3, h4⟩ := h
  have hq : (r * 4294967296 + lg L m) / d < 4294967296 := by
    rw [Nat.div_lt_iff_lt_mul hd]
    have : (r + 1) * 4294967296 ≤ d * 4294967296 := Nat.mul_le_mul_right _ hr
    rw [Nat.mul_comm 4294967296 d]; omega
  refine ⟨⟨by simpa using h1, Bd_set h2 _ _ hq, fun j hj => ?_, ?_⟩, hq⟩
  · rw [lg_set_other S m _ j (by omega)]; exact h3 j (by omega)
  · have e1 := pv_set_in S m ((r * 4294967296 + lg L m) / d) n (by omega) (by omega)
    rw [h3 m (by omega)] at e1
    have e2 : n - k = m + 1 := by omega
    have e3 : n - (k + 1) = m := by omega
    rw [e2, Nat.pow_succ] at h4
    simp only [pv] at h4
    rw [e3]
    have hd' := Nat.div_add_mod (r * 4294967296 + lg L m) d
    generalize (r * 4294967296 + lg L m) / d = q at *
    generalize (r * 4294967296 + lg L m) % d = r' at *
    generalize pv (S.set m q) n = V' at *
    generalize pv S n = V at *
    generalize 4294967296 ^ m = p at *
    generalize pv L m = l at *
    generalize lg L m = x at *
    generalize val L = v at *
    have a1 : (V' + x * p) * d = (V + q * p) * d := by rw [e1]
    rw [Nat.add_mul, Nat.add_mul] at a1
    have a2 : (d * q + r') * p = (r * 4294967296 + x) * p := by rw [hd']
    rw [Nat.add_mul, Nat.add_mul] at a2
    have a3 : q * p * d = d * q * p := by rw [Nat.mul_right_comm, Nat.mul_comm q d]
    have a4 : r * (p * 4294967296) = r * 4294967296 * p := by rw [Nat.mul_comm p, ← Nat.mul_assoc]
    have a5 : (l + x * p) * d = l * d + x * p * d := Nat.add_mul _ _ _
    rw [a4, a5] at h4
    omega
theorem div_done (L S : List Nat) (n d r : Nat) (hL : L.length = n) (hd : 0 < d) (hr : r < d) (h : DivRel L S n d n r) : val S = val L / d ∧ r = val L % d := by
  obtain ⟨h1, h2, h3, h4⟩ := h
  simp only [Nat.sub_self, Nat.pow_zero, Nat.mul_one, pv, Nat.zero_mul, Nat.add_zero] at h4
  rw [pv_val S n (by omega)] at h4
  rw [← h4]
  constructor
  · rw [Nat.add_comm, Nat.add_mul_div_right _ _ hd, Nat.div_eq_of_lt hr]; omega
  · rw [Nat.add_comm, Nat.add_mul_mod_self_right, Nat.mod_eq_of_lt hr]
theorem or_sum (r x : Nat) (hr : r < 4294967296) (hx : x < 4294967296) : bits .or .u64 ((r : Int) * 4294967296) (x : Int) = ((r * 4294967296 + x : Nat) : Int) := by
  have e : (r : Int) * 4294967296 = ((r * 4294967296 : Nat) : Int) := by omega
  rw [e, bits_or_u64_nat _ _ (by omega) (by omega)]
  have := Nat.two_pow_add_eq_or_of_lt (i := 32) (b := x) (by omega) r
  rw [Nat.mul_comm r 4294967296]
  exact congrArg _ this.symm
set_option maxHeartbeats 800000 in
theorem divl_any (w : World) (base g n cap : Nat) (L : List Nat) (hb : Bd L) (hl : L.length = n) (hcap : n ≤ cap) (hcm : cap ≤ maxLen) (hown : w.ownsRow base 73 1 (.slice (some ⟨g, 0, none⟩) n cap) n (u32s L)) (d : Nat) (hd : 0 < d) (hd2 : d < 4294967296) :
    Calls Tryd.prog 54 #[.slice (some ⟨g, 0, none⟩) n cap, .int .u32 d] w fun e w' => e = .returned (.int .u32 ((val L % d : Nat) : Int)) ∧ (∃ L', L'.length = n ∧ Bd L' ∧ val L' = val L / d ∧ w'.ownsRow base 73 1 (.slice (some ⟨g, 0, none⟩) n cap) n (u32s L')) ∧ w.grownBy w' (some g) := by
  have HF := hid hl
  clear hl
  unfold maxLen at hcm
  go_enter Tryd.func54, Tryd.ntmps54
  go_wp2
  go_loopw [5, 12] (fun c i wr => ∃ (k r : Nat) (S : List Nat), k ≤ n ∧ i = .int .i64 k ∧ c = .int .u64 r ∧ r < d ∧ DivRel L S n d k r ∧
        wr.ownsRow base 73 1 (.slice (some ⟨g, 0, none⟩) n cap) n (u32s S) ∧ w.grownBy wr (some g)) (fun _ i _ => n - (intOf i).toNat)
  case atStart => exact ⟨0, 0, L, Nat.zero_le _, rfl, rfl, hd, ⟨HF.out, hb, fun j _ => rfl, by simp only [Nat.sub_zero]; rw [pv_val L n (by have := HF.out; omega)]; omega⟩, hown, World.grownBy.refl _ _⟩
  case round =>
    obtain ⟨k, r, S, hk, rfl, rfl, hr, hR, hown', hgr⟩ := hrel
    have R := hid hR
    clear hR hown
    by_cases hlt : k < n
    · obtain ⟨m, hm⟩ : ∃ m : Nat, (n : Int) - 1 - k = m := ⟨n - 1 - k, by omega⟩
      have hm' : m < n := by omega
      have hst := u32s_at hown' m (by have := R.out.1; omega)
      rw [R.out.2.2.1 m (by omega)] at hst
      have hfr := hown'.frozenAt m
      have hx := hb m
      have N := hid (div_round L S n d k r m HF.out hlt (by omega) hd hr hx R.out)
      have OS := hid (or_sum r (lg L m) (by omega) hx)
      have O := hown'.stored m (.int .u32 (((r * 4294967296 + lg L m) / d : Nat) : Int))
      rw [← u32s_set] at O
      have HO := hid O
      have hT : r * 4294967296 + lg L m < 18446744073709551616 := by omega
      clear O hown'
      generalize lg L m = x at *
      go_wp2
      rw [OS.out]
      have HT := hid hT
      generalize r * 4294967296 + x = T at *
      have e1 : ((T : Nat) : Int).tmod (d : Int) = ((T % d : Nat) : Int) := by rw [Int.tmod_eq_emod_of_nonneg (by omega)]; omega
      have e2 : IntKind.u64.wrap (((T : Nat) : Int).tdiv (d : Int)) % 4294967296 = ((T / d : Nat) : Int) := by
        have h1 : ((T : Nat) : Int).tdiv (d : Int) = ((T / d : Nat) : Int) := by rw [Int.tdiv_eq_ediv_of_nonneg (by omega)]; omega
        have h2 := N.out.2
        rw [h1]
        generalize T / d = Q at h2 ⊢
        rw [w64 _ (by omega) (by omega)]; omega
      rw [e1, e2]
      go_roundw
      case rel => exact ⟨k + 1, T % d, S.set m (T / d), by omega, by go_num, rfl, Nat.mod_lt _ hd, N.out.1, HO.out.1, grown_trans hgr HO.out.2⟩
      case measure => simp [intOf]; omega
    · have hk' : k = n := by omega
      have N := hid (div_done L S n d r HF.out hd hr (by have := R.out; rw [hk'] at this; exact this))
      clear hk'
      have hr' : r < 4294967296 := by omega
      go_wp2
      go_ret
      exact ⟨by rw [← N.out.2]; rfl, ⟨S, R.out.1, R.out.2.1, N.out.1, hown'⟩, hgr⟩
end Go.Proofs.YtchibjdhdbkdhaaDoor
/- addTimes: factor times some limbs added to a row from a place on. -/
namespace Go.Proofs.YtchibjdhdbkdhaaDoor
open Go.RowKit
set_option linter.unusedVariables false
set_option maxRecDepth 100000
set_option linter.unusedSimpArgs false

/-- A round of 'addTimes': S is the row as it stands, P as it was. -/
def TimesRel (P S B : List Nat) (n off f k d : Nat) : Prop := S.length = n ∧ Bd S ∧ (∀ j, off + k ≤ j → lg S j = lg P j) ∧ pv S (off + k) + d * 4294967296 ^ (off + k) = pv P (off + k) + f * pv B k * 4294967296 ^ off
theorem times_next (P S B : List Nat) (n off f k d : Nat) (hk : off + k < n) (h : TimesRel P S B n off f k d) :
    TimesRel P (S.set (off + k) ((f * lg B k + lg P (off + k) + d) % 4294967296)) B n off f (k + 1) ((f * lg B k + lg P (off + k) + d) / 4294967296) := by
  obtain ⟨h1, h2, h3, h4⟩ := h
  refine ⟨by simpa using h1, Bd_set h2 _ _ (by omega), fun j hj => ?_, ?_⟩
  · rw [lg_set_other S _ _ j (by omega)]; exact h3 j (by omega)
  · rw [← Nat.add_assoc]
    simp only [pv]
    rw [pv_set_past S (off + k) _ (off + k) (Nat.le_refl _), lg_set_same S _ _ (by omega), Nat.pow_succ, Nat.pow_add]
    rw [Nat.pow_add] at h4
    generalize 4294967296 ^ off = p at *
    generalize 4294967296 ^ k = q at *
    have hd := Nat.div_add_mod (f * lg B k + lg P (off + k) + d) 4294967296
    generalize (f * lg B k + lg P (off + k) + d) % 4294967296 = r at *
    generalize (f * lg B k + lg P (off + k) + d) / 4294967296 = t at *
    have e1 : (4294967296 * t + r) * (p * q) = (f * lg B k + lg P (off + k) + d) * (p * q) := by rw [hd]
    rw [Nat.add_mul, Nat.add_mul, Nat.add_mul] at e1
    have e2 : t * (p * q * 4294967296) = 4294967296 * t * (p * q) := by rw [Nat.mul_comm (p * q), ← Nat.mul_assoc, Nat.mul_comm t]
    have e3 : f * (pv B k + lg B k * q) * p = f * pv B k * p + f * lg B k * (p * q) := by
      rw [Nat.mul_add, Nat.add_mul, ← Nat.mul_assoc, Nat.mul_comm p q, ← Nat.mul_assoc (f * lg B k)]
    rw [e2, e3]
    omega
theorem times_done (P S B : List Nat) (n off f k d : Nat) (hk : off + k < n) (hB : B.length = k) (hd : d < 4294967296) (hz : lg P (off + k) = 0) (h : TimesRel P S B n off f k d) :
    (S.set (off + k) d).length = n ∧ Bd (S.set (off + k) d) ∧ (∀ j, off + k < j → lg (S.set (off + k) d) j = lg P j) ∧ pv (S.set (off + k) d) (off + k + 1) = pv P (off + k) + f * val B * 4294967296 ^ off := by
  obtain ⟨h1, h2, h3, h4⟩ := h
  refine ⟨by simpa using h1, Bd_set h2 _ _ hd, fun j hj => ?_, ?_⟩
  · rw [lg_set_other S _ _ j (by omega)]; exact h3 j (by omega)
  · simp only [pv]
    rw [pv_set_past S (off + k) _ (off + k) (Nat.le_refl _), lg_set_same S _ _ (by omega), h4]
    rw [pv_val B k (by omega)]
theorem times_small {f b p c : Nat} (hf : f < 4294967296) (hb : b < 4294967296) (hp : p < 4294967296) (hc : c < 4294967296) : f * b ≤ 18446744065119617025 ∧ f * b + p + c < 18446744073709551616 ∧ (f * b + p + c) / 4294967296 < 4294967296 := by
  have h1 : f * b ≤ 4294967295 * 4294967295 := Nat.mul_le_mul (by omega) (by omega)
  omega
theorem w64_3 {f b p c : Nat} (hf : f < 4294967296) (hb : b < 4294967296) (hp : p < 4294967296) (hc : c < 4294967296) :
    IntKind.u64.wrap (IntKind.u64.wrap (IntKind.u64.wrap ((f : Int) * (b : Int)) + (p : Int)) + (c : Int)) = ((f * b + p + c : Nat) : Int) := by
  obtain ⟨h1, h2, h3⟩ := times_small hf hb hp hc
  have e0 : (f : Int) * (b : Int) = ((f * b : Nat) : Int) := by simp
  rw [e0]
  generalize f * b = x at *
  have e1 : IntKind.u64.wrap ((x : Nat) : Int) = (x : Int) := w64 _ (by omega) (by omega)
  have e2 : IntKind.u64.wrap ((x : Int) + (p : Int)) = (x : Int) + (p : Int) := w64 _ (by omega) (by omega)
  rw [e1, e2, w64 _ (by omega) (by omega)]; omega
theorem own_drewN {w : World} {base : Nat} {e : TypeId} {size : Nat} {v : Value} {n : Nat} {xs : List Value} (h : w.ownsRow base e size v n xs) (q : Nat) : (w.drewN q).ownsRow base e size v n xs := h
theorem grown_drewN {a w : World} {row : Option Nat} (h : a.grownBy w row) (q : Nat) : a.grownBy (w.drewN q) row := ⟨h.os, h.tape, h.output, h.size, h.block⟩
end Go.Proofs.YtchibjdhdbkdhaaDoor
/- guessDigit, takeTimes, giveBack: a digit of a quotient, taken off a window of the rest, and given back. -/
namespace Go.Proofs.YtchibjdhdbkdhaaDoor
open Go.RowKit
set_option linter.unusedVariables false
set_option maxRecDepth 100000
set_option linter.unusedSimpArgs false

/-- A round of 'takeTimes': S is the row as it stands, P as it was; c is owed. -/
def TakeRel (P S D : List Nat) (n off f k c : Nat) : Prop := S.length = n ∧ Bd S ∧ (∀ j, off + k ≤ j → lg S j = lg P j) ∧ pv S (off + k) + f * pv D k * 4294967296 ^ off = pv P (off + k) + c * 4294967296 ^ (off + k)
theorem take_next (P S D : List Nat) (n off f k c v c' : Nat) (hk : off + k < n) (hv : v < 4294967296) (he : v + f * lg D k + c = lg P (off + k) + c' * 4294967296) (h : TakeRel P S D n off f k c) :
    TakeRel P (S.set (off + k) v) D n off f (k + 1) c' := by
  obtain ⟨h1, h2, h3, h4⟩ := h
  refine ⟨by rw [List.length_set]; exact h1, Bd_set h2 _ _ hv, fun j hj => ?_, ?_⟩
  · rw [lg_set_other S _ _ j (by omega)]; exact h3 j (by omega)
  · rw [← Nat.add_assoc]
    simp only [pv]
    rw [pv_set_past S (off + k) _ (off + k) (Nat.le_refl _), lg_set_same S _ _ (by omega), Nat.pow_succ, Nat.pow_add]
    rw [Nat.pow_add] at h4
    generalize 4294967296 ^ off = p at *
    generalize 4294967296 ^ k = q at *
    have e1 : (v + f * lg D k + c) * (p * q) = (lg P (off + k) + c' * 4294967296) * (p * q) := by rw [he]
    rw [Nat.add_mul, Nat.add_mul, Nat.add_mul] at e1
    have e2 : c' * (p * q * 4294967296) = c' * 4294967296 * (p * q) := by rw [Nat.mul_comm (p * q), ← Nat.mul_assoc]
    have e3 : f * (pv D k + lg D k * q) * p = f * pv D k * p + f * lg D k * (p * q) := by
      rw [Nat.mul_add, Nat.add_mul, ← Nat.mul_assoc, Nat.mul_comm p q, ← Nat.mul_assoc (f * lg D k)]
    rw [e2, e3]
    omega
theorem take_done (P S D : List Nat) (n off f k c v b : Nat) (hk : off + k < n) (hD : D.length = k) (hv : v < 4294967296) (he : v + c = lg P (off + k) + b * 4294967296) (h : TakeRel P S D n off f k c) :
    (S.set (off + k) v).length = n ∧ Bd (S.set (off + k) v) ∧ (∀ j, off + k < j → lg (S.set (off + k) v) j = lg P j) ∧ pv (S.set (off + k) v) (off + k + 1) + f * val D * 4294967296 ^ off = pv P (off + k + 1) + b * 4294967296 ^ (off + k + 1) := by
  obtain ⟨h1, h2, h3, h4⟩ := h
  refine ⟨by rw [List.length_set]; exact h1, Bd_set h2 _ _ hv, fun j hj => ?_, ?_⟩
  · rw [lg_set_other S _ _ j (by omega)]; exact h3 j (by omega)
  · simp only [pv]
    rw [pv_set_past S (off + k) _ (off + k) (Nat.le_refl _), lg_set_same S _ _ (by omega), Nat.pow_succ]
    rw [pv_val D k (by omega)] at h4
    generalize 4294967296 ^ (off + k) = p at *
    have e1 : (v + c) * p = (lg P (off + k) + b * 4294967296) * p := by rw [he]
    rw [Nat.add_mul, Nat.add_mul] at e1
    have e2 : b * (p * 4294967296) = b * 4294967296 * p := by rw [Nat.mul_comm p, ← Nat.mul_assoc]
    rw [e2]
    omega
theorem take_small {f d c : Nat} (hf : f < 4294967296) (hd : d < 4294967296) (hc : c < 4294967296) : f * d + c ≤ 18446744069414584320 := by
  have h1 : f * d ≤ 4294967295 * 4294967295 := Nat.mul_le_mul (by omega) (by omega)
  omega
theorem w64_2 {f d c : Nat} (hf : f < 4294967296) (hd : d < 4294967296) (hc : c < 4294967296) : IntKind.u64.wrap (IntKind.u64.wrap ((f : Int) * (d : Int)) + (c : Int)) = ((f * d + c : Nat) : Int) := by
  have h1 := take_small hf hd hc
  have e0 : (f : Int) * (d : Int) = ((f * d : Nat) : Int) := by simp
  rw [e0]
  generalize f * d = x at *
  have e1 : IntKind.u64.wrap ((x : Nat) : Int) = (x : Int) := w64 _ (by omega) (by omega)
  rw [e1, w64 _ (by omega) (by omega)]; omega
set_option maxHeartbeats 1500000 in
theorem take_any (w : World) (base g n cap off c f gd k cd : Nat) (P D : List Nat) (hP : Bd P) (hD : Bd D) (hPn : P.length = n) (hDk : D.length = k) (hf : f < 4294967296) (hc : k + 1 ≤ c) (hcm : c ≤ 1000000000000)
    (hk : off + k < n) (hkc : k ≤ cd) (hcd : cd ≤ 1000000000000) (hne : gd ≠ g)
    (hown : w.ownsRow base 73 1 (.slice (some ⟨g, 0, none⟩) n cap) n (u32s P)) (hod : w.ownsRow 0 73 1 (.slice (some ⟨gd, 0, none⟩) k cd) k (u32s D)) :
    Calls Tryd.prog 109 #[.slice (some ⟨g, off, none⟩) (k + 1) c, .slice (some ⟨gd, 0, none⟩) k cd, .int .u32 f] w fun e w' => (∃ P' b, b ≤ 1 ∧ e = .returned (.bool (decide (b = 1))) ∧ P'.length = n ∧ Bd P' ∧ (∀ j, off + k < j → lg P' j = lg P j) ∧ pv P' (off + k + 1) + f * val D * 4294967296 ^ off = pv P (off + k + 1) + b * 4294967296 ^ (off + k + 1) ∧ w'.ownsRow base 73 1 (.slice (some ⟨g, 0, none⟩) n cap) n (u32s P')) ∧ w.grownBy w' (some g) := by
  have HP := hid (And.intro hPn hDk)
  clear hPn hDk
  go_enter Tryd.func109, Tryd.ntmps109
  go_wp2
  go_loopw [7, 15] (fun cc i wr => ∃ (j d : Nat) (S : List Nat), j ≤ k ∧ i = .int .i64 j ∧ cc = .int .u64 d ∧ d < 4294967296 ∧ TakeRel P S D n off f j d ∧ wr.ownsRow base 73 1 (.slice (some ⟨g, 0, none⟩) n cap) n (u32s S) ∧ w.grownBy wr (some g)) (fun _ i _ => k - (intOf i).toNat)
  case atStart => exact ⟨0, 0, P, Nat.zero_le _, rfl, rfl, by omega, ⟨HP.out.1, hP, fun j _ => rfl, by simp [pv]⟩, hown, World.grownBy.refl _ _⟩
  case round =>
    obtain ⟨j, d, S, hj, rfl, rfl, hd, hR, hown', hgr⟩ := hrel
    have hod' : wr.ownsRow 0 73 1 (.slice (some ⟨gd, 0, none⟩) k cd) k (u32s D) := hod.kept hgr (Or.inr (by simp [Value.ownBlock]; exact hne))
    have HR := hid hR
    clear hR hown
    by_cases hlt : j < k
    · have c1 := u32s_at hod' j (by have := HP.out.2; omega)
      have c2 := u32s_at hown' (off + j) (by have := HR.out.1; omega)
      rw [HR.out.2.2.1 (off + j) (Nat.le_refl _)] at c2
      have fr := hown'.frozenAt (off + j)
      have b1 := hD j
      have b2 := hP (off + j)
      have HN := hid (fun v c' => take_next P S D n off f j d v c' (by omega))
      have hT := take_small hf b1 hd
      have hW := w64_2 hf b1 hd
      have HO := hid (show ∀ v : Nat, (wr.setCell ⟨g, off + j, none⟩ (.int .u32 (v : Int))).ownsRow base 73 1 (.slice (some ⟨g, 0, none⟩) n cap) n (u32s (S.set (off + j) v)) ∧ w.grownBy (wr.setCell ⟨g, off + j, none⟩ (.int .u32 (v : Int))) (some g) from fun v => by
        have O1 := hown'.stored (off + j) (.int .u32 (v : Int))
        rw [← u32s_set] at O1
        exact ⟨O1.1, grown_trans hgr O1.2⟩)
      clear hown' hod' hP hD
      obtain ⟨T, hTe⟩ : ∃ T, f * lg D j + d = T := ⟨_, rfl⟩
      have HE := hid (show f * lg D j + d = T from hTe)
      rw [hTe] at hT hW
      clear hTe
      obtain ⟨y, hy⟩ : ∃ y, lg D j = y := ⟨_, rfl⟩
      rw [hy] at c1 b1 hW
      have HY := hid hy
      obtain ⟨x, hx⟩ : ∃ x, lg P (off + j) = x := ⟨_, rfl⟩
      rw [hx] at c2 b2
      have HX := hid hx
      clear hy hx
      by_cases hb : x < T % 4294967296
      · have hb' : (x : Int) < (T : Int) % 4294967296 := by omega
        go_wp2
        have O := HO.out (x + 4294967296 - T % 4294967296)
        rw [show (((x + 4294967296 - T % 4294967296 : Nat)) : Int) = ((x : Int) - (T : Int)) % 4294967296 by omega] at O
        go_roundw
        case rel => exact ⟨j + 1, T / 4294967296 + 1, S.set (off + j) (x + 4294967296 - T % 4294967296), by omega, by go_num, by go_num, by omega, HN.out _ _ (by omega) (by have := HE.out; have := HX.out; omega) HR.out, O.1, O.2⟩
        case measure => simp [intOf]; omega
      · have hb' : ¬ (x : Int) < (T : Int) % 4294967296 := by omega
        go_wp2
        have O := HO.out (x - T % 4294967296)
        rw [show (((x - T % 4294967296 : Nat)) : Int) = (x : Int) - (T : Int) % 4294967296 by omega] at O
        go_roundw
        case rel => exact ⟨j + 1, T / 4294967296, S.set (off + j) (x - T % 4294967296), by omega, by go_num, by go_num, by omega, HN.out _ _ (by omega) (by have := HE.out; have := HX.out; omega) HR.out, O.1, O.2⟩
        case measure => simp [intOf]; omega
    · have hjk : j = k := by omega
      have fr := hown'.frozenAt (off + k)
      have c2 := u32s_at hown' (off + k) (by have := HR.out.1; omega)
      have HJ := hid hjk
      clear hod' hjk
      have hx := HR.out.2.1 (off + k)
      have HE := hid (HR.out.2.2.1 (off + k) (by omega))
      have HO := hid (show ∀ v : Nat, (wr.setCell ⟨g, off + k, none⟩ (.int .u32 (v : Int))).ownsRow base 73 1 (.slice (some ⟨g, 0, none⟩) n cap) n (u32s (S.set (off + k) v)) ∧ w.grownBy (wr.setCell ⟨g, off + k, none⟩ (.int .u32 (v : Int))) (some g) from fun v => by
        have O1 := hown'.stored (off + k) (.int .u32 (v : Int))
        rw [← u32s_set] at O1
        exact ⟨O1.1, grown_trans hgr O1.2⟩)
      have HD := hid (fun v b (hv : v < 4294967296) (he : v + d = lg P (off + k) + b * 4294967296) => take_done P S D n off f k d v b hk HP.out.2 hv he (by have := HR.out; rw [HJ.out] at this; exact this))
      clear hown'
      generalize lg S (off + k) = x at *
      by_cases hb : x < d
      · go_wp2
        have O := HO.out (x + 4294967296 - d)
        rw [show ((x + 4294967296 - d : Nat) : Int) = ((x : Int) - (d : Int)) % 4294967296 by omega] at O
        have R := HD.out (x + 4294967296 - d) 1 (by omega) (by have := HE.out; omega)
        go_ret
        exact ⟨⟨S.set (off + k) (x + 4294967296 - d), 1, by omega, rfl, R.1, R.2.1, R.2.2.1, R.2.2.2, O.1⟩, O.2⟩
      · go_wp2
        have O := HO.out (x - d)
        rw [show ((x - d : Nat) : Int) = (x : Int) - (d : Int) by omega] at O
        have R := HD.out (x - d) 0 (by omega) (by have := HE.out; omega)
        go_ret
        exact ⟨⟨S.set (off + k) (x - d), 0, by omega, rfl, R.1, R.2.1, R.2.2.1, R.2.2.2, O.1⟩, O.2⟩
theorem give_done (P S D : List Nat) (n off k d v b : Nat) (hk : off + k < n) (hD : D.length = k) (hv : v < 4294967296) (he : v + b * 4294967296 = lg P (off + k) + d) (h : TimesRel P S D n off 1 k d) :
    (S.set (off + k) v).length = n ∧ Bd (S.set (off + k) v) ∧ (∀ j, off + k < j → lg (S.set (off + k) v) j = lg P j) ∧ pv (S.set (off + k) v) (off + k + 1) + b * 4294967296 ^ (off + k + 1) = pv P (off + k + 1) + val D * 4294967296 ^ off := by
  obtain ⟨h1, h2, h3, h4⟩ := h
  refine ⟨by rw [List.length_set]; exact h1, Bd_set h2 _ _ hv, fun j hj => ?_, ?_⟩
  · rw [lg_set_other S _ _ j (by omega)]; exact h3 j (by omega)
  · simp only [pv]
    rw [pv_set_past S (off + k) _ (off + k) (Nat.le_refl _), lg_set_same S _ _ (by omega), Nat.pow_succ]
    rw [pv_val D k (by omega), Nat.one_mul] at h4
    generalize 4294967296 ^ (off + k) = p at *
    have e1 : (v + b * 4294967296) * p = (lg P (off + k) + d) * p := by rw [he]
    rw [Nat.add_mul, Nat.add_mul] at e1
    have e2 : b * (p * 4294967296) = b * 4294967296 * p := by rw [Nat.mul_comm p, ← Nat.mul_assoc]
    rw [e2]
    omega
set_option maxHeartbeats 1500000 in
theorem give_any (w : World) (base g n cap off c gd k cd : Nat) (P D : List Nat) (hP : Bd P) (hD : Bd D) (hPn : P.length = n) (hDk : D.length = k) (hc : k + 1 ≤ c) (hcm : c ≤ 1000000000000)
    (hk : off + k < n) (hkc : k ≤ cd) (hcd : cd ≤ 1000000000000) (hne : gd ≠ g)
    (hown : w.ownsRow base 73 1 (.slice (some ⟨g, 0, none⟩) n cap) n (u32s P)) (hod : w.ownsRow 0 73 1 (.slice (some ⟨gd, 0, none⟩) k cd) k (u32s D)) :
    Calls Tryd.prog 110 #[.slice (some ⟨g, off, none⟩) (k + 1) c, .slice (some ⟨gd, 0, none⟩) k cd] w fun e w' => (∃ P' b, b ≤ 1 ∧ e = .returned (.bool (decide (b = 0))) ∧ P'.length = n ∧ Bd P' ∧ (∀ j, off + k < j → lg P' j = lg P j) ∧ pv P' (off + k + 1) + b * 4294967296 ^ (off + k + 1) = pv P (off + k + 1) + val D * 4294967296 ^ off ∧ w'.ownsRow base 73 1 (.slice (some ⟨g, 0, none⟩) n cap) n (u32s P')) ∧ w.grownBy w' (some g) := by
  have HP := hid (And.intro hPn hDk)
  clear hPn hDk
  go_enter Tryd.func110, Tryd.ntmps110
  go_wp2
  go_loopw [5, 12] (fun cc i wr => ∃ (j d : Nat) (S : List Nat), j ≤ k ∧ i = .int .i64 j ∧ cc = .int .u64 d ∧ d ≤ 1 ∧ TimesRel P S D n off 1 j d ∧ wr.ownsRow base 73 1 (.slice (some ⟨g, 0, none⟩) n cap) n (u32s S) ∧ w.grownBy wr (some g)) (fun _ i _ => k - (intOf i).toNat)
  case atStart => exact ⟨0, 0, P, Nat.zero_le _, rfl, rfl, by omega, ⟨HP.out.1, hP, fun j _ => rfl, by simp [pv]⟩, hown, World.grownBy.refl _ _⟩
  case round =>
    obtain ⟨j, d, S, hj, rfl, rfl, hd, hR, hown', hgr⟩ := hrel
    have hod' : wr.ownsRow 0 73 1 (.slice (some ⟨gd, 0, none⟩) k cd) k (u32s D) := hod.kept hgr (Or.inr (by simp [Value.ownBlock]; exact hne))
    have HR := hid hR
    clear hR hown
    by_cases hlt : j < k
    · have c1 := u32s_at hod' j (by have := HP.out.2; omega)
      have c2 := u32s_at hown' (off + j) (by have := HR.out.1; omega)
      rw [HR.out.2.2.1 (off + j) (Nat.le_refl _)] at c2
      have fr := hown'.frozenAt (off + j)
      have b1 := hD j
      have b2 := hP (off + j)
      have HN := hid (times_next P S D n off 1 j d (by omega) HR.out)
      have HO := hid (show ∀ q, ((wr.drewN q).setCell ⟨g, off + j, none⟩ (.int .u32 (((1 * lg D j + lg P (off + j) + d) % 4294967296 : Nat) : Int))).ownsRow base 73 1 (.slice (some ⟨g, 0, none⟩) n cap) n (u32s (S.set (off + j) ((1 * lg D j + lg P (off + j) + d) % 4294967296))) ∧ w.grownBy ((wr.drewN q).setCell ⟨g, off + j, none⟩ (.int .u32 (((1 * lg D j + lg P (off + j) + d) % 4294967296 : Nat) : Int))) (some g) from fun q => by
        have O1 := (own_drewN hown' q).stored (off + j) (.int .u32 (((1 * lg D j + lg P (off + j) + d) % 4294967296 : Nat) : Int))
        rw [← u32s_set] at O1
        exact ⟨O1.1, grown_trans (grown_drewN hgr q) O1.2⟩)
      clear hown' hod' hP hD
      generalize lg D j = y at *
      generalize lg P (off + j) = x at *
      go_wp2
      go_quiet (fail)
      have O := HO.out
      rw [show (((1 * y + x + d) % 4294967296 : Nat) : Int) = ((x : Int) + (y : Int) + (d : Int)) % 4294967296 by omega] at O
      go_wp2
      go_roundw
      case rel => exact ⟨j + 1, (1 * y + x + d) / 4294967296, S.set (off + j) ((1 * y + x + d) % 4294967296), by omega, by go_num, by go_num, by omega, HN.out, (O _).1, (O _).2⟩
      case measure => simp [intOf]; omega
    · have hjk : j = k := by omega
      have fr := hown'.frozenAt (off + k)
      have c2 := u32s_at hown' (off + k) (by have := HR.out.1; omega)
      have HJ := hid hjk
      clear hod' hjk
      have hx := HR.out.2.1 (off + k)
      have HE := hid (HR.out.2.2.1 (off + k) (by omega))
      have O1 := hown'.stored (off + k) (.int .u32 (((lg S (off + k) + d) % 4294967296 : Nat) : Int))
      rw [← u32s_set] at O1
      have HO := hid O1
      have HD := hid (fun v b (hv : v < 4294967296) (he : v + b * 4294967296 = lg P (off + k) + d) => give_done P S D n off k d v b hk HP.out.2 hv he (by have := HR.out; rw [HJ.out] at this; exact this))
      clear hown' O1
      generalize lg S (off + k) = x at *
      go_wp2
      have O := HO.out
      rw [show (((x + d) % 4294967296 : Nat) : Int) = ((x : Int) + (d : Int)) % 4294967296 by omega] at O
      have R := HD.out ((x + d) % 4294967296) ((x + d) / 4294967296) (by omega) (by have := HE.out; omega)
      go_ret
      refine ⟨⟨S.set (off + k) ((x + d) % 4294967296), (x + d) / 4294967296, by omega, ?_, R.1, R.2.1, R.2.2.1, R.2.2.2, O.1⟩, grown_trans hgr O.2⟩
      have hq : decide ((x + d) / 4294967296 = 0) = decide ((x : Int) + (d : Int) ≤ 4294967295) := decide_eq_decide.2 (by omega)
      rw [hq]; rfl
/-- guessDigit: never too small. -/
theorem guess_ge (W Dv top dt q p lw : Nat) (hp : 0 < p) (hW : W = lw + top * p) (hlw : lw < p) (hD : dt * p ≤ Dv) (hdt : 0 < dt) (hq : q * Dv ≤ W) : q ≤ top / dt := by
  rw [Nat.le_div_iff_mul_le hdt]
  have h1 : q * (dt * p) ≤ q * Dv := Nat.mul_le_mul_left _ hD
  have h2 : q * dt * p < (top + 1) * p := by rw [Nat.mul_assoc, Nat.add_mul]; omega
  have := Nat.lt_of_mul_lt_mul_right h2
  omega
set_option maxHeartbeats 1000000 in
theorem guess_any (w : World) (base g n cap off c gd K m cd : Nat) (P D : List Nat) (hP : Bd P) (hD : Bd D) (hPn : P.length = n) (hDk : D.length = K) (hKm : K = m + 1) (hc : K + 1 ≤ c) (hcm : c ≤ 1000000000000)
    (hk : off + K < n) (hkc : K ≤ cd) (hcd : cd ≤ 1000000000000) (hd0 : lg D m ≠ 0)
    (hown : w.ownsRow base 73 1 (.slice (some ⟨g, 0, none⟩) n cap) n (u32s P)) (hod : w.ownsRow 0 73 1 (.slice (some ⟨gd, 0, none⟩) K cd) K (u32s D)) :
    Calls Tryd.prog 108 #[.slice (some ⟨g, off, none⟩) (K + 1) c, .slice (some ⟨gd, 0, none⟩) K cd] w fun e w' => e = .returned (.int .u32 ((min ((lg P (off + K) * 4294967296 + lg P (off + m)) / lg D m) 4294967295 : Nat) : Int)) ∧ ∃ q, w' = w.drewN q := by
  have c1 := u32s_at hown (off + m) (by omega)
  have c3 := u32s_at hown (off + K) (by omega)
  have c2 := u32s_at hod m (by omega)
  have b1 := hP (off + m)
  have b2 := hP (off + K)
  have b3 := hD m
  have OS := or_sum (lg P (off + K)) (lg P (off + m)) b2 b1
  have hT : lg P (off + K) * 4294967296 + lg P (off + m) < 18446744073709551616 := by omega
  have hm : (K : Int) - 1 = (m : Int) := by omega
  have hm2 : m < K := by omega
  clear hown hod hPn hDk hP hD hKm
  generalize lg P (off + m) = x at *
  generalize lg P (off + K) = y at *
  generalize lg D m = z at *
  generalize y * 4294967296 + x = T at *
  have e1 : ((T : Nat) : Int).tdiv (z : Int) = ((T / z : Nat) : Int) := by rw [Int.tdiv_eq_ediv_of_nonneg (by omega)]; omega
  have hQ : T / z ≤ T := Nat.div_le_self _ _
  obtain ⟨Q, hQe⟩ : ∃ Q, T / z = Q := ⟨_, rfl⟩
  rw [hQe] at e1 hQ ⊢
  clear hQe
  rcases (show Q < 4294967295 ∨ 4294967295 < Q ∨ Q = 4294967295 by omega) with hc1 | hc1 | hc1
  · rw [show min Q 4294967295 = Q by omega]
    go_enter Tryd.func108, Tryd.ntmps108
    go_wp2
    go_quiet (fail)
    go_wp2
    go_ret
    exact ⟨rfl, _, rfl⟩
  · rw [show min Q 4294967295 = 4294967295 by omega]
    go_enter Tryd.func108, Tryd.ntmps108
    go_wp2
    go_quiet (fail)
    go_wp2
    go_ret
    exact ⟨rfl, _, rfl⟩
  · subst hc1
    go_enter Tryd.func108, Tryd.ntmps108
    go_wp2
    go_quiet (fail)
    go_wp2
    go_ret
    exact ⟨rfl, _, rfl⟩
end Go.Proofs.YtchibjdhdbkdhaaDoor
