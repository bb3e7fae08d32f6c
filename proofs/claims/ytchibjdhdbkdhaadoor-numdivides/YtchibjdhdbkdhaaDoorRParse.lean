/- The document's Parse. -/
import Derived.Test.YtchibjdhdbkdhaaDoorRBase
import Derived.Test.YtchibjdhdbkdhaaDoorParse
namespace Go.Proofs.YtchibjdhdbkdhaaDoor
open Go.RowKit
set_option linter.unusedVariables false
set_option maxRecDepth 100000
set_option linter.unusedSimpArgs false

set_option maxHeartbeats 800000 in
theorem rparse_empty (s : ByteArray) (w : World) (h : s.size = 0) :
    Calls Tryd.prog 47 #[.string s] w fun e w' => e = .returned (.tuple #[.agg #[.slice none 0 0], .int .i64 10]) ∧ Below w.heap.size w w' := by
  have h' : ((s.size : Int) == 0) = true := by simp [h]
  clear h
  go_enter Tryd.func47, Tryd.ntmps47
  go_wp2
  refine bodyPost_ret (v := .tuple #[.agg #[.slice none 0 0], .int .i64 10]) (by simp [results, Tryd.results47, go_sem]) rfl ⟨rfl, ?_⟩
  exact (Below.refl _ _).alloc (Nat.le_refl _) _
set_option maxHeartbeats 800000 in
theorem rparse_nought (s : ByteArray) (w : World) (h : 1 < s.size) (h0 : bt s 0 = 48) :
    Calls Tryd.prog 47 #[.string s] w fun e w' => e = .returned (.tuple #[.agg #[.slice none 0 0], .int .i64 10]) ∧ Below w.heap.size w w' := by
  have hp : 0 < s.size := by omega
  have e0 : (s[0]'hp).toNat = 48 := by rw [bt_at s 0 (by omega)]; exact h0
  have h' : ((s.size : Int) == 0) = false := beq_eq_false_iff_ne.2 (by omega)
  clear h0
  go_enter Tryd.func47, Tryd.ntmps47
  go_wp2
  refine bodyPost_ret (v := .tuple #[.agg #[.slice none 0 0], .int .i64 10]) (by simp [results, Tryd.results47, go_sem]) rfl ⟨rfl, ?_⟩
  exact (Below.refl _ _).alloc (Nat.le_refl _) _
theorem Tryd.info3 : (Tryd.prog.info? 3).map (fun i => (i.zero, i.size, i.bytes)) = some (some (.int .i64 0), 1, 8) := by kernel_rfl
/-- What k digits from place a on are worth. -/
def sv (s : ByteArray) (a : Nat) : Nat → Nat
  | 0 => 0
  | k + 1 => sv s a k * 10 + (bt s (a + k) - 48)
theorem sv_lt {s : ByteArray} (a n : Nat) (h : ∀ k, k < n → 48 ≤ bt s (a + k) ∧ bt s (a + k) ≤ 57) : sv s a n < 10 ^ n := by
  induction n with
  | zero => simp [sv]
  | succ n ih =>
    have h1 := ih (fun k hk => h k (by omega))
    have h2 := h n (by omega)
    simp only [sv, Nat.pow_succ]; omega
theorem dv_sv (s : ByteArray) (a k : Nat) : dv s (a + k) = dv s a * 10 ^ k + sv s a k := by
  induction k with
  | zero => simp [sv]
  | succ k ih => rw [← Nat.add_assoc, dv, ih, sv, Nat.pow_succ, Nat.add_mul, Nat.mul_assoc]; omega
/-- What holds at the head of a round: t digits of nine signs each are taken off the end. -/
def RRel (s : ByteArray) (t : Nat) (D : List Nat) : Prop := D.length = t ∧ R.Bd D ∧ dv s s.size = dv s (s.size - 9 * t) * 10 ^ (9 * t) + R.pv D t
theorem lg_append_old (D : List Nat) (x j : Nat) (h : j < D.length) : lg (D ++ [x]) j = lg D j := by simp [lg, List.getD, List.getElem?_append_left h]
theorem lg_append_new (D : List Nat) (x : Nat) : lg (D ++ [x]) D.length = x := by simp [lg, List.getD]
theorem RRel.step {s : ByteArray} {t : Nat} {D : List Nat} (h : RRel s t D) (ht : 9 * t < s.size) (hd : ∀ k, k < s.size → 48 ≤ bt s k ∧ bt s k ≤ 57) (a k : Nat) (hk : k ≤ 9) (ha : a + k = s.size - 9 * t) (hz : k < 9 → a = 0) : RRel s (t + 1) (D ++ [sv s a k]) := by
  obtain ⟨h1, h2, h3⟩ := h
  have hx := sv_lt (s := s) a k (fun j hj => hd (a + j) (by omega))
  have hx9 : sv s a k < 1000000000 := by
    have : 10 ^ k ≤ 10 ^ 9 := Nat.pow_le_pow_right (by omega) hk
    have h9 : (10 : Nat) ^ 9 = 1000000000 := by decide
    omega
  refine ⟨by simp [h1], fun j => ?_, ?_⟩
  · rcases Nat.lt_trichotomy j D.length with e | e | e
    · rw [lg_append_old D _ j e]; exact h2 j
    · subst e; rw [lg_append_new]; exact hx9
    · rw [lg_past _ j (by simp; omega)]; omega
  · have e1 : R.pv (D ++ [sv s a k]) (t + 1) = R.pv D t + sv s a k * 1000000000 ^ t := by
      simp only [R.pv]
      rw [R.pv_congr (M := D) (fun j hj => lg_append_old D _ j (by omega)), ← h1, lg_append_new]
    rw [e1, h3, ← ha, dv_sv s a k]
    have e2 : 10 ^ (9 * t) = 1000000000 ^ t := Nat.pow_mul 10 9 t
    have e3 : s.size - 9 * (t + 1) = if k < 9 then 0 else a := by split <;> omega
    rw [e3, Nat.add_mul]
    by_cases hk9 : k < 9
    · rw [if_pos hk9, hz hk9]; simp [dv, e2]; omega
    · rw [if_neg hk9]
      have hk' : k = 9 := by omega
      subst hk'
      rw [show 9 * (t + 1) = 9 + 9 * t by omega, Nat.pow_add, ← Nat.mul_assoc, e2]; omega
theorem sv_small (s : ByteArray) (a n : Nat) (hn : n ≤ 8) (h : ∀ k, k < n → 48 ≤ bt s (a + k) ∧ bt s (a + k) ≤ 57) : sv s a n < 100000000 := by
  have h1 := sv_lt (s := s) a n h
  have h2 := pow10_le hn
  omega
theorem sv_next (s : ByteArray) (a j : Nat) (h : a ≤ j) : sv s a (j + 1 - a) = sv s a (j - a) * 10 + (bt s j - 48) := by
  rw [show j + 1 - a = (j - a) + 1 by omega, sv, show a + (j - a) = j by omega]
set_option maxHeartbeats 1600000 in
theorem rparse_loop (s : ByteArray) (w : World) (hs : s.size ≤ 1000000000) (h : s.size ≠ 0) (h0 : 1 < s.size → bt s 0 ≠ 48) :
    Calls Tryd.prog 47 #[.string s] w fun e w' => ((Txt s ∧ ∃ v, e = .returned (.tuple #[v, .int .i64 0]) ∧ RefIs w' v (num s) (s.size / 9 + 1)) ∨ (¬ Txt s ∧ e = .returned (.tuple #[.agg #[.slice none 0 0], .int .i64 10]))) ∧ Below w.heap.size w w' := by
  obtain ⟨i0, hi, hz0, hz1, hz2⟩ := info_parts Tryd.info3
  have hp : 0 < s.size := by omega
  have e0 := bt_at s 0 hp
  have h' : ((s.size : Int) == 0) = false := beq_eq_false_iff_ne.2 (by omega)
  have H0 := hid (And.intro h h0)
  have hg : s.size ≤ 1 ∨ 1 < s.size ∧ ((bt s 0 : Int) == 48) = false := by
    by_cases h1 : 1 < s.size
    · right; refine ⟨h1, ?_⟩; have := h0 h1; exact beq_eq_false_iff_ne.2 (by omega)
    · left; omega
  clear h0 h
  have hWz : (w.alloc (Obj.cells #[Value.slice none 0 0] 29)).cell? ⟨w.heap.size, 0, none⟩ = some (.slice none 0 0) := by simp [go_sem]
  have hWf : (w.alloc (Obj.cells #[Value.slice none 0 0] 29)).frozen? ⟨w.heap.size, 0, none⟩ = false := by simp [go_sem]
  have hWb : Below w.heap.size w (w.alloc (Obj.cells #[Value.slice none 0 0] 29)) := (Below.refl _ _).alloc (Nat.le_refl _) _
  have hWs : (w.alloc (Obj.cells #[Value.slice none 0 0] 29)).heap.size = w.heap.size + 1 := by simp
  rcases hg with h1 | ⟨h1, h2⟩
  all_goals
    go_enter Tryd.func47, Tryd.ntmps47
    go_wp2
    go_loop [4] (fun i => ∃ k : Nat, k ≤ s.size ∧ i = .int .i64 k ∧ ∀ j, j < k → 48 ≤ bt s j ∧ bt s j ≤ 57) (fun i => s.size - (intOf i).toNat)
    case atStart => exact ⟨0, Nat.zero_le _, rfl, fun j hj => by omega⟩
    case round =>
      obtain ⟨k, hk, rfl, hd⟩ := hrel
      have HD := hid hd
      clear hd
      by_cases hlt : k < s.size
      · have ek := bt_at s k hlt
        rcases (show bt s k < 48 ∨ 57 < bt s k ∨ 48 ≤ bt s k ∧ bt s k ≤ 57 by omega) with hc | hc | ⟨hc, hc'⟩
        · go_wp2
          refine bodyPost_ret (v := .tuple #[.agg #[.slice none 0 0], .int .i64 10]) (by simp [results, Tryd.results47, go_sem]) rfl ⟨Or.inr ⟨fun h => by have := (h.2.2 k hlt).1; omega, rfl⟩, ?_⟩
          exact (Below.refl _ _).alloc (Nat.le_refl _) _
        · have hc' : ¬ bt s k < 48 := by omega
          go_wp2
          refine bodyPost_ret (v := .tuple #[.agg #[.slice none 0 0], .int .i64 10]) (by simp [results, Tryd.results47, go_sem]) rfl ⟨Or.inr ⟨fun h => by have := (h.2.2 k hlt).2; omega, rfl⟩, ?_⟩
          exact (Below.refl _ _).alloc (Nat.le_refl _) _
        · go_wp2
          go_round
          case rel => exact ⟨k + 1, by omega, by go_num, fun j hj => by
            by_cases e : j = k
            · subst e; exact ⟨hc, hc'⟩
            · exact HD.out j (by omega)⟩
          case measure => simp [intOf]; omega
      · have HD2 := hid (show ∀ j, j < s.size → 48 ≤ bt s j ∧ bt s j ≤ 57 from fun j hj => HD.out j (by omega))
        clear HD
        go_wp2
        clear hlt hk h'
        try clear h2
        clear h1
        have hown0 : ((w.alloc (Obj.cells #[Value.slice none 0 0] 29)).alloc (Obj.cells #[] 3)).ownsRow (w.heap.size + 1) 3 1 (.slice (some ⟨w.heap.size + 1, 0, none⟩) 0 0) 0 (i64s []) := by
          have := World.ownsRow_made (base := w.heap.size + 1) (e := 3) (size := 1) (w.alloc (Obj.cells #[Value.slice none 0 0] 29)) #[] 0 (by simp) (by unfold maxLen; omega) (by simp)
          simpa [i64s] using this
        have hbel0 : Below (w.heap.size + 1) (w.alloc (Obj.cells #[Value.slice none 0 0] 29)) ((w.alloc (Obj.cells #[Value.slice none 0 0] 29)).alloc (Obj.cells #[] 3)) := (Below.refl _ _).alloc (by simp) _
        have hWt : w.heap.size + 1 ≤ (w.alloc (Obj.cells #[Value.slice none 0 0] 29)).heap.size := by simp
        clear hWs
        generalize (w.alloc (Obj.cells #[Value.slice none 0 0] 29)).alloc (Obj.cells #[] 3) = W1 at *
        generalize w.alloc (Obj.cells #[Value.slice none 0 0] 29) = W at *
        go_loopw [5, 6] (fun v e wr => ∃ (t : Nat) (D : List Nat), e = .int .i64 ((s.size : Int) - 9 * (t : Int)) ∧ 9 * t < s.size + 9 ∧ RRel s t D ∧ wr.ownsRow (w.heap.size + 1) 3 1 v t (i64s D) ∧ v ≠ .slice none 0 0 ∧ Below (w.heap.size + 1) W wr) (fun _ e _ => (intOf e + 9).toNat)
        case atStart => exact ⟨0, [], by simp, by omega, ⟨rfl, by intro j; simp [lg], by simp [R.pv]⟩, hown0, by simp, hbel0⟩
        case round =>
          obtain ⟨t, D, rfl, ht, hR, hown', hnn, hbel⟩ := hrel
          have HR := hid hR
          have HN := hid hnn
          clear hR hnn hown0 hbel0
          by_cases hlt : 9 * t < s.size
          · obtain ⟨a, k, hk9, hak, hz⟩ : ∃ a k, k ≤ 9 ∧ a + k = s.size - 9 * t ∧ (k < 9 → a = 0) := by
              by_cases e : s.size - 9 * t ≤ 9
              · exact ⟨0, s.size - 9 * t, e, by omega, fun _ => rfl⟩
              · exact ⟨s.size - 9 * t - 9, 9, by omega, by omega, fun h => by omega⟩
            have hR2 := HR.out.step hlt HD2.out a k hk9 hak hz
            have HR2 := hid hR2
            have HA := hid (And.intro hak hz)
            clear hR2
            rcases (show s.size < 9 * t + 9 ∨ s.size ≤ 9 * t + 9 ∧ 9 * t + 9 ≤ s.size ∨ 9 * t + 9 < s.size by omega) with hc | ⟨hc, hc'⟩ | hc
            all_goals try (exfalso; omega)
            all_goals
              go_wp2
              go_loop [7, 8] (fun n i => ∃ j : Nat, a ≤ j ∧ j ≤ a + k ∧ i = .int .i64 j ∧ n = .int .i64 (sv s a (j - a))) (fun _ i => a + k - (intOf i).toNat)
              case atStart => exact ⟨a, Nat.le_refl _, by omega, by have := HA.out; go_num, by simp [sv]⟩
              case round =>
                obtain ⟨j, hj1, hj2, rfl, rfl⟩ := hrel
                by_cases hj : j < a + k
                · have hjs : j < s.size := by have := HA.out.1; omega
                  have ej := bt_at s j hjs
                  have hd1 := (HD2.out j hjs).1
                  have hd2 := (HD2.out j hjs).2
                  have hsv := sv_small s a (j - a) (by omega) (fun i hi => HD2.out (a + i) (by have := HA.out.1; omega))
                  have hsn := hid (sv_next s a j hj1)
                  have hje : (j : Int) < (s.size : Int) - 9 * (t : Int) := by have := HA.out.1; omega
                  generalize sv s a (j - a) = x at *
                  go_wp2
                  go_round
                  case rel => exact ⟨j + 1, by omega, by omega, by go_num, by rw [hsn.out]; go_num⟩
                  case measure => simp [intOf]; omega
                · have hje : ¬ (j : Int) < (s.size : Int) - 9 * (t : Int) := by have := HA.out.1; omega
                  have hjk : j - a = k := by omega
                  rw [hjk]
                  clear hjk
                  have HX := hid (show sv s a k = sv s a k from rfl)
                  generalize sv s a k = x at *
                  go_wp2_with (at_builtin; refine wpList_append_own _ rfl _ _ 27 rfl (w.heap.size + 1) 3 i0 (.int .i64 0) 1 8 Tryd.underlying27 hi hz0 hz1 hz2 rfl (by decide) _ _ _ rfl (hown'.alloc _) ⟨wr.heap.size, 0, none⟩ 1 1 [.int .i64 (x : Int)] rfl rfl (by intro j u hu; match j, hu with | 0, hu => simp at hu; subst hu; simp [Addr.add]) (by intro u hu; simp at hu; subst hu; rfl) (by unfold maxLen; omega) (by omega) (by have := hbel.size; simp; omega) ?_)
                  intro v' w1 hown2 hgrow hnil
                  have hb2 : Below (w.heap.size + 1) W w1 := (below_alloc' hbel hWt _).grown hgrow (by have := hbel.size; simp; omega) (fun q hq => (hown'.lt q hq).1)
                  have hown3 : w1.ownsRow (w.heap.size + 1) 3 1 v' (t + 1) (i64s (D ++ [x])) := by simpa [i64s] using hown2
                  have hnn2 : v' ≠ .slice none 0 0 := hnil
                  have HN2 := hid hnn2
                  clear hown2 hgrow hnil hnn2 hown' hbel
                  go_wp2
                  go_roundw
                  case rel => exact ⟨t + 1, D ++ [x], by go_num, by omega, HR2.out, hown3, HN2.out, hb2⟩
                  case measure => simp [intOf]; omega
          · obtain ⟨g, cp, hu⟩ : ∃ g cp, u5 = .slice (some ⟨g, 0, none⟩) D.length cp := by
              rcases hown'.2 with ⟨h, _⟩ | ⟨g, cp, cur, hv, _⟩
              · exact absurd h HN.out
              · exact ⟨g, cp, by rw [hv, HR.out.1]⟩
            have hbw : Below w.heap.size w wr := hWb.trans (hbel.mono (by omega))
            have hZ := (hbel.cell (p := ⟨w.heap.size, 0, none⟩) (by show w.heap.size < _; omega)).trans hWz
            have hF := (hbel.frozen (p := ⟨w.heap.size, 0, none⟩) (by show w.heap.size < _; omega)).trans hWf
            have hsz : w.heap.size < wr.heap.size := by have := hbel.size; omega
            have hown2 : wr.ownsRow (w.heap.size + 1) 3 1 (.slice (some ⟨g, 0, none⟩) D.length cp) D.length (i64s D) := by
              have := hown'; rw [hu, ← HR.out.1] at this; exact this
            have hval : R.val D = num s := by
              obtain ⟨r1, r2, r3⟩ := HR.out
              rw [show s.size - 9 * t = 0 by omega] at r3
              simp only [dv, Nat.zero_mul, Nat.zero_add] at r3
              unfold num; rw [r3, R.pv_val D t (by omega)]
            have HV := hid hval
            have HL := hid (show D.length ≤ s.size / 9 + 1 from by have := HR.out.1; omega)
            rw [hu]
            clear hval hown' hu
            go_wp2_with fail
            refine (rtrim_base wr (w.heap.size + 1) g cp D HR.out.2.1 hown2).mono ?_
            rintro e w2 ⟨⟨sl, M, rfl, hM, bM, tM, vM, lM⟩, hb2⟩
            obtain ⟨ao, cap, hsl⟩ := ints_slice hM
            rw [hsl]
            rw [hsl] at hM
            have hZ2 := (hb2.cell (p := ⟨w.heap.size, 0, none⟩) (by exact hsz)).trans hZ
            have hF2 := (hb2.frozen (p := ⟨w.heap.size, 0, none⟩) (by exact hsz)).trans hF
            have hM2 := ownsRow_setCell_below hM (a := ⟨w.heap.size, 0, none⟩) (by show w.heap.size < _; omega) (.slice ao M.length cap)
            have hB2 := (hbw.trans (hb2.mono (by omega))).setCell (p := ⟨w.heap.size, 0, none⟩) (Nat.le_refl _) (.slice ao M.length cap)
            have HM := hid (show R.val M = num s from by rw [vM]; exact HV.out)
            clear hM hsl vM hown2 hZ hF
            go_wp2
            exact bodyPost_ret (v := .tuple #[.agg #[.slice ao M.length cap], .int .i64 0]) (by simp [results, Tryd.results47, go_sem, hZ2]) rfl ⟨Or.inl ⟨⟨H0.out.1, H0.out.2, HD2.out⟩, _, rfl, _, M, rfl, ownsRow_base0 hM2, bM, tM, HM.out, Nat.le_trans lM HL.out⟩, hB2⟩
theorem rparse_yes (s : ByteArray) (w : World) (hs : s.size ≤ 1000000000) (h : Txt s) :
    Calls Tryd.prog 47 #[.string s] w fun e w' => (∃ v, e = .returned (.tuple #[v, .int .i64 0]) ∧ RefIs w' v (num s) (s.size / 9 + 1)) ∧ Below w.heap.size w w' := by
  refine (rparse_loop s w hs h.1 h.2.1).mono ?_
  rintro e w' ⟨h' | h', hw⟩
  · exact ⟨h'.2, hw⟩
  · exact absurd h h'.1
theorem rparse_no (s : ByteArray) (w : World) (hs : s.size ≤ 1000000000) (h : ¬ Txt s) :
    Calls Tryd.prog 47 #[.string s] w fun e w' => e = .returned (.tuple #[.agg #[.slice none 0 0], .int .i64 10]) ∧ Below w.heap.size w w' := by
  by_cases h0 : s.size = 0
  · exact rparse_empty s w h0
  · by_cases h1 : 1 < s.size ∧ bt s 0 = 48
    · exact rparse_nought s w h1.1 h1.2
    · refine (rparse_loop s w hs h0 (fun a b => h1 ⟨a, b⟩)).mono ?_
      rintro e w' ⟨h' | h', hw⟩
      · exact absurd h'.1 h
      · exact ⟨h'.2, hw⟩
end Go.Proofs.YtchibjdhdbkdhaaDoor
