/- The law LexJoins. -/
import Derived.Test.YtpjajpgphdnglaaDoorLHelp
import Derived.Test.YtpjajpgphdnglaaDoorLZWords
import Derived.Test.YtpjajpgphdnglaaDoorLJoin
import Derived.Laws.AppendOwnNone
namespace Go.Proofs.YtpjajpgphdnglaaDoor
open Go.RowKit
set_option linter.unusedVariables false
set_option maxRecDepth 100000
set_option linter.unusedSimpArgs false

theorem join_size (L : List ByteArray) : (joinB L).size = (jn 32 (L.map bl)).length := ofL_size _
theorem parts_bl (c : UInt8) (s : ByteArray) : (parts c s).map bl = cutAt c (bl s) := by
  unfold parts
  rw [List.map_map, show (bl ∘ ofL) = id from funext fun x => bl_ofL x, List.map_id]
theorem join_parts (s : ByteArray) : joinB (parts 32 s) = s := by
  unfold joinB
  rw [parts_bl, jn_cutAt, ofL_bl]
theorem parts_jn (s : ByteArray) : (jn 32 ((parts 32 s).map bl)).length = s.size := by
  rw [parts_bl, jn_cutAt, bl_len]
/-- A slice that came in: nil, or one with an address. -/
def InSlice (v : Value) (n : Nat) : Prop := (v = .slice none 0 0 ∧ n = 0) ∨ ∃ x c, v = .slice (some x) n c
theorem strs_cells {w : World} {x : Addr} {n c : Nat} {L : List ByteArray} (h : Strs w (.slice (some x) n c) L) : ∀ j u, (strV L)[j]? = some u → w.cell? (x.add j) = some u := by
  intro j u hu
  have hj : j < L.length := by
    rcases Nat.lt_or_ge j L.length with h' | h'
    · exact h'
    · rw [List.getElem?_eq_none (by rw [strV_len]; exact h')] at hu; cases hu
  obtain ⟨b, off, c', e1, _, _, f, _⟩ := h.at j hj
  simp only [Value.slice.injEq, Option.some.injEq] at e1
  obtain ⟨rfl, _, _⟩ := e1
  rw [add_off, f]
  rw [← hu]; simp [strV, hj]
theorem strV_one (L : List ByteArray) : ∀ u ∈ strV L, u.oneCell' = true := by
  intro u hu
  obtain ⟨x, _, rfl⟩ := List.mem_map.1 hu
  rfl
set_option maxHeartbeats 3200000 in
theorem lexJoins_any (v : Value) (L : List ByteArray) (w : World) (hv : Strs w v L) (hin : InSlice v L.length) (hm : Mx w) :
    Calls Tryd.prog 6 #[v] w fun e w' => e = .returned (.bool true) ∧ Below w.heap.size w w' := by
  obtain ⟨i0, hi, hz0, hz1, hz2⟩ := info_parts info_string
  have hH := heavy_any w v L ((jn 32 (L.map bl)).length ≤ 16384 ∧ L.length ≤ 16384) (hid fun h => join_few h) hv
  obtain ⟨a, c, hvv, hlc, hcm⟩ := hv.slice
  subst hvv
  go_enter Tryd.func6, Tryd.ntmps6
  go_wp2_with fail
  refine hH.mono ?_
  clear hH
  rintro e w1 ⟨rfl | ⟨rfl, hj, hl⟩, b1⟩
  · go_wp2
    go_ret
    exact ⟨rfl, b1⟩
  have hv1 := hv.below b1
  have hm1 := hm.below b1
  have B0 : (w1.alloc (Obj.cells #[] 9)).ownsRow w1.heap.size 9 1 (.slice (some ⟨w1.heap.size, 0, none⟩) 0 0) 0 [] := World.ownsRow_made w1 #[] 0 (Nat.le_refl _) (Nat.zero_le _) (by simp)
  have b0 := (Below.refl w1.heap.size w1).alloc (Nat.le_refl _) (Obj.cells #[] 9)
  have hjs : (joinB L).size ≤ 16384 := by rw [join_size]; exact hj
  obtain ⟨s, Hs⟩ : ∃ s, Hid (s = joinB L) := ⟨_, rfl⟩
  rw [← Hs.out] at hjs
  have HJ := hid (show ∀ (W : World) (X : Value), Strs W X L → Calls Tryd.prog 18 #[X] W fun e w' => e = .returned (.string s) ∧ Below W.heap.size W w' from fun W X h => by rw [Hs.out]; exact join_any W X L h (by omega))
  have HZ := hid (show ∀ (W : World) (X : Value), Strs W X L → Calls Tryd.prog 8 #[X] W fun e w' => e = .returned (.string s) ∧ Below W.heap.size W w' from fun W X h => by rw [Hs.out]; exact zjoin_any W X L h (by omega))
  have HW := hid (fun (v : World) (h : Mx v) => words_any s v (by omega) h)
  have HZW := hid (fun (v : World) => zwords_any s v (by omega))
  have HJ2 := hid (show wordsE s = 0 → ∀ (W : World) (X : Value), Strs W X (wordsL s) → Calls Tryd.prog 18 #[X] W fun e w' => e = .returned (.string s) ∧ Below W.heap.size W w' from fun h0 W X h => by
    have h2 := join_any W X _ h (by rw [wordsL_ok h0, parts_jn]; omega)
    rw [wordsL_ok h0, join_parts] at h2
    exact h2)
  generalize wordsE s = E at *
  generalize wordsL s = M at *
  have HSz := hid hv.2
  clear hj
  rcases hin with ⟨hin1, hin2⟩ | ⟨x, c', hin1⟩
  · simp only [Value.slice.injEq] at hin1
    obtain ⟨rfl, hl0, rfl⟩ := hin1
    obtain rfl : L = [] := List.eq_nil_of_length_eq_zero hin2
    clear hin2 hl0
    simp only [List.length_nil] at *
    go_wp2_with (at_builtin; refine wpList_append_own_none rfl _ _ 22 rfl w1.heap.size 9 i0 1 Tryd.underlying22 hi _ _ _ rfl B0 rfl ?_)
    obtain ⟨X, hXX⟩ : ∃ X, (.slice (some ⟨w1.heap.size, 0, none⟩) 0 0 : Value) = X := ⟨_, rfl⟩
    have O : (w1.alloc (Obj.cells #[] 9)).ownsRow w1.heap.size 9 1 X ([] : List ByteArray).length (strV []) := by rw [← hXX]; exact B0
    have bb := b0
    rw [hXX]
    clear B0 b0 hXX
    generalize w1.alloc (Obj.cells #[] 9) = W at *
    obtain ⟨L, hLL⟩ : ∃ L : List ByteArray, Hid (L = []) := ⟨_, rfl⟩
    rw [← hLL.out] at O hv1 HJ HZ HSz
    have SX : Strs W X L := ⟨Row1.of_own (base := w1.heap.size) (e := 9) (by rw [strV_len]; exact O), HSz.out⟩
    have hvW := hv1.below bb
    have hmW := hm1.below bb
    have bW := chain2 b1 bb
    clear O hv1 hm1 b1 bb
    obtain ⟨xa, xc, hX, _, _⟩ := SX.slice
    rw [hX] at SX ⊢
    go_wp2_with fail
    refine (HJ.out _ _ SX).mono ?_
    rintro e w3 ⟨rfl, b3'⟩
    have SX := SX.below b3'
    have hvW := hvW.below b3'
    have hmW := hmW.below b3'
    have b3 := chain2 bW b3'
    clear bW b3'
    go_wp2_with fail
    refine (HW.out _ hmW).mono ?_
    rintro e w4 ⟨⟨v4, rfl, S4⟩, b4'⟩
    have SX := SX.below b4'
    have hvW := hvW.below b4'
    have b4 := chain2 b3 b4'
    clear b3 b4' hmW
    obtain ⟨a4, c4, hv4, _, _⟩ := S4.slice
    rw [hv4] at S4 ⊢
    go_wp2_with fail
    refine (HZW.out _).mono ?_
    rintro e w5 ⟨⟨v5, rfl, S5⟩, b5'⟩
    have SX := SX.below b5'
    have hvW := hvW.below b5'
    have S4 := S4.below b5'
    have b5 := chain2 b4 b5'
    clear b4 b5'
    obtain ⟨a5, c5, hv5, _, _⟩ := S5.slice
    rw [hv5] at S5 ⊢
    go_wp2_with fail
    refine (HZ.out _ _ hvW).mono ?_
    rintro e w6 ⟨rfl, b6'⟩
    have SX := SX.below b6'
    have hvW := hvW.below b6'
    have S4 := S4.below b6'
    have S5 := S5.below b6'
    have b6 := chain2 b5 b6'
    clear b5 b6'
    go_wp2_with fail
    refine (same_true _ _ _ L SX hvW).mono ?_
    rintro e w7 ⟨rfl, b7'⟩
    have S4 := S4.below b7'
    have S5 := S5.below b7'
    have b7 := chain2 b6 b7'
    clear b6 b7' SX hvW
    go_wp2_with fail
    refine (same_true _ _ _ M S4 S5).mono ?_
    rintro e w8 ⟨rfl, b8'⟩
    have S4 := S4.below b8'
    have b8 := chain2 b7 b8'
    clear b7 b8' S5
    by_cases hE : E = 0
    · subst hE
      go_wp2_with fail
      refine (HJ2.out (by simp) _ _ S4).mono ?_
      rintro e w9 ⟨rfl, b9'⟩
      have b9 := chain2 b8 b9'
      go_wp2
      go_ret
      exact ⟨by simp, b9⟩
    · have tE : (E == 0) = false := beq_eq_false_iff_ne.2 hE
      go_wp2
      go_ret
      exact ⟨by simp, b8⟩
  · simp only [Value.slice.injEq] at hin1
    obtain ⟨rfl, _, rfl⟩ := hin1
    have hv0 := hv1.below b0
    unfold maxLen at hcm
    go_wp2_with (at_builtin; refine wpList_append_own _ rfl _ _ 22 rfl w1.heap.size 9 i0 (.string ByteArray.empty) 1 16 Tryd.underlying22 hi hz0 hz1 hz2 rfl (by decide) _ _ _ rfl B0 x L.length c (strV L) rfl (by rw [strV_len]; simp) (strs_cells hv0) (strV_one L) (by unfold maxLen; omega) (by omega) (by simp) ?_)
    intro X W O g9 _
    have bb : Below w1.heap.size w1 W := b0.grown g9 (by simp) (fun q hq => (B0.lt q hq).1)
    have O : W.ownsRow w1.heap.size 9 1 X L.length (strV L) := by simpa using O
    clear B0 b0 g9 hv0
    have SX : Strs W X L := ⟨Row1.of_own (base := w1.heap.size) (e := 9) (by rw [strV_len]; exact O), HSz.out⟩
    have hvW := hv1.below bb
    have hmW := hm1.below bb
    have bW := chain2 b1 bb
    clear O hv1 hm1 b1 bb
    obtain ⟨xa, xc, hX, _, _⟩ := SX.slice
    rw [hX] at SX ⊢
    go_wp2_with fail
    refine (HJ.out _ _ SX).mono ?_
    rintro e w3 ⟨rfl, b3'⟩
    have SX := SX.below b3'
    have hvW := hvW.below b3'
    have hmW := hmW.below b3'
    have b3 := chain2 bW b3'
    clear bW b3'
    go_wp2_with fail
    refine (HW.out _ hmW).mono ?_
    rintro e w4 ⟨⟨v4, rfl, S4⟩, b4'⟩
    have SX := SX.below b4'
    have hvW := hvW.below b4'
    have b4 := chain2 b3 b4'
    clear b3 b4' hmW
    obtain ⟨a4, c4, hv4, _, _⟩ := S4.slice
    rw [hv4] at S4 ⊢
    go_wp2_with fail
    refine (HZW.out _).mono ?_
    rintro e w5 ⟨⟨v5, rfl, S5⟩, b5'⟩
    have SX := SX.below b5'
    have hvW := hvW.below b5'
    have S4 := S4.below b5'
    have b5 := chain2 b4 b5'
    clear b4 b5'
    obtain ⟨a5, c5, hv5, _, _⟩ := S5.slice
    rw [hv5] at S5 ⊢
    go_wp2_with fail
    refine (HZ.out _ _ hvW).mono ?_
    rintro e w6 ⟨rfl, b6'⟩
    have SX := SX.below b6'
    have hvW := hvW.below b6'
    have S4 := S4.below b6'
    have S5 := S5.below b6'
    have b6 := chain2 b5 b6'
    clear b5 b6'
    go_wp2_with fail
    refine (same_true _ _ _ L SX hvW).mono ?_
    rintro e w7 ⟨rfl, b7'⟩
    have S4 := S4.below b7'
    have S5 := S5.below b7'
    have b7 := chain2 b6 b7'
    clear b6 b7' SX hvW
    go_wp2_with fail
    refine (same_true _ _ _ M S4 S5).mono ?_
    rintro e w8 ⟨rfl, b8'⟩
    have S4 := S4.below b8'
    have b8 := chain2 b7 b8'
    clear b7 b8' S5
    by_cases hE : E = 0
    · subst hE
      go_wp2_with fail
      refine (HJ2.out (by simp) _ _ S4).mono ?_
      rintro e w9 ⟨rfl, b9'⟩
      have b9 := chain2 b8 b9'
      go_wp2
      go_ret
      exact ⟨by simp, b9⟩
    · have tE : (E == 0) = false := beq_eq_false_iff_ne.2 hE
      go_wp2
      go_ret
      exact ⟨by simp, b8⟩
end Go.Proofs.YtpjajpgphdnglaaDoor
