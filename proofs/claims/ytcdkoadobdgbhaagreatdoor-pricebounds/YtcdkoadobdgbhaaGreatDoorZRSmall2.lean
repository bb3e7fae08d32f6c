/- The document's small2: a lowest digit put to a number. -/
import Derived.Test.YtcdkoadobdgbhaaGreatDoorPk10
import Derived.Test.YtcdkoadobdgbhaaGreatDoorPk5
import Derived.Test.YtcdkoadobdgbhaaGreatDoorPk7
import Derived.Laws.AppendOwnNone
namespace Go.Proofs.YtcdkoadobdgbhaaGreatDoor
open Go.RowKit
set_option linter.unusedVariables false
set_option maxRecDepth 100000
set_option linter.unusedSimpArgs false

theorem small2_pv (A : List Nat) (x k : Nat) : R.pv (x :: A) (k + 1) = R.pv A k * 1000000000 + x := by
  induction k with
  | zero => simp [R.pv, lg]
  | succ k ih =>
    rw [show R.pv (x :: A) (k + 1 + 1) = R.pv (x :: A) (k + 1) + lg (x :: A) (k + 1) * 1000000000 ^ (k + 1) from rfl, ih]
    simp only [R.pv]
    rw [show lg (x :: A) (k + 1) = lg A k by simp [lg], Nat.pow_succ, Nat.add_mul, ← Nat.mul_assoc]
    omega
theorem small2_val (A : List Nat) (x : Nat) (hA : R.Bd A) (hx : x < 1000000000) : R.val (x :: A) = R.val A * 1000000000 + x ∧ R.Bd (x :: A) := by
  refine ⟨small2_pv A x A.length, fun j => ?_⟩
  match j with
  | 0 => simpa [lg] using hx
  | j + 1 => have := hA j; simpa [lg] using this
set_option maxHeartbeats 2000000 in
theorem rsmall2_walk (w : World) (aa : Option Addr) (na ca x : Nat) (A : List Nat) (hA : R.Bd A) (hna : na ≤ 1000000000) (hAl : A.length = na) (hx : x < 1000000000) (oa : w.ownsRow 0 3 1 (.slice aa na ca) na (i64s A)) :
    Calls Tryz.prog 166 #[.agg #[.slice aa na ca], .int .i64 x] w fun e w' => ∃ v, e = .returned v ∧ (∃ ao l c, v = .agg #[.slice ao l c] ∧ ∀ q, (Value.slice ao l c).ownBlock = some q → w.heap.size ≤ q) ∧ RefIs w' v (R.val A * 1000000000 + x) (na + 1) ∧ Below w.heap.size w w' := by
  obtain ⟨i0, hi, hz0, hz1, hz2⟩ := info_parts Tryz.info3
  have HN := hid hAl
  have hWb := boxed2 (Below.refl w.heap.size w) (Obj.cells #[Value.slice aa na ca] 31) (Obj.cells #[Value.slice none 0 0] 31)
  have b1 := boxed2_first w (Obj.cells #[Value.slice aa na ca] 31) (Obj.cells #[Value.slice none 0 0] 31)
  have b2 := boxed2_second w (Obj.cells #[Value.slice aa na ca] 31) (Obj.cells #[Value.slice none 0 0] 31)
  have hWs : ((w.alloc (Obj.cells #[Value.slice aa na ca] 31)).alloc (Obj.cells #[Value.slice none 0 0] 31)).heap.size = w.heap.size + 1 + 1 := by simp
  have hown0 : (((w.alloc (Obj.cells #[Value.slice aa na ca] 31)).alloc (Obj.cells #[Value.slice none 0 0] 31)).alloc (Obj.cells #[Value.int .i64 (x : Int)] 3)).ownsRow (w.heap.size + 1 + 1) 3 1 (.slice (some ⟨w.heap.size + 1 + 1, 0, none⟩) 1 1) 1 (i64s [x]) := by
    have h := World.ownsRow_lit (base := w.heap.size + 1 + 1) (e := 3) (size := 1) ((w.alloc (Obj.cells #[Value.slice aa na ca] 31)).alloc (Obj.cells #[Value.slice none 0 0] 31)) #[Value.int .i64 (x : Int)] 1 (by simp) (by unfold maxLen; omega) (by simp)
    simpa [i64s] using h
  have hb1 : Below (w.heap.size + 1 + 1) ((w.alloc (Obj.cells #[Value.slice aa na ca] 31)).alloc (Obj.cells #[Value.slice none 0 0] 31)) (((w.alloc (Obj.cells #[Value.slice aa na ca] 31)).alloc (Obj.cells #[Value.slice none 0 0] 31)).alloc (Obj.cells #[Value.int .i64 (x : Int)] 3)) := below_alloc' (Below.refl _ _) (by omega) _
  have hform : aa = none ∧ na = 0 ∧ ca = 0 ∨ ∃ ga, aa = some ⟨ga, 0, none⟩ := by
    rcases oa.2 with ⟨h', _⟩ | ⟨g, cap, cur, h', _⟩
    · simp only [Value.slice.injEq] at h'; exact Or.inl h'
    · simp only [Value.slice.injEq] at h'; exact Or.inr ⟨g, h'.1⟩
  have HV := hid (small2_val A x hA hx)
  clear hAl
  rcases hform with ⟨rfl, rfl, rfl⟩ | ⟨ga, rfl⟩
  · have hA0 : A = [] := List.eq_nil_of_length_eq_zero HN.out
    subst hA0
    have HL := hid (show 1 = [x].length from rfl)
    have bx := box_below hb1 b2 (by omega)
    have CB : Below w.heap.size w (((w.alloc (Obj.cells #[Value.slice none 0 0] 31)).alloc (Obj.cells #[Value.slice none 0 0] 31)).alloc (Obj.cells #[Value.int .i64 (x : Int)] 3)) := below_alloc' hWb (Nat.le_refl _) _
    go_enter Tryz.func166, Tryz.ntmps166
    go_wp2_with fail
    generalize ((w.alloc (Obj.cells #[Value.slice none 0 0] 31)).alloc (Obj.cells #[Value.slice none 0 0] 31)).alloc (Obj.cells #[Value.int .i64 (x : Int)] 3) = W1 at *
    refine (rtrim_len W1 (w.heap.size + 1 + 1) (w.heap.size + 1 + 1) 1 1 [x] HL.out HV.out.2 hown0).mono ?_
    rintro e w3 ⟨⟨sl, M, rfl, hM, bM, tM, vM, lM⟩, hb4⟩
    have hx3 := box_below hb4 bx (lt_of_block bx)
    have hbw := chain2 CB hb4
    obtain ⟨ao, cp, hv⟩ := ints_slice hM
    rw [hv] at hM ⊢
    have cz := cell_of_one hx3
    have fz := free_of_one hx3
    have HF := hid (show ∀ q, (Value.slice ao M.length cp).ownBlock = some q → w.heap.size ≤ q from fun q hq => by have := (hM.lt q hq).1; omega)
    have hM2 := own_box (ownsRow_base0 hM) hx3 (by decide) (.slice ao M.length cp)
    have hB2 := hbw.setCell (p := ⟨w.heap.size + 1, 0, none⟩) (by show w.heap.size ≤ w.heap.size + 1; omega) (.slice ao M.length cp)
    have hr := cell_of_one (one_setCell (u := .slice ao M.length cp) hx3)
    have HRr := hid hr
    have HW := hid (And.intro (vM.trans HV.out.1) (show M.length ≤ 0 + 1 by have := HL.out; omega))
    clear hv hM hx3 hr vM lM hb4 hbw
    go_wp2
    exact bodyPost_ret (v := .agg #[.slice ao M.length cp]) (by simp [results, Tryz.results166, go_sem, HRr.out]) rfl ⟨_, rfl, ⟨ao, M.length, cp, rfl, HF.out⟩, ⟨_, M, rfl, hM2, bM, tM, HW.out.1, HW.out.2⟩, hB2⟩
  · have hcell : ∀ j u, (i64s A)[j]? = some u → (((w.alloc (Obj.cells #[Value.slice (some ⟨ga, 0, none⟩) na ca] 31)).alloc (Obj.cells #[Value.slice none 0 0] 31)).alloc (Obj.cells #[Value.int .i64 (x : Int)] 3)).cell? ((⟨ga, 0, none⟩ : Addr).add j) = some u := by
      intro j u hu
      have hj : j < A.length := by
        rcases Nat.lt_or_ge j A.length with h | h
        · exact h
        · rw [List.getElem?_eq_none (by rw [i64s_len]; exact h)] at hu; simp at hu
      have h1 := i64s_at (ownsRow_below oa (below_alloc' hWb (Nat.le_refl _) (Obj.cells #[Value.int .i64 (x : Int)] 3))) j hj
      have h2 : u = .int .i64 (lg A j : Int) := by
        simp [i64s, hj] at hu
        rw [← hu]; simp [lg, hj]
      rw [h2, show (⟨ga, 0, none⟩ : Addr).add j = ⟨ga, j, none⟩ by simp [Addr.add]; omega]
      exact h1
    have hone : ∀ u ∈ i64s A, u.oneCell' = true := by
      intro u hu
      obtain ⟨_, _, rfl⟩ := List.mem_map.1 hu
      rfl
    have hlen : (i64s A).length = na * 1 := by rw [i64s_len]; have := HN.out; omega
    have HL := hid (show 1 + na = (x :: A).length from by have := HN.out; simp; omega)
    have t0 : (((w.alloc (Obj.cells #[Value.slice (some ⟨ga, 0, none⟩) na ca] 31)).alloc (Obj.cells #[Value.slice none 0 0] 31)).alloc (Obj.cells #[Value.int .i64 (x : Int)] 3)).heap.size = w.heap.size + 1 + 1 + 1 := by simp
    have CB : Below w.heap.size w (((w.alloc (Obj.cells #[Value.slice (some ⟨ga, 0, none⟩) na ca] 31)).alloc (Obj.cells #[Value.slice none 0 0] 31)).alloc (Obj.cells #[Value.int .i64 (x : Int)] 3)) := below_alloc' hWb (Nat.le_refl _) _
    have bx := box_below hb1 b2 (by omega)
    go_enter Tryz.func166, Tryz.ntmps166
    go_wp2_with (at_builtin; refine wpList_append_own _ rfl _ _ 29 rfl (w.heap.size + 1 + 1) 3 i0 (.int .i64 0) 1 8 Tryz.underlying29 hi hz0 hz1 hz2 rfl (by decide) _ _ _ rfl hown0 ⟨ga, 0, none⟩ na ca (i64s A) rfl hlen hcell hone (by unfold maxLen; omega) (by omega) (by rw [t0]; omega) ?_)
    intro v' w1 hown3 hgrow hnil
    have hown4 : w1.ownsRow (w.heap.size + 1 + 1) 3 1 v' (1 + na) (i64s (x :: A)) := by simpa [i64s] using hown3
    have hb3 : Below w.heap.size w w1 := CB.grown hgrow (by rw [t0]; omega) (fun q hq => by simp [Value.ownBlock] at hq; omega)
    have bx := (hgrow.block (w.heap.size + 1) (by rw [t0]; omega) (by simp [Value.ownBlock])).trans bx
    obtain ⟨g, cap, hv⟩ : ∃ g cap, v' = .slice (some ⟨g, 0, none⟩) (1 + na) cap := by
      rcases hown4.2 with ⟨h0, h0'⟩ | ⟨g, cap, cur, hv, _⟩
      · omega
      · exact ⟨g, cap, hv⟩
    rw [hv] at hown4 ⊢
    clear hv hown3 hnil hcell hone hgrow CB t0 hown0 hb1
    go_wp2_with fail
    refine (rtrim_len w1 (w.heap.size + 1 + 1) g cap (1 + na) (x :: A) HL.out HV.out.2 hown4).mono ?_
    rintro e w3 ⟨⟨sl, M, rfl, hM, bM, tM, vM, lM⟩, hb4⟩
    have hx3 := box_below hb4 bx (lt_of_block bx)
    have hbw := chain2 hb3 hb4
    obtain ⟨ao, cp, hv⟩ := ints_slice hM
    rw [hv] at hM ⊢
    have cz := cell_of_one hx3
    have fz := free_of_one hx3
    have HF := hid (show ∀ q, (Value.slice ao M.length cp).ownBlock = some q → w.heap.size ≤ q from fun q hq => by have := (hM.lt q hq).1; omega)
    have hM2 := own_box (ownsRow_base0 hM) hx3 (by decide) (.slice ao M.length cp)
    have hB2 := hbw.setCell (p := ⟨w.heap.size + 1, 0, none⟩) (by show w.heap.size ≤ w.heap.size + 1; omega) (.slice ao M.length cp)
    have hr := cell_of_one (one_setCell (u := .slice ao M.length cp) hx3)
    have HRr := hid hr
    have HW := hid (And.intro (vM.trans HV.out.1) (show M.length ≤ na + 1 by have := HL.out; omega))
    clear hv hM hx3 hr vM lM hb4 hbw
    go_wp2
    exact bodyPost_ret (v := .agg #[.slice ao M.length cp]) (by simp [results, Tryz.results166, go_sem, HRr.out]) rfl ⟨_, rfl, ⟨ao, M.length, cp, rfl, HF.out⟩, ⟨_, M, rfl, hM2, bM, tM, HW.out.1, HW.out.2⟩, hB2⟩
theorem rsmall2_any (w : World) (a : Value) (n K x : Nat) (hK : K ≤ 1000000000) (hx : x < 1000000000) (ha : RefIs w a n K) :
    Calls Tryz.prog 166 #[a, .int .i64 x] w fun e w' => ∃ v, e = .returned v ∧ (∃ ao l c, v = .agg #[.slice ao l c] ∧ ∀ q, (Value.slice ao l c).ownBlock = some q → w.heap.size ≤ q) ∧ RefIs w' v (n * 1000000000 + x) (K + 1) ∧ Below w.heap.size w w' := by
  obtain ⟨sa, A, rfl, oa, bA, tA, rfl, lA⟩ := ha
  obtain ⟨aa, ca, rfl⟩ := ints_slice oa
  refine (rsmall2_walk w aa A.length ca x A bA (by omega) rfl hx oa).mono ?_
  rintro e w' ⟨v, rfl, hf, hv, hw⟩
  exact ⟨v, rfl, hf, hv.mono (by omega), hw⟩
end Go.Proofs.YtcdkoadobdgbhaaGreatDoor
