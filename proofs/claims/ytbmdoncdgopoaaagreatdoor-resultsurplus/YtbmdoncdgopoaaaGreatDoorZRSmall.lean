/- The document's small: a number times a digit, and a digit more. -/
import Derived.Test.YtbmdoncdgopoaaaGreatDoorPk10
namespace Go.Proofs.YtbmdoncdgopoaaaGreatDoor
open Go.RowKit
set_option linter.unusedVariables false
set_option maxRecDepth 100000
set_option linter.unusedSimpArgs false

def RSmallRel (A D : List Nat) (f m c : Nat) : Prop := R.Bd D ∧ R.pv D D.length + c * 1000000000 ^ D.length = R.pv A D.length * f + m
theorem RSmallRel.step {A D : List Nat} {f m c : Nat} (h : RSmallRel A D f m c) : RSmallRel A (D ++ [(c + lg A D.length * f) % 1000000000]) f m ((c + lg A D.length * f) / 1000000000) := by
  obtain ⟨h1, h2⟩ := h
  refine ⟨R.Bd_app h1 _ (Nat.mod_lt _ (by omega)), ?_⟩
  rw [R.pv_app, List.length_append, List.length_singleton]
  show _ + _ = R.pv A (D.length + 1) * f + m
  simp only [R.pv]
  rw [Nat.pow_succ]
  generalize 1000000000 ^ D.length = p at *
  have hd := Nat.div_add_mod (c + lg A D.length * f) 1000000000
  generalize (c + lg A D.length * f) % 1000000000 = r at *
  generalize (c + lg A D.length * f) / 1000000000 = q at *
  have e1 : (1000000000 * q + r) * p = (c + lg A D.length * f) * p := by rw [hd]
  rw [Nat.add_mul, Nat.add_mul] at e1
  have e2 : q * (p * 1000000000) = 1000000000 * q * p := by rw [Nat.mul_comm p, ← Nat.mul_assoc, Nat.mul_comm q]
  have e3 : (R.pv A D.length + lg A D.length * p) * f = R.pv A D.length * f + lg A D.length * f * p := by rw [Nat.add_mul, Nat.mul_right_comm]
  rw [e2, e3]
  omega
theorem RSmallRel.done {A D : List Nat} {f m c : Nat} (h : RSmallRel A D f m c) (hc : c < 1000000000) (hl : D.length = A.length) : R.Bd (D ++ [c]) ∧ R.val (D ++ [c]) = R.val A * f + m := by
  obtain ⟨h1, h2⟩ := h
  refine ⟨R.Bd_app h1 _ hc, ?_⟩
  unfold R.val
  rw [R.pv_app, h2, hl]
theorem small_fits {x f c : Nat} (hx : x < 1000000000) (hf : f < 1000000000) (hc : c < 1000000000) : c + x * f < 1000000000000000000 ∧ x * f < 1000000000000000000 := by
  have : x * f ≤ 999999999 * 999999999 := Nat.mul_le_mul (by omega) (by omega)
  omega
theorem small_prod {x f y : Nat} (hy : x * f = y) (h : y < 1000000000000000000) : wrap64 ((x : Int) * (f : Int)) = (y : Int) := by
  have e : (x : Int) * (f : Int) = (y : Int) := by rw [← hy]; simp
  rw [e]; clear e hy; unfold wrap64; omega
set_option maxHeartbeats 2000000 in
theorem rsmall_walk (w : World) (aa : Option Addr) (na ca f m : Nat) (A : List Nat) (hA : R.Bd A) (hna : na ≤ 1000000000) (hAl : A.length = na) (hf : f < 1000000000) (hm : m < 1000000000) (oa : w.ownsRow 0 3 1 (.slice aa na ca) na (i64s A)) :
    Calls Tryz.prog 185 #[.agg #[.slice aa na ca], .int .i64 f, .int .i64 m] w fun e w' => ∃ v, e = .returned v ∧ RefIs w' v (R.val A * f + m) (na + 1) ∧ Below w.heap.size w w' := by
  obtain ⟨i0, hi, hz0, hz1, hz2⟩ := info_parts Tryz.info3
  have HN := hid hAl
  have OA := hid (show w.ownsRow 0 3 1 (.slice aa na ca) A.length (i64s A) by rw [hAl]; exact oa)
  clear hAl oa
  have hown0 : (((w.alloc (Obj.cells #[Value.slice aa na ca] 31)).alloc (Obj.cells #[Value.slice none 0 0] 31)).alloc (Obj.cells #[] 3)).ownsRow (w.heap.size + 1 + 1) 3 1 (.slice (some ⟨w.heap.size + 1 + 1, 0, none⟩) 0 0) 0 (i64s []) := by
    have := World.ownsRow_made (base := w.heap.size + 1 + 1) (e := 3) (size := 1) ((w.alloc (Obj.cells #[Value.slice aa na ca] 31)).alloc (Obj.cells #[Value.slice none 0 0] 31)) #[] 0 (by simp) (by unfold maxLen; omega) (by simp)
    simpa [i64s] using this
  go_enter Tryz.func185, Tryz.ntmps185
  go_wp2
  have x1 := box_alloc (box_new w (Obj.cells #[Value.slice aa na ca] 31)) (Obj.cells #[Value.slice none 0 0] 31)
  have x3 : ((w.alloc (Obj.cells #[Value.slice aa na ca] 31)).alloc (Obj.cells #[Value.slice none 0 0] 31)).heap[w.heap.size + 1]? = some (Obj.cells #[Value.slice none 0 0] 31) := by
    have := box_new (w.alloc (Obj.cells #[Value.slice aa na ca] 31)) (Obj.cells #[Value.slice none 0 0] 31); simpa using this
  have hWb : Below w.heap.size w ((w.alloc (Obj.cells #[Value.slice aa na ca] 31)).alloc (Obj.cells #[Value.slice none 0 0] 31)) := below_alloc' (below_alloc' (Below.refl _ _) (Nat.le_refl _) _) (Nat.le_refl _) _
  have hWs : ((w.alloc (Obj.cells #[Value.slice aa na ca] 31)).alloc (Obj.cells #[Value.slice none 0 0] 31)).heap.size = w.heap.size + 1 + 1 := by simp
  have hb1 : Below (w.heap.size + 1 + 1) ((w.alloc (Obj.cells #[Value.slice aa na ca] 31)).alloc (Obj.cells #[Value.slice none 0 0] 31)) (((w.alloc (Obj.cells #[Value.slice aa na ca] 31)).alloc (Obj.cells #[Value.slice none 0 0] 31)).alloc (Obj.cells #[] 3)) := below_alloc' (Below.refl _ _) (by omega) _
  generalize (w.alloc (Obj.cells #[Value.slice aa na ca] 31)).alloc (Obj.cells #[Value.slice none 0 0] 31) = W at *
  have hWt : w.heap.size + 1 + 1 ≤ W.heap.size := by omega
  clear hWs
  go_loopw [2, 7, 8] (fun c v i wr => ∃ (d : Nat) (D : List Nat), D.length ≤ na ∧ i = .int .i64 (D.length : Nat) ∧ c = .int .i64 d ∧ d < 1000000000 ∧ RSmallRel A D f m d ∧ wr.ownsRow (w.heap.size + 1 + 1) 3 1 v D.length (i64s D) ∧ Below (w.heap.size + 1 + 1) W wr) (fun _ _ i _ => na - (intOf i).toNat)
  case atStart => exact ⟨m, [], by simp, rfl, rfl, hm, ⟨by intro j; simp [lg], by simp [R.pv]⟩, hown0, hb1⟩
  case round =>
    obtain ⟨d, D, hk, rfl, rfl, hd, hR, hown, hbel⟩ := hrel
    have HR := hid hR
    clear hR hown0 hb1
    have hbw : Below w.heap.size w wr := hWb.trans (hbel.mono (by omega))
    have j1 := box_below hbel x1 (by omega)
    have e1 := cell_of_one j1
    obtain ⟨k, hkD⟩ : ∃ k, k = D.length := ⟨_, rfl⟩
    have HK := hid hkD
    rw [← hkD] at hk hown ⊢
    clear hkD j1
    by_cases hlt : k < na
    · have hA9 := hA k
      have HS := hid (show RSmallRel A (D ++ [(d + lg A k * f) % 1000000000]) f m ((d + lg A k * f) / 1000000000) from by rw [HK.out]; exact HR.out.step)
      obtain ⟨ga, rfl⟩ : ∃ ga, aa = some ⟨ga, 0, none⟩ := by
        rcases OA.out.2 with ⟨h', _⟩ | ⟨g, cap, cur, h', _⟩
        · simp at h'; omega
        · simp only [Value.slice.injEq] at h'; exact ⟨g, h'.1⟩
      have cA := i64s_at (by have := ownsRow_below OA.out hbw; rw [HN.out] at this; exact this) k (by have := HN.out; omega)
      obtain ⟨hT2, hT3⟩ := small_fits hA9 hf hd
      obtain ⟨y, hy⟩ : ∃ y, lg A k * f = y := ⟨_, rfl⟩
      rw [hy] at hT2 hT3 HS
      obtain ⟨T, hT⟩ : ∃ T, d + y = T := ⟨_, rfl⟩
      rw [hT] at hT2 HS
      have hTi : (d : Int) + (y : Int) = (T : Int) := by rw [← hT]; simp
      have eW := small_prod hy hT3
      have hsz := hbel.size
      clear hy hT
      generalize lg A k = x at *
      go_wp2_with (at_builtin; refine wpList_append_own _ rfl _ _ 29 rfl (w.heap.size + 1 + 1) 3 i0 (.int .i64 0) 1 8 Tryz.underlying29 hi hz0 hz1 hz2 rfl (by decide) _ _ _ rfl (hown.alloc _) ⟨wr.heap.size, 0, none⟩ 1 1 [.int .i64 ((T : Int) % 1000000000)] rfl rfl (by intro j u hu; match j, hu with | 0, hu => simp at hu; subst hu; simp [Addr.add]) (by intro u hu; simp at hu; subst hu; rfl) (by unfold maxLen; omega) (by omega) (by have := hbel.size; simp; omega) ?_)
      intro v' w1 hown3 hgrow hnil
      have hb3 : Below (w.heap.size + 1 + 1) W w1 := (below_alloc' hbel hWt _).grown hgrow (by have := hbel.size; simp; omega) (fun q hq => (hown.lt q hq).1)
      have hown4 : w1.ownsRow (w.heap.size + 1 + 1) 3 1 v' (D ++ [T % 1000000000]).length (i64s (D ++ [T % 1000000000])) := by
        rw [i64s_app, List.length_append, List.length_singleton, ← HK.out]; simpa using hown3
      have HO := hid hown4
      have HL := hid (show (D ++ [T % 1000000000]).length = k + 1 from by rw [List.length_append, List.length_singleton, ← HK.out])
      clear hown3 hown4 hgrow hnil hown hbel e1 hbw cA hTi
      go_wp2
      go_roundw
      case rel => exact ⟨T / 1000000000, D ++ [T % 1000000000], by have := HL.out; omega, by rw [HL.out]; go_num, by go_num, by omega, HS.out, HO.out, hb3⟩
      case measure => simp [intOf]; omega
    · have hkn : k = na := by omega
      have HF := hid (HR.out.done hd (by have := HN.out; have := HK.out; omega))
      have HL := hid (show (D ++ [d]).length = na + 1 from by rw [List.length_append, List.length_singleton, ← HK.out, hkn])
      clear hkn
      go_wp2_with (at_builtin; refine wpList_append_own _ rfl _ _ 29 rfl (w.heap.size + 1 + 1) 3 i0 (.int .i64 0) 1 8 Tryz.underlying29 hi hz0 hz1 hz2 rfl (by decide) _ _ _ rfl (hown.alloc _) ⟨wr.heap.size, 0, none⟩ 1 1 [.int .i64 (d : Int)] rfl rfl (by intro j u hu; match j, hu with | 0, hu => simp at hu; subst hu; simp [Addr.add]) (by intro u hu; simp at hu; subst hu; rfl) (by unfold maxLen; omega) (by omega) (by have := hbel.size; simp; omega) ?_)
      intro v' w1 hown3 hgrow hnil
      have hb3 : Below (w.heap.size + 1 + 1) W w1 := (below_alloc' hbel hWt _).grown hgrow (by have := hbel.size; simp; omega) (fun q hq => (hown.lt q hq).1)
      have hown4 : w1.ownsRow (w.heap.size + 1 + 1) 3 1 v' (D ++ [d]).length (i64s (D ++ [d])) := by
        rw [i64s_app, List.length_append, List.length_singleton, ← HK.out]; simpa using hown3
      clear hown3 hgrow hnil hown hbel e1 hbw
      obtain ⟨g, cap, hv⟩ : ∃ g cap, v' = .slice (some ⟨g, 0, none⟩) (D ++ [d]).length cap := by
        rcases hown4.2 with ⟨h0, h0'⟩ | ⟨g, cap, cur, hv, _⟩
        · have := HL.out; simp at h0'
        · exact ⟨g, cap, hv⟩
      rw [hv] at hown4 ⊢
      clear hv
      clear HR HK
      generalize D ++ [d] = E at *
      go_wp2_with fail
      refine (rtrim_base w1 (w.heap.size + 1 + 1) g cap E HF.out.1 hown4).mono ?_
      rintro e w3 ⟨⟨sl, M, rfl, hM, bM, tM, vM, lM⟩, hb4⟩
      have hx3 := box_below (hb3.trans (hb4.mono (by have := hb3.size; omega))) x3 (by omega)
      have hbw : Below w.heap.size w w3 := hWb.trans ((hb3.trans (hb4.mono (by have := hb3.size; omega))).mono (by omega))
      obtain ⟨ao, cp, hv⟩ := ints_slice hM
      rw [hv] at hM ⊢
      have cz := cell_of_one hx3
      have fz := free_of_one hx3
      have hM2 := own_box (ownsRow_base0 hM) hx3 (by decide) (.slice ao M.length cp)
      have hB2 := hbw.setCell (p := ⟨w.heap.size + 1, 0, none⟩) (by show w.heap.size ≤ w.heap.size + 1; omega) (.slice ao M.length cp)
      have hr := cell_of_one (one_setCell (u := .slice ao M.length cp) hx3)
      have HRr := hid hr
      have HV := hid (show R.val M = R.val A * f + m ∧ M.length ≤ na + 1 from ⟨vM.trans HF.out.2, by have := HL.out; omega⟩)
      clear hv hM hx3 hr vM lM hb3 hb4 hown4
      go_wp2
      exact bodyPost_ret (v := .agg #[.slice ao M.length cp]) (by simp [results, Tryz.results185, go_sem, HRr.out]) rfl ⟨_, rfl, ⟨_, M, rfl, hM2, bM, tM, HV.out.1, HV.out.2⟩, hB2⟩
theorem rsmall_any (w : World) (a : Value) (n K f m : Nat) (hK : K ≤ 1000000000) (hf : f < 1000000000) (hm : m < 1000000000) (ha : RefIs w a n K) :
    Calls Tryz.prog 185 #[a, .int .i64 f, .int .i64 m] w fun e w' => ∃ v, e = .returned v ∧ RefIs w' v (n * f + m) (K + 1) ∧ Below w.heap.size w w' := by
  obtain ⟨sa, A, rfl, oa, bA, tA, rfl, lA⟩ := ha
  obtain ⟨aa, ca, rfl⟩ := ints_slice oa
  refine (rsmall_walk w aa A.length ca f m A bA (by omega) rfl hf hm oa).mono ?_
  rintro e w' ⟨v, rfl, hv, hw⟩
  exact ⟨v, rfl, hv.mono (by omega), hw⟩
end Go.Proofs.YtbmdoncdgopoaaaGreatDoor
