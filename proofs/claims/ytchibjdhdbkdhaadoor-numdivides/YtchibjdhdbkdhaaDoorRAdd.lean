/- The document's digit and Add. -/
import Derived.Test.YtchibjdhdbkdhaaDoorRParse
import Derived.Deep.RegionHeld3
import Derived.Deep.DrawnRows
namespace Go.Proofs.YtchibjdhdbkdhaaDoor
open Go.RowKit
set_option linter.unusedVariables false
set_option maxRecDepth 100000
set_option linter.unusedSimpArgs false
attribute [local go_sem ↓] Go.wp_at_zero Go.wp_at_succ

/-- The document's digit: nought behind the end. -/
theorem rdigit_any (w : World) (v : Value) (L : List Nat) (hb : R.Bd L) (h : w.ownsRow 0 3 1 v L.length (i64s L)) (i : Nat) :
    Calls Tryd.prog 94 #[v, .int .i64 i] w fun e w' => e = .returned (.int .i64 (lg L i : Int)) ∧ w' = w := by
  have hlt := hb i
  rcases h.2 with ⟨h1, h2⟩ | ⟨g, cap, cur, rfl, _, hh, r1, r2, _⟩
  · have hL : L = [] := by simpa using h2
    subst hL
    have e : lg [] i = 0 := by simp [lg]
    rw [e, h1]
    go_enter Tryd.func94, Tryd.ntmps94
    go_wp2
    go_ret
    exact ⟨by simp, rfl⟩
  · unfold maxLen at r2
    by_cases hlt' : i < L.length
    · have hc := i64s_at (L := L) h i hlt'
      go_enter Tryd.func94, Tryd.ntmps94
      go_wp2
      go_ret
      exact ⟨by simp, rfl⟩
    · have e : lg L i = 0 := lg_past L i (by omega)
      rw [e]
      go_enter Tryd.func94, Tryd.ntmps94
      go_wp2
      go_ret
      exact ⟨by simp, rfl⟩
theorem R.Bd_app {D : List Nat} (h : R.Bd D) (x : Nat) (hx : x < 1000000000) : R.Bd (D ++ [x]) := by
  intro j
  rcases Nat.lt_trichotomy j D.length with e | e | e
  · rw [lg_append_old D _ j e]; exact h j
  · subst e; rw [lg_append_new]; omega
  · rw [lg_past _ j (by simp; omega)]; omega
theorem R.pv_app (D : List Nat) (x : Nat) : R.pv (D ++ [x]) (D ++ [x]).length = R.pv D D.length + x * 1000000000 ^ D.length := by
  rw [List.length_append, List.length_singleton]
  simp only [R.pv]
  rw [R.pv_congr (M := D) (fun j hj => lg_append_old D _ j hj), lg_append_new]
def RAddRel (A B D : List Nat) (d : Nat) : Prop := R.Bd D ∧ R.pv D D.length + d * 1000000000 ^ D.length = R.pv A D.length + R.pv B D.length
theorem RAddRel.step {A B D : List Nat} {d : Nat} (h : RAddRel A B D d) : RAddRel A B (D ++ [(lg A D.length + lg B D.length + d) % 1000000000]) ((lg A D.length + lg B D.length + d) / 1000000000) := by
  obtain ⟨h1, h2⟩ := h
  refine ⟨R.Bd_app h1 _ (by omega), ?_⟩
  rw [R.pv_app, List.length_append, List.length_singleton]
  simp only [R.pv, Nat.pow_succ]
  generalize 1000000000 ^ D.length = p at *
  have hd := Nat.div_add_mod (lg A D.length + lg B D.length + d) 1000000000
  generalize (lg A D.length + lg B D.length + d) % 1000000000 = r at *
  generalize (lg A D.length + lg B D.length + d) / 1000000000 = q at *
  have h3 : (1000000000 * q + r) * p = (lg A D.length + lg B D.length + d) * p := by rw [hd]
  rw [Nat.add_mul, Nat.add_mul, Nat.add_mul] at h3
  have h4 : q * (p * 1000000000) = 1000000000 * q * p := by rw [Nat.mul_comm p, ← Nat.mul_assoc, Nat.mul_comm q]
  rw [h4]
  omega
theorem RAddRel.done {A B D : List Nat} {d : Nat} (h : RAddRel A B D d) (hd : d < 1000000000) (ha : A.length ≤ D.length) (hb : B.length ≤ D.length) : R.Bd (D ++ [d]) ∧ R.val (D ++ [d]) = R.val A + R.val B := by
  obtain ⟨h1, h2⟩ := h
  refine ⟨R.Bd_app h1 d hd, ?_⟩
  unfold R.val
  rw [R.pv_app, h2, R.pv_val A _ ha, R.pv_val B _ hb]; rfl
theorem i64s_app (D : List Nat) (x : Nat) : i64s (D ++ [x]) = i64s D ++ [.int .i64 (x : Int)] := by simp [i64s]
theorem w64i (x : Int) (h0 : -9223372036854775808 ≤ x) (h1 : x ≤ 9223372036854775807) : IntKind.i64.wrap x = x := by
  simp [IntKind.wrap, IntKind.bits, IntKind.signed]; omega
set_option maxHeartbeats 2000000 in
theorem radd_walk (w : World) (aa ab : Option Addr) (na ca nb cb n : Nat) (A B : List Nat) (hA : R.Bd A) (hB : R.Bd B) (hna : na ≤ 1000000000) (hnb : nb ≤ 1000000000) (hn : max na nb = n) (hAl : A.length = na) (hBl : B.length = nb)
    (oa : w.ownsRow 0 3 1 (.slice aa na ca) na (i64s A)) (ob : w.ownsRow 0 3 1 (.slice ab nb cb) nb (i64s B)) :
    Calls Tryd.prog 70 #[.agg #[.slice aa na ca], .agg #[.slice ab nb cb]] w fun e w' => ∃ v, e = .returned v ∧ RefIs w' v (R.val A + R.val B) (n + 1) ∧ Below w.heap.size w w' := by
  obtain ⟨i0, hi, hz0, hz1, hz2⟩ := info_parts Tryd.info3
  have HN : Hid (max na nb = n ∧ A.length = na ∧ B.length = nb) := ⟨hn, hAl, hBl⟩
  have hn' : n ≤ 1000000000 := by omega
  have hna' : na ≤ n := by omega
  have hnb' : nb ≤ n := by omega
  have OA := hid (show w.ownsRow 0 3 1 (.slice aa na ca) A.length (i64s A) by rw [hAl]; exact oa)
  have OB := hid (show w.ownsRow 0 3 1 (.slice ab nb cb) B.length (i64s B) by rw [hBl]; exact ob)
  clear hn hAl hBl oa ob
  have hown0 : ((((w.alloc (Obj.cells #[Value.slice aa na ca] 29)).alloc (Obj.cells #[Value.slice ab nb cb] 29)).alloc (Obj.cells #[Value.slice none 0 0] 29)).alloc (Obj.cells #[] 3)).ownsRow (w.heap.size + 1 + 1 + 1) 3 1 (.slice (some ⟨w.heap.size + 1 + 1 + 1, 0, none⟩) 0 0) 0 (i64s []) := by
    have := World.ownsRow_made (base := w.heap.size + 1 + 1 + 1) (e := 3) (size := 1) (((w.alloc (Obj.cells #[Value.slice aa na ca] 29)).alloc (Obj.cells #[Value.slice ab nb cb] 29)).alloc (Obj.cells #[Value.slice none 0 0] 29)) #[] 0 (by simp) (by unfold maxLen; omega) (by simp)
    simpa [i64s] using this
  go_enter Tryd.func70, Tryd.ntmps70
  go_wp2
  have x1 : (((w.alloc (Obj.cells #[Value.slice aa na ca] 29)).alloc (Obj.cells #[Value.slice ab nb cb] 29)).alloc (Obj.cells #[Value.slice none 0 0] 29)).heap[w.heap.size]? = some (Obj.cells #[Value.slice aa na ca] 29) := box_alloc (box_alloc (box_new _ _) _) _
  have x2 : (((w.alloc (Obj.cells #[Value.slice aa na ca] 29)).alloc (Obj.cells #[Value.slice ab nb cb] 29)).alloc (Obj.cells #[Value.slice none 0 0] 29)).heap[w.heap.size + 1]? = some (Obj.cells #[Value.slice ab nb cb] 29) := box_alloc (by have := box_new (w.alloc (Obj.cells #[Value.slice aa na ca] 29)) (Obj.cells #[Value.slice ab nb cb] 29); simpa using this) _
  have x3 : (((w.alloc (Obj.cells #[Value.slice aa na ca] 29)).alloc (Obj.cells #[Value.slice ab nb cb] 29)).alloc (Obj.cells #[Value.slice none 0 0] 29)).heap[w.heap.size + 1 + 1]? = some (Obj.cells #[Value.slice none 0 0] 29) := by
    have := box_new ((w.alloc (Obj.cells #[Value.slice aa na ca] 29)).alloc (Obj.cells #[Value.slice ab nb cb] 29)) (Obj.cells #[Value.slice none 0 0] 29); simpa using this
  have hWb : Below w.heap.size w (((w.alloc (Obj.cells #[Value.slice aa na ca] 29)).alloc (Obj.cells #[Value.slice ab nb cb] 29)).alloc (Obj.cells #[Value.slice none 0 0] 29)) := below_alloc' (below_alloc' (below_alloc' (Below.refl _ _) (Nat.le_refl _) _) (Nat.le_refl _) _) (Nat.le_refl _) _
  have hWs : (((w.alloc (Obj.cells #[Value.slice aa na ca] 29)).alloc (Obj.cells #[Value.slice ab nb cb] 29)).alloc (Obj.cells #[Value.slice none 0 0] 29)).heap.size = w.heap.size + 1 + 1 + 1 := by simp
  have hb1 : Below (w.heap.size + 1 + 1 + 1) (((w.alloc (Obj.cells #[Value.slice aa na ca] 29)).alloc (Obj.cells #[Value.slice ab nb cb] 29)).alloc (Obj.cells #[Value.slice none 0 0] 29)) ((((w.alloc (Obj.cells #[Value.slice aa na ca] 29)).alloc (Obj.cells #[Value.slice ab nb cb] 29)).alloc (Obj.cells #[Value.slice none 0 0] 29)).alloc (Obj.cells #[] 3)) := below_alloc' (Below.refl _ _) (by omega) _
  generalize ((w.alloc (Obj.cells #[Value.slice aa na ca] 29)).alloc (Obj.cells #[Value.slice ab nb cb] 29)).alloc (Obj.cells #[Value.slice none 0 0] 29) = W at *
  have hWt : w.heap.size + 1 + 1 + 1 ≤ W.heap.size := by omega
  clear hWs
  go_loopw [5, 6, 7] (fun v c i wr => ∃ (d : Nat) (D : List Nat), D.length ≤ n ∧ i = .int .i64 (D.length : Nat) ∧ c = .int .i64 d ∧ d ≤ 1 ∧ RAddRel A B D d ∧ wr.ownsRow (w.heap.size + 1 + 1 + 1) 3 1 v D.length (i64s D) ∧ Below (w.heap.size + 1 + 1 + 1) W wr) (fun _ _ i _ => n - (intOf i).toNat)
  case atStart => exact ⟨0, [], by simp, rfl, rfl, by omega, ⟨by intro j; simp [lg], by simp [R.pv]⟩, hown0, hb1⟩
  case round =>
    obtain ⟨d, D, hk, rfl, rfl, hd, hR, hown, hbel⟩ := hrel
    have HR := hid hR
    clear hR hown0 hb1
    have hbw : Below w.heap.size w wr := hWb.trans (hbel.mono (by omega))
    have j1 := box_below hbel x1 (by omega)
    have j2 := box_below hbel x2 (by omega)
    have j3 := box_below hbel x3 (by omega)
    have e1 := cell_of_one j1
    have e2 := cell_of_one j2
    obtain ⟨k, hkD⟩ : ∃ k, k = D.length := ⟨_, rfl⟩
    have HK := hid hkD
    rw [← hkD] at hk hown ⊢
    clear hkD j1 j2
    by_cases hlt : k < n
    · have hor : k < na ∨ (¬ k < na ∧ k < nb) := by have := HN.out.1; omega
      have hA9 := hA k
      have hB9 := hB k
      have HS := hid (show RAddRel A B (D ++ [(lg A k + lg B k + d) % 1000000000]) ((lg A k + lg B k + d) / 1000000000) from by rw [HK.out]; exact HR.out.step)
      rcases hor with h1 | ⟨h1, h2⟩
      all_goals
        go_wp2
        go_region_held3 (fun w' => w'.cell? ⟨w.heap.size, 0, none⟩ = some (.slice aa na ca) ∧ w'.cell? ⟨w.heap.size + 1, 0, none⟩ = some (.slice ab nb cb)) ((first | go_keep))
          (first | (go_at_call_of 94 (Value.slice aa na ca); refine (rdigit_any _ _ A hA (ownsRow_below OA.out hbw.drew) k).mono ?_; rintro e w' ⟨rfl, rfl⟩) | (go_at_call_of 94 (Value.slice ab nb cb); refine (rdigit_any _ _ B hB (ownsRow_below OB.out hbw.drew) k).mono ?_; rintro e w' ⟨rfl, rfl⟩))
        have eT : IntKind.i64.wrap (IntKind.i64.wrap (↑d + ↑(lg A k)) + ↑(lg B k)) = ((lg A k + lg B k + d : Nat) : Int) := by
          rw [w64i ((d : Int) + (lg A k : Int)) (by omega) (by omega), w64i _ (by omega) (by omega)]; omega
        have hT2 : lg A k + lg B k + d < 2000000000 := by omega
        rw [eT]
        clear eT
        generalize lg A k + lg B k + d = T at *
        have hown2 := hown.drew
        have hbel2 := hbel.drew
        generalize wr.drew = w2 at *
        clear hown hbel hbw e1 e2 j3
        go_wp2_with (at_builtin; refine wpList_append_own _ rfl _ _ 27 rfl (w.heap.size + 1 + 1 + 1) 3 i0 (.int .i64 0) 1 8 Tryd.underlying27 hi hz0 hz1 hz2 rfl (by decide) _ _ _ rfl (hown2.alloc _) ⟨w2.heap.size, 0, none⟩ 1 1 [.int .i64 ((T : Int) % 1000000000)] rfl rfl (by intro j u hu; match j, hu with | 0, hu => simp at hu; subst hu; simp [Addr.add]) (by intro u hu; simp at hu; subst hu; rfl) (by unfold maxLen; omega) (by omega) (by have := hbel2.size; simp; omega) ?_)
        intro v' w1 hown3 hgrow hnil
        have hb3 : Below (w.heap.size + 1 + 1 + 1) W w1 := (below_alloc' hbel2 hWt _).grown hgrow (by have := hbel2.size; simp; omega) (fun q hq => (hown2.lt q hq).1)
        have hown4 : w1.ownsRow (w.heap.size + 1 + 1 + 1) 3 1 v' (D ++ [T % 1000000000]).length (i64s (D ++ [T % 1000000000])) := by
          rw [i64s_app, List.length_append, List.length_singleton, ← HK.out]; simpa using hown3
        have HO := hid hown4
        have hq2 : T / 1000000000 ≤ 1 := by omega
        have HL := hid (show (D ++ [T % 1000000000]).length = k + 1 from by rw [List.length_append, List.length_singleton, ← HK.out])
        clear hown3 hown4 hgrow hnil hown2 hbel2
        go_wp2
        go_roundw
        case rel => exact ⟨T / 1000000000, D ++ [T % 1000000000], by have := HL.out; omega, by rw [HL.out]; go_num, by go_num, hq2, HS.out, HO.out, hb3⟩
        case measure => simp [intOf]; omega
    · have hkn : k = n := by omega
      have h1 : ¬ k < na := by omega
      have h2 : ¬ k < nb := by omega
      have HF := hid (HR.out.done (by omega) (by have := HN.out; have := HK.out; omega) (by have := HN.out; have := HK.out; omega))
      have HL := hid (show (D ++ [d]).length = n + 1 from by rw [List.length_append, List.length_singleton, ← HK.out, hkn])
      clear hkn
      go_wp2_with (at_builtin; refine wpList_append_own _ rfl _ _ 27 rfl (w.heap.size + 1 + 1 + 1) 3 i0 (.int .i64 0) 1 8 Tryd.underlying27 hi hz0 hz1 hz2 rfl (by decide) _ _ _ rfl (hown.alloc _) ⟨wr.heap.size, 0, none⟩ 1 1 [.int .i64 (d : Int)] rfl rfl (by intro j u hu; match j, hu with | 0, hu => simp at hu; subst hu; simp [Addr.add]) (by intro u hu; simp at hu; subst hu; rfl) (by unfold maxLen; omega) (by omega) (by have := hbel.size; simp; omega) ?_)
      intro v' w1 hown3 hgrow hnil
      have hb3 : Below (w.heap.size + 1 + 1 + 1) W w1 := (below_alloc' hbel hWt _).grown hgrow (by have := hbel.size; simp; omega) (fun q hq => (hown.lt q hq).1)
      have hown4 : w1.ownsRow (w.heap.size + 1 + 1 + 1) 3 1 v' (D ++ [d]).length (i64s (D ++ [d])) := by
        rw [i64s_app, List.length_append, List.length_singleton, ← HK.out]; simpa using hown3
      clear hown3 hgrow hnil hown hbel e1 e2 j3 hbw
      obtain ⟨g, cap, hv⟩ : ∃ g cap, v' = .slice (some ⟨g, 0, none⟩) (D ++ [d]).length cap := by
        rcases hown4.2 with ⟨h0, h0'⟩ | ⟨g, cap, cur, hv, _⟩
        · have := HL.out; simp at h0'
        · exact ⟨g, cap, hv⟩
      rw [hv] at hown4 ⊢
      clear hv
      clear HR HK
      generalize D ++ [d] = E at *
      go_wp2_with fail
      refine (rtrim_base w1 (w.heap.size + 1 + 1 + 1) g cap E HF.out.1 hown4).mono ?_
      rintro e w3 ⟨⟨sl, M, rfl, hM, bM, tM, vM, lM⟩, hb4⟩
      have hx3 := box_below (hb3.trans (hb4.mono (by have := hb3.size; omega))) x3 (by omega)
      have hbw : Below w.heap.size w w3 := hWb.trans ((hb3.trans (hb4.mono (by have := hb3.size; omega))).mono (by omega))
      obtain ⟨ao, cp, hv⟩ := ints_slice hM
      rw [hv] at hM ⊢
      have cz := cell_of_one hx3
      have fz := free_of_one hx3
      have hM2 := own_box (ownsRow_base0 hM) hx3 (by decide) (.slice ao M.length cp)
      have hB2 := hbw.setCell (p := ⟨w.heap.size + 1 + 1, 0, none⟩) (by show w.heap.size ≤ w.heap.size + 1 + 1; omega) (.slice ao M.length cp)
      have hr := cell_of_one (one_setCell (u := .slice ao M.length cp) hx3)
      have HRr := hid hr
      have HV := hid (show R.val M = R.val A + R.val B ∧ M.length ≤ n + 1 from ⟨vM.trans HF.out.2, by have := HL.out; omega⟩)
      clear hv hM hx3 hr vM lM hb3 hb4 hown4
      go_wp2
      exact bodyPost_ret (v := .agg #[.slice ao M.length cp]) (by simp [results, Tryd.results70, go_sem, HRr.out]) rfl ⟨_, rfl, ⟨_, M, rfl, hM2, bM, tM, HV.out.1, HV.out.2⟩, hB2⟩
/-- The document's Add: the sum. -/
theorem radd_any (w : World) (a b : Value) (m n K K' : Nat) (hK : K ≤ 1000000000) (hK' : K' ≤ 1000000000) (ha : RefIs w a m K) (hb : RefIs w b n K') :
    Calls Tryd.prog 70 #[a, b] w fun e w' => ∃ v, e = .returned v ∧ RefIs w' v (m + n) (max K K' + 1) ∧ Below w.heap.size w w' := by
  obtain ⟨sa, A, rfl, oa, bA, tA, rfl, lA⟩ := ha
  obtain ⟨sb, B, rfl, ob, bB, tB, rfl, lB⟩ := hb
  obtain ⟨aa, ca, rfl⟩ := ints_slice oa
  obtain ⟨ab, cb, rfl⟩ := ints_slice ob
  refine (radd_walk w aa ab A.length ca B.length cb (max A.length B.length) A B bA bB (by omega) (by omega) rfl rfl rfl oa ob).mono ?_
  rintro e w' ⟨v, rfl, hv, hw⟩
  exact ⟨v, rfl, hv.mono (by omega), hw⟩
end Go.Proofs.YtchibjdhdbkdhaaDoor
