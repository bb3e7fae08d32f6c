/- The document's Sub. -/
import Derived.Test.YtchibjdhdbkdhaaDoorRCmp
namespace Go.Proofs.YtchibjdhdbkdhaaDoor
open Go.RowKit
set_option linter.unusedVariables false
set_option maxRecDepth 100000
set_option linter.unusedSimpArgs false
attribute [local go_sem ↓] Go.wp_at_zero Go.wp_at_succ

set_option maxHeartbeats 2000000 in
theorem rsub_below (w : World) (aa ab : Option Addr) (la ca lb cb m n K K' : Nat) (hK : K ≤ 1000000000) (hK' : K' ≤ 1000000000) (ha : RefIs w (.agg #[.slice aa la ca]) m K) (hb : RefIs w (.agg #[.slice ab lb cb]) n K') (h : m < n) :
    Calls Tryd.prog 65 #[.agg #[.slice aa la ca], .agg #[.slice ab lb cb]] w fun e w' => e = .returned (.tuple #[.agg #[.slice none 0 0], .int .i64 11]) ∧ Below w.heap.size w w' := by
  have hWb : Below w.heap.size w (((w.alloc (Obj.cells #[Value.slice aa la ca] 29)).alloc (Obj.cells #[Value.slice ab lb cb] 29)).alloc (Obj.cells #[Value.slice none 0 0] 29)) := below_alloc' (below_alloc' (below_alloc' (Below.refl _ _) (Nat.le_refl _) _) (Nat.le_refl _) _) (Nat.le_refl _) _
  have x3 : (((w.alloc (Obj.cells #[Value.slice aa la ca] 29)).alloc (Obj.cells #[Value.slice ab lb cb] 29)).alloc (Obj.cells #[Value.slice none 0 0] 29)).heap[w.heap.size + 1 + 1]? = some (Obj.cells #[Value.slice none 0 0] 29) := by
    have := box_new ((w.alloc (Obj.cells #[Value.slice aa la ca] 29)).alloc (Obj.cells #[Value.slice ab lb cb] 29)) (Obj.cells #[Value.slice none 0 0] 29); simpa using this
  have na := ha.below hWb
  have nb := hb.below hWb
  go_enter Tryd.func65, Tryd.ntmps65
  go_wp2_with fail
  generalize ((w.alloc (Obj.cells #[Value.slice aa la ca] 29)).alloc (Obj.cells #[Value.slice ab lb cb] 29)).alloc (Obj.cells #[Value.slice none 0 0] 29) = W at *
  refine (rcmp_any _ _ _ _ _ _ _ hK hK' na nb).mono ?_
  rintro e w1 ⟨rfl, hb1⟩
  rw [cmpI_lt h]
  have hbw := chain2 hWb hb1
  have hx := box_below hb1 x3 (lt_of_block x3)
  have cz := cell_of_one hx
  have fz := free_of_one hx
  have hB2 := hbw.setCell (p := ⟨w.heap.size + 1 + 1, 0, none⟩) (by show w.heap.size ≤ w.heap.size + 1 + 1; omega) (.slice none 0 0)
  have hr := cell_of_one (one_setCell (u := .slice none 0 0) hx)
  have HRr := hid hr
  clear na nb ha hb hr
  go_wp2
  exact bodyPost_ret (v := .tuple #[.agg #[.slice none 0 0], .int .i64 11]) (by simp [results, Tryd.results65, go_sem, HRr.out]) rfl ⟨rfl, hB2⟩
def RSubRel (A B D : List Nat) (c : Nat) : Prop := R.Bd D ∧ R.pv D D.length + R.pv B D.length = R.pv A D.length + c * 1000000000 ^ D.length
theorem RSubRel.step {A B D : List Nat} {c x c' : Nat} (h : RSubRel A B D c) (hx : x < 1000000000) (he : x + lg B D.length + c = lg A D.length + c' * 1000000000) : RSubRel A B (D ++ [x]) c' := by
  obtain ⟨h1, h2⟩ := h
  refine ⟨R.Bd_app h1 _ hx, ?_⟩
  rw [R.pv_app, List.length_append, List.length_singleton]
  simp only [R.pv, Nat.pow_succ]
  generalize 1000000000 ^ D.length = p at *
  have h3 : (x + lg B D.length + c) * p = (lg A D.length + c' * 1000000000) * p := by rw [he]
  rw [Nat.add_mul, Nat.add_mul, Nat.add_mul] at h3
  have h4 : c' * (p * 1000000000) = c' * 1000000000 * p := by rw [Nat.mul_comm p, ← Nat.mul_assoc]
  rw [h4]
  omega
theorem RSubRel.done {A B D : List Nat} {c : Nat} (h : RSubRel A B D c) (hA : R.Bd A) (hB : R.Bd B) (tA : Top A) (tB : Top B) (hl : D.length = A.length) (hle : R.val B ≤ R.val A) : R.val D = R.val A - R.val B := by
  obtain ⟨h1, h2⟩ := h
  have hBl : B.length ≤ A.length := by
    rcases Nat.lt_or_ge A.length B.length with e | e
    · have := R.val_lt_len hA tB e; omega
    · exact e
  have e1 : R.pv D D.length = R.val D := rfl
  rw [e1, R.pv_val A _ (by omega), R.pv_val B _ (by omega)] at h2
  have h3 := R.val_lt h1
  have h4 := R.val_lt hA
  rw [← hl] at h4
  generalize 1000000000 ^ D.length = p at *
  rcases Nat.eq_zero_or_pos c with e | e
  · subst e; omega
  · have : 1 * p ≤ c * p := Nat.mul_le_mul_right _ e
    omega
theorem rtrim_len (w : World) (base g cap k : Nat) (L : List Nat) (hk : k = L.length) (hb : R.Bd L) (hown : w.ownsRow base 3 1 (.slice (some ⟨g, 0, none⟩) k cap) k (i64s L)) :
    Calls Tryd.prog 67 #[.slice (some ⟨g, 0, none⟩) k cap] w fun e w' => (∃ sl M, e = .returned (.agg #[sl]) ∧ w'.ownsRow base 3 1 sl M.length (i64s M) ∧ R.Bd M ∧ Top M ∧ R.val M = R.val L ∧ M.length ≤ L.length) ∧ Below w.heap.size w w' := by
  subst hk; exact rtrim_base w base g cap L hb hown
set_option maxHeartbeats 2000000 in
theorem rsub_walk (w : World) (aa ab : Option Addr) (na ca nb cb : Nat) (A B : List Nat) (hA : R.Bd A) (hB : R.Bd B) (tA : Top A) (tB : Top B) (hna : na ≤ 1000000000) (hnb : nb ≤ 1000000000) (hAl : A.length = na) (hBl : B.length = nb)
    (oa : w.ownsRow 0 3 1 (.slice aa na ca) na (i64s A)) (ob : w.ownsRow 0 3 1 (.slice ab nb cb) nb (i64s B)) (hle : R.val B ≤ R.val A) :
    Calls Tryd.prog 65 #[.agg #[.slice aa na ca], .agg #[.slice ab nb cb]] w fun e w' => ∃ v, e = .returned (.tuple #[v, .int .i64 0]) ∧ RefIs w' v (R.val A - R.val B) na ∧ Below w.heap.size w w' := by
  obtain ⟨i0, hi, hz0, hz1, hz2⟩ := info_parts Tryd.info3
  have HN : Hid (A.length = na ∧ B.length = nb) := ⟨hAl, hBl⟩
  have OA := hid (show w.ownsRow 0 3 1 (.slice aa na ca) A.length (i64s A) by rw [hAl]; exact oa)
  have OB := hid (show w.ownsRow 0 3 1 (.slice ab nb cb) B.length (i64s B) by rw [hBl]; exact ob)
  clear hAl hBl oa ob
  have hWb : Below w.heap.size w (((w.alloc (Obj.cells #[Value.slice aa na ca] 29)).alloc (Obj.cells #[Value.slice ab nb cb] 29)).alloc (Obj.cells #[Value.slice none 0 0] 29)) := below_alloc' (below_alloc' (below_alloc' (Below.refl _ _) (Nat.le_refl _) _) (Nat.le_refl _) _) (Nat.le_refl _) _
  have x1 : (((w.alloc (Obj.cells #[Value.slice aa na ca] 29)).alloc (Obj.cells #[Value.slice ab nb cb] 29)).alloc (Obj.cells #[Value.slice none 0 0] 29)).heap[w.heap.size]? = some (Obj.cells #[Value.slice aa na ca] 29) := box_alloc (box_alloc (box_new _ _) _) _
  have x2 : (((w.alloc (Obj.cells #[Value.slice aa na ca] 29)).alloc (Obj.cells #[Value.slice ab nb cb] 29)).alloc (Obj.cells #[Value.slice none 0 0] 29)).heap[w.heap.size + 1]? = some (Obj.cells #[Value.slice ab nb cb] 29) := box_alloc (by have := box_new (w.alloc (Obj.cells #[Value.slice aa na ca] 29)) (Obj.cells #[Value.slice ab nb cb] 29); simpa using this) _
  have x3 : (((w.alloc (Obj.cells #[Value.slice aa na ca] 29)).alloc (Obj.cells #[Value.slice ab nb cb] 29)).alloc (Obj.cells #[Value.slice none 0 0] 29)).heap[w.heap.size + 1 + 1]? = some (Obj.cells #[Value.slice none 0 0] 29) := by
    have := box_new ((w.alloc (Obj.cells #[Value.slice aa na ca] 29)).alloc (Obj.cells #[Value.slice ab nb cb] 29)) (Obj.cells #[Value.slice none 0 0] 29); simpa using this
  have ra : RefIs w (.agg #[.slice aa na ca]) (R.val A) na := ⟨_, A, rfl, OA.out, hA, tA, rfl, by have := HN.out.1; omega⟩
  have rb : RefIs w (.agg #[.slice ab nb cb]) (R.val B) nb := ⟨_, B, rfl, OB.out, hB, tB, rfl, by have := HN.out.2; omega⟩
  have ra' := ra.below hWb
  have rb' := rb.below hWb
  clear ra rb
  have HT := hid (And.intro tA tB)
  clear tA tB
  go_enter Tryd.func65, Tryd.ntmps65
  go_wp2_with fail
  generalize ((w.alloc (Obj.cells #[Value.slice aa na ca] 29)).alloc (Obj.cells #[Value.slice ab nb cb] 29)).alloc (Obj.cells #[Value.slice none 0 0] 29) = W at *
  refine (rcmp_any _ _ _ _ _ _ _ hna hnb ra' rb').mono ?_
  rintro e w1 ⟨rfl, hb1⟩
  obtain ⟨q, hq⟩ : ∃ q, cmpI (R.val A) (R.val B) = q := ⟨_, rfl⟩
  have hq0 : ¬ q < 0 := by rw [← hq]; unfold cmpI; repeat' split
                           all_goals omega
  rw [hq]
  have HLE := hid hle
  clear hq ra' rb' hle
  have y1 := box_below hb1 x1 (lt_of_block x1)
  have y2 := box_below hb1 x2 (lt_of_block x2)
  have y3 := box_below hb1 x3 (lt_of_block x3)
  have hbw1 := chain2 hWb hb1
  clear x1 x2 x3 hWb hb1
  have hown0 : (w1.alloc (Obj.cells #[] 3)).ownsRow w1.heap.size 3 1 (.slice (some ⟨w1.heap.size, 0, none⟩) 0 0) 0 (i64s []) := by
    have := World.ownsRow_made (base := w1.heap.size) (e := 3) (size := 1) w1 #[] 0 (by simp) (by unfold maxLen; omega) (by simp)
    simpa [i64s] using this
  have hb0 : Below w1.heap.size w1 (w1.alloc (Obj.cells #[] 3)) := below_alloc' (Below.refl _ _) (Nat.le_refl _) _
  go_wp2
  clear hq0
  go_loopw [6, 7, 8] (fun v c i wr => ∃ (d : Nat) (D : List Nat), D.length ≤ na ∧ i = .int .i64 (D.length : Nat) ∧ c = .int .i64 d ∧ d ≤ 1 ∧ RSubRel A B D d ∧ wr.ownsRow w1.heap.size 3 1 v D.length (i64s D) ∧ v ≠ .slice none 0 0 ∧ Below w1.heap.size w1 wr) (fun _ _ i _ => na - (intOf i).toNat)
  case atStart => exact ⟨0, [], by simp, rfl, rfl, by omega, ⟨by intro j; simp [lg], by simp [R.pv]⟩, hown0, by simp, hb0⟩
  case round =>
    obtain ⟨d, D, hk, rfl, rfl, hd, hR, hown, hnn, hbel⟩ := hrel
    have HR := hid hR
    have HNN := hid hnn
    clear hR hown0 hb0 hnn
    have hbw : Below w.heap.size w wr := chain2 hbw1 hbel
    have e1 := cell_of_one (box_below hbel y1 (lt_of_block y1))
    have e2 := cell_of_one (box_below hbel y2 (lt_of_block y2))
    have j3 := box_below hbel y3 (lt_of_block y3)
    obtain ⟨k, hkD⟩ : ∃ k, k = D.length := ⟨_, rfl⟩
    have HK := hid hkD
    rw [← hkD] at hk hown ⊢
    clear hkD
    by_cases hlt : k < na
    · obtain ⟨ga, cur, hv, hcc⟩ : ∃ ga cur : Nat, aa = some ⟨ga, 0, none⟩ ∧ na ≤ ca ∧ ca ≤ maxLen := by
        rcases OA.out.2 with ⟨h0, h0'⟩ | ⟨g, cap, cur, hv, _, _, r1, r2, _⟩
        · have := HN.out.1; simp at h0; omega
        · simp only [Value.slice.injEq] at hv
          obtain ⟨h1, h2, h3⟩ := hv
          exact ⟨g, 0, h1, by omega, by omega⟩
      have OA' := OA.out
      rw [hv] at OA' e1 ⊢
      have e3 := i64s_at (L := A) (g := ga) (cap := ca) (n := na) (by have := ownsRow_below OA' hbw; rw [HN.out.1] at this; exact this) k (by have := HN.out.1; omega)
      have hca := hcc.2
      unfold maxLen at hca
      have hcc1 := hcc.1
      have HOA := hid OA'
      clear hcc OA' hv OA
      have hA9 := hA k
      have hB9 := hB k
      have e1d := e1
      go_wp2
      go_region_held3 (fun w' => w'.cell? ⟨w.heap.size, 0, none⟩ = some (.slice (some ⟨ga, 0, none⟩) na ca) ∧ w'.cell? ⟨w.heap.size + 1, 0, none⟩ = some (.slice ab nb cb) ∧ w'.cell? ⟨ga, k, none⟩ = some (.int .i64 (lg A k : Int))) ((first | go_keep))
        (first | (go_at_call 94; refine (rdigit_any _ _ B hB (ownsRow_below OB.out hbw.drew) k).mono ?_; rintro e w' ⟨rfl, rfl⟩))
      have eT : IntKind.i64.wrap (IntKind.i64.wrap (↑(lg A k) - ↑(lg B k)) - ↑d) = (lg A k : Int) - (lg B k : Int) - (d : Int) := by
        rw [w64i ((lg A k : Int) - (lg B k : Int)) (by omega) (by omega), w64i _ (by omega) (by omega)]
      rw [eT]
      clear eT
      have hown2 := hown.drew
      have hbel2 := hbel.drew
      generalize wr.drew = w2 at *
      obtain ⟨x, t, hx9, ht, hx, hxt⟩ : ∃ x t : Nat, x < 1000000000 ∧ t ≤ 1 ∧ x + lg B k + d = lg A k + t * 1000000000 ∧ ((t = 1 ∧ (lg A k : Int) - (lg B k : Int) - (d : Int) = (x : Int) - 1000000000) ∨ (t = 0 ∧ (lg A k : Int) - (lg B k : Int) - (d : Int) = (x : Int))) := by
        rcases Nat.lt_or_ge (lg A k) (lg B k + d) with hc | hc
        · exact ⟨lg A k + 1000000000 - lg B k - d, 1, by omega, by omega, by omega, Or.inl ⟨rfl, by omega⟩⟩
        · exact ⟨lg A k - lg B k - d, 0, by omega, by omega, by omega, Or.inr ⟨rfl, by omega⟩⟩
      have HS := hid (show RSubRel A B (D ++ [x]) t from HR.out.step hx9 (by rw [← HK.out]; exact hx))
      have HL := hid (show (D ++ [x]).length = k + 1 from by rw [List.length_append, List.length_singleton, ← HK.out])
      clear hown hbel hbw e1 e2 e3 e1d j3 hx hA9 hB9
      generalize (lg A k : Int) - (lg B k : Int) - (d : Int) = y at *
      rcases hxt with ⟨rfl, hy⟩ | ⟨rfl, hy⟩
      all_goals
        rw [hy]
        clear hy
        try have hneg : (x : Int) - 1000000000 < 0 := by omega
        try have hneg2 : ¬ (x : Int) < 0 := by omega
        go_wp2_with (at_builtin; refine wpList_append_own _ rfl _ _ 27 rfl w1.heap.size 3 i0 (.int .i64 0) 1 8 Tryd.underlying27 hi hz0 hz1 hz2 rfl (by decide) _ _ _ rfl (hown2.alloc _) ⟨w2.heap.size, 0, none⟩ 1 1 [.int .i64 (x : Int)] rfl rfl (by intro j u hu; match j, hu with | 0, hu => simp at hu; subst hu; simp [Addr.add]) (by intro u hu; simp at hu; subst hu; rfl) (by unfold maxLen; omega) (by omega) (by have := hbel2.size; simp; omega) ?_)
        intro v' w3 hown3 hgrow hnil
        have hb3 : Below w1.heap.size w1 w3 := (below_alloc' hbel2 (Nat.le_refl _) _).grown hgrow (by have := hbel2.size; simp; omega) (fun q hq => (hown2.lt q hq).1)
        have hown4 : w3.ownsRow w1.heap.size 3 1 v' (D ++ [x]).length (i64s (D ++ [x])) := by
          rw [i64s_app, List.length_append, List.length_singleton, ← HK.out]; simpa using hown3
        have HO := hid hown4
        have HNN' := hid (show v' ≠ .slice none 0 0 from by
          intro e
          have h4 := hown4.1
          rcases hown4.2 with ⟨h0, h0'⟩ | ⟨g, cap, cur, hv, _⟩
          · simp at h0'
          · rw [e] at hv; simp at hv)
        clear hown3 hown4 hgrow hnil hown2 hbel2
        generalize D ++ [x] = E at *
        go_wp2
        go_roundw
        case rel => exact ⟨_, E, by have := HL.out; omega, by rw [HL.out]; go_num, by go_num, ht, HS.out, HO.out, HNN'.out, hb3⟩
        case measure => simp [intOf]; omega
    · have hkn : k = na := by omega
      have HF := hid (HR.out.done hA hB HT.out.1 HT.out.2 (by rw [← HK.out, hkn, HN.out.1]) HLE.out)
      have HBd := hid HR.out.1
      clear hkn
      obtain ⟨g, cap, hv⟩ : ∃ g cap, u6 = .slice (some ⟨g, 0, none⟩) k cap := by
        rcases hown.2 with ⟨h0, h0'⟩ | ⟨g, cap, cur, hv, _⟩
        · exact absurd h0 HNN.out
        · exact ⟨g, cap, hv⟩
      rw [hv] at hown ⊢
      clear hv HNN
      have hnk : ¬ k < na := hlt
      go_wp2_with fail
      refine (rtrim_len wr w1.heap.size g cap k D HK.out HBd.out hown).mono ?_
      rintro e w3 ⟨⟨sl, M, rfl, hM, bM, tM, vM, lM⟩, hb4⟩
      have hx3 := box_below hb4 j3 (lt_of_block j3)
      have hbw3 := chain2 hbw hb4
      obtain ⟨ao, cp, hv⟩ := ints_slice hM
      rw [hv] at hM ⊢
      have cz := cell_of_one hx3
      have fz := free_of_one hx3
      have hM2 := own_box (ownsRow_base0 hM) hx3 (by decide) (.slice ao M.length cp)
      have hB2 := hbw3.setCell (p := ⟨w.heap.size + 1 + 1, 0, none⟩) (by show w.heap.size ≤ w.heap.size + 1 + 1; omega) (.slice ao M.length cp)
      have hr := cell_of_one (one_setCell (u := .slice ao M.length cp) hx3)
      have HRr := hid hr
      have HV := hid (show R.val M = R.val A - R.val B ∧ M.length ≤ na from ⟨vM.trans HF.out, by have := HK.out; omega⟩)
      clear hv hM hx3 hr vM lM hb4 hown hbel hbw e1 e2 j3
      go_wp2
      exact bodyPost_ret (v := .tuple #[.agg #[.slice ao M.length cp], .int .i64 0]) (by simp [results, Tryd.results65, go_sem, HRr.out]) rfl ⟨_, rfl, ⟨_, M, rfl, hM2, bM, tM, HV.out.1, HV.out.2⟩, hB2⟩
/-- The document's Sub where it is not below 0: the difference. -/
theorem rsub_any (w : World) (a b : Value) (m n K K' : Nat) (hK : K ≤ 1000000000) (hK' : K' ≤ 1000000000) (ha : RefIs w a m K) (hb : RefIs w b n K') (h : n ≤ m) :
    Calls Tryd.prog 65 #[a, b] w fun e w' => ∃ v, e = .returned (.tuple #[v, .int .i64 0]) ∧ RefIs w' v (m - n) K ∧ Below w.heap.size w w' := by
  obtain ⟨sa, A, rfl, oa, bA, tA, rfl, lA⟩ := ha
  obtain ⟨sb, B, rfl, ob, bB, tB, rfl, lB⟩ := hb
  obtain ⟨aa, ca, rfl⟩ := ints_slice oa
  obtain ⟨ab, cb, rfl⟩ := ints_slice ob
  refine (rsub_walk w aa ab A.length ca B.length cb A B bA bB tA tB (by omega) (by omega) rfl rfl oa ob h).mono ?_
  rintro e w' ⟨v, rfl, hv, hw⟩
  exact ⟨v, rfl, hv.mono lA, hw⟩
end Go.Proofs.YtchibjdhdbkdhaaDoor
