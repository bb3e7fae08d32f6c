/- The document's DivMod. -/
import Derived.Test.YtcdkoadobdgbhaaGreatDoorPk11
import Derived.Test.YtcdkoadobdgbhaaGreatDoorZRSmall2
import Derived.Test.YtcdkoadobdgbhaaGreatDoorPk10
import Derived.Test.YtcdkoadobdgbhaaGreatDoorPk28
namespace Go.Proofs.YtcdkoadobdgbhaaGreatDoor
open Go.RowKit
set_option linter.unusedVariables false
set_option maxRecDepth 100000
set_option linter.unusedSimpArgs false

theorem RefIs.lt {w : World} {v : Value} {n K : Nat} (h : RefIs w v n K) : n < 1000000000 ^ K := by
  obtain ⟨sl, L, h1, h2, h3, h4, rfl, h6⟩ := h
  exact Nat.lt_of_lt_of_le (R.val_lt h3) (Nat.pow_le_pow_right (by decide) h6)
theorem RefIs.fit {w : World} {v : Value} {n K K' : Nat} (h : RefIs w v n K) (hn : n < 1000000000 ^ K') : RefIs w v n K' := by
  obtain ⟨sl, L, h1, h2, h3, h4, rfl, h6⟩ := h
  refine ⟨sl, L, h1, h2, h3, h4, rfl, ?_⟩
  rcases Nat.lt_or_ge K' L.length with hl | hl
  · exfalso
    obtain ⟨j, hj⟩ : ∃ j, L.length = j + 1 := ⟨L.length - 1, by omega⟩
    have ht : lg L j ≠ 0 := by have := h4 (by omega); rw [hj] at this; exact this
    have h7 : R.val L = R.pv L j + lg L j * 1000000000 ^ j := by unfold R.val; rw [hj]; simp only [R.pv]
    have h9 : 1 * 1000000000 ^ j ≤ lg L j * 1000000000 ^ j := Nat.mul_le_mul_right _ (by omega)
    have h8 : 1000000000 ^ K' ≤ 1000000000 ^ j := Nat.pow_le_pow_right (by decide) (by omega)
    omega
  · exact hl
theorem ref_zero (w : World) : RefIs w (.agg #[.slice none 0 0]) 0 0 := ⟨_, [], rfl, World.ownsRow_nil w _ _ _, by intro j; simp [lg], fun h => by simp at h, rfl, Nat.le_refl _⟩
theorem own_ltR {w : World} {base g n cap : Nat} {e : TypeId} {size : Nat} {xs : List Value} (h : w.ownsRow base e size (.slice (some ⟨g, 0, none⟩) n cap) n xs) : g < w.heap.size := by
  rcases h.2 with ⟨h', _⟩ | ⟨g', cap', cur, h', hb, hg, _⟩
  · simp at h'
  · simp only [Value.slice.injEq, Option.some.injEq, Addr.mk.injEq, and_true, true_and] at h'
    obtain ⟨rfl, rfl⟩ := h'
    exact (Array.getElem?_eq_some_iff.1 hg).1
theorem rest_sub {T n t : Nat} (hn : 0 < n) (h : T / n = t) : n * t + 0 ≤ T ∧ T - (n * t + 0) = T % n := by
  have := Nat.div_add_mod T n
  rw [h] at this
  omega
/-- What memory holds in the document's division. -/
def RDMem (w W : World) (na gx : Nat) (ar : Option Addr) (lr cr r K : Nat) (S : List Nat) (wr : World) : Prop :=
  wr.ownsRow (w.heap.size + 1 + 1 + 1 + 1) 3 1 (.slice (some ⟨w.heap.size + 1 + 1 + 1 + 1, 0, none⟩) na na) na (i64s S) ∧ RefIs wr (.agg #[.slice ar lr cr]) r K ∧ wr.heap[gx]? = some (Obj.cells #[.slice ar lr cr] 31) ∧ Below (w.heap.size + 1 + 1 + 1 + 1) W wr ∧ w.heap.size + 1 + 1 + 1 + 1 < gx
theorem RDMem.below {w W wr X : World} {na gx : Nat} {ar : Option Addr} {lr cr r K : Nat} {S : List Nat} (h : RDMem w W na gx ar lr cr r K S wr) (hb : Below wr.heap.size wr X) : RDMem w W na gx ar lr cr r K S X := by
  obtain ⟨h1, h2, h3, h4, h5⟩ := h
  exact ⟨ownsRow_below h1 hb, h2.below hb, box_below hb h3 (lt_of_block h3), h4.trans (hb.mono (by have := lt_of_block h3; omega)), h5⟩
/-- The rest's variable is written. -/
theorem RDMem.put {w W wr : World} {na gx : Nat} {ar br : Option Addr} {lr cr lb cb r r' K K' : Nat} {S : List Nat} (h : RDMem w W na gx ar lr cr r K S wr) (hn : RefIs wr (.agg #[.slice br lb cb]) r' K') : RDMem w W na gx br lb cb r' K' S (wr.setCell ⟨gx, 0, none⟩ (.slice br lb cb)) := by
  obtain ⟨h1, h2, h3, h4, h5⟩ := h
  exact ⟨own_box h1 h3 (by decide) _, hn.box h3 (by decide) _, one_setCell (u := .slice br lb cb) h3, h4.setCell (p := ⟨gx, 0, none⟩) (by show _ ≤ gx; omega) _, h5⟩
/-- A digit of the quotient is written. -/
theorem RDMem.digit {w W wr : World} {na gx : Nat} {ar : Option Addr} {lr cr r K : Nat} {S : List Nat} (h : RDMem w W na gx ar lr cr r K S wr) (hf : ∀ q, (Value.slice ar lr cr).ownBlock = some q → w.heap.size + 1 + 1 + 1 + 1 < q) (j x : Nat) :
    RDMem w W na gx ar lr cr r K (S.set j x) (wr.setCell ⟨w.heap.size + 1 + 1 + 1 + 1, j, none⟩ (.int .i64 (x : Int))) := by
  obtain ⟨h1, h2, h3, h4, h5⟩ := h
  have O := h1.stored j (.int .i64 (x : Int))
  rw [← i64s_set] at O
  refine ⟨O.1, ?_, (Below.heap_setCell _ _ _ gx (show gx ≠ w.heap.size + 1 + 1 + 1 + 1 by omega)).trans h3, h4.setCell (p := ⟨w.heap.size + 1 + 1 + 1 + 1, j, none⟩) (Nat.le_refl _) _, h5⟩
  obtain ⟨sl, L, e1, e2, e3⟩ := h2
  have e : sl = .slice ar lr cr := by simpa using e1.symm
  subst e
  exact ⟨_, L, rfl, ownsRow_setCell_other e2 (fun e => absurd (hf _ e) (Nat.lt_irrefl _)) _, e3⟩
set_option maxHeartbeats 16000000 in
theorem rdiv_long (w : World) (aa ab : Option Addr) (na ca nb cb n : Nat) (A : List Nat) (hA : R.Bd A) (hna : na ≤ 400000000) (hnb1 : 1 < nb) (hnb : nb ≤ 400000000) (hAl : A.length = na) (oa : w.ownsRow 0 3 1 (.slice aa na ca) na (i64s A)) (hb : RefIs w (.agg #[.slice ab nb cb]) n nb) (hn0 : 0 < n) :
    Calls Tryz.prog 144 #[.agg #[.slice aa na ca], .agg #[.slice ab nb cb]] w fun e w' => (∃ q r, e = .returned (.tuple #[q, r, .int .i64 0]) ∧ RefIs w' q (R.val A / n) na ∧ RefIs w' r (R.val A % n) (nb + 1)) ∧ Below w.heap.size w w' := by
  obtain ⟨i0, hi, hz0, hz1, hz2⟩ := info_parts Tryz.info3
  have HN := hid hAl
  clear hAl
  have e1 : ((nb : Int) == 0) = false := beq_eq_false_iff_ne.2 (by omega)
  have e2 : ((nb : Int) == 1) = false := beq_eq_false_iff_ne.2 (by omega)
  go_enter Tryz.func144, Tryz.ntmps144
  go_wp2_with (first | (at_make; refine wpList_make_full _ rfl _ _ 29 rfl (w.heap.size + 1 + 1 + 1 + 1) 3 i0 (.int .i64 0) 1 Tryz.underlying29 hi hz0 hz1 _ _ _ _ na rfl rfl (by omega) (by omega) (by rw [hz2]; omega) (by unfold maxLen; omega) (by simp) ?_))
  intro w1 hown hgrow
  have hWs : ((((w.alloc (Obj.cells #[Value.slice aa na ca] 31)).alloc (Obj.cells #[Value.slice ab nb cb] 31)).alloc (Obj.cells #[Value.slice none 0 0] 31)).alloc (Obj.cells #[Value.slice none 0 0] 31)).heap.size = w.heap.size + 1 + 1 + 1 + 1 := by simp
  have hb1 := (Below.refl (w.heap.size + 1 + 1 + 1 + 1) _).grown hgrow (by rw [hWs]; exact Nat.le_refl _) (by intro k hk; simp at hk)
  simp only [toList_madeCells_one, Value.cells, Nat.mul_one] at hown
  rw [← i64s_rep] at hown
  obtain ⟨hWb, b0, b1, b2, b3, _⟩ := boxed4 w (Obj.cells #[Value.slice aa na ca] 31) (Obj.cells #[Value.slice ab nb cb] 31) (Obj.cells #[Value.slice none 0 0] 31) (Obj.cells #[Value.slice none 0 0] 31)
  generalize (((w.alloc (Obj.cells #[Value.slice aa na ca] 31)).alloc (Obj.cells #[Value.slice ab nb cb] 31)).alloc (Obj.cells #[Value.slice none 0 0] 31)).alloc (Obj.cells #[Value.slice none 0 0] 31) = W at *
  clear hgrow
  have hl1 := own_ltR hown
  have M0 := hid (show RDMem w W na w1.heap.size none 0 0 0 0 (List.replicate na 0) (w1.alloc (Obj.cells #[.slice none 0 0] 31)) from ⟨World.ownsRow.alloc hown _, ref_zero _, box_new _ _, below_alloc' hb1 (by rw [hWs]; exact Nat.le_refl _) _, hl1⟩)
  have hz : R.val (List.replicate na 0) = 0 := R.pv_zero fun j _ => lg_rep na j
  have O0 := hid (show OneRel A (List.replicate na 0) n na na 0 from ⟨by simp, R.Bd_rep na, fun j _ => lg_rep na j, by rw [hz]; simp; exact R.pv_val A na (by have := HN.out; omega), hn0⟩)
  have ta := cell_of_one (box_alloc (box_below hb1 b0 (by omega)) (Obj.cells #[.slice none 0 0] 31))
  clear hz hown
  go_wp2
  generalize w1.alloc (Obj.cells #[.slice none 0 0] 31) = W1 at *
  clear ta
  go_loopg [11] na (fun k i wr => ∃ (r lr cr : Nat) (ar : Option Addr) (S : List Nat), i = .int .i64 ((k : Int) - 1) ∧ k ≤ na ∧ Hid (OneRel A S n na k r) ∧ Hid (RDMem w W na w1.heap.size ar lr cr r nb S wr))
  case atStart => exact ⟨0, 0, 0, none, _, by first | rfl | go_num, Nat.le_refl _, O0, hid ⟨M0.out.1, M0.out.2.1.mono (by omega), M0.out.2.2⟩⟩
  case round =>
    obtain ⟨r, lr, cr, ar, S, rfl, hk, HR, HM⟩ := hrel
    have hsz : w.heap.size + 1 + 1 + 1 + 1 ≤ wr.heap.size := by have := lt_of_block HM.out.2.2.1; have := HM.out.2.2.2.2; omega
    have CB : Below w.heap.size w wr := hWb.trans (HM.out.2.2.2.1.mono (by omega))
    have t0 := cell_of_one (box_below HM.out.2.2.2.1 b0 (by omega))
    have t1 := cell_of_one (box_below HM.out.2.2.2.1 b1 (by omega))
    have tx := cell_of_one HM.out.2.2.1
    have fx := free_of_one HM.out.2.2.1
    cases gk with
    | zero =>
      have hneg : ¬ ((0 : Int) ≤ ((0 : Nat) : Int) - 1) := by omega
      have HE := hid HR.out.done
      have D0 : Below wr.heap.size wr wr.drew := (Below.refl _ _).drew
      have bx1 := box_below HM.out.2.2.2.1 b2 (by omega)
      have bx2 := box_below HM.out.2.2.2.1 b3 (by omega)
      have hg1 : w1.heap.size ≠ w.heap.size + 1 + 1 := by have := HM.out.2.2.2.2; omega
      have hg2 : w1.heap.size ≠ w.heap.size + 1 + 1 + 1 := by have := HM.out.2.2.2.2; omega
      go_wp2_with fail
      go_region_held3 (fun w' => w'.cell? ⟨w1.heap.size, 0, none⟩ = some (.slice ar lr cr)) ((first | exact tx | exact K1 | exact K2 | exact K3)) (first
        | (go_at_call 115; refine (rtrim_len _ (w.heap.size + 1 + 1 + 1 + 1) _ na na S HR.out.1.symm HR.out.2.1 (ownsRow_below HM.out.1 D0)).mono ?_; rintro e w3 ⟨⟨sl, M, rfl, hM, bM, tM, vM, lM⟩, hb4⟩; obtain ⟨ao, cp, hv⟩ := ints_slice hM; rw [hv] at hM; rw [hv]; have D1 := chain2 D0 hb4; have N1 : RefIs w3 (.agg #[.slice ao M.length cp]) (R.val A / n) na := ⟨_, M, rfl, ownsRow_base0 hM, bM, tM, vM.trans HE.out.1, by have := HR.out.1; omega⟩; have K1 := kc D1 tx; have y1 := box_below D1 bx1 (lt_of_block bx1); have y2 := box_below D1 bx2 (lt_of_block bx2); have u1 := cell_of_one y1; have f1 := free_of_one y1; have y3 := box_set y2 (show w.heap.size + 1 + 1 + 1 ≠ w.heap.size + 1 + 1 by omega) (.slice ao M.length cp); have u2 := cell_of_one y3; have f2 := free_of_one y3; have K2 := cell_of_one (box_set (box_below D1 HM.out.2.2.1 (lt_of_block HM.out.2.2.1)) hg1 (.slice ao M.length cp)); have K3 := cell_of_one (box_set (box_set (box_below D1 HM.out.2.2.1 (lt_of_block HM.out.2.2.1)) hg1 (.slice ao M.length cp)) hg2 (.slice ar lr cr))))
      all_goals
        obtain ⟨o1, o2, o3, o4, o5⟩ := rdiv_out (chain2 CB D1) (show w.heap.size ≤ w.heap.size + 1 + 1 by omega) (show w.heap.size ≤ w.heap.size + 1 + 1 + 1 by omega) (by omega) y1 y2 N1 (HM.out.2.1.below D1) (.slice ao M.length cp) (.slice ar lr cr)
        have HO := hid (And.intro o1 (And.intro o2 o3))
        clear o1 o2 o3 y1 y2 y3 u1 u2 f1 f2 N1 K1 K2 K3 D1 hM
        generalize ((w3.setCell ⟨w.heap.size + 1 + 1, 0, none⟩ (Value.slice ao M.length cp)).setCell ⟨w.heap.size + 1 + 1 + 1, 0, none⟩ (Value.slice ar lr cr)) = Z at *
        go_wp2
        exact bodyPost_ret (v := .tuple #[.agg #[.slice ao M.length cp], .agg #[.slice ar lr cr], .int .i64 0]) (by simp [results, Tryz.results144, go_sem, o4, o5]) rfl ⟨⟨_, _, rfl, HO.out.1, by rw [← HE.out.2]; exact HO.out.2.1.mono (by omega)⟩, HO.out.2.2⟩
    | succ j =>
      have e0 : (((j + 1 : Nat) : Int) - 1) = (j : Int) := by omega
      rw [e0]
      have hj : j < na := by omega
      obtain ⟨ga, rfl⟩ : ∃ ga, aa = some ⟨ga, 0, none⟩ := by
        rcases oa.2 with ⟨h', _⟩ | ⟨g, cap, cur, h', _⟩
        · simp at h'; omega
        · simp only [Value.slice.injEq] at h'; exact ⟨g, h'.1⟩
      have cA := i64s_at (ownsRow_below oa CB) j (by have := HN.out; omega)
      have hA9 := hA j
      obtain ⟨hS, hq⟩ := HR.out.step hj hA
      have hrn := HR.out.2.2.2.2
      have HA := hid (show lg A j = lg A j from rfl)
      obtain ⟨x, hx⟩ : ∃ x, lg A j = x := ⟨_, rfl⟩
      rw [hx] at cA hA9 hS hq
      clear hx HA
      have D0 : Below wr.heap.size wr wr.drew := (Below.refl _ _).drew
      go_wp2_with fail
      go_region_with (first
        | (go_at_call 166; refine (rsmall2_any _ _ r nb x (by omega) hA9 ?_).mono ?_; exact HM.out.2.1.below D0; rintro e w2 ⟨v1, rfl, ⟨p1, l1, c1, rfl, hf⟩, n1, hb2⟩; have M1 := HM.out.below (chain2 D0 hb2); have u1 := cell_of_one M1.2.2.1; have f1 := free_of_one M1.2.2.1))
      all_goals
        have M2 := hid (M1.put n1)
        have HF := hid (show ∀ q, (Value.slice p1 l1 c1).ownBlock = some q → w.heap.size + 1 + 1 + 1 + 1 < q from fun q hq => by have h1 := hf q hq; have h2 := D0.size; have h3 := lt_of_block HM.out.2.2.1; have h4 := HM.out.2.2.2.2; omega)
        clear M1 n1 hb2 hf u1 f1 D0 tx fx t0 t1 cA e0 HM
        generalize w2.setCell ⟨w1.heap.size, 0, none⟩ (.slice p1 l1 c1) = X1 at *
        have CB2 : Below w.heap.size w X1 := hWb.trans (M2.out.2.2.2.1.mono (by omega))
        have t1 := cell_of_one (box_below M2.out.2.2.2.1 b1 (by omega))
        have tx := cell_of_one M2.out.2.2.1
        have D0 : Below X1.heap.size X1 X1.drew := (Below.refl _ _).drew
        have hT : r * 1000000000 + x < 1000000000 * n := by
          have : (r + 1) * 1000000000 ≤ n * 1000000000 := Nat.mul_le_mul_right _ hrn
          rw [Nat.mul_comm 1000000000 n]; omega
        obtain ⟨T, hTe⟩ : ∃ T, r * 1000000000 + x = T := ⟨_, rfl⟩
        rw [hTe] at hS hq M2 hT
        obtain ⟨t, hte⟩ : ∃ t, T / n = t := ⟨_, rfl⟩
        have HT := hid hte
        rw [hte] at hS hq
        have HS := hid hS
        clear hS hTe hte
        go_wp2_with fail
        refine (rtimes_any _ _ _ T n (nb + 1) nb (by omega) (by omega) M2.out.2.1 (hb.below CB2) hn0 hT).mono ?_
        rintro e w3 ⟨rfl, hb3⟩
        rw [HT.out]
        have M3 := M2.out.below hb3
        have st := i64s_at M3.1 j (by have := M3.1.1; rw [i64s_len] at this; omega)
        have fr := M3.1.frozenAt j
        have M4 := hid (M3.digit HF.out j t)
        clear hb3 M3 D0 tx t1 M2
        have ht9 : t < 1000000000 := hq
        have st4 := i64s_at M4.out.1 j (by have := M4.out.1.1; rw [i64s_len] at this; omega)
        rw [lg_set_same S j t (by have := HR.out.1; omega)] at st4
        have t1 := cell_of_one (box_below M4.out.2.2.2.1 b1 (by omega))
        have tx := cell_of_one M4.out.2.2.1
        go_wp2
        generalize w3.setCell ⟨w.heap.size + 1 + 1 + 1 + 1, j, none⟩ (.int .i64 (t : Int)) = X2 at *
        have CB4 : Below w.heap.size w X2 := hWb.trans (M4.out.2.2.2.1.mono (by omega))
        have D0 : Below X2.heap.size X2 X2.drew := (Below.refl _ _).drew
        have HN2 := hid (rest_sub (T := T) (n := n) hn0 HT.out)
        have hle : n * t + 0 ≤ T := HN2.out.1
        have hb4 := hb.below CB4
        go_region_with (first
          | (have gg := D1; go_at_call 162; refine (rsub_any _ _ _ T (n * t + 0) (nb + 1) (nb + 1) (by omega) (by omega) ?_ ?_ hle).mono ?_; exact M4.out.2.1.below D1; exact n2; rintro e w5 ⟨v3, rfl, n3, hb5⟩; obtain ⟨p3, l3, c3, rfl⟩ := n3.form; have M5 := M4.out.below (chain2 D1 hb5); have u5 := cell_of_one M5.2.2.1; have f5 := free_of_one M5.2.2.1)
          | (go_at_call 168; refine (rsmall_any _ _ n nb t 0 (by omega) ht9 (by omega) ?_).mono ?_; exact hb4.below D0; rintro e w4 ⟨v2, rfl, n2, hb4'⟩; have D1 := chain2 D0 hb4'; have tx1 := kc D1 tx; have t11 := kc D1 t1; have st1 := kc D1 st4))
        all_goals
          rw [HN2.out.2] at n3
          have M6 := hid (M5.put (n3.fit (Nat.lt_trans (Nat.mod_lt T hn0) hb.lt)))
          clear n2 n3 hb4' hb5 M5 u5 f5 D0 D1 tx t1 st4 M4 hb4 hle
          try clear tx1 t11 st1
          have HS2 := hid (show OneRel A (S.set j t) n na j (T % n) from HS.out)
          clear HN2 HS
          go_wp2
          go_roundg j
          case rel => exact ⟨T % n, l3, c3, p3, S.set j t, by first | rfl | go_num, by omega, HS2, M6⟩
          case measure => omega
end Go.Proofs.YtcdkoadobdgbhaaGreatDoor
