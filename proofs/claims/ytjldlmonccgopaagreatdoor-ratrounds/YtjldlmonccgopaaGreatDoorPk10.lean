/- RCmp, RSub, REnds, RMul, RSmall. -/
import Derived.Test.YtjldlmonccgopaaGreatDoorPk9
import Derived.Test.YtjldlmonccgopaaGreatDoorPk6
import Derived.Test.YtjldlmonccgopaaGreatDoorPk7
/- The document's Cmp. -/
namespace Go.Proofs.YtjldlmonccgopaaGreatDoor
open Go.RowKit
set_option linter.unusedVariables false
set_option maxRecDepth 100000
set_option linter.unusedSimpArgs false
attribute [local go_sem ↓] Go.wp_at_zero Go.wp_at_succ

theorem rcmp_all {A B : List Nat} (h : ∀ j, lg A j = lg B j) : R.val A = R.val B := by
  rw [← R.pv_val A (max A.length B.length) (by omega), ← R.pv_val B (max A.length B.length) (by omega)]
  exact R.pv_congr fun j _ => h j
theorem rcmp_below {A B : List Nat} {q n : Nat} (hA : R.Bd A) (hq : q + 1 ≤ n) (he : ∀ j, q + 1 ≤ j → lg A j = lg B j) (h : lg A q < lg B q) : R.val A < R.val B := by
  rw [← R.pv_val A (max n (max A.length B.length)) (by omega), ← R.pv_val B (max n (max A.length B.length)) (by omega)]
  exact R.pv_lt_at hA q _ (by omega) (fun j h1 _ => he j (by omega)) h
set_option maxHeartbeats 2000000 in
theorem rcmp_walk (w : World) (aa ab : Option Addr) (na ca nb cb n : Nat) (A B : List Nat) (hA : R.Bd A) (hB : R.Bd B) (hna : na ≤ 1000000000) (hnb : nb ≤ 1000000000) (hn : max na nb = n) (hAl : A.length = na) (hBl : B.length = nb)
    (oa : w.ownsRow 0 3 1 (.slice aa na ca) na (i64s A)) (ob : w.ownsRow 0 3 1 (.slice ab nb cb) nb (i64s B)) :
    Calls Tryz.prog 80 #[.agg #[.slice aa na ca], .agg #[.slice ab nb cb]] w fun e w' => e = .returned (.int .i64 (cmpI (R.val A) (R.val B))) ∧ Below w.heap.size w w' := by
  have HN : Hid (max na nb = n ∧ A.length = na ∧ B.length = nb) := ⟨hn, hAl, hBl⟩
  have hn' : n ≤ 1000000000 := by omega
  have hna' : na ≤ n := by omega
  have hnb' : nb ≤ n := by omega
  have OA := hid (show w.ownsRow 0 3 1 (.slice aa na ca) A.length (i64s A) by rw [hAl]; exact oa)
  have OB := hid (show w.ownsRow 0 3 1 (.slice ab nb cb) B.length (i64s B) by rw [hBl]; exact ob)
  have hor : (na < nb ∧ nb = n) ∨ (¬ na < nb ∧ na = n) := by omega
  clear hn hAl hBl oa ob
  have x1 : ((w.alloc (Obj.cells #[Value.slice aa na ca] 32)).alloc (Obj.cells #[Value.slice ab nb cb] 32)).heap[w.heap.size]? = some (Obj.cells #[Value.slice aa na ca] 32) := box_alloc (box_new _ _) _
  have x2 : ((w.alloc (Obj.cells #[Value.slice aa na ca] 32)).alloc (Obj.cells #[Value.slice ab nb cb] 32)).heap[w.heap.size + 1]? = some (Obj.cells #[Value.slice ab nb cb] 32) := by
    have := box_new (w.alloc (Obj.cells #[Value.slice aa na ca] 32)) (Obj.cells #[Value.slice ab nb cb] 32); simpa using this
  have hWb : Below w.heap.size w ((w.alloc (Obj.cells #[Value.slice aa na ca] 32)).alloc (Obj.cells #[Value.slice ab nb cb] 32)) := below_alloc' (below_alloc' (Below.refl _ _) (Nat.le_refl _) _) (Nat.le_refl _) _
  have X := hid (And.intro x1 (And.intro x2 hWb))
  clear x1 x2 hWb
  rcases hor with ⟨hlt, he⟩ | ⟨hlt, he⟩
  all_goals
    have HHe := hid he
    clear he
    go_enter Tryz.func80, Tryz.ntmps80
    go_wp2
    clear hlt
    generalize (w.alloc (Obj.cells #[Value.slice aa na ca] 32)).alloc (Obj.cells #[Value.slice ab nb cb] 32) = W at *
    go_loopw [5] (fun i wr => ∃ k : Nat, k ≤ n ∧ i = .int .i64 ((k : Int) - 1) ∧ Below W.heap.size W wr ∧ (∀ j, k ≤ j → lg A j = lg B j)) (fun i _ => (intOf i + 1).toNat)
    case atStart => exact ⟨n, Nat.le_refl _, by first | rfl | (rw [← HHe.out]), Below.refl _ _, fun j hj => by rw [lg_past A j (by have := HN.out; omega), lg_past B j (by have := HN.out; omega)]⟩
    case round =>
      obtain ⟨k, hk, rfl, hbel, heq⟩ := hrel
      have HE := hid heq
      clear heq
      have hbw : Below w.heap.size w wr := chain2 X.out.2.2 hbel
      have e1 := cell_of_one (box_below hbel X.out.1 (lt_of_block X.out.1))
      have e2 := cell_of_one (box_below hbel X.out.2.1 (lt_of_block X.out.2.1))
      by_cases hk0 : 0 < k
      · obtain ⟨q, rfl⟩ : ∃ q, k = q + 1 := ⟨k - 1, by omega⟩
        have hq1 : ((q + 1 : Nat) : Int) - 1 = (q : Int) := by omega
        rw [hq1]
        have hA9 := hA q
        have hB9 := hB q
        have hbd := hbw.drew
        have hbdd := hbw.drew.drew
        have hbl := hbel.drew.drew
        rcases Nat.lt_trichotomy (lg A q) (lg B q) with hc | hc | hc
        · go_wp2
          go_region_held3 (fun w' => w'.cell? ⟨w.heap.size, 0, none⟩ = some (.slice aa na ca) ∧ w'.cell? ⟨w.heap.size + 1, 0, none⟩ = some (.slice ab nb cb)) ((first | go_keep))
            (first | (go_at_call_of 106 (Value.slice aa na ca); refine (rdigit_any _ _ A hA (ownsRow_below OA.out hbd) q).mono ?_; rintro e w' ⟨rfl, rfl⟩) | (go_at_call_of 106 (Value.slice ab nb cb); refine (rdigit_any _ _ B hB (ownsRow_below OB.out hbd) q).mono ?_; rintro e w' ⟨rfl, rfl⟩))
          go_wp2
          go_ret
          exact ⟨by rw [cmpI_lt (rcmp_below hA (Nat.le_refl (q + 1)) HE.out hc)]; rfl, hbd⟩
        · have HC := hid hc
          go_wp2
          go_region_held3 (fun w' => w'.cell? ⟨w.heap.size, 0, none⟩ = some (.slice aa na ca) ∧ w'.cell? ⟨w.heap.size + 1, 0, none⟩ = some (.slice ab nb cb)) ((first | go_keep))
            (first | (go_at_call_of 106 (Value.slice aa na ca); refine (rdigit_any _ _ A hA (ownsRow_below OA.out hbd) q).mono ?_; rintro e w' ⟨rfl, rfl⟩; rw [HC.out]) | (go_at_call_of 106 (Value.slice ab nb cb); refine (rdigit_any _ _ B hB (ownsRow_below OB.out hbd) q).mono ?_; rintro e w' ⟨rfl, rfl⟩))
          go_wp2
          go_region_held3 (fun w' => w'.cell? ⟨w.heap.size, 0, none⟩ = some (.slice aa na ca) ∧ w'.cell? ⟨w.heap.size + 1, 0, none⟩ = some (.slice ab nb cb)) ((first | go_keep))
            (first | (go_at_call_of 106 (Value.slice aa na ca); refine (rdigit_any _ _ A hA (ownsRow_below OA.out hbdd) q).mono ?_; rintro e w' ⟨rfl, rfl⟩; rw [HC.out]) | (go_at_call_of 106 (Value.slice ab nb cb); refine (rdigit_any _ _ B hB (ownsRow_below OB.out hbdd) q).mono ?_; rintro e w' ⟨rfl, rfl⟩))
          go_wp2
          go_roundw
          case rel => exact ⟨q, by omega, by go_num, hbl, fun j hj => by
            by_cases e : j = q
            · rw [e]; exact HC.out
            · exact HE.out j (by omega)⟩
          case measure => simp [intOf] <;> omega
        · have hc' : ¬ lg A q < lg B q := by omega
          go_wp2
          go_region_held3 (fun w' => w'.cell? ⟨w.heap.size, 0, none⟩ = some (.slice aa na ca) ∧ w'.cell? ⟨w.heap.size + 1, 0, none⟩ = some (.slice ab nb cb)) ((first | go_keep))
            (first | (go_at_call_of 106 (Value.slice aa na ca); refine (rdigit_any _ _ A hA (ownsRow_below OA.out hbd) q).mono ?_; rintro e w' ⟨rfl, rfl⟩) | (go_at_call_of 106 (Value.slice ab nb cb); refine (rdigit_any _ _ B hB (ownsRow_below OB.out hbd) q).mono ?_; rintro e w' ⟨rfl, rfl⟩))
          go_wp2
          go_region_held3 (fun w' => w'.cell? ⟨w.heap.size, 0, none⟩ = some (.slice aa na ca) ∧ w'.cell? ⟨w.heap.size + 1, 0, none⟩ = some (.slice ab nb cb)) ((first | go_keep))
            (first | (go_at_call_of 106 (Value.slice aa na ca); refine (rdigit_any _ _ A hA (ownsRow_below OA.out hbdd) q).mono ?_; rintro e w' ⟨rfl, rfl⟩) | (go_at_call_of 106 (Value.slice ab nb cb); refine (rdigit_any _ _ B hB (ownsRow_below OB.out hbdd) q).mono ?_; rintro e w' ⟨rfl, rfl⟩))
          go_wp2
          go_ret
          exact ⟨by rw [cmpI_gt (rcmp_below hB (Nat.le_refl (q + 1)) (fun j hj => (HE.out j hj).symm) hc)]; rfl, hbdd⟩
      · have hjm : ¬ ((0 : Int) ≤ (k : Int) - 1) := by omega
        go_wp2
        go_ret
        exact ⟨by rw [cmpI_eq (rcmp_all (fun j => HE.out j (by omega)))]; rfl, hbw⟩
/-- The document's Cmp: the order. -/
theorem rcmp_any (w : World) (a b : Value) (m n K K' : Nat) (hK : K ≤ 1000000000) (hK' : K' ≤ 1000000000) (ha : RefIs w a m K) (hb : RefIs w b n K') :
    Calls Tryz.prog 80 #[a, b] w fun e w' => e = .returned (.int .i64 (cmpI m n)) ∧ Below w.heap.size w w' := by
  obtain ⟨sa, A, rfl, oa, bA, tA, rfl, lA⟩ := ha
  obtain ⟨sb, B, rfl, ob, bB, tB, rfl, lB⟩ := hb
  obtain ⟨aa, ca, rfl⟩ := ints_slice oa
  obtain ⟨ab, cb, rfl⟩ := ints_slice ob
  exact rcmp_walk w aa ab A.length ca B.length cb (max A.length B.length) A B bA bB (by omega) (by omega) rfl rfl rfl oa ob
end Go.Proofs.YtjldlmonccgopaaGreatDoor
/- The document's Sub. -/
namespace Go.Proofs.YtjldlmonccgopaaGreatDoor
open Go.RowKit
set_option linter.unusedVariables false
set_option maxRecDepth 100000
set_option linter.unusedSimpArgs false
attribute [local go_sem ↓] Go.wp_at_zero Go.wp_at_succ

set_option maxHeartbeats 2000000 in
theorem rsub_below (w : World) (aa ab : Option Addr) (la ca lb cb m n K K' : Nat) (hK : K ≤ 1000000000) (hK' : K' ≤ 1000000000) (ha : RefIs w (.agg #[.slice aa la ca]) m K) (hb : RefIs w (.agg #[.slice ab lb cb]) n K') (h : m < n) :
    Calls Tryz.prog 81 #[.agg #[.slice aa la ca], .agg #[.slice ab lb cb]] w fun e w' => e = .returned (.tuple #[.agg #[.slice none 0 0], .int .i64 11]) ∧ Below w.heap.size w w' := by
  have hWb : Below w.heap.size w (((w.alloc (Obj.cells #[Value.slice aa la ca] 32)).alloc (Obj.cells #[Value.slice ab lb cb] 32)).alloc (Obj.cells #[Value.slice none 0 0] 32)) := below_alloc' (below_alloc' (below_alloc' (Below.refl _ _) (Nat.le_refl _) _) (Nat.le_refl _) _) (Nat.le_refl _) _
  have x3 : (((w.alloc (Obj.cells #[Value.slice aa la ca] 32)).alloc (Obj.cells #[Value.slice ab lb cb] 32)).alloc (Obj.cells #[Value.slice none 0 0] 32)).heap[w.heap.size + 1 + 1]? = some (Obj.cells #[Value.slice none 0 0] 32) := by
    have := box_new ((w.alloc (Obj.cells #[Value.slice aa la ca] 32)).alloc (Obj.cells #[Value.slice ab lb cb] 32)) (Obj.cells #[Value.slice none 0 0] 32); simpa using this
  have na := ha.below hWb
  have nb := hb.below hWb
  go_enter Tryz.func81, Tryz.ntmps81
  go_wp2_with fail
  generalize ((w.alloc (Obj.cells #[Value.slice aa la ca] 32)).alloc (Obj.cells #[Value.slice ab lb cb] 32)).alloc (Obj.cells #[Value.slice none 0 0] 32) = W at *
  refine (rcmp_any _ _ _ _ _ _ _ hK hK' na nb).mono ?_
  rintro e w1 ⟨rfl, hb1⟩
  rw [cmpI_lt h]
  have hbw := chain2 hWb hb1
  have hx := box_below hb1 x3 (lt_of_block x3)
  have cz := cell_of_one hx
  have fz := free_of_one hx
  have hB2 := hbw.setCell (p := ⟨w.heap.size + 1 + 1, 0, none⟩) (by show w.heap.size ≤ w.heap.size + 1 + 1; omega) (.slice none 0 0)
  have hr := cell_of_one (one_setCell (u := .slice none 0 0) hx)
  have HRr := hid hr
  clear na nb ha hb hr
  go_wp2
  exact bodyPost_ret (v := .tuple #[.agg #[.slice none 0 0], .int .i64 11]) (by simp [results, Tryz.results81, go_sem, HRr.out]) rfl ⟨rfl, hB2⟩
def RSubRel (A B D : List Nat) (c : Nat) : Prop := R.Bd D ∧ R.pv D D.length + R.pv B D.length = R.pv A D.length + c * 1000000000 ^ D.length
theorem RSubRel.step {A B D : List Nat} {c x c' : Nat} (h : RSubRel A B D c) (hx : x < 1000000000) (he : x + lg B D.length + c = lg A D.length + c' * 1000000000) : RSubRel A B (D ++ [x]) c' := by
  obtain ⟨h1, h2⟩ := h
  refine ⟨R.Bd_app h1 _ hx, ?_⟩
  rw [R.pv_app, List.length_append, List.length_singleton]
  simp only [R.pv, Nat.pow_succ]
  generalize 1000000000 ^ D.length = p at *
  have h3 : (x + lg B D.length + c) * p = (lg A D.length + c' * 1000000000) * p := by rw [he]
  rw [Nat.add_mul, Nat.add_mul, Nat.add_mul] at h3
  have h4 : c' * (p * 1000000000) = c' * 1000000000 * p := by rw [Nat.mul_comm p, ← Nat.mul_assoc]
  rw [h4]
  omega
theorem RSubRel.done {A B D : List Nat} {c : Nat} (h : RSubRel A B D c) (hA : R.Bd A) (hB : R.Bd B) (tA : Top A) (tB : Top B) (hl : D.length = A.length) (hle : R.val B ≤ R.val A) : R.val D = R.val A - R.val B := by
  obtain ⟨h1, h2⟩ := h
  have hBl : B.length ≤ A.length := by
    rcases Nat.lt_or_ge A.length B.length with e | e
    · have := R.val_lt_len hA tB e; omega
    · exact e
  have e1 : R.pv D D.length = R.val D := rfl
  rw [e1, R.pv_val A _ (by omega), R.pv_val B _ (by omega)] at h2
  have h3 := R.val_lt h1
  have h4 := R.val_lt hA
  rw [← hl] at h4
  generalize 1000000000 ^ D.length = p at *
  rcases Nat.eq_zero_or_pos c with e | e
  · subst e; omega
  · have : 1 * p ≤ c * p := Nat.mul_le_mul_right _ e
    omega
theorem rtrim_len (w : World) (base g cap k : Nat) (L : List Nat) (hk : k = L.length) (hb : R.Bd L) (hown : w.ownsRow base 3 1 (.slice (some ⟨g, 0, none⟩) k cap) k (i64s L)) :
    Calls Tryz.prog 89 #[.slice (some ⟨g, 0, none⟩) k cap] w fun e w' => (∃ sl M, e = .returned (.agg #[sl]) ∧ w'.ownsRow base 3 1 sl M.length (i64s M) ∧ R.Bd M ∧ Top M ∧ R.val M = R.val L ∧ M.length ≤ L.length) ∧ Below w.heap.size w w' := by
  subst hk; exact rtrim_base w base g cap L hb hown
set_option maxHeartbeats 2000000 in
theorem rsub_walk (w : World) (aa ab : Option Addr) (na ca nb cb : Nat) (A B : List Nat) (hA : R.Bd A) (hB : R.Bd B) (tA : Top A) (tB : Top B) (hna : na ≤ 1000000000) (hnb : nb ≤ 1000000000) (hAl : A.length = na) (hBl : B.length = nb)
    (oa : w.ownsRow 0 3 1 (.slice aa na ca) na (i64s A)) (ob : w.ownsRow 0 3 1 (.slice ab nb cb) nb (i64s B)) (hle : R.val B ≤ R.val A) :
    Calls Tryz.prog 81 #[.agg #[.slice aa na ca], .agg #[.slice ab nb cb]] w fun e w' => ∃ v, e = .returned (.tuple #[v, .int .i64 0]) ∧ RefIs w' v (R.val A - R.val B) na ∧ Below w.heap.size w w' := by
  obtain ⟨i0, hi, hz0, hz1, hz2⟩ := info_parts Tryz.info3
  have HN : Hid (A.length = na ∧ B.length = nb) := ⟨hAl, hBl⟩
  have OA := hid (show w.ownsRow 0 3 1 (.slice aa na ca) A.length (i64s A) by rw [hAl]; exact oa)
  have OB := hid (show w.ownsRow 0 3 1 (.slice ab nb cb) B.length (i64s B) by rw [hBl]; exact ob)
  clear hAl hBl oa ob
  have hWb : Below w.heap.size w (((w.alloc (Obj.cells #[Value.slice aa na ca] 32)).alloc (Obj.cells #[Value.slice ab nb cb] 32)).alloc (Obj.cells #[Value.slice none 0 0] 32)) := below_alloc' (below_alloc' (below_alloc' (Below.refl _ _) (Nat.le_refl _) _) (Nat.le_refl _) _) (Nat.le_refl _) _
  have x1 : (((w.alloc (Obj.cells #[Value.slice aa na ca] 32)).alloc (Obj.cells #[Value.slice ab nb cb] 32)).alloc (Obj.cells #[Value.slice none 0 0] 32)).heap[w.heap.size]? = some (Obj.cells #[Value.slice aa na ca] 32) := box_alloc (box_alloc (box_new _ _) _) _
  have x2 : (((w.alloc (Obj.cells #[Value.slice aa na ca] 32)).alloc (Obj.cells #[Value.slice ab nb cb] 32)).alloc (Obj.cells #[Value.slice none 0 0] 32)).heap[w.heap.size + 1]? = some (Obj.cells #[Value.slice ab nb cb] 32) := box_alloc (by have := box_new (w.alloc (Obj.cells #[Value.slice aa na ca] 32)) (Obj.cells #[Value.slice ab nb cb] 32); simpa using this) _
  have x3 : (((w.alloc (Obj.cells #[Value.slice aa na ca] 32)).alloc (Obj.cells #[Value.slice ab nb cb] 32)).alloc (Obj.cells #[Value.slice none 0 0] 32)).heap[w.heap.size + 1 + 1]? = some (Obj.cells #[Value.slice none 0 0] 32) := by
    have := box_new ((w.alloc (Obj.cells #[Value.slice aa na ca] 32)).alloc (Obj.cells #[Value.slice ab nb cb] 32)) (Obj.cells #[Value.slice none 0 0] 32); simpa using this
  have ra : RefIs w (.agg #[.slice aa na ca]) (R.val A) na := ⟨_, A, rfl, OA.out, hA, tA, rfl, by have := HN.out.1; omega⟩
  have rb : RefIs w (.agg #[.slice ab nb cb]) (R.val B) nb := ⟨_, B, rfl, OB.out, hB, tB, rfl, by have := HN.out.2; omega⟩
  have ra' := ra.below hWb
  have rb' := rb.below hWb
  clear ra rb
  have HT := hid (And.intro tA tB)
  clear tA tB
  go_enter Tryz.func81, Tryz.ntmps81
  go_wp2_with fail
  generalize ((w.alloc (Obj.cells #[Value.slice aa na ca] 32)).alloc (Obj.cells #[Value.slice ab nb cb] 32)).alloc (Obj.cells #[Value.slice none 0 0] 32) = W at *
  refine (rcmp_any _ _ _ _ _ _ _ hna hnb ra' rb').mono ?_
  rintro e w1 ⟨rfl, hb1⟩
  obtain ⟨q, hq⟩ : ∃ q, cmpI (R.val A) (R.val B) = q := ⟨_, rfl⟩
  have hq0 : ¬ q < 0 := by rw [← hq]; unfold cmpI; repeat' split
                           all_goals omega
  rw [hq]
  have HLE := hid hle
  clear hq ra' rb' hle
  have y1 := box_below hb1 x1 (lt_of_block x1)
  have y2 := box_below hb1 x2 (lt_of_block x2)
  have y3 := box_below hb1 x3 (lt_of_block x3)
  have hbw1 := chain2 hWb hb1
  clear x1 x2 x3 hWb hb1
  have hown0 : (w1.alloc (Obj.cells #[] 3)).ownsRow w1.heap.size 3 1 (.slice (some ⟨w1.heap.size, 0, none⟩) 0 0) 0 (i64s []) := by
    have := World.ownsRow_made (base := w1.heap.size) (e := 3) (size := 1) w1 #[] 0 (by simp) (by unfold maxLen; omega) (by simp)
    simpa [i64s] using this
  have hb0 : Below w1.heap.size w1 (w1.alloc (Obj.cells #[] 3)) := below_alloc' (Below.refl _ _) (Nat.le_refl _) _
  go_wp2
  clear hq0
  go_loopw [6, 7, 8] (fun v c i wr => ∃ (d : Nat) (D : List Nat), D.length ≤ na ∧ i = .int .i64 (D.length : Nat) ∧ c = .int .i64 d ∧ d ≤ 1 ∧ RSubRel A B D d ∧ wr.ownsRow w1.heap.size 3 1 v D.length (i64s D) ∧ v ≠ .slice none 0 0 ∧ Below w1.heap.size w1 wr) (fun _ _ i _ => na - (intOf i).toNat)
  case atStart => exact ⟨0, [], by simp, rfl, rfl, by omega, ⟨by intro j; simp [lg], by simp [R.pv]⟩, hown0, by simp, hb0⟩
  case round =>
    obtain ⟨d, D, hk, rfl, rfl, hd, hR, hown, hnn, hbel⟩ := hrel
    have HR := hid hR
    have HNN := hid hnn
    clear hR hown0 hb0 hnn
    have hbw : Below w.heap.size w wr := chain2 hbw1 hbel
    have e1 := cell_of_one (box_below hbel y1 (lt_of_block y1))
    have e2 := cell_of_one (box_below hbel y2 (lt_of_block y2))
    have j3 := box_below hbel y3 (lt_of_block y3)
    obtain ⟨k, hkD⟩ : ∃ k, k = D.length := ⟨_, rfl⟩
    have HK := hid hkD
    rw [← hkD] at hk hown ⊢
    clear hkD
    by_cases hlt : k < na
    · obtain ⟨ga, cur, hv, hcc⟩ : ∃ ga cur : Nat, aa = some ⟨ga, 0, none⟩ ∧ na ≤ ca ∧ ca ≤ maxLen := by
        rcases OA.out.2 with ⟨h0, h0'⟩ | ⟨g, cap, cur, hv, _, _, r1, r2, _⟩
        · have := HN.out.1; simp at h0; omega
        · simp only [Value.slice.injEq] at hv
          obtain ⟨h1, h2, h3⟩ := hv
          exact ⟨g, 0, h1, by omega, by omega⟩
      have OA' := OA.out
      rw [hv] at OA' e1 ⊢
      have e3 := i64s_at (L := A) (g := ga) (cap := ca) (n := na) (by have := ownsRow_below OA' hbw; rw [HN.out.1] at this; exact this) k (by have := HN.out.1; omega)
      have hca := hcc.2
      unfold maxLen at hca
      have hcc1 := hcc.1
      have HOA := hid OA'
      clear hcc OA' hv OA
      have hA9 := hA k
      have hB9 := hB k
      have e1d := e1
      go_wp2
      go_region_held3 (fun w' => w'.cell? ⟨w.heap.size, 0, none⟩ = some (.slice (some ⟨ga, 0, none⟩) na ca) ∧ w'.cell? ⟨w.heap.size + 1, 0, none⟩ = some (.slice ab nb cb) ∧ w'.cell? ⟨ga, k, none⟩ = some (.int .i64 (lg A k : Int))) ((first | go_keep))
        (first | (go_at_call 106; refine (rdigit_any _ _ B hB (ownsRow_below OB.out hbw.drew) k).mono ?_; rintro e w' ⟨rfl, rfl⟩))
      have eT : IntKind.i64.wrap (IntKind.i64.wrap (↑(lg A k) - ↑(lg B k)) - ↑d) = (lg A k : Int) - (lg B k : Int) - (d : Int) := by
        rw [w64i ((lg A k : Int) - (lg B k : Int)) (by omega) (by omega), w64i _ (by omega) (by omega)]
      rw [eT]
      clear eT
      have hown2 := hown.drew
      have hbel2 := hbel.drew
      generalize wr.drew = w2 at *
      obtain ⟨x, t, hx9, ht, hx, hxt⟩ : ∃ x t : Nat, x < 1000000000 ∧ t ≤ 1 ∧ x + lg B k + d = lg A k + t * 1000000000 ∧ ((t = 1 ∧ (lg A k : Int) - (lg B k : Int) - (d : Int) = (x : Int) - 1000000000) ∨ (t = 0 ∧ (lg A k : Int) - (lg B k : Int) - (d : Int) = (x : Int))) := by
        rcases Nat.lt_or_ge (lg A k) (lg B k + d) with hc | hc
        · exact ⟨lg A k + 1000000000 - lg B k - d, 1, by omega, by omega, by omega, Or.inl ⟨rfl, by omega⟩⟩
        · exact ⟨lg A k - lg B k - d, 0, by omega, by omega, by omega, Or.inr ⟨rfl, by omega⟩⟩
      have HS := hid (show RSubRel A B (D ++ [x]) t from HR.out.step hx9 (by rw [← HK.out]; exact hx))
      have HL := hid (show (D ++ [x]).length = k + 1 from by rw [List.length_append, List.length_singleton, ← HK.out])
      clear hown hbel hbw e1 e2 e3 e1d j3 hx hA9 hB9
      generalize (lg A k : Int) - (lg B k : Int) - (d : Int) = y at *
      rcases hxt with ⟨rfl, hy⟩ | ⟨rfl, hy⟩
      all_goals
        rw [hy]
        clear hy
        try have hneg : (x : Int) - 1000000000 < 0 := by omega
        try have hneg2 : ¬ (x : Int) < 0 := by omega
        go_wp2_with (at_builtin; refine wpList_append_own _ rfl _ _ 30 rfl w1.heap.size 3 i0 (.int .i64 0) 1 8 Tryz.underlying30 hi hz0 hz1 hz2 rfl (by decide) _ _ _ rfl (hown2.alloc _) ⟨w2.heap.size, 0, none⟩ 1 1 [.int .i64 (x : Int)] rfl rfl (by intro j u hu; match j, hu with | 0, hu => simp at hu; subst hu; simp [Addr.add]) (by intro u hu; simp at hu; subst hu; rfl) (by unfold maxLen; omega) (by omega) (by have := hbel2.size; simp; omega) ?_)
        intro v' w3 hown3 hgrow hnil
        have hb3 : Below w1.heap.size w1 w3 := (below_alloc' hbel2 (Nat.le_refl _) _).grown hgrow (by have := hbel2.size; simp; omega) (fun q hq => (hown2.lt q hq).1)
        have hown4 : w3.ownsRow w1.heap.size 3 1 v' (D ++ [x]).length (i64s (D ++ [x])) := by
          rw [i64s_app, List.length_append, List.length_singleton, ← HK.out]; simpa using hown3
        have HO := hid hown4
        have HNN' := hid (show v' ≠ .slice none 0 0 from by
          intro e
          have h4 := hown4.1
          rcases hown4.2 with ⟨h0, h0'⟩ | ⟨g, cap, cur, hv, _⟩
          · simp at h0'
          · rw [e] at hv; simp at hv)
        clear hown3 hown4 hgrow hnil hown2 hbel2
        generalize D ++ [x] = E at *
        go_wp2
        go_roundw
        case rel => exact ⟨_, E, by have := HL.out; omega, by rw [HL.out]; go_num, by go_num, ht, HS.out, HO.out, HNN'.out, hb3⟩
        case measure => simp [intOf]; omega
    · have hkn : k = na := by omega
      have HF := hid (HR.out.done hA hB HT.out.1 HT.out.2 (by rw [← HK.out, hkn, HN.out.1]) HLE.out)
      have HBd := hid HR.out.1
      clear hkn
      obtain ⟨g, cap, hv⟩ : ∃ g cap, u6 = .slice (some ⟨g, 0, none⟩) k cap := by
        rcases hown.2 with ⟨h0, h0'⟩ | ⟨g, cap, cur, hv, _⟩
        · exact absurd h0 HNN.out
        · exact ⟨g, cap, hv⟩
      rw [hv] at hown ⊢
      clear hv HNN
      have hnk : ¬ k < na := hlt
      go_wp2_with fail
      refine (rtrim_len wr w1.heap.size g cap k D HK.out HBd.out hown).mono ?_
      rintro e w3 ⟨⟨sl, M, rfl, hM, bM, tM, vM, lM⟩, hb4⟩
      have hx3 := box_below hb4 j3 (lt_of_block j3)
      have hbw3 := chain2 hbw hb4
      obtain ⟨ao, cp, hv⟩ := ints_slice hM
      rw [hv] at hM ⊢
      have cz := cell_of_one hx3
      have fz := free_of_one hx3
      have hM2 := own_box (ownsRow_base0 hM) hx3 (by decide) (.slice ao M.length cp)
      have hB2 := hbw3.setCell (p := ⟨w.heap.size + 1 + 1, 0, none⟩) (by show w.heap.size ≤ w.heap.size + 1 + 1; omega) (.slice ao M.length cp)
      have hr := cell_of_one (one_setCell (u := .slice ao M.length cp) hx3)
      have HRr := hid hr
      have HV := hid (show R.val M = R.val A - R.val B ∧ M.length ≤ na from ⟨vM.trans HF.out, by have := HK.out; omega⟩)
      clear hv hM hx3 hr vM lM hb4 hown hbel hbw e1 e2 j3
      go_wp2
      exact bodyPost_ret (v := .tuple #[.agg #[.slice ao M.length cp], .int .i64 0]) (by simp [results, Tryz.results81, go_sem, HRr.out]) rfl ⟨_, rfl, ⟨_, M, rfl, hM2, bM, tM, HV.out.1, HV.out.2⟩, hB2⟩
/-- The document's Sub where it is not below 0: the difference. -/
theorem rsub_any (w : World) (a b : Value) (m n K K' : Nat) (hK : K ≤ 1000000000) (hK' : K' ≤ 1000000000) (ha : RefIs w a m K) (hb : RefIs w b n K') (h : n ≤ m) :
    Calls Tryz.prog 81 #[a, b] w fun e w' => ∃ v, e = .returned (.tuple #[v, .int .i64 0]) ∧ RefIs w' v (m - n) K ∧ Below w.heap.size w w' := by
  obtain ⟨sa, A, rfl, oa, bA, tA, rfl, lA⟩ := ha
  obtain ⟨sb, B, rfl, ob, bB, tB, rfl, lB⟩ := hb
  obtain ⟨aa, ca, rfl⟩ := ints_slice oa
  obtain ⟨ab, cb, rfl⟩ := ints_slice ob
  refine (rsub_walk w aa ab A.length ca B.length cb A B bA bB tA tB (by omega) (by omega) rfl rfl oa ob h).mono ?_
  rintro e w' ⟨v, rfl, hv, hw⟩
  exact ⟨v, rfl, hv.mono lA, hw⟩
end Go.Proofs.YtjldlmonccgopaaGreatDoor
/- The document's Sub, below or not. -/
namespace Go.Proofs.YtjldlmonccgopaaGreatDoor
open Go.RowKit
set_option linter.unusedVariables false

theorem rsub_both (w : World) (aa ab : Option Addr) (la ca lb cb m n K K' : Nat) (hK : K ≤ 1000000000) (hK' : K' ≤ 1000000000) (ha : RefIs w (.agg #[.slice aa la ca]) m K) (hb : RefIs w (.agg #[.slice ab lb cb]) n K') :
    Calls Tryz.prog 81 #[.agg #[.slice aa la ca], .agg #[.slice ab lb cb]] w fun e w' => ∃ ao l c, e = .returned (.tuple #[.agg #[.slice ao l c], .int .i64 (subE m n)]) ∧ RefIs w' (.agg #[.slice ao l c]) (m - n) K ∧ Below w.heap.size w w' := by
  by_cases h : m < n
  · refine (rsub_below w aa ab la ca lb cb m n K K' hK hK' ha hb h).mono ?_
    rintro e w' ⟨rfl, hw⟩
    exact ⟨none, 0, 0, by simp [subE, h], ⟨_, [], rfl, World.ownsRow_nil w' _ _ _, by intro j; simp [lg], fun h => by simp at h, by simp [R.val, R.pv]; omega, by simp⟩, hw⟩
  · refine (rsub_any w _ _ m n K K' hK hK' ha hb (by omega)).mono ?_
    rintro e w' ⟨v, rfl, nv, hw⟩
    obtain ⟨ao, l, c, rfl⟩ := nv.form
    exact ⟨ao, l, c, by simp [subE, h], nv, hw⟩
end Go.Proofs.YtjldlmonccgopaaGreatDoor
/- The document's Mul. -/
namespace Go.Proofs.YtjldlmonccgopaaGreatDoor
open Go.RowKit
set_option linter.unusedVariables false
set_option maxRecDepth 100000
set_option linter.unusedSimpArgs false
attribute [local go_sem ↓] Go.wp_at_zero Go.wp_at_succ

/-- A round of the inner loop: S is the row as it stands, P as it was. -/
def RTimesRel (P S B : List Nat) (n off f k d : Nat) : Prop := S.length = n ∧ R.Bd S ∧ (∀ j, off + k ≤ j → lg S j = lg P j) ∧ R.pv S (off + k) + d * 1000000000 ^ (off + k) = R.pv P (off + k) + f * R.pv B k * 1000000000 ^ off
theorem rtimes_next (P S B : List Nat) (n off f k d : Nat) (hk : off + k < n) (h : RTimesRel P S B n off f k d) :
    RTimesRel P (S.set (off + k) ((f * lg B k + lg P (off + k) + d) % 1000000000)) B n off f (k + 1) ((f * lg B k + lg P (off + k) + d) / 1000000000) := by
  obtain ⟨h1, h2, h3, h4⟩ := h
  refine ⟨by simpa using h1, R.Bd_set h2 _ _ (by omega), fun j hj => ?_, ?_⟩
  · rw [lg_set_other S _ _ j (by omega)]; exact h3 j (by omega)
  · rw [← Nat.add_assoc]
    simp only [R.pv]
    rw [R.pv_set_past S (off + k) _ (off + k) (Nat.le_refl _), lg_set_same S _ _ (by omega), Nat.pow_succ, Nat.pow_add]
    rw [Nat.pow_add] at h4
    generalize 1000000000 ^ off = p at *
    generalize 1000000000 ^ k = q at *
    have hd := Nat.div_add_mod (f * lg B k + lg P (off + k) + d) 1000000000
    generalize (f * lg B k + lg P (off + k) + d) % 1000000000 = r at *
    generalize (f * lg B k + lg P (off + k) + d) / 1000000000 = t at *
    have e1 : (1000000000 * t + r) * (p * q) = (f * lg B k + lg P (off + k) + d) * (p * q) := by rw [hd]
    rw [Nat.add_mul, Nat.add_mul, Nat.add_mul] at e1
    have e2 : t * (p * q * 1000000000) = 1000000000 * t * (p * q) := by rw [Nat.mul_comm (p * q), ← Nat.mul_assoc, Nat.mul_comm t]
    have e3 : f * (R.pv B k + lg B k * q) * p = f * R.pv B k * p + f * lg B k * (p * q) := by
      rw [Nat.mul_add, Nat.add_mul, ← Nat.mul_assoc, Nat.mul_comm p q, ← Nat.mul_assoc (f * lg B k)]
    rw [e2, e3]
    omega
theorem rtimes_done (P S B : List Nat) (n off f k d : Nat) (hk : off + k < n) (hB : B.length = k) (hd : d < 1000000000) (hz : lg P (off + k) = 0) (h : RTimesRel P S B n off f k d) :
    (S.set (off + k) d).length = n ∧ R.Bd (S.set (off + k) d) ∧ (∀ j, off + k < j → lg (S.set (off + k) d) j = lg P j) ∧ R.pv (S.set (off + k) d) (off + k + 1) = R.pv P (off + k) + f * R.val B * 1000000000 ^ off := by
  obtain ⟨h1, h2, h3, h4⟩ := h
  refine ⟨by simpa using h1, R.Bd_set h2 _ _ hd, fun j hj => ?_, ?_⟩
  · rw [lg_set_other S _ _ j (by omega)]; exact h3 j (by omega)
  · simp only [R.pv]
    rw [R.pv_set_past S (off + k) _ (off + k) (Nat.le_refl _), lg_set_same S _ _ (by omega), h4]
    rw [R.pv_val B k (by omega)]
theorem rmul_next (A B S P' : List Nat) (k n : Nat) (m1 : P'.length = n) (m2 : R.Bd P') (m3 : ∀ j, k + B.length < j → lg P' j = lg S j) (m4 : R.pv P' (k + B.length + 1) = R.pv S (k + B.length) + lg A k * R.val B * 1000000000 ^ k)
    (h : S.length = n ∧ R.Bd S ∧ (∀ j, k + B.length ≤ j → lg S j = 0) ∧ R.pv S (k + B.length) = R.pv A k * R.val B) :
    P'.length = n ∧ R.Bd P' ∧ (∀ j, k + 1 + B.length ≤ j → lg P' j = 0) ∧ R.pv P' (k + 1 + B.length) = R.pv A (k + 1) * R.val B := by
  obtain ⟨h1, h2, h3, h4⟩ := h
  refine ⟨m1, m2, fun j hj => by rw [m3 j (by omega)]; exact h3 j (by omega), ?_⟩
  rw [show k + 1 + B.length = k + B.length + 1 by omega, m4, h4, R.pv, Nat.add_mul]
  rw [Nat.mul_right_comm (lg A k)]
theorem rtimes_small {f b p c : Nat} (hf : f < 1000000000) (hb : b < 1000000000) (hp : p < 1000000000) (hc : c < 1000000000) : f * b ≤ 999999998000000001 ∧ f * b + p + c < 1000000000000000000 ∧ (f * b + p + c) / 1000000000 < 1000000000 := by
  have h1 : f * b ≤ 999999999 * 999999999 := Nat.mul_le_mul (by omega) (by omega)
  omega
theorem wrap64_same (x : Int) (h0 : -9223372036854775808 ≤ x) (h1 : x ≤ 9223372036854775807) : wrap64 x = x := by
  have h := w64i x h0 h1
  first | exact h | (simp only [IntKind.wrap] at h; simpa [wrap64] using h) | (unfold wrap64; omega)
theorem w64_r {f b p c : Nat} (hf : f < 1000000000) (hb : b < 1000000000) (hp : p < 1000000000) (hc : c < 1000000000) :
    wrap64 ((c : Int) + (p : Int) + wrap64 ((f : Int) * (b : Int))) = ((f * b + p + c : Nat) : Int) := by
  obtain ⟨h1, h2, h3⟩ := rtimes_small hf hb hp hc
  have e0 : (f : Int) * (b : Int) = ((f * b : Nat) : Int) := by simp
  rw [e0]
  generalize f * b = x at *
  rw [wrap64_same ((x : Nat) : Int) (by omega) (by omega), wrap64_same _ (by omega) (by omega)]; omega
set_option maxHeartbeats 2000000 in
theorem rmul_none (w : World) (aa ab : Option Addr) (na ca nb cb : Nat) (h : na = 0 ∨ nb = 0) :
    Calls Tryz.prog 105 #[.agg #[.slice aa na ca], .agg #[.slice ab nb cb]] w fun e w' => e = .returned (.agg #[.slice none 0 0]) ∧ Below w.heap.size w w' := by
  have hWb : Below w.heap.size w (((w.alloc (Obj.cells #[Value.slice aa na ca] 32)).alloc (Obj.cells #[Value.slice ab nb cb] 32)).alloc (Obj.cells #[Value.slice none 0 0] 32)) := below_alloc' (below_alloc' (below_alloc' (Below.refl _ _) (Nat.le_refl _) _) (Nat.le_refl _) _) (Nat.le_refl _) _
  have hB2 := hWb.setCell (p := ⟨w.heap.size + 1 + 1, 0, none⟩) (by show w.heap.size ≤ w.heap.size + 1 + 1; omega) (.slice none 0 0)
  have h' : na = 0 ∨ (na ≠ 0 ∧ nb = 0) := by omega
  clear h
  rcases h' with rfl | ⟨h1, rfl⟩
  · go_enter Tryz.func105, Tryz.ntmps105
    go_wp2
    exact bodyPost_ret (v := .agg #[.slice none 0 0]) (by simp [results, Tryz.results105, go_sem]) rfl ⟨rfl, by first | exact hB2 | exact hWb⟩
  · have h1' : ((na : Int) == 0) = false := beq_eq_false_iff_ne.2 (by omega)
    go_enter Tryz.func105, Tryz.ntmps105
    go_wp2
    exact bodyPost_ret (v := .agg #[.slice none 0 0]) (by simp [results, Tryz.results105, go_sem]) rfl ⟨rfl, by first | exact hB2 | exact hWb⟩
set_option maxHeartbeats 2000000 in
theorem rmul_walk (w : World) (aa ab : Option Addr) (na ca nb cb n : Nat) (A B : List Nat) (hA : R.Bd A) (hB : R.Bd B) (hna : na ≤ 1000000000) (hnb : nb ≤ 1000000000) (hn : na + nb = n) (hAl : A.length = na) (hBl : B.length = nb) (h1 : na ≠ 0) (h2 : nb ≠ 0)
    (oa : w.ownsRow 0 3 1 (.slice aa na ca) na (i64s A)) (ob : w.ownsRow 0 3 1 (.slice ab nb cb) nb (i64s B)) :
    Calls Tryz.prog 105 #[.agg #[.slice aa na ca], .agg #[.slice ab nb cb]] w fun e w' => ∃ v, e = .returned v ∧ RefIs w' v (R.val A * R.val B) n ∧ Below w.heap.size w w' := by
  obtain ⟨i0, hi, hz0, hz1, hz2⟩ := info_parts Tryz.info3
  have HN : Hid (na + nb = n ∧ A.length = na ∧ B.length = nb) := ⟨hn, hAl, hBl⟩
  have hn' : n ≤ 2000000000 := by omega
  have hn1 : na ≤ n := by omega
  have hor : ((na : Int) == 0) = false := beq_eq_false_iff_ne.2 (by omega)
  have hor2 : ((nb : Int) == 0) = false := beq_eq_false_iff_ne.2 (by omega)
  obtain ⟨ga, rfl, hca, hca2, hga⟩ : ∃ ga, aa = some ⟨ga, 0, none⟩ ∧ na ≤ ca ∧ ca ≤ maxLen ∧ ga < w.heap.size := by
    rcases oa.2 with ⟨h0, h0'⟩ | ⟨g, cap, cur, hv, _, hh, r1, r2, _⟩
    · simp at h0; omega
    · simp only [Value.slice.injEq] at hv
      obtain ⟨e1, e2, e3⟩ := hv
      exact ⟨g, e1, by omega, by omega, (Array.getElem?_eq_some_iff.1 hh).1⟩
  obtain ⟨gb, rfl, hcb, hcb2, hgb⟩ : ∃ gb, ab = some ⟨gb, 0, none⟩ ∧ nb ≤ cb ∧ cb ≤ maxLen ∧ gb < w.heap.size := by
    rcases ob.2 with ⟨h0, h0'⟩ | ⟨g, cap, cur, hv, _, hh, r1, r2, _⟩
    · simp at h0; omega
    · simp only [Value.slice.injEq] at hv
      obtain ⟨e1, e2, e3⟩ := hv
      exact ⟨g, e1, by omega, by omega, (Array.getElem?_eq_some_iff.1 hh).1⟩
  unfold maxLen at hca2 hcb2
  have OA := hid oa
  have OB := hid ob
  clear hn hAl hBl oa ob h1 h2
  go_enter Tryz.func105, Tryz.ntmps105
  go_wp2_with (first | (at_make; refine wpList_make_full _ rfl _ _ 30 rfl (w.heap.size + 1 + 1 + 1) 3 i0 (.int .i64 0) 1 Tryz.underlying30 hi hz0 hz1 _ _ _ _ n rfl rfl (by have := HN.out.1; omega) (by have := HN.out.1; omega) (by rw [hz2]; omega) (by unfold maxLen; omega) (by simp) ?_))
  intro w1 hown hgrow
  have hb1 : Below (w.heap.size + 1 + 1 + 1) (((w.alloc (Obj.cells #[Value.slice (some ⟨ga, 0, none⟩) na ca] 32)).alloc (Obj.cells #[Value.slice (some ⟨gb, 0, none⟩) nb cb] 32)).alloc (Obj.cells #[Value.slice none 0 0] 32)) w1 := by
    have := (Below.refl (w.heap.size + 1 + 1 + 1) _).grown hgrow (by simp) (by intro k hk; simp at hk)
    exact this
  rw [toList_madeCells_one, ← i64s_rep] at hown
  have x1 : (((w.alloc (Obj.cells #[Value.slice (some ⟨ga, 0, none⟩) na ca] 32)).alloc (Obj.cells #[Value.slice (some ⟨gb, 0, none⟩) nb cb] 32)).alloc (Obj.cells #[Value.slice none 0 0] 32)).heap[w.heap.size]? = some (Obj.cells #[Value.slice (some ⟨ga, 0, none⟩) na ca] 32) := box_alloc (box_alloc (box_new _ _) _) _
  have x2 : (((w.alloc (Obj.cells #[Value.slice (some ⟨ga, 0, none⟩) na ca] 32)).alloc (Obj.cells #[Value.slice (some ⟨gb, 0, none⟩) nb cb] 32)).alloc (Obj.cells #[Value.slice none 0 0] 32)).heap[w.heap.size + 1]? = some (Obj.cells #[Value.slice (some ⟨gb, 0, none⟩) nb cb] 32) := box_alloc (by have := box_new (w.alloc (Obj.cells #[Value.slice (some ⟨ga, 0, none⟩) na ca] 32)) (Obj.cells #[Value.slice (some ⟨gb, 0, none⟩) nb cb] 32); simpa using this) _
  have x3 : (((w.alloc (Obj.cells #[Value.slice (some ⟨ga, 0, none⟩) na ca] 32)).alloc (Obj.cells #[Value.slice (some ⟨gb, 0, none⟩) nb cb] 32)).alloc (Obj.cells #[Value.slice none 0 0] 32)).heap[w.heap.size + 1 + 1]? = some (Obj.cells #[Value.slice none 0 0] 32) := by
    have := box_new ((w.alloc (Obj.cells #[Value.slice (some ⟨ga, 0, none⟩) na ca] 32)).alloc (Obj.cells #[Value.slice (some ⟨gb, 0, none⟩) nb cb] 32)) (Obj.cells #[Value.slice none 0 0] 32); simpa using this
  have hWb : Below w.heap.size w (((w.alloc (Obj.cells #[Value.slice (some ⟨ga, 0, none⟩) na ca] 32)).alloc (Obj.cells #[Value.slice (some ⟨gb, 0, none⟩) nb cb] 32)).alloc (Obj.cells #[Value.slice none 0 0] 32)) := below_alloc' (below_alloc' (below_alloc' (Below.refl _ _) (Nat.le_refl _) _) (Nat.le_refl _) _) (Nat.le_refl _) _
  have hWs : (((w.alloc (Obj.cells #[Value.slice (some ⟨ga, 0, none⟩) na ca] 32)).alloc (Obj.cells #[Value.slice (some ⟨gb, 0, none⟩) nb cb] 32)).alloc (Obj.cells #[Value.slice none 0 0] 32)).heap.size = w.heap.size + 1 + 1 + 1 := by simp
  clear hgrow
  generalize ((w.alloc (Obj.cells #[Value.slice (some ⟨ga, 0, none⟩) na ca] 32)).alloc (Obj.cells #[Value.slice (some ⟨gb, 0, none⟩) nb cb] 32)).alloc (Obj.cells #[Value.slice none 0 0] 32) = W at *
  have hWt : w.heap.size + 1 + 1 + 1 ≤ W.heap.size := by omega
  clear hWs
  have e1 := cell_of_one (box_below hb1 x1 (by omega))
  have e2 := cell_of_one (box_below hb1 x2 (by omega))
  go_wp2
  clear e1 e2
  go_loopw [6] (fun i wr => ∃ (k : Nat) (S : List Nat), k ≤ na ∧ i = .int .i64 k ∧ (S.length = n ∧ R.Bd S ∧ (∀ j, k + B.length ≤ j → lg S j = 0) ∧ R.pv S (k + B.length) = R.pv A k * R.val B) ∧
        wr.ownsRow (w.heap.size + 1 + 1 + 1) 3 1 (.slice (some ⟨w.heap.size + 1 + 1 + 1, 0, none⟩) n n) n (i64s S) ∧ Below (w.heap.size + 1 + 1 + 1) W wr) (fun i _ => na - (intOf i).toNat)
  case atStart => exact ⟨0, List.replicate n 0, Nat.zero_le _, rfl, ⟨by simp, R.Bd_rep _, fun j _ => lg_rep _ _, by simp [R.pv, R.pv_zero (fun j _ => lg_rep n j)]⟩, hown, hb1⟩
  case round =>
    obtain ⟨k, S, hk, rfl, hRR, hown', hbel⟩ := hrel
    have RR := hid hRR
    clear hRR hown hb1
    have hbw : Below w.heap.size w wr := hWb.trans (hbel.mono (by omega))
    have e1 := cell_of_one (box_below hbel x1 (by omega))
    have e2 := cell_of_one (box_below hbel x2 (by omega))
    have j3 := box_below hbel x3 (by omega)
    by_cases hlt : k < na
    · have hknb : k + nb < n := by have := HN.out.1; omega
      go_wp2
      clear e1 e2 j3
      generalize hwo : wr = wo at *
      clear hwo
      go_loopw [7, 8] (fun c i wr => ∃ (j d : Nat) (T : List Nat), j ≤ nb ∧ i = .int .i64 j ∧ c = .int .i64 d ∧ d < 1000000000 ∧ RTimesRel S T B n k (lg A k) j d ∧ wr.ownsRow (w.heap.size + 1 + 1 + 1) 3 1 (.slice (some ⟨w.heap.size + 1 + 1 + 1, 0, none⟩) n n) n (i64s T) ∧ Below (w.heap.size + 1 + 1 + 1) W wr) (fun _ i _ => nb - (intOf i).toNat)
      case atStart => exact ⟨0, 0, S, Nat.zero_le _, rfl, rfl, by omega, ⟨RR.out.1, RR.out.2.1, fun j _ => rfl, by simp [R.pv]⟩, hown', hbel⟩
      case round =>
        obtain ⟨j, d, T, hj, rfl, rfl, hd, hR, hownT, hbelT⟩ := hrel
        have HR := hid hR
        clear hR hown' hbel hbw
        have hbw : Below w.heap.size w wr := hWb.trans (hbelT.mono (by omega))
        have e1 := cell_of_one (box_below hbelT x1 (by omega))
        have e2 := cell_of_one (box_below hbelT x2 (by omega))
        by_cases hjl : j < nb
        · have e3 := i64s_at (L := A) (g := ga) (cap := ca) (n := na) (ownsRow_below OA.out hbw) k (by have := HN.out.2.1; omega)
          have e4 := i64s_at (L := B) (g := gb) (cap := cb) (n := nb) (ownsRow_below OB.out hbw) j (by have := HN.out.2.2; omega)
          have c2 := i64s_at hownT (k + j) (by have := HR.out.1; omega)
          rw [HR.out.2.2.1 (k + j) (Nat.le_refl _)] at c2
          have fr := hownT.frozenAt (k + j)
          have HNx := hid (rtimes_next S T B n k (lg A k) j d (by omega) HR.out)
          have b1 := hA k
          have b2 := hB j
          have b3 := RR.out.2.1 (k + j)
          have O : ∀ q, ((wr.drewN q).setCell ⟨w.heap.size + 1 + 1 + 1, k + j, none⟩ (.int .i64 (((lg A k * lg B j + lg S (k + j) + d) % 1000000000 : Nat) : Int))).ownsRow (w.heap.size + 1 + 1 + 1) 3 1 (.slice (some ⟨w.heap.size + 1 + 1 + 1, 0, none⟩) n n) n (i64s (T.set (k + j) ((lg A k * lg B j + lg S (k + j) + d) % 1000000000))) ∧ Below (w.heap.size + 1 + 1 + 1) W ((wr.drewN q).setCell ⟨w.heap.size + 1 + 1 + 1, k + j, none⟩ (.int .i64 (((lg A k * lg B j + lg S (k + j) + d) % 1000000000 : Nat) : Int))) := by
            intro q
            have O1 := (own_drewN hownT q).stored (k + j) (.int .i64 (((lg A k * lg B j + lg S (k + j) + d) % 1000000000 : Nat) : Int))
            rw [← i64s_set] at O1
            exact ⟨O1.1, (below_drewN hbelT q).setCell (p := ⟨w.heap.size + 1 + 1 + 1, k + j, none⟩) (Nat.le_refl _) _⟩
          have HO := hid O
          have HW := hid (w64_r b1 b2 b3 hd)
          have HS := hid (rtimes_small b1 b2 b3 hd).2.2
          have HT := hid (rtimes_small b1 b2 b3 hd).2.1
          clear O hownT hbelT hbw
          have HAB := hid (And.intro hA hB)
          clear hA hB
          generalize lg B j = b at *
          generalize lg S (k + j) = p at *
          generalize lg A k = f at *
          go_wp2
          go_quiet (fail)
          rw [HW.out]
          have hT : f * b + p + d < 1000000000000000000 := HT.out
          generalize f * b + p + d = X at *
          rw [show ((X % 1000000000 : Nat) : Int) = (X : Int) % 1000000000 by omega] at HO
          go_wp2
          go_roundw
          case rel => exact ⟨j + 1, X / 1000000000, T.set (k + j) (X % 1000000000), by omega, by go_num, by go_num, HS.out, HNx.out, (HO.out _).1, (HO.out _).2⟩
          case measure => simp [intOf]; omega
        · have hjk : j = nb := by omega
          have fr := hownT.frozenAt (k + nb)
          have c2 := i64s_at hownT (k + nb) (by have := HR.out.1; omega)
          have O := hownT.stored (k + nb) (.int .i64 (d : Int))
          rw [← i64s_set] at O
          have HB2 := hid (hbelT.setCell (p := ⟨w.heap.size + 1 + 1 + 1, k + nb, none⟩) (Nat.le_refl _) (.int .i64 (d : Int)))
          have HO := hid O
          have HD := hid (show (T.set (k + nb) d).length = n ∧ R.Bd (T.set (k + nb) d) ∧ (∀ j, k + 1 + B.length ≤ j → lg (T.set (k + nb) d) j = 0) ∧ R.pv (T.set (k + nb) d) (k + 1 + B.length) = R.pv A (k + 1) * R.val B from by
            have h := HR.out
            rw [hjk] at h
            obtain ⟨m1, m2, m3, m4⟩ := rtimes_done S T B n k (lg A k) nb d hknb HN.out.2.2 hd (RR.out.2.2.1 (k + nb) (by have := HN.out.2.2; omega)) h
            exact rmul_next A B S _ k n m1 m2 (by rw [HN.out.2.2]; exact m3) (by rw [HN.out.2.2]; exact m4) RR.out)
          clear O hownT hbelT hjk
          go_wp2
          exact ⟨⟨k + 1, T.set (k + nb) d, by omega, by go_num, HD.out, HO.out.1, HB2.out⟩, by simp [intOf]; omega⟩
    · have hkn : k = na := by omega
      have HV := hid (show R.val S = R.val A * R.val B from by
        obtain ⟨r1, _, r3, r4⟩ := RR.out
        obtain ⟨q1, q2, q3⟩ := HN.out
        rw [hkn, R.pv_val A na (by omega), R.pv_val S (na + B.length) (by omega)] at r4
        exact r4)
      clear hkn
      go_wp2_with fail
      refine (rtrim_len wr (w.heap.size + 1 + 1 + 1) _ n n S RR.out.1.symm RR.out.2.1 hown').mono ?_
      rintro e w3 ⟨⟨sl, M, rfl, hM, bM, tM, vM, lM⟩, hb4⟩
      have hx3 := box_below hb4 j3 (lt_of_block j3)
      have hbw3 := chain2 hbw hb4
      obtain ⟨ao, cp, hv⟩ := ints_slice hM
      rw [hv] at hM ⊢
      have cz := cell_of_one hx3
      have fz := free_of_one hx3
      have hM2 := own_box (ownsRow_base0 hM) hx3 (by decide) (.slice ao M.length cp)
      have hB2 := hbw3.setCell (p := ⟨w.heap.size + 1 + 1, 0, none⟩) (by show w.heap.size ≤ w.heap.size + 1 + 1; omega) (.slice ao M.length cp)
      have hr := cell_of_one (one_setCell (u := .slice ao M.length cp) hx3)
      have HRr := hid hr
      have HV2 := hid (show R.val M = R.val A * R.val B ∧ M.length ≤ n from ⟨vM.trans HV.out, by have := RR.out.1; omega⟩)
      clear hv hM hx3 hr vM lM hb4 hown' hbel hbw e1 e2 j3
      go_wp2
      exact bodyPost_ret (v := .agg #[.slice ao M.length cp]) (by simp [results, Tryz.results105, go_sem, HRr.out]) rfl ⟨_, rfl, ⟨_, M, rfl, hM2, bM, tM, HV2.out.1, HV2.out.2⟩, hB2⟩
/-- The document's Mul: the product. -/
theorem rmul_any (w : World) (a b : Value) (m n K K' : Nat) (hK : K ≤ 1000000000) (hK' : K' ≤ 1000000000) (ha : RefIs w a m K) (hb : RefIs w b n K') :
    Calls Tryz.prog 105 #[a, b] w fun e w' => ∃ v, e = .returned v ∧ RefIs w' v (m * n) (K + K') ∧ Below w.heap.size w w' := by
  obtain ⟨sa, A, rfl, oa, bA, tA, rfl, lA⟩ := ha
  obtain ⟨sb, B, rfl, ob, bB, tB, rfl, lB⟩ := hb
  obtain ⟨aa, ca, rfl⟩ := ints_slice oa
  obtain ⟨ab, cb, rfl⟩ := ints_slice ob
  by_cases h : A.length = 0 ∨ B.length = 0
  · refine (rmul_none w aa ab A.length ca B.length cb h).mono ?_
    rintro e w' ⟨rfl, hw⟩
    have h0 : R.val A * R.val B = 0 := by
      rcases h with h | h
      · rw [List.eq_nil_of_length_eq_zero h]; simp [R.val, R.pv]
      · rw [List.eq_nil_of_length_eq_zero h]; simp [R.val, R.pv]
    exact ⟨_, rfl, ⟨_, [], rfl, World.ownsRow_nil w' _ _ _, by intro j; simp [lg], fun h => by simp at h, by rw [h0]; simp [R.val, R.pv], by simp⟩, hw⟩
  · refine (rmul_walk w aa ab A.length ca B.length cb (A.length + B.length) A B bA bB (by omega) (by omega) rfl rfl rfl (by omega) (by omega) oa ob).mono ?_
    rintro e w' ⟨v, rfl, hv, hw⟩
    exact ⟨v, rfl, hv.mono (by omega), hw⟩
end Go.Proofs.YtjldlmonccgopaaGreatDoor
/- The document's small: a number times a digit, and a digit more. -/
namespace Go.Proofs.YtjldlmonccgopaaGreatDoor
open Go.RowKit
set_option linter.unusedVariables false
set_option maxRecDepth 100000
set_option linter.unusedSimpArgs false

def RSmallRel (A D : List Nat) (f m c : Nat) : Prop := R.Bd D ∧ R.pv D D.length + c * 1000000000 ^ D.length = R.pv A D.length * f + m
theorem RSmallRel.step {A D : List Nat} {f m c : Nat} (h : RSmallRel A D f m c) : RSmallRel A (D ++ [(c + lg A D.length * f) % 1000000000]) f m ((c + lg A D.length * f) / 1000000000) := by
  obtain ⟨h1, h2⟩ := h
  refine ⟨R.Bd_app h1 _ (Nat.mod_lt _ (by omega)), ?_⟩
  rw [R.pv_app, List.length_append, List.length_singleton]
  show _ + _ = R.pv A (D.length + 1) * f + m
  simp only [R.pv]
  rw [Nat.pow_succ]
  generalize 1000000000 ^ D.length = p at *
  have hd := Nat.div_add_mod (c + lg A D.length * f) 1000000000
  generalize (c + lg A D.length * f) % 1000000000 = r at *
  generalize (c + lg A D.length * f) / 1000000000 = q at *
  have e1 : (1000000000 * q + r) * p = (c + lg A D.length * f) * p := by rw [hd]
  rw [Nat.add_mul, Nat.add_mul] at e1
  have e2 : q * (p * 1000000000) = 1000000000 * q * p := by rw [Nat.mul_comm p, ← Nat.mul_assoc, Nat.mul_comm q]
  have e3 : (R.pv A D.length + lg A D.length * p) * f = R.pv A D.length * f + lg A D.length * f * p := by rw [Nat.add_mul, Nat.mul_right_comm]
  rw [e2, e3]
  omega
theorem RSmallRel.done {A D : List Nat} {f m c : Nat} (h : RSmallRel A D f m c) (hc : c < 1000000000) (hl : D.length = A.length) : R.Bd (D ++ [c]) ∧ R.val (D ++ [c]) = R.val A * f + m := by
  obtain ⟨h1, h2⟩ := h
  refine ⟨R.Bd_app h1 _ hc, ?_⟩
  unfold R.val
  rw [R.pv_app, h2, hl]
theorem small_fits {x f c : Nat} (hx : x < 1000000000) (hf : f < 1000000000) (hc : c < 1000000000) : c + x * f < 1000000000000000000 ∧ x * f < 1000000000000000000 := by
  have : x * f ≤ 999999999 * 999999999 := Nat.mul_le_mul (by omega) (by omega)
  omega
theorem small_prod {x f y : Nat} (hy : x * f = y) (h : y < 1000000000000000000) : wrap64 ((x : Int) * (f : Int)) = (y : Int) := by
  have e : (x : Int) * (f : Int) = (y : Int) := by rw [← hy]; simp
  rw [e]; clear e hy; unfold wrap64; omega
set_option maxHeartbeats 2000000 in
theorem rsmall_walk (w : World) (aa : Option Addr) (na ca f m : Nat) (A : List Nat) (hA : R.Bd A) (hna : na ≤ 1000000000) (hAl : A.length = na) (hf : f < 1000000000) (hm : m < 1000000000) (oa : w.ownsRow 0 3 1 (.slice aa na ca) na (i64s A)) :
    Calls Tryz.prog 131 #[.agg #[.slice aa na ca], .int .i64 f, .int .i64 m] w fun e w' => ∃ v, e = .returned v ∧ RefIs w' v (R.val A * f + m) (na + 1) ∧ Below w.heap.size w w' := by
  obtain ⟨i0, hi, hz0, hz1, hz2⟩ := info_parts Tryz.info3
  have HN := hid hAl
  have OA := hid (show w.ownsRow 0 3 1 (.slice aa na ca) A.length (i64s A) by rw [hAl]; exact oa)
  clear hAl oa
  have hown0 : (((w.alloc (Obj.cells #[Value.slice aa na ca] 32)).alloc (Obj.cells #[Value.slice none 0 0] 32)).alloc (Obj.cells #[] 3)).ownsRow (w.heap.size + 1 + 1) 3 1 (.slice (some ⟨w.heap.size + 1 + 1, 0, none⟩) 0 0) 0 (i64s []) := by
    have := World.ownsRow_made (base := w.heap.size + 1 + 1) (e := 3) (size := 1) ((w.alloc (Obj.cells #[Value.slice aa na ca] 32)).alloc (Obj.cells #[Value.slice none 0 0] 32)) #[] 0 (by simp) (by unfold maxLen; omega) (by simp)
    simpa [i64s] using this
  go_enter Tryz.func131, Tryz.ntmps131
  go_wp2
  have x1 := box_alloc (box_new w (Obj.cells #[Value.slice aa na ca] 32)) (Obj.cells #[Value.slice none 0 0] 32)
  have x3 : ((w.alloc (Obj.cells #[Value.slice aa na ca] 32)).alloc (Obj.cells #[Value.slice none 0 0] 32)).heap[w.heap.size + 1]? = some (Obj.cells #[Value.slice none 0 0] 32) := by
    have := box_new (w.alloc (Obj.cells #[Value.slice aa na ca] 32)) (Obj.cells #[Value.slice none 0 0] 32); simpa using this
  have hWb : Below w.heap.size w ((w.alloc (Obj.cells #[Value.slice aa na ca] 32)).alloc (Obj.cells #[Value.slice none 0 0] 32)) := below_alloc' (below_alloc' (Below.refl _ _) (Nat.le_refl _) _) (Nat.le_refl _) _
  have hWs : ((w.alloc (Obj.cells #[Value.slice aa na ca] 32)).alloc (Obj.cells #[Value.slice none 0 0] 32)).heap.size = w.heap.size + 1 + 1 := by simp
  have hb1 : Below (w.heap.size + 1 + 1) ((w.alloc (Obj.cells #[Value.slice aa na ca] 32)).alloc (Obj.cells #[Value.slice none 0 0] 32)) (((w.alloc (Obj.cells #[Value.slice aa na ca] 32)).alloc (Obj.cells #[Value.slice none 0 0] 32)).alloc (Obj.cells #[] 3)) := below_alloc' (Below.refl _ _) (by omega) _
  generalize (w.alloc (Obj.cells #[Value.slice aa na ca] 32)).alloc (Obj.cells #[Value.slice none 0 0] 32) = W at *
  have hWt : w.heap.size + 1 + 1 ≤ W.heap.size := by omega
  clear hWs
  go_loopw [2, 7, 8] (fun c v i wr => ∃ (d : Nat) (D : List Nat), D.length ≤ na ∧ i = .int .i64 (D.length : Nat) ∧ c = .int .i64 d ∧ d < 1000000000 ∧ RSmallRel A D f m d ∧ wr.ownsRow (w.heap.size + 1 + 1) 3 1 v D.length (i64s D) ∧ Below (w.heap.size + 1 + 1) W wr) (fun _ _ i _ => na - (intOf i).toNat)
  case atStart => exact ⟨m, [], by simp, rfl, rfl, hm, ⟨by intro j; simp [lg], by simp [R.pv]⟩, hown0, hb1⟩
  case round =>
    obtain ⟨d, D, hk, rfl, rfl, hd, hR, hown, hbel⟩ := hrel
    have HR := hid hR
    clear hR hown0 hb1
    have hbw : Below w.heap.size w wr := hWb.trans (hbel.mono (by omega))
    have j1 := box_below hbel x1 (by omega)
    have e1 := cell_of_one j1
    obtain ⟨k, hkD⟩ : ∃ k, k = D.length := ⟨_, rfl⟩
    have HK := hid hkD
    rw [← hkD] at hk hown ⊢
    clear hkD j1
    by_cases hlt : k < na
    · have hA9 := hA k
      have HS := hid (show RSmallRel A (D ++ [(d + lg A k * f) % 1000000000]) f m ((d + lg A k * f) / 1000000000) from by rw [HK.out]; exact HR.out.step)
      obtain ⟨ga, rfl⟩ : ∃ ga, aa = some ⟨ga, 0, none⟩ := by
        rcases OA.out.2 with ⟨h', _⟩ | ⟨g, cap, cur, h', _⟩
        · simp at h'; omega
        · simp only [Value.slice.injEq] at h'; exact ⟨g, h'.1⟩
      have cA := i64s_at (by have := ownsRow_below OA.out hbw; rw [HN.out] at this; exact this) k (by have := HN.out; omega)
      obtain ⟨hT2, hT3⟩ := small_fits hA9 hf hd
      obtain ⟨y, hy⟩ : ∃ y, lg A k * f = y := ⟨_, rfl⟩
      rw [hy] at hT2 hT3 HS
      obtain ⟨T, hT⟩ : ∃ T, d + y = T := ⟨_, rfl⟩
      rw [hT] at hT2 HS
      have hTi : (d : Int) + (y : Int) = (T : Int) := by rw [← hT]; simp
      have eW := small_prod hy hT3
      have hsz := hbel.size
      clear hy hT
      generalize lg A k = x at *
      go_wp2_with (at_builtin; refine wpList_append_own _ rfl _ _ 30 rfl (w.heap.size + 1 + 1) 3 i0 (.int .i64 0) 1 8 Tryz.underlying30 hi hz0 hz1 hz2 rfl (by decide) _ _ _ rfl (hown.alloc _) ⟨wr.heap.size, 0, none⟩ 1 1 [.int .i64 ((T : Int) % 1000000000)] rfl rfl (by intro j u hu; match j, hu with | 0, hu => simp at hu; subst hu; simp [Addr.add]) (by intro u hu; simp at hu; subst hu; rfl) (by unfold maxLen; omega) (by omega) (by have := hbel.size; simp; omega) ?_)
      intro v' w1 hown3 hgrow hnil
      have hb3 : Below (w.heap.size + 1 + 1) W w1 := (below_alloc' hbel hWt _).grown hgrow (by have := hbel.size; simp; omega) (fun q hq => (hown.lt q hq).1)
      have hown4 : w1.ownsRow (w.heap.size + 1 + 1) 3 1 v' (D ++ [T % 1000000000]).length (i64s (D ++ [T % 1000000000])) := by
        rw [i64s_app, List.length_append, List.length_singleton, ← HK.out]; simpa using hown3
      have HO := hid hown4
      have HL := hid (show (D ++ [T % 1000000000]).length = k + 1 from by rw [List.length_append, List.length_singleton, ← HK.out])
      clear hown3 hown4 hgrow hnil hown hbel e1 hbw cA hTi
      go_wp2
      go_roundw
      case rel => exact ⟨T / 1000000000, D ++ [T % 1000000000], by have := HL.out; omega, by rw [HL.out]; go_num, by go_num, by omega, HS.out, HO.out, hb3⟩
      case measure => simp [intOf]; omega
    · have hkn : k = na := by omega
      have HF := hid (HR.out.done hd (by have := HN.out; have := HK.out; omega))
      have HL := hid (show (D ++ [d]).length = na + 1 from by rw [List.length_append, List.length_singleton, ← HK.out, hkn])
      clear hkn
      go_wp2_with (at_builtin; refine wpList_append_own _ rfl _ _ 30 rfl (w.heap.size + 1 + 1) 3 i0 (.int .i64 0) 1 8 Tryz.underlying30 hi hz0 hz1 hz2 rfl (by decide) _ _ _ rfl (hown.alloc _) ⟨wr.heap.size, 0, none⟩ 1 1 [.int .i64 (d : Int)] rfl rfl (by intro j u hu; match j, hu with | 0, hu => simp at hu; subst hu; simp [Addr.add]) (by intro u hu; simp at hu; subst hu; rfl) (by unfold maxLen; omega) (by omega) (by have := hbel.size; simp; omega) ?_)
      intro v' w1 hown3 hgrow hnil
      have hb3 : Below (w.heap.size + 1 + 1) W w1 := (below_alloc' hbel hWt _).grown hgrow (by have := hbel.size; simp; omega) (fun q hq => (hown.lt q hq).1)
      have hown4 : w1.ownsRow (w.heap.size + 1 + 1) 3 1 v' (D ++ [d]).length (i64s (D ++ [d])) := by
        rw [i64s_app, List.length_append, List.length_singleton, ← HK.out]; simpa using hown3
      clear hown3 hgrow hnil hown hbel e1 hbw
      obtain ⟨g, cap, hv⟩ : ∃ g cap, v' = .slice (some ⟨g, 0, none⟩) (D ++ [d]).length cap := by
        rcases hown4.2 with ⟨h0, h0'⟩ | ⟨g, cap, cur, hv, _⟩
        · have := HL.out; simp at h0'
        · exact ⟨g, cap, hv⟩
      rw [hv] at hown4 ⊢
      clear hv
      clear HR HK
      generalize D ++ [d] = E at *
      go_wp2_with fail
      refine (rtrim_base w1 (w.heap.size + 1 + 1) g cap E HF.out.1 hown4).mono ?_
      rintro e w3 ⟨⟨sl, M, rfl, hM, bM, tM, vM, lM⟩, hb4⟩
      have hx3 := box_below (hb3.trans (hb4.mono (by have := hb3.size; omega))) x3 (by omega)
      have hbw : Below w.heap.size w w3 := hWb.trans ((hb3.trans (hb4.mono (by have := hb3.size; omega))).mono (by omega))
      obtain ⟨ao, cp, hv⟩ := ints_slice hM
      rw [hv] at hM ⊢
      have cz := cell_of_one hx3
      have fz := free_of_one hx3
      have hM2 := own_box (ownsRow_base0 hM) hx3 (by decide) (.slice ao M.length cp)
      have hB2 := hbw.setCell (p := ⟨w.heap.size + 1, 0, none⟩) (by show w.heap.size ≤ w.heap.size + 1; omega) (.slice ao M.length cp)
      have hr := cell_of_one (one_setCell (u := .slice ao M.length cp) hx3)
      have HRr := hid hr
      have HV := hid (show R.val M = R.val A * f + m ∧ M.length ≤ na + 1 from ⟨vM.trans HF.out.2, by have := HL.out; omega⟩)
      clear hv hM hx3 hr vM lM hb3 hb4 hown4
      go_wp2
      exact bodyPost_ret (v := .agg #[.slice ao M.length cp]) (by simp [results, Tryz.results131, go_sem, HRr.out]) rfl ⟨_, rfl, ⟨_, M, rfl, hM2, bM, tM, HV.out.1, HV.out.2⟩, hB2⟩
theorem rsmall_any (w : World) (a : Value) (n K f m : Nat) (hK : K ≤ 1000000000) (hf : f < 1000000000) (hm : m < 1000000000) (ha : RefIs w a n K) :
    Calls Tryz.prog 131 #[a, .int .i64 f, .int .i64 m] w fun e w' => ∃ v, e = .returned v ∧ RefIs w' v (n * f + m) (K + 1) ∧ Below w.heap.size w w' := by
  obtain ⟨sa, A, rfl, oa, bA, tA, rfl, lA⟩ := ha
  obtain ⟨aa, ca, rfl⟩ := ints_slice oa
  refine (rsmall_walk w aa A.length ca f m A bA (by omega) rfl hf hm oa).mono ?_
  rintro e w' ⟨v, rfl, hv, hw⟩
  exact ⟨v, rfl, hv.mono (by omega), hw⟩
end Go.Proofs.YtjldlmonccgopaaGreatDoor
