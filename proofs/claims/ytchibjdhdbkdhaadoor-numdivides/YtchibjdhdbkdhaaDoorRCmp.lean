/- The document's Cmp. -/
import Derived.Test.YtchibjdhdbkdhaaDoorRAdd
import Derived.Test.YtchibjdhdbkdhaaDoorCmp
import Derived.Test.YtchibjdhdbkdhaaDoorLaws
namespace Go.Proofs.YtchibjdhdbkdhaaDoor
open Go.RowKit
set_option linter.unusedVariables false
set_option maxRecDepth 100000
set_option linter.unusedSimpArgs false
attribute [local go_sem ↓] Go.wp_at_zero Go.wp_at_succ

theorem rcmp_all {A B : List Nat} (h : ∀ j, lg A j = lg B j) : R.val A = R.val B := by
  rw [← R.pv_val A (max A.length B.length) (by omega), ← R.pv_val B (max A.length B.length) (by omega)]
  exact R.pv_congr fun j _ => h j
theorem rcmp_below {A B : List Nat} {q n : Nat} (hA : R.Bd A) (hq : q + 1 ≤ n) (he : ∀ j, q + 1 ≤ j → lg A j = lg B j) (h : lg A q < lg B q) : R.val A < R.val B := by
  rw [← R.pv_val A (max n (max A.length B.length)) (by omega), ← R.pv_val B (max n (max A.length B.length)) (by omega)]
  exact R.pv_lt_at hA q _ (by omega) (fun j h1 _ => he j (by omega)) h
set_option maxHeartbeats 2000000 in
theorem rcmp_walk (w : World) (aa ab : Option Addr) (na ca nb cb n : Nat) (A B : List Nat) (hA : R.Bd A) (hB : R.Bd B) (hna : na ≤ 1000000000) (hnb : nb ≤ 1000000000) (hn : max na nb = n) (hAl : A.length = na) (hBl : B.length = nb)
    (oa : w.ownsRow 0 3 1 (.slice aa na ca) na (i64s A)) (ob : w.ownsRow 0 3 1 (.slice ab nb cb) nb (i64s B)) :
    Calls Tryd.prog 71 #[.agg #[.slice aa na ca], .agg #[.slice ab nb cb]] w fun e w' => e = .returned (.int .i64 (cmpI (R.val A) (R.val B))) ∧ Below w.heap.size w w' := by
  have HN : Hid (max na nb = n ∧ A.length = na ∧ B.length = nb) := ⟨hn, hAl, hBl⟩
  have hn' : n ≤ 1000000000 := by omega
  have hna' : na ≤ n := by omega
  have hnb' : nb ≤ n := by omega
  have OA := hid (show w.ownsRow 0 3 1 (.slice aa na ca) A.length (i64s A) by rw [hAl]; exact oa)
  have OB := hid (show w.ownsRow 0 3 1 (.slice ab nb cb) B.length (i64s B) by rw [hBl]; exact ob)
  have hor : (na < nb ∧ nb = n) ∨ (¬ na < nb ∧ na = n) := by omega
  clear hn hAl hBl oa ob
  have x1 : ((w.alloc (Obj.cells #[Value.slice aa na ca] 29)).alloc (Obj.cells #[Value.slice ab nb cb] 29)).heap[w.heap.size]? = some (Obj.cells #[Value.slice aa na ca] 29) := box_alloc (box_new _ _) _
  have x2 : ((w.alloc (Obj.cells #[Value.slice aa na ca] 29)).alloc (Obj.cells #[Value.slice ab nb cb] 29)).heap[w.heap.size + 1]? = some (Obj.cells #[Value.slice ab nb cb] 29) := by
    have := box_new (w.alloc (Obj.cells #[Value.slice aa na ca] 29)) (Obj.cells #[Value.slice ab nb cb] 29); simpa using this
  have hWb : Below w.heap.size w ((w.alloc (Obj.cells #[Value.slice aa na ca] 29)).alloc (Obj.cells #[Value.slice ab nb cb] 29)) := below_alloc' (below_alloc' (Below.refl _ _) (Nat.le_refl _) _) (Nat.le_refl _) _
  have X := hid (And.intro x1 (And.intro x2 hWb))
  clear x1 x2 hWb
  rcases hor with ⟨hlt, he⟩ | ⟨hlt, he⟩
  all_goals
    have HHe := hid he
    clear he
    go_enter Tryd.func71, Tryd.ntmps71
    go_wp2
    clear hlt
    generalize (w.alloc (Obj.cells #[Value.slice aa na ca] 29)).alloc (Obj.cells #[Value.slice ab nb cb] 29) = W at *
    go_loopw [5] (fun i wr => ∃ k : Nat, k ≤ n ∧ i = .int .i64 ((k : Int) - 1) ∧ Below W.heap.size W wr ∧ (∀ j, k ≤ j → lg A j = lg B j)) (fun i _ => (intOf i + 1).toNat)
    case atStart => exact ⟨n, Nat.le_refl _, by first | rfl | (rw [← HHe.out]), Below.refl _ _, fun j hj => by rw [lg_past A j (by have := HN.out; omega), lg_past B j (by have := HN.out; omega)]⟩
    case round =>
      obtain ⟨k, hk, rfl, hbel, heq⟩ := hrel
      have HE := hid heq
      clear heq
      have hbw : Below w.heap.size w wr := chain2 X.out.2.2 hbel
      have e1 := cell_of_one (box_below hbel X.out.1 (lt_of_block X.out.1))
      have e2 := cell_of_one (box_below hbel X.out.2.1 (lt_of_block X.out.2.1))
      by_cases hk0 : 0 < k
      · obtain ⟨q, rfl⟩ : ∃ q, k = q + 1 := ⟨k - 1, by omega⟩
        have hq1 : ((q + 1 : Nat) : Int) - 1 = (q : Int) := by omega
        rw [hq1]
        have hA9 := hA q
        have hB9 := hB q
        have hbd := hbw.drew
        have hbdd := hbw.drew.drew
        have hbl := hbel.drew.drew
        rcases Nat.lt_trichotomy (lg A q) (lg B q) with hc | hc | hc
        · go_wp2
          go_region_held3 (fun w' => w'.cell? ⟨w.heap.size, 0, none⟩ = some (.slice aa na ca) ∧ w'.cell? ⟨w.heap.size + 1, 0, none⟩ = some (.slice ab nb cb)) ((first | go_keep))
            (first | (go_at_call_of 94 (Value.slice aa na ca); refine (rdigit_any _ _ A hA (ownsRow_below OA.out hbd) q).mono ?_; rintro e w' ⟨rfl, rfl⟩) | (go_at_call_of 94 (Value.slice ab nb cb); refine (rdigit_any _ _ B hB (ownsRow_below OB.out hbd) q).mono ?_; rintro e w' ⟨rfl, rfl⟩))
          go_wp2
          go_ret
          exact ⟨by rw [cmpI_lt (rcmp_below hA (Nat.le_refl (q + 1)) HE.out hc)]; rfl, hbd⟩
        · have HC := hid hc
          go_wp2
          go_region_held3 (fun w' => w'.cell? ⟨w.heap.size, 0, none⟩ = some (.slice aa na ca) ∧ w'.cell? ⟨w.heap.size + 1, 0, none⟩ = some (.slice ab nb cb)) ((first | go_keep))
            (first | (go_at_call_of 94 (Value.slice aa na ca); refine (rdigit_any _ _ A hA (ownsRow_below OA.out hbd) q).mono ?_; rintro e w' ⟨rfl, rfl⟩; rw [HC.out]) | (go_at_call_of 94 (Value.slice ab nb cb); refine (rdigit_any _ _ B hB (ownsRow_below OB.out hbd) q).mono ?_; rintro e w' ⟨rfl, rfl⟩))
          go_wp2
          go_region_held3 (fun w' => w'.cell? ⟨w.heap.size, 0, none⟩ = some (.slice aa na ca) ∧ w'.cell? ⟨w.heap.size + 1, 0, none⟩ = some (.slice ab nb cb)) ((first | go_keep))
            (first | (go_at_call_of 94 (Value.slice aa na ca); refine (rdigit_any _ _ A hA (ownsRow_below OA.out hbdd) q).mono ?_; rintro e w' ⟨rfl, rfl⟩; rw [HC.out]) | (go_at_call_of 94 (Value.slice ab nb cb); refine (rdigit_any _ _ B hB (ownsRow_below OB.out hbdd) q).mono ?_; rintro e w' ⟨rfl, rfl⟩))
          go_wp2
          go_roundw
          case rel => exact ⟨q, by omega, by go_num, hbl, fun j hj => by
            by_cases e : j = q
            · rw [e]; exact HC.out
            · exact HE.out j (by omega)⟩
          case measure => simp [intOf] <;> omega
        · have hc' : ¬ lg A q < lg B q := by omega
          go_wp2
          go_region_held3 (fun w' => w'.cell? ⟨w.heap.size, 0, none⟩ = some (.slice aa na ca) ∧ w'.cell? ⟨w.heap.size + 1, 0, none⟩ = some (.slice ab nb cb)) ((first | go_keep))
            (first | (go_at_call_of 94 (Value.slice aa na ca); refine (rdigit_any _ _ A hA (ownsRow_below OA.out hbd) q).mono ?_; rintro e w' ⟨rfl, rfl⟩) | (go_at_call_of 94 (Value.slice ab nb cb); refine (rdigit_any _ _ B hB (ownsRow_below OB.out hbd) q).mono ?_; rintro e w' ⟨rfl, rfl⟩))
          go_wp2
          go_region_held3 (fun w' => w'.cell? ⟨w.heap.size, 0, none⟩ = some (.slice aa na ca) ∧ w'.cell? ⟨w.heap.size + 1, 0, none⟩ = some (.slice ab nb cb)) ((first | go_keep))
            (first | (go_at_call_of 94 (Value.slice aa na ca); refine (rdigit_any _ _ A hA (ownsRow_below OA.out hbdd) q).mono ?_; rintro e w' ⟨rfl, rfl⟩) | (go_at_call_of 94 (Value.slice ab nb cb); refine (rdigit_any _ _ B hB (ownsRow_below OB.out hbdd) q).mono ?_; rintro e w' ⟨rfl, rfl⟩))
          go_wp2
          go_ret
          exact ⟨by rw [cmpI_gt (rcmp_below hB (Nat.le_refl (q + 1)) (fun j hj => (HE.out j hj).symm) hc)]; rfl, hbdd⟩
      · have hjm : ¬ ((0 : Int) ≤ (k : Int) - 1) := by omega
        go_wp2
        go_ret
        exact ⟨by rw [cmpI_eq (rcmp_all (fun j => HE.out j (by omega)))]; rfl, hbw⟩
/-- The document's Cmp: the order. -/
theorem rcmp_any (w : World) (a b : Value) (m n K K' : Nat) (hK : K ≤ 1000000000) (hK' : K' ≤ 1000000000) (ha : RefIs w a m K) (hb : RefIs w b n K') :
    Calls Tryd.prog 71 #[a, b] w fun e w' => e = .returned (.int .i64 (cmpI m n)) ∧ Below w.heap.size w w' := by
  obtain ⟨sa, A, rfl, oa, bA, tA, rfl, lA⟩ := ha
  obtain ⟨sb, B, rfl, ob, bB, tB, rfl, lB⟩ := hb
  obtain ⟨aa, ca, rfl⟩ := ints_slice oa
  obtain ⟨ab, cb, rfl⟩ := ints_slice ob
  exact rcmp_walk w aa ab A.length ca B.length cb (max A.length B.length) A B bA bB (by omega) (by omega) rfl rfl rfl oa ob
end Go.Proofs.YtchibjdhdbkdhaaDoor
