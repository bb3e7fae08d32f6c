/- The document's Mul. -/
import Derived.Test.YtcpojpgmgkakeacDoorRSub
import Derived.Test.YtcpojpgmgkakeacDoorTimes
namespace Go.Proofs.YtcpojpgmgkakeacDoor
open Go.RowKit
set_option linter.unusedVariables false
set_option maxRecDepth 100000
set_option linter.unusedSimpArgs false
attribute [local go_sem ↓] Go.wp_at_zero Go.wp_at_succ

/-- A round of the inner loop: S is the row as it stands, P as it was. -/
def RTimesRel (P S B : List Nat) (n off f k d : Nat) : Prop := S.length = n ∧ R.Bd S ∧ (∀ j, off + k ≤ j → lg S j = lg P j) ∧ R.pv S (off + k) + d * 1000000000 ^ (off + k) = R.pv P (off + k) + f * R.pv B k * 1000000000 ^ off
theorem rtimes_next (P S B : List Nat) (n off f k d : Nat) (hk : off + k < n) (h : RTimesRel P S B n off f k d) :
    RTimesRel P (S.set (off + k) ((f * lg B k + lg P (off + k) + d) % 1000000000)) B n off f (k + 1) ((f * lg B k + lg P (off + k) + d) / 1000000000) := by
  obtain ⟨h1, h2, h3, h4⟩ := h
  refine ⟨by simpa using h1, R.Bd_set h2 _ _ (by omega), fun j hj => ?_, ?_⟩
  · rw [lg_set_other S _ _ j (by omega)]; exact h3 j (by omega)
  · rw [← Nat.add_assoc]
    simp only [R.pv]
    rw [R.pv_set_past S (off + k) _ (off + k) (Nat.le_refl _), lg_set_same S _ _ (by omega), Nat.pow_succ, Nat.pow_add]
    rw [Nat.pow_add] at h4
    generalize 1000000000 ^ off = p at *
    generalize 1000000000 ^ k = q at *
    have hd := Nat.div_add_mod (f * lg B k + lg P (off + k) + d) 1000000000
    generalize (f * lg B k + lg P (off + k) + d) % 1000000000 = r at *
    generalize (f * lg B k + lg P (off + k) + d) / 1000000000 = t at *
    have e1 : (1000000000 * t + r) * (p * q) = (f * lg B k + lg P (off + k) + d) * (p * q) := by rw [hd]
    rw [Nat.add_mul, Nat.add_mul, Nat.add_mul] at e1
    have e2 : t * (p * q * 1000000000) = 1000000000 * t * (p * q) := by rw [Nat.mul_comm (p * q), ← Nat.mul_assoc, Nat.mul_comm t]
    have e3 : f * (R.pv B k + lg B k * q) * p = f * R.pv B k * p + f * lg B k * (p * q) := by
      rw [Nat.mul_add, Nat.add_mul, ← Nat.mul_assoc, Nat.mul_comm p q, ← Nat.mul_assoc (f * lg B k)]
    rw [e2, e3]
    omega
theorem rtimes_done (P S B : List Nat) (n off f k d : Nat) (hk : off + k < n) (hB : B.length = k) (hd : d < 1000000000) (hz : lg P (off + k) = 0) (h : RTimesRel P S B n off f k d) :
    (S.set (off + k) d).length = n ∧ R.Bd (S.set (off + k) d) ∧ (∀ j, off + k < j → lg (S.set (off + k) d) j = lg P j) ∧ R.pv (S.set (off + k) d) (off + k + 1) = R.pv P (off + k) + f * R.val B * 1000000000 ^ off := by
  obtain ⟨h1, h2, h3, h4⟩ := h
  refine ⟨by simpa using h1, R.Bd_set h2 _ _ hd, fun j hj => ?_, ?_⟩
  · rw [lg_set_other S _ _ j (by omega)]; exact h3 j (by omega)
  · simp only [R.pv]
    rw [R.pv_set_past S (off + k) _ (off + k) (Nat.le_refl _), lg_set_same S _ _ (by omega), h4]
    rw [R.pv_val B k (by omega)]
theorem rmul_next (A B S P' : List Nat) (k n : Nat) (m1 : P'.length = n) (m2 : R.Bd P') (m3 : ∀ j, k + B.length < j → lg P' j = lg S j) (m4 : R.pv P' (k + B.length + 1) = R.pv S (k + B.length) + lg A k * R.val B * 1000000000 ^ k)
    (h : S.length = n ∧ R.Bd S ∧ (∀ j, k + B.length ≤ j → lg S j = 0) ∧ R.pv S (k + B.length) = R.pv A k * R.val B) :
    P'.length = n ∧ R.Bd P' ∧ (∀ j, k + 1 + B.length ≤ j → lg P' j = 0) ∧ R.pv P' (k + 1 + B.length) = R.pv A (k + 1) * R.val B := by
  obtain ⟨h1, h2, h3, h4⟩ := h
  refine ⟨m1, m2, fun j hj => by rw [m3 j (by omega)]; exact h3 j (by omega), ?_⟩
  rw [show k + 1 + B.length = k + B.length + 1 by omega, m4, h4, R.pv, Nat.add_mul]
  rw [Nat.mul_right_comm (lg A k)]
theorem rtimes_small {f b p c : Nat} (hf : f < 1000000000) (hb : b < 1000000000) (hp : p < 1000000000) (hc : c < 1000000000) : f * b ≤ 999999998000000001 ∧ f * b + p + c < 1000000000000000000 ∧ (f * b + p + c) / 1000000000 < 1000000000 := by
  have h1 : f * b ≤ 999999999 * 999999999 := Nat.mul_le_mul (by omega) (by omega)
  omega
theorem wrap64_same (x : Int) (h0 : -9223372036854775808 ≤ x) (h1 : x ≤ 9223372036854775807) : wrap64 x = x := by
  have h := w64i x h0 h1
  first | exact h | (simp only [IntKind.wrap] at h; simpa [wrap64] using h) | (unfold wrap64; omega)
theorem w64_r {f b p c : Nat} (hf : f < 1000000000) (hb : b < 1000000000) (hp : p < 1000000000) (hc : c < 1000000000) :
    wrap64 ((c : Int) + (p : Int) + wrap64 ((f : Int) * (b : Int))) = ((f * b + p + c : Nat) : Int) := by
  obtain ⟨h1, h2, h3⟩ := rtimes_small hf hb hp hc
  have e0 : (f : Int) * (b : Int) = ((f * b : Nat) : Int) := by simp
  rw [e0]
  generalize f * b = x at *
  rw [wrap64_same ((x : Nat) : Int) (by omega) (by omega), wrap64_same _ (by omega) (by omega)]; omega
set_option maxHeartbeats 2000000 in
theorem rmul_none (w : World) (aa ab : Option Addr) (na ca nb cb : Nat) (h : na = 0 ∨ nb = 0) :
    Calls Tryd.prog 41 #[.agg #[.slice aa na ca], .agg #[.slice ab nb cb]] w fun e w' => e = .returned (.agg #[.slice none 0 0]) ∧ Below w.heap.size w w' := by
  have hWb : Below w.heap.size w (((w.alloc (Obj.cells #[Value.slice aa na ca] 31)).alloc (Obj.cells #[Value.slice ab nb cb] 31)).alloc (Obj.cells #[Value.slice none 0 0] 31)) := below_alloc' (below_alloc' (below_alloc' (Below.refl _ _) (Nat.le_refl _) _) (Nat.le_refl _) _) (Nat.le_refl _) _
  have hB2 := hWb.setCell (p := ⟨w.heap.size + 1 + 1, 0, none⟩) (by show w.heap.size ≤ w.heap.size + 1 + 1; omega) (.slice none 0 0)
  have h' : na = 0 ∨ (na ≠ 0 ∧ nb = 0) := by omega
  clear h
  rcases h' with rfl | ⟨h1, rfl⟩
  · go_enter Tryd.func41, Tryd.ntmps41
    go_wp2
    exact bodyPost_ret (v := .agg #[.slice none 0 0]) (by simp [results, Tryd.results41, go_sem]) rfl ⟨rfl, by first | exact hB2 | exact hWb⟩
  · have h1' : ((na : Int) == 0) = false := beq_eq_false_iff_ne.2 (by omega)
    go_enter Tryd.func41, Tryd.ntmps41
    go_wp2
    exact bodyPost_ret (v := .agg #[.slice none 0 0]) (by simp [results, Tryd.results41, go_sem]) rfl ⟨rfl, by first | exact hB2 | exact hWb⟩
set_option maxHeartbeats 2000000 in
theorem rmul_walk (w : World) (aa ab : Option Addr) (na ca nb cb n : Nat) (A B : List Nat) (hA : R.Bd A) (hB : R.Bd B) (hna : na ≤ 1000000000) (hnb : nb ≤ 1000000000) (hn : na + nb = n) (hAl : A.length = na) (hBl : B.length = nb) (h1 : na ≠ 0) (h2 : nb ≠ 0)
    (oa : w.ownsRow 0 3 1 (.slice aa na ca) na (i64s A)) (ob : w.ownsRow 0 3 1 (.slice ab nb cb) nb (i64s B)) :
    Calls Tryd.prog 41 #[.agg #[.slice aa na ca], .agg #[.slice ab nb cb]] w fun e w' => ∃ v, e = .returned v ∧ RefIs w' v (R.val A * R.val B) n ∧ Below w.heap.size w w' := by
  obtain ⟨i0, hi, hz0, hz1, hz2⟩ := info_parts Tryd.info3
  have HN : Hid (na + nb = n ∧ A.length = na ∧ B.length = nb) := ⟨hn, hAl, hBl⟩
  have hn' : n ≤ 2000000000 := by omega
  have hn1 : na ≤ n := by omega
  have hor : ((na : Int) == 0) = false := beq_eq_false_iff_ne.2 (by omega)
  have hor2 : ((nb : Int) == 0) = false := beq_eq_false_iff_ne.2 (by omega)
  obtain ⟨ga, rfl, hca, hca2, hga⟩ : ∃ ga, aa = some ⟨ga, 0, none⟩ ∧ na ≤ ca ∧ ca ≤ maxLen ∧ ga < w.heap.size := by
    rcases oa.2 with ⟨h0, h0'⟩ | ⟨g, cap, cur, hv, _, hh, r1, r2, _⟩
    · simp at h0; omega
    · simp only [Value.slice.injEq] at hv
      obtain ⟨e1, e2, e3⟩ := hv
      exact ⟨g, e1, by omega, by omega, (Array.getElem?_eq_some_iff.1 hh).1⟩
  obtain ⟨gb, rfl, hcb, hcb2, hgb⟩ : ∃ gb, ab = some ⟨gb, 0, none⟩ ∧ nb ≤ cb ∧ cb ≤ maxLen ∧ gb < w.heap.size := by
    rcases ob.2 with ⟨h0, h0'⟩ | ⟨g, cap, cur, hv, _, hh, r1, r2, _⟩
    · simp at h0; omega
    · simp only [Value.slice.injEq] at hv
      obtain ⟨e1, e2, e3⟩ := hv
      exact ⟨g, e1, by omega, by omega, (Array.getElem?_eq_some_iff.1 hh).1⟩
  unfold maxLen at hca2 hcb2
  have OA := hid oa
  have OB := hid ob
  clear hn hAl hBl oa ob h1 h2
  go_enter Tryd.func41, Tryd.ntmps41
  go_wp2_with (first | (at_make; refine wpList_make_full _ rfl _ _ 29 rfl (w.heap.size + 1 + 1 + 1) 3 i0 (.int .i64 0) 1 Tryd.underlying29 hi hz0 hz1 _ _ _ _ n rfl rfl (by have := HN.out.1; omega) (by have := HN.out.1; omega) (by rw [hz2]; omega) (by unfold maxLen; omega) (by simp) ?_))
  intro w1 hown hgrow
  have hb1 : Below (w.heap.size + 1 + 1 + 1) (((w.alloc (Obj.cells #[Value.slice (some ⟨ga, 0, none⟩) na ca] 31)).alloc (Obj.cells #[Value.slice (some ⟨gb, 0, none⟩) nb cb] 31)).alloc (Obj.cells #[Value.slice none 0 0] 31)) w1 := by
    have := (Below.refl (w.heap.size + 1 + 1 + 1) _).grown hgrow (by simp) (by intro k hk; simp at hk)
    exact this
  rw [toList_madeCells_one, ← i64s_rep] at hown
  have x1 : (((w.alloc (Obj.cells #[Value.slice (some ⟨ga, 0, none⟩) na ca] 31)).alloc (Obj.cells #[Value.slice (some ⟨gb, 0, none⟩) nb cb] 31)).alloc (Obj.cells #[Value.slice none 0 0] 31)).heap[w.heap.size]? = some (Obj.cells #[Value.slice (some ⟨ga, 0, none⟩) na ca] 31) := box_alloc (box_alloc (box_new _ _) _) _
  have x2 : (((w.alloc (Obj.cells #[Value.slice (some ⟨ga, 0, none⟩) na ca] 31)).alloc (Obj.cells #[Value.slice (some ⟨gb, 0, none⟩) nb cb] 31)).alloc (Obj.cells #[Value.slice none 0 0] 31)).heap[w.heap.size + 1]? = some (Obj.cells #[Value.slice (some ⟨gb, 0, none⟩) nb cb] 31) := box_alloc (by have := box_new (w.alloc (Obj.cells #[Value.slice (some ⟨ga, 0, none⟩) na ca] 31)) (Obj.cells #[Value.slice (some ⟨gb, 0, none⟩) nb cb] 31); simpa using this) _
  have x3 : (((w.alloc (Obj.cells #[Value.slice (some ⟨ga, 0, none⟩) na ca] 31)).alloc (Obj.cells #[Value.slice (some ⟨gb, 0, none⟩) nb cb] 31)).alloc (Obj.cells #[Value.slice none 0 0] 31)).heap[w.heap.size + 1 + 1]? = some (Obj.cells #[Value.slice none 0 0] 31) := by
    have := box_new ((w.alloc (Obj.cells #[Value.slice (some ⟨ga, 0, none⟩) na ca] 31)).alloc (Obj.cells #[Value.slice (some ⟨gb, 0, none⟩) nb cb] 31)) (Obj.cells #[Value.slice none 0 0] 31); simpa using this
  have hWb : Below w.heap.size w (((w.alloc (Obj.cells #[Value.slice (some ⟨ga, 0, none⟩) na ca] 31)).alloc (Obj.cells #[Value.slice (some ⟨gb, 0, none⟩) nb cb] 31)).alloc (Obj.cells #[Value.slice none 0 0] 31)) := below_alloc' (below_alloc' (below_alloc' (Below.refl _ _) (Nat.le_refl _) _) (Nat.le_refl _) _) (Nat.le_refl _) _
  have hWs : (((w.alloc (Obj.cells #[Value.slice (some ⟨ga, 0, none⟩) na ca] 31)).alloc (Obj.cells #[Value.slice (some ⟨gb, 0, none⟩) nb cb] 31)).alloc (Obj.cells #[Value.slice none 0 0] 31)).heap.size = w.heap.size + 1 + 1 + 1 := by simp
  clear hgrow
  generalize ((w.alloc (Obj.cells #[Value.slice (some ⟨ga, 0, none⟩) na ca] 31)).alloc (Obj.cells #[Value.slice (some ⟨gb, 0, none⟩) nb cb] 31)).alloc (Obj.cells #[Value.slice none 0 0] 31) = W at *
  have hWt : w.heap.size + 1 + 1 + 1 ≤ W.heap.size := by omega
  clear hWs
  have e1 := cell_of_one (box_below hb1 x1 (by omega))
  have e2 := cell_of_one (box_below hb1 x2 (by omega))
  go_wp2
  clear e1 e2
  go_loopw [6] (fun i wr => ∃ (k : Nat) (S : List Nat), k ≤ na ∧ i = .int .i64 k ∧ (S.length = n ∧ R.Bd S ∧ (∀ j, k + B.length ≤ j → lg S j = 0) ∧ R.pv S (k + B.length) = R.pv A k * R.val B) ∧
        wr.ownsRow (w.heap.size + 1 + 1 + 1) 3 1 (.slice (some ⟨w.heap.size + 1 + 1 + 1, 0, none⟩) n n) n (i64s S) ∧ Below (w.heap.size + 1 + 1 + 1) W wr) (fun i _ => na - (intOf i).toNat)
  case atStart => exact ⟨0, List.replicate n 0, Nat.zero_le _, rfl, ⟨by simp, R.Bd_rep _, fun j _ => lg_rep _ _, by simp [R.pv, R.pv_zero (fun j _ => lg_rep n j)]⟩, hown, hb1⟩
  case round =>
    obtain ⟨k, S, hk, rfl, hRR, hown', hbel⟩ := hrel
    have RR := hid hRR
    clear hRR hown hb1
    have hbw : Below w.heap.size w wr := hWb.trans (hbel.mono (by omega))
    have e1 := cell_of_one (box_below hbel x1 (by omega))
    have e2 := cell_of_one (box_below hbel x2 (by omega))
    have j3 := box_below hbel x3 (by omega)
    by_cases hlt : k < na
    · have hknb : k + nb < n := by have := HN.out.1; omega
      go_wp2
      clear e1 e2 j3
      generalize hwo : wr = wo at *
      clear hwo
      go_loopw [7, 8] (fun c i wr => ∃ (j d : Nat) (T : List Nat), j ≤ nb ∧ i = .int .i64 j ∧ c = .int .i64 d ∧ d < 1000000000 ∧ RTimesRel S T B n k (lg A k) j d ∧ wr.ownsRow (w.heap.size + 1 + 1 + 1) 3 1 (.slice (some ⟨w.heap.size + 1 + 1 + 1, 0, none⟩) n n) n (i64s T) ∧ Below (w.heap.size + 1 + 1 + 1) W wr) (fun _ i _ => nb - (intOf i).toNat)
      case atStart => exact ⟨0, 0, S, Nat.zero_le _, rfl, rfl, by omega, ⟨RR.out.1, RR.out.2.1, fun j _ => rfl, by simp [R.pv]⟩, hown', hbel⟩
      case round =>
        obtain ⟨j, d, T, hj, rfl, rfl, hd, hR, hownT, hbelT⟩ := hrel
        have HR := hid hR
        clear hR hown' hbel hbw
        have hbw : Below w.heap.size w wr := hWb.trans (hbelT.mono (by omega))
        have e1 := cell_of_one (box_below hbelT x1 (by omega))
        have e2 := cell_of_one (box_below hbelT x2 (by omega))
        by_cases hjl : j < nb
        · have e3 := i64s_at (L := A) (g := ga) (cap := ca) (n := na) (ownsRow_below OA.out hbw) k (by have := HN.out.2.1; omega)
          have e4 := i64s_at (L := B) (g := gb) (cap := cb) (n := nb) (ownsRow_below OB.out hbw) j (by have := HN.out.2.2; omega)
          have c2 := i64s_at hownT (k + j) (by have := HR.out.1; omega)
          rw [HR.out.2.2.1 (k + j) (Nat.le_refl _)] at c2
          have fr := hownT.frozenAt (k + j)
          have HNx := hid (rtimes_next S T B n k (lg A k) j d (by omega) HR.out)
          have b1 := hA k
          have b2 := hB j
          have b3 := RR.out.2.1 (k + j)
          have O : ∀ q, ((wr.drewN q).setCell ⟨w.heap.size + 1 + 1 + 1, k + j, none⟩ (.int .i64 (((lg A k * lg B j + lg S (k + j) + d) % 1000000000 : Nat) : Int))).ownsRow (w.heap.size + 1 + 1 + 1) 3 1 (.slice (some ⟨w.heap.size + 1 + 1 + 1, 0, none⟩) n n) n (i64s (T.set (k + j) ((lg A k * lg B j + lg S (k + j) + d) % 1000000000))) ∧ Below (w.heap.size + 1 + 1 + 1) W ((wr.drewN q).setCell ⟨w.heap.size + 1 + 1 + 1, k + j, none⟩ (.int .i64 (((lg A k * lg B j + lg S (k + j) + d) % 1000000000 : Nat) : Int))) := by
            intro q
            have O1 := (own_drewN hownT q).stored (k + j) (.int .i64 (((lg A k * lg B j + lg S (k + j) + d) % 1000000000 : Nat) : Int))
            rw [← i64s_set] at O1
            exact ⟨O1.1, (below_drewN hbelT q).setCell (p := ⟨w.heap.size + 1 + 1 + 1, k + j, none⟩) (Nat.le_refl _) _⟩
          have HO := hid O
          have HW := hid (w64_r b1 b2 b3 hd)
          have HS := hid (rtimes_small b1 b2 b3 hd).2.2
          have HT := hid (rtimes_small b1 b2 b3 hd).2.1
          clear O hownT hbelT hbw
          have HAB := hid (And.intro hA hB)
          clear hA hB
          generalize lg B j = b at *
          generalize lg S (k + j) = p at *
          generalize lg A k = f at *
          go_wp2
          go_quiet (fail)
          rw [HW.out]
          have hT : f * b + p + d < 1000000000000000000 := HT.out
          generalize f * b + p + d = X at *
          rw [show ((X % 1000000000 : Nat) : Int) = (X : Int) % 1000000000 by omega] at HO
          go_wp2
          go_roundw
          case rel => exact ⟨j + 1, X / 1000000000, T.set (k + j) (X % 1000000000), by omega, by go_num, by go_num, HS.out, HNx.out, (HO.out _).1, (HO.out _).2⟩
          case measure => simp [intOf]; omega
        · have hjk : j = nb := by omega
          have fr := hownT.frozenAt (k + nb)
          have c2 := i64s_at hownT (k + nb) (by have := HR.out.1; omega)
          have O := hownT.stored (k + nb) (.int .i64 (d : Int))
          rw [← i64s_set] at O
          have HB2 := hid (hbelT.setCell (p := ⟨w.heap.size + 1 + 1 + 1, k + nb, none⟩) (Nat.le_refl _) (.int .i64 (d : Int)))
          have HO := hid O
          have HD := hid (show (T.set (k + nb) d).length = n ∧ R.Bd (T.set (k + nb) d) ∧ (∀ j, k + 1 + B.length ≤ j → lg (T.set (k + nb) d) j = 0) ∧ R.pv (T.set (k + nb) d) (k + 1 + B.length) = R.pv A (k + 1) * R.val B from by
            have h := HR.out
            rw [hjk] at h
            obtain ⟨m1, m2, m3, m4⟩ := rtimes_done S T B n k (lg A k) nb d hknb HN.out.2.2 hd (RR.out.2.2.1 (k + nb) (by have := HN.out.2.2; omega)) h
            exact rmul_next A B S _ k n m1 m2 (by rw [HN.out.2.2]; exact m3) (by rw [HN.out.2.2]; exact m4) RR.out)
          clear O hownT hbelT hjk
          go_wp2
          exact ⟨⟨k + 1, T.set (k + nb) d, by omega, by go_num, HD.out, HO.out.1, HB2.out⟩, by simp [intOf]; omega⟩
    · have hkn : k = na := by omega
      have HV := hid (show R.val S = R.val A * R.val B from by
        obtain ⟨r1, _, r3, r4⟩ := RR.out
        obtain ⟨q1, q2, q3⟩ := HN.out
        rw [hkn, R.pv_val A na (by omega), R.pv_val S (na + B.length) (by omega)] at r4
        exact r4)
      clear hkn
      go_wp2_with fail
      refine (rtrim_len wr (w.heap.size + 1 + 1 + 1) _ n n S RR.out.1.symm RR.out.2.1 hown').mono ?_
      rintro e w3 ⟨⟨sl, M, rfl, hM, bM, tM, vM, lM⟩, hb4⟩
      have hx3 := box_below hb4 j3 (lt_of_block j3)
      have hbw3 := chain2 hbw hb4
      obtain ⟨ao, cp, hv⟩ := ints_slice hM
      rw [hv] at hM ⊢
      have cz := cell_of_one hx3
      have fz := free_of_one hx3
      have hM2 := own_box (ownsRow_base0 hM) hx3 (by decide) (.slice ao M.length cp)
      have hB2 := hbw3.setCell (p := ⟨w.heap.size + 1 + 1, 0, none⟩) (by show w.heap.size ≤ w.heap.size + 1 + 1; omega) (.slice ao M.length cp)
      have hr := cell_of_one (one_setCell (u := .slice ao M.length cp) hx3)
      have HRr := hid hr
      have HV2 := hid (show R.val M = R.val A * R.val B ∧ M.length ≤ n from ⟨vM.trans HV.out, by have := RR.out.1; omega⟩)
      clear hv hM hx3 hr vM lM hb4 hown' hbel hbw e1 e2 j3
      go_wp2
      exact bodyPost_ret (v := .agg #[.slice ao M.length cp]) (by simp [results, Tryd.results41, go_sem, HRr.out]) rfl ⟨_, rfl, ⟨_, M, rfl, hM2, bM, tM, HV2.out.1, HV2.out.2⟩, hB2⟩
/-- The document's Mul: the product. -/
theorem rmul_any (w : World) (a b : Value) (m n K K' : Nat) (hK : K ≤ 1000000000) (hK' : K' ≤ 1000000000) (ha : RefIs w a m K) (hb : RefIs w b n K') :
    Calls Tryd.prog 41 #[a, b] w fun e w' => ∃ v, e = .returned v ∧ RefIs w' v (m * n) (K + K') ∧ Below w.heap.size w w' := by
  obtain ⟨sa, A, rfl, oa, bA, tA, rfl, lA⟩ := ha
  obtain ⟨sb, B, rfl, ob, bB, tB, rfl, lB⟩ := hb
  obtain ⟨aa, ca, rfl⟩ := ints_slice oa
  obtain ⟨ab, cb, rfl⟩ := ints_slice ob
  by_cases h : A.length = 0 ∨ B.length = 0
  · refine (rmul_none w aa ab A.length ca B.length cb h).mono ?_
    rintro e w' ⟨rfl, hw⟩
    have h0 : R.val A * R.val B = 0 := by
      rcases h with h | h
      · rw [List.eq_nil_of_length_eq_zero h]; simp [R.val, R.pv]
      · rw [List.eq_nil_of_length_eq_zero h]; simp [R.val, R.pv]
    exact ⟨_, rfl, ⟨_, [], rfl, World.ownsRow_nil w' _ _ _, by intro j; simp [lg], fun h => by simp at h, by rw [h0]; simp [R.val, R.pv], by simp⟩, hw⟩
  · refine (rmul_walk w aa ab A.length ca B.length cb (A.length + B.length) A B bA bB (by omega) (by omega) rfl rfl rfl (by omega) (by omega) oa ob).mono ?_
    rintro e w' ⟨v, rfl, hv, hw⟩
    exact ⟨v, rfl, hv.mono (by omega), hw⟩
end Go.Proofs.YtcpojpgmgkakeacDoor
