/- RTimes, ROne, RWord. -/
import Derived.Test.YtcdkoadobdgbhaaGreatDoorPk10
import Derived.Test.YtcdkoadobdgbhaaGreatDoorPk5
import Derived.Test.YtcdkoadobdgbhaaGreatDoorPk7
import Derived.Deep.LoopGhost
/- The document's times: how often one number goes into another. -/
namespace Go.Proofs.YtcdkoadobdgbhaaGreatDoor
open Go.RowKit
set_option linter.unusedVariables false
set_option maxRecDepth 100000
set_option linter.unusedSimpArgs false

set_option maxHeartbeats 2000000 in
theorem rtimes_any (w : World) (a b : Value) (m n K K' : Nat) (hK : K ≤ 900000000) (hK' : K' ≤ 900000000) (ha : RefIs w a m K) (hb : RefIs w b n K') (h0 : 0 < n) (hlt : m < 1000000000 * n) :
    Calls Tryz.prog 167 #[a, b] w fun e w' => e = .returned (.int .i64 ((m / n : Nat) : Int)) ∧ Below w.heap.size w w' := by
  obtain ⟨aa, la, ca, rfl⟩ := ha.form
  obtain ⟨ab, lb, cb, rfl⟩ := hb.form
  have B0 := boxed2 (Below.refl w.heap.size w) (Obj.cells #[Value.slice aa la ca] 31) (Obj.cells #[Value.slice ab lb cb] 31)
  have b1 := boxed2_first w (Obj.cells #[Value.slice aa la ca] 31) (Obj.cells #[Value.slice ab lb cb] 31)
  have b2 := boxed2_second w (Obj.cells #[Value.slice aa la ca] 31) (Obj.cells #[Value.slice ab lb cb] 31)
  go_enter Tryz.func167, Tryz.ntmps167
  go_wp2
  generalize (w.alloc (Obj.cells #[Value.slice aa la ca] 31)).alloc (Obj.cells #[Value.slice ab lb cb] 31) = W at *
  have hs0 : w.heap.size + 1 < W.heap.size := lt_of_block b2
  go_loopg [5, 6] 999999999 (fun k lo hi wr => ∃ l h : Nat, lo = .int .i64 l ∧ hi = .int .i64 h ∧ l + k = h ∧ h ≤ 999999999 ∧ Hid (l * n ≤ m ∧ m < (h + 1) * n) ∧ Below W.heap.size W wr)
  case atStart => exact ⟨0, 999999999, rfl, rfl, by omega, by omega, hid ⟨by omega, by omega⟩, Below.refl _ _⟩
  case round =>
    obtain ⟨l, h, rfl, rfl, hlk, hh, HR, hB⟩ := hrel
    cases gk with
    | zero =>
      have hle : ¬ ((l : Int) < (h : Int)) := by omega
      have HE := hid (show m / n = l from Nat.div_eq_of_lt_le HR.out.1 (by have := HR.out.2; rw [show h = l by omega] at this; exact this))
      have CE := chain2 B0 hB
      clear hlk
      go_wp2
      go_ret
      exact ⟨by rw [show ((m : Int) / (n : Int)) = (l : Int) from by rw [← HE.out]; simp]; rfl, CE⟩
    | succ g =>
      have hle : (l : Int) < (h : Int) := by omega
      obtain ⟨M, hM⟩ : ∃ M, (l + h + 1) / 2 = M := ⟨_, rfl⟩
      have hM1 : ((l : Int) + (h : Int) + 1).tdiv 2 = (M : Int) := by rw [Int.tdiv_eq_ediv_of_nonneg (by omega)]; omega
      have hM2 : ((l : Int) + (h : Int) + 1) / 2 = (M : Int) := by omega
      have hlM : l < M := by omega
      have hMh : M ≤ h := by omega
      have t1 := kc hB (cell_of_one b1)
      have t2 := kc hB (cell_of_one b2)
      have ha1 := (ha.below B0).below hB
      have hb1 := (hb.below B0).below hB
      clear hM
      have HL := hid hlk
      clear hlk
      by_cases hc : n * M + 0 ≤ m
      case' pos =>
        obtain ⟨q, hq⟩ : ∃ q, cmpI (n * M + 0) m = q := ⟨_, rfl⟩
        have hq0 : q ≤ 0 := by rw [← hq]; unfold cmpI; repeat' split
                               all_goals omega
      case' neg =>
        obtain ⟨q, hq⟩ : ∃ q, cmpI (n * M + 0) m = q := ⟨_, rfl⟩
        have hq0 : ¬ q ≤ 0 := by rw [← hq, cmpI_gt (by omega)]; omega
      all_goals
        have HQ := hid hq
        have HC := hid hc
        clear hq hc
        go_wp2
        have D0 : Below wr.heap.size wr wr.drew := (Below.refl _ _).drew
        go_region_held3 (fun w' => w'.cell? ⟨w.heap.size, 0, none⟩ = some (.slice aa la ca) ∧ w'.cell? ⟨w.heap.size + 1, 0, none⟩ = some (.slice ab lb cb)) ((first | exact ⟨t1, t2⟩ | exact K1 | exact K2)) (first
          | (have gg := D1; go_at_call 161; refine (rcmp_any _ _ _ _ _ _ _ (by omega) (by omega) n1 (ha1.below D1)).mono ?_; rintro e w3 ⟨rfl, hb3⟩; have D2 := chain2 D1 hb3; have K2 := And.intro (kc D2 t1) (kc D2 t2); rw [HQ.out])
          | (have gg := D0; go_at_call 168; refine (rsmall_any _ _ n K' M 0 (by omega) (by omega) (by omega) (hb1.below D0)).mono ?_; rintro e w2 ⟨v1, rfl, n1, hb2⟩; have D1 := chain2 D0 hb2; have K1 := And.intro (kc D1 t1) (kc D1 t2)))
        have BE := chain2 hB D2
        clear D1 D2 D0 K1 K2 hb2 hb3 n1 t1 t2 ha1 hb1 gg HQ
        go_wp2
      · go_roundg (M - 1 - l)
        case rel => exact ⟨l, M - 1, by go_num, by go_num, by omega, by omega, hid ⟨HR.out.1, by have := HC.out; rw [show M - 1 + 1 = M by omega, Nat.mul_comm]; omega⟩, BE⟩
        case measure => have := HL.out; omega
      · go_roundg (h - M)
        case rel => exact ⟨M, h, by go_num, by go_num, by omega, hh, hid ⟨by have := HC.out; rw [Nat.mul_comm]; omega, HR.out.2⟩, BE⟩
        case measure => have := HL.out; omega
end Go.Proofs.YtcdkoadobdgbhaaGreatDoor
/- The document's one: a number divided by one digit. -/
namespace Go.Proofs.YtcdkoadobdgbhaaGreatDoor
open Go.RowKit
set_option linter.unusedVariables false
set_option maxRecDepth 100000
set_option linter.unusedSimpArgs false

theorem R.val_set (Q : List Nat) (off g : Nat) (h : off < Q.length) (h0 : lg Q off = 0) : R.val (Q.set off g) = R.val Q + g * 1000000000 ^ off := by
  unfold R.val
  rw [List.length_set]
  have key : ∀ k, R.pv (Q.set off g) k = R.pv Q k + if off < k then g * 1000000000 ^ off else 0 := by
    intro k
    induction k with
    | zero => simp [R.pv]
    | succ k ih =>
      simp only [R.pv]
      rw [ih]
      by_cases e : off = k
      · subst e
        rw [lg_set_same Q off g h, h0]; simp
      · rw [lg_set_other Q off g k e]
        by_cases e2 : off < k
        · rw [if_pos e2, if_pos (by omega)]; omega
        · rw [if_neg e2, if_neg (by omega)]; omega
  rw [key, if_pos h]
def OneRel (A S : List Nat) (d n k c : Nat) : Prop := S.length = n ∧ R.Bd S ∧ (∀ j, j < k → lg S j = 0) ∧ R.val S * d + c * 1000000000 ^ k + R.pv A k = R.val A ∧ c < d
theorem OneRel.step {A S : List Nat} {d n j c : Nat} (h : OneRel A S d n (j + 1) c) (hj : j < n) (hA : R.Bd A) : OneRel A (S.set j ((c * 1000000000 + lg A j) / d)) d n j ((c * 1000000000 + lg A j) % d) ∧ (c * 1000000000 + lg A j) / d < 1000000000 := by
  obtain ⟨h1, h2, h3, h4, h5⟩ := h
  have hx := hA j
  have hq : (c * 1000000000 + lg A j) / d < 1000000000 := by
    rw [Nat.div_lt_iff_lt_mul (by omega)]
    have : (c + 1) * 1000000000 ≤ d * 1000000000 := Nat.mul_le_mul_right _ h5
    rw [Nat.mul_comm 1000000000 d]; omega
  refine ⟨⟨by rw [List.length_set]; exact h1, R.Bd_set h2 _ _ hq, fun i hi => ?_, ?_, Nat.mod_lt _ (by omega)⟩, hq⟩
  · rw [lg_set_other S j _ i (by omega)]; exact h3 i (by omega)
  · rw [R.val_set S j _ (by omega) (h3 j (by omega))]
    simp only [R.pv, Nat.pow_succ] at h4
    rw [← h4]
    have hd := Nat.div_add_mod (c * 1000000000 + lg A j) d
    generalize (c * 1000000000 + lg A j) / d = q at *
    generalize (c * 1000000000 + lg A j) % d = r at *
    generalize 1000000000 ^ j = p at *
    generalize lg A j = x at *
    have e1 : (d * q + r) * p = (c * 1000000000 + x) * p := by rw [hd]
    rw [Nat.add_mul, Nat.add_mul] at e1
    have e2 : (R.val S + q * p) * d = R.val S * d + d * q * p := by rw [Nat.add_mul, Nat.mul_right_comm, Nat.mul_comm q d]
    have e3 : c * (p * 1000000000) = c * 1000000000 * p := by rw [Nat.mul_comm p, ← Nat.mul_assoc]
    rw [e2, e3]
    omega
theorem OneRel.done {A S : List Nat} {d n c : Nat} (h : OneRel A S d n 0 c) : R.val S = R.val A / d ∧ c = R.val A % d := by
  obtain ⟨h1, h2, h3, h4, h5⟩ := h
  simp only [Nat.pow_zero, Nat.mul_one, R.pv, Nat.add_zero] at h4
  have hd : 0 < d := by omega
  rw [← h4]
  constructor
  · rw [Nat.add_comm, Nat.add_mul_div_right _ _ hd, Nat.div_eq_of_lt h5]; omega
  · rw [Nat.add_comm, Nat.add_mul_mod_self_right, Nat.mod_eq_of_lt h5]
/-- Two of the document's numbers that are written into their variables. -/
theorem rdiv_out {w0 w1 : World} {p q : Nat} {u v x y : Value} {m n K K' : Nat} (hb : Below w0.heap.size w0 w1) (hp : w0.heap.size ≤ p) (hq : w0.heap.size ≤ q) (hne : p ≠ q) (h1 : w1.heap[p]? = some (.cells #[u] 31 (0, 0))) (h2 : w1.heap[q]? = some (.cells #[v] 31 (0, 0))) (hx : RefIs w1 x m K) (hy : RefIs w1 y n K') (s t : Value) :
    RefIs ((w1.setCell ⟨p, 0, none⟩ s).setCell ⟨q, 0, none⟩ t) x m K ∧ RefIs ((w1.setCell ⟨p, 0, none⟩ s).setCell ⟨q, 0, none⟩ t) y n K' ∧ Below w0.heap.size w0 ((w1.setCell ⟨p, 0, none⟩ s).setCell ⟨q, 0, none⟩ t) ∧ ((w1.setCell ⟨p, 0, none⟩ s).setCell ⟨q, 0, none⟩ t).cell? ⟨p, 0, none⟩ = some s ∧ ((w1.setCell ⟨p, 0, none⟩ s).setCell ⟨q, 0, none⟩ t).cell? ⟨q, 0, none⟩ = some t := by
  have h3 : (w1.setCell ⟨p, 0, none⟩ s).heap[q]? = some (.cells #[v] 31 (0, 0)) := box_set h2 (fun e => hne e.symm) s
  refine ⟨(hx.box h1 (by decide) s).box h3 (by decide) t, (hy.box h1 (by decide) s).box h3 (by decide) t, (hb.setCell (p := ⟨p, 0, none⟩) hp s).setCell (p := ⟨q, 0, none⟩) hq t, ?_, ?_⟩
  · have c1 := cell_of_one h1
    have f1 := free_of_one h1
    simp [go_sem, hne, c1, f1]
  · have c1 := cell_of_one h3
    simp [go_sem, c1]
theorem one_facts {c x d : Nat} (hc : c < d) (hx : x < 1000000000) (hd : d < 1000000000) : c * 1000000000 + x < 1000000000000000000 := by
  have : (c + 1) * 1000000000 ≤ d * 1000000000 := Nat.mul_le_mul_right _ hc
  omega
set_option maxHeartbeats 2000000 in
theorem rone_walk (w : World) (aa : Option Addr) (na ca d : Nat) (A : List Nat) (hA : R.Bd A) (hna : na ≤ 1000000000) (hAl : A.length = na) (hd0 : 0 < d) (hd : d < 1000000000) (oa : w.ownsRow 0 3 1 (.slice aa na ca) na (i64s A)) :
    Calls Tryz.prog 165 #[.agg #[.slice aa na ca], .int .i64 d] w fun e w' => (∃ q r, e = .returned (.tuple #[q, r]) ∧ RefIs w' q (R.val A / d) na ∧ RefIs w' r (R.val A % d) 3) ∧ Below w.heap.size w w' := by
  obtain ⟨i0, hi, hz0, hz1, hz2⟩ := info_parts Tryz.info3
  have HN := hid hAl
  clear hAl
  have hWb := boxed3 (Below.refl w.heap.size w) (Obj.cells #[Value.slice aa na ca] 31) (Obj.cells #[Value.slice none 0 0] 31) (Obj.cells #[Value.slice none 0 0] 31)
  have b0 := boxed3_first w (Obj.cells #[Value.slice aa na ca] 31) (Obj.cells #[Value.slice none 0 0] 31) (Obj.cells #[Value.slice none 0 0] 31)
  have b1 := boxed3_second w (Obj.cells #[Value.slice aa na ca] 31) (Obj.cells #[Value.slice none 0 0] 31) (Obj.cells #[Value.slice none 0 0] 31)
  have b2 := boxed3_third w (Obj.cells #[Value.slice aa na ca] 31) (Obj.cells #[Value.slice none 0 0] 31) (Obj.cells #[Value.slice none 0 0] 31)
  have hWs : (((w.alloc (Obj.cells #[Value.slice aa na ca] 31)).alloc (Obj.cells #[Value.slice none 0 0] 31)).alloc (Obj.cells #[Value.slice none 0 0] 31)).heap.size = w.heap.size + 1 + 1 + 1 := by simp
  go_enter Tryz.func165, Tryz.ntmps165
  go_wp2_with (first | (at_make; refine wpList_make_full _ rfl _ _ 29 rfl (w.heap.size + 1 + 1 + 1) 3 i0 (.int .i64 0) 1 Tryz.underlying29 hi hz0 hz1 _ _ _ _ na rfl rfl (by omega) (by omega) (by rw [hz2]; omega) (by unfold maxLen; omega) (by simp) ?_))
  intro w1 hown hgrow
  have hb1 := (Below.refl (w.heap.size + 1 + 1 + 1) _).grown hgrow (by rw [hWs]; exact Nat.le_refl _) (by intro k hk; simp at hk)
  simp only [toList_madeCells_one, Value.cells, Nat.mul_one] at hown
  rw [← i64s_rep] at hown
  generalize ((w.alloc (Obj.cells #[Value.slice aa na ca] 31)).alloc (Obj.cells #[Value.slice none 0 0] 31)).alloc (Obj.cells #[Value.slice none 0 0] 31) = W at *
  clear hgrow
  have hz : R.val (List.replicate na 0) = 0 := R.pv_zero fun j _ => lg_rep na j
  have O0 := hid (show OneRel A (List.replicate na 0) d na na 0 from ⟨by simp, R.Bd_rep na, fun j _ => lg_rep na j, by rw [hz]; simp; exact R.pv_val A na (by have := HN.out; omega), hd0⟩)
  clear hz
  have ta := cell_of_one (box_below hb1 b0 (by omega))
  go_wp2
  clear ta
  go_loopg [7, 8] na (fun k cc i wr => ∃ (c : Nat) (S : List Nat), cc = .int .i64 c ∧ i = .int .i64 ((k : Int) - 1) ∧ k ≤ na ∧ c < d ∧ Hid (OneRel A S d na k c) ∧ wr.ownsRow (w.heap.size + 1 + 1 + 1) 3 1 (.slice (some ⟨w.heap.size + 1 + 1 + 1, 0, none⟩) na na) na (i64s S) ∧ Below (w.heap.size + 1 + 1 + 1) W wr)
  case atStart => exact ⟨0, _, rfl, by first | rfl | go_num, Nat.le_refl _, hd0, O0, hown, hb1⟩
  case round =>
    obtain ⟨c, S, rfl, rfl, hk, hc, HR, ho, hB⟩ := hrel
    have CB : Below w.heap.size w wr := hWb.trans (hB.mono (by omega))
    cases gk with
    | zero =>
      have hneg : ¬ ((0 : Int) ≤ ((0 : Nat) : Int) - 1) := by omega
      have HE := hid HR.out.done
      go_wp2_with fail
      refine (rtrim_len wr (w.heap.size + 1 + 1 + 1) _ na na S HR.out.1.symm HR.out.2.1 ho).mono ?_
      rintro e w3 ⟨⟨sl, M, rfl, hM, bM, tM, vM, lM⟩, hb4⟩
      obtain ⟨ao, cp, hv⟩ := ints_slice hM
      rw [hv] at hM ⊢
      have N1 : RefIs w3 (.agg #[.slice ao M.length cp]) (R.val A / d) na := ⟨_, M, rfl, ownsRow_base0 hM, bM, tM, vM.trans HE.out.1, by have := HR.out.1; omega⟩
      have C3 := chain2 CB hb4
      have y1 := box_below hb4 (box_below hB b1 (by omega)) (by have := hB.size; omega)
      have y2 := box_below hb4 (box_below hB b2 (by omega)) (by have := hB.size; omega)
      generalize M.length = lm at *
      clear hv hM bM tM vM lM hb4 ho hB
      go_wp2_with fail
      refine (rof_any c (by omega) w3).mono ?_
      rintro e w4 ⟨v2, rfl, n2, hb5⟩
      obtain ⟨p2, l2, k2, rfl⟩ := n2.form
      have z1 := box_below hb5 y1 (lt_of_block y1)
      have z2 := box_below hb5 y2 (lt_of_block y2)
      obtain ⟨o1, o2, o3, o4, o5⟩ := rdiv_out (chain2 C3 hb5) (show w.heap.size ≤ w.heap.size + 1 by omega) (show w.heap.size ≤ w.heap.size + 1 + 1 by omega) (by omega) z1 z2 (N1.below hb5) n2 (.slice ao lm cp) (.slice p2 l2 k2)
      have HO := hid (And.intro o1 (And.intro o2 o3))
      have u2 := cell_of_one z1
      have f2 := free_of_one z1
      have u3 := cell_of_one z2
      have f3 := free_of_one z2
      clear o1 o2 o3 y1 y2 z1 z2 N1 n2 hb5 C3 CB
      go_wp2
      exact bodyPost_ret (v := .tuple #[.agg #[.slice ao lm cp], .agg #[.slice p2 l2 k2]]) (by simp [results, Tryz.results165, go_sem, o4, o5]) rfl ⟨⟨_, _, rfl, HO.out.1, by rw [← HE.out.2]; exact HO.out.2.1⟩, HO.out.2.2⟩
    | succ j =>
      have e0 : (((j + 1 : Nat) : Int) - 1) = (j : Int) := by omega
      rw [e0]
      have hj : j < na := by omega
      obtain ⟨ga, rfl⟩ : ∃ ga, aa = some ⟨ga, 0, none⟩ := by
        rcases oa.2 with ⟨h', _⟩ | ⟨g, cap, cur, h', _⟩
        · simp at h'; omega
        · simp only [Value.slice.injEq] at h'; exact ⟨g, h'.1⟩
      have cA := i64s_at (ownsRow_below oa CB) j (by have := HN.out; omega)
      have t0 := cell_of_one (box_below hB b0 (by omega))
      have st := i64s_at ho j (by rw [HR.out.1]; exact hj)
      have fr := ho.frozenAt j
      have hA9 := hA j
      obtain ⟨hS, hq⟩ := HR.out.step hj hA
      have hT9 := one_facts hc hA9 hd
      have HO := hid (show ∀ v : Nat, (wr.setCell ⟨w.heap.size + 1 + 1 + 1, j, none⟩ (.int .i64 (v : Int))).ownsRow (w.heap.size + 1 + 1 + 1) 3 1 (.slice (some ⟨w.heap.size + 1 + 1 + 1, 0, none⟩) na na) na (i64s (S.set j v)) ∧ Below (w.heap.size + 1 + 1 + 1) W (wr.setCell ⟨w.heap.size + 1 + 1 + 1, j, none⟩ (.int .i64 (v : Int))) from fun v => by
        have O1 := ho.stored j (.int .i64 (v : Int))
        rw [← i64s_set] at O1
        exact ⟨O1.1, hB.setCell (p := ⟨w.heap.size + 1 + 1 + 1, j, none⟩) (Nat.le_refl _) _⟩)
      generalize lg A j = x at *
      obtain ⟨T, hT⟩ : ∃ T, c * 1000000000 + x = T := ⟨_, rfl⟩
      rw [hT] at hS hq hT9
      have hT2 : (c : Int) * 1000000000 + (x : Int) = (T : Int) := by omega
      have hc9 : c < 1000000000 := by omega
      have hd9 : (d : Int) ≠ 0 := by omega
      have q1 : ((T : Nat) : Int).tdiv (d : Int) = ((T / d : Nat) : Int) := by rw [Int.tdiv_eq_ediv_of_nonneg (by omega)]; omega
      have q2 : ((T : Nat) : Int).tmod (d : Int) = ((T % d : Nat) : Int) := by rw [Int.tmod_eq_emod_of_nonneg (by omega)]; omega
      have hrd : T % d < d := Nat.mod_lt _ hd0
      obtain ⟨Qq, hQq⟩ : ∃ q, T / d = q := ⟨_, rfl⟩
      obtain ⟨Rr, hRr⟩ : ∃ r, T % d = r := ⟨_, rfl⟩
      rw [hQq] at q1 hq hS
      rw [hRr] at q2 hrd hS
      have HS := hid hS
      clear hT hQq hRr hS ho HR e0 CB oa
      go_wp2
      have O := HO.out Qq
      go_roundg j
      case rel => exact ⟨Rr, S.set j Qq, by go_num, by first | rfl | go_num, by omega, hrd, HS, O.1, O.2⟩
      case measure => omega
end Go.Proofs.YtcdkoadobdgbhaaGreatDoor
/- The document's word and gcd. -/
namespace Go.Proofs.YtcdkoadobdgbhaaGreatDoor
open Go.RowKit
set_option linter.unusedVariables false
set_option maxRecDepth 100000
set_option linter.unusedSimpArgs false

theorem R.pv_lt_word {A : List Nat} (hA : R.Bd A) (h : A.length ≤ 2) : R.val A < 1000000000000000000 := by
  have h1 := R.val_lt hA
  have h2 : 1000000000 ^ A.length ≤ 1000000000 ^ 2 := Nat.pow_le_pow_right (by omega) h
  omega
theorem word_step {A : List Nat} {c j : Nat} (h : c * 1000000000 ^ (j + 1) + R.pv A (j + 1) = R.val A) : (c * 1000000000 + lg A j) * 1000000000 ^ j + R.pv A j = R.val A := by
  simp only [R.pv, Nat.pow_succ] at h
  rw [← h, Nat.add_mul, Nat.mul_assoc, Nat.mul_comm 1000000000 (1000000000 ^ j)]
  omega
theorem word_small {A : List Nat} {c j B : Nat} (h : c * 1000000000 ^ (j + 1) + R.pv A (j + 1) = R.val A) (hv : R.val A < B) : c * 1000000000 + lg A j < B := by
  have h1 := word_step h
  have hp : 0 < 1000000000 ^ j := Nat.pow_pos (by decide)
  have h2 : (c * 1000000000 + lg A j) * 1 ≤ (c * 1000000000 + lg A j) * 1000000000 ^ j := Nat.mul_le_mul_left _ hp
  omega
set_option maxHeartbeats 2000000 in
theorem rword_walk (w : World) (aa : Option Addr) (na ca : Nat) (A : List Nat) (hA : R.Bd A) (hna : na ≤ 1000000000) (hAl : A.length = na) (hv : R.val A < 18446744073709551616) (oa : w.ownsRow 0 3 1 (.slice aa na ca) na (i64s A)) :
    Calls Tryz.prog 143 #[.agg #[.slice aa na ca]] w fun e w' => e = .returned (.int .u64 ((R.val A : Nat) : Int)) ∧ Below w.heap.size w w' := by
  have HN := hid hAl
  clear hAl
  have hb := (Below.refl w.heap.size w).alloc (Nat.le_refl _) (Obj.cells #[Value.slice aa na ca] 31)
  have b1 := box_new w (Obj.cells #[Value.slice aa na ca] 31)
  go_enter Tryz.func143, Tryz.ntmps143
  go_wp2
  generalize w.alloc (Obj.cells #[Value.slice aa na ca] 31) = W at *
  have t1 := cell_of_one b1
  go_loopg [3, 4] na (fun k n i wr => ∃ c : Nat, n = .int .u64 c ∧ i = .int .i64 ((k : Int) - 1) ∧ k ≤ na ∧ Hid (c * 1000000000 ^ k + R.pv A k = R.val A) ∧ wr = W)
  case atStart => exact ⟨0, rfl, by first | rfl | go_num, Nat.le_refl _, hid (by rw [Nat.zero_mul, Nat.zero_add]; exact R.pv_val A na (by have := HN.out; omega)), rfl⟩
  case round =>
    obtain ⟨c, rfl, rfl, hk, HR, rfl⟩ := hrel
    cases gk with
    | zero =>
      have hR := HR.out
      simp only [Nat.pow_zero, Nat.mul_one, R.pv, Nat.add_zero] at hR
      have HE := hid hR
      clear hR HR
      have hneg : ¬ ((0 : Int) ≤ ((0 : Nat) : Int) - 1) := by omega
      go_wp2
      go_ret
      exact ⟨by rw [← HE.out]; rfl, hb⟩
    | succ j =>
      have e0 : (((j + 1 : Nat) : Int) - 1) = (j : Int) := by omega
      rw [e0]
      have hj : j < na := by omega
      obtain ⟨ga, rfl⟩ : ∃ ga, aa = some ⟨ga, 0, none⟩ := by
        rcases oa.2 with ⟨h', _⟩ | ⟨g, cap, cur, h', _⟩
        · simp at h'; omega
        · simp only [Value.slice.injEq] at h'; exact ⟨g, h'.1⟩
      have cA := i64s_at (ownsRow_below oa hb) j (by have := HN.out; omega)
      have hA9 := hA j
      have HS := hid (word_step HR.out)
      have hsm := word_small HR.out hv
      generalize lg A j = x at *
      obtain ⟨T, hT⟩ : ∃ T, c * 1000000000 + x = T := ⟨_, rfl⟩
      rw [hT] at hsm HS
      have hT2 : (c : Int) * 1000000000 + (x : Int) = (T : Int) := by omega
      have hc2 : c * 1000000000 < 18446744073709551616 := by omega
      clear hT HR e0
      go_wp2
      go_roundg j
      case rel => exact ⟨T, by go_num, by first | rfl | go_num, by omega, HS, rfl⟩
      case measure => omega
set_option maxHeartbeats 800000 in
theorem rgcdw_any (w : World) (x y : Nat) (hx : x < 18446744073709551616) (hy : y < 18446744073709551616) :
    Calls Tryz.prog 142 #[.int .u64 x, .int .u64 y] w fun e w' => e = .returned (.int .u64 ((Nat.gcd x y : Nat) : Int)) ∧ Below w.heap.size w w' := by
  go_enter Tryz.func142, Tryz.ntmps142
  go_wp2
  go_loopg [0, 1] y (fun k a b wr => ∃ p : Nat, a = .int .u64 p ∧ b = .int .u64 k ∧ p < 18446744073709551616 ∧ k < 18446744073709551616 ∧ Hid (Nat.gcd p k = Nat.gcd x y) ∧ Below w.heap.size w wr)
  case atStart => exact ⟨x, rfl, rfl, hx, hy, hid rfl, Below.refl _ _⟩
  case round =>
    obtain ⟨p, rfl, rfl, hp, hk, HG, hB⟩ := hrel
    rcases Nat.eq_zero_or_pos gk with h0 | h0
    · subst h0
      have hG := HG.out
      rw [Nat.gcd_zero_right] at hG
      have HG' := hid hG
      clear hG HG
      go_wp2
      go_ret
      exact ⟨by rw [HG'.out]; rfl, hB⟩
    · have h1 : 0 < (gk : Int) := by omega
      have hm := Nat.mod_lt p h0
      have hz : (gk : Int) ≠ 0 := by omega
      have e1 : ((p : Nat) : Int).tmod (gk : Int) = ((p % gk : Nat) : Int) := by rw [Int.tmod_eq_emod_of_nonneg (by omega)]; omega
      have HG2 := hid (show Nat.gcd gk (p % gk) = Nat.gcd x y by rw [← HG.out, Nat.gcd_comm gk, ← Nat.gcd_rec, Nat.gcd_comm])
      obtain ⟨r, hr⟩ : ∃ r, p % gk = r := ⟨_, rfl⟩
      rw [hr] at hm e1 HG2
      clear hr HG
      go_wp2
      go_quiet (fail)
      go_wp2
      go_roundg r
      case rel => exact ⟨gk, rfl, rfl, hk, by omega, HG2, by first | exact hB | exact below_drewN hB _ | exact hB.drew⟩
      case measure => omega
end Go.Proofs.YtcdkoadobdgbhaaGreatDoor
