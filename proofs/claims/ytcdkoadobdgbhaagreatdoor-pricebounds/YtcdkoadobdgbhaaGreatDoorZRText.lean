/- The document's Text. -/
import Derived.Test.YtcdkoadobdgbhaaGreatDoorPk7
import Derived.Test.YtcdkoadobdgbhaaGreatDoorZDigits
import Derived.Test.YtcdkoadobdgbhaaGreatDoorPk5
import Derived.Lib.UnsafeStr
namespace Go.Proofs.YtcdkoadobdgbhaaGreatDoor
open Go.RowKit
set_option linter.unusedVariables false
set_option maxRecDepth 100000
set_option linter.unusedSimpArgs false

theorem Tryz.info5 : (Tryz.prog.info? 5).map (fun i => (i.zero, i.size, i.bytes)) = some (some (.int .u8 0), 1, 1) := by kernel_rfl
/-- What a list of digits is worth, the lowest first. -/
def lev (l : List UInt8) : Nat := lv l.reverse
theorem lev_snoc (l : List UInt8) (b : UInt8) : lev (l ++ [b]) = (b.toNat - 48) * 10 ^ l.length + lev l := by
  unfold lev
  rw [List.reverse_append]
  show lv ([b] ++ l.reverse) = _
  rw [lv_append]; simp [lv]
/-- k digits of chunk i are written. -/
def RTx (L : List Nat) (i k : Nat) (l : List UInt8) : Prop := Dg l ∧ l.length = 9 * i + k ∧ lev l = R.pv L i + lg L i % 10 ^ k * 1000000000 ^ i ∧ (k ≠ 0 → ∃ r d, l = r ++ [d] ∧ d.toNat = 48 + lg L i / 10 ^ (k - 1) % 10)
def digB (x : Nat) : UInt8 := UInt8.ofNat (48 + x % 10)
theorem digB_toNat (x : Nat) : (digB x).toNat = 48 + x % 10 := dig_toNat _ (by omega)
theorem RTx.step {L : List Nat} {i k : Nat} {l : List UInt8} (h : RTx L i k l) : RTx L i (k + 1) (l ++ [digB (lg L i / 10 ^ k)]) := by
  obtain ⟨h1, h2, h3, h4⟩ := h
  refine ⟨Dg_append h1 ?_, by simp; omega, ?_, fun _ => ⟨l, _, rfl, by rw [digB_toNat]; simp⟩⟩
  · intro b hb
    rw [List.mem_singleton] at hb
    rw [hb, digB_toNat]; omega
  · rw [lev_snoc, digB_toNat, h3, h2]
    have e1 : lg L i % 10 ^ (k + 1) = lg L i % 10 ^ k + 10 ^ k * (lg L i / 10 ^ k % 10) := by rw [Nat.pow_succ, Nat.mod_mul]
    have e2 : 10 ^ (9 * i + k) = 1000000000 ^ i * 10 ^ k := by rw [Nat.pow_add, Nat.pow_mul]
    rw [e1, e2, Nat.add_sub_cancel_left, Nat.add_mul]
    generalize lg L i / 10 ^ k % 10 = d
    generalize 1000000000 ^ i = p
    generalize 10 ^ k = q
    have e3 : d * (p * q) = q * d * p := by rw [Nat.mul_comm p q, ← Nat.mul_assoc, Nat.mul_comm d q]
    rw [e3]; omega
theorem RTx.full {L : List Nat} {i : Nat} {l : List UInt8} (hb : R.Bd L) (h : RTx L i 9 l) : RTx L (i + 1) 0 l := by
  obtain ⟨h1, h2, h3, h4⟩ := h
  refine ⟨h1, by omega, ?_, fun e => absurd rfl e⟩
  rw [h3, Nat.mod_eq_of_lt (show lg L i < 10 ^ 9 from by have := hb i; have e9 : (10 : Nat) ^ 9 = 1000000000 := (by decide); omega)]
  simp only [R.pv, Nat.pow_zero, Nat.mod_one, Nat.zero_mul, Nat.add_zero]
/-- What stands when all chunks are written. -/
def RFin (L : List Nat) (l : List UInt8) : Prop := Dg l ∧ lev l = R.val L ∧ ∃ r d, l = r ++ [d] ∧ d.toNat ≠ 48
theorem RTx.last {L : List Nat} {i k : Nat} {l : List UInt8} (hi : i + 1 = L.length) (ht : Top L) (h : RTx L i k l) (hz : lg L i / 10 ^ k = 0) (hp : ∀ j, j < k → lg L i / 10 ^ j ≠ 0) : RFin L l := by
  obtain ⟨h1, h2, h3, h4⟩ := h
  have h0 : lg L i ≠ 0 := by have := ht (by omega); rw [← hi] at this; exact this
  have hlt : lg L i < 10 ^ k := by
    rcases Nat.lt_or_ge (lg L i) (10 ^ k) with e | e
    · exact e
    · have := Nat.div_pos e (Nat.pow_pos (by omega)); omega
  have hk : k ≠ 0 := by intro e; rw [e] at hz; simp at hz; exact h0 hz
  refine ⟨h1, ?_, ?_⟩
  · rw [h3, Nat.mod_eq_of_lt hlt]
    unfold R.val; rw [← hi]; rfl
  · obtain ⟨r, d, e, hd⟩ := h4 hk
    refine ⟨r, d, e, ?_⟩
    rw [hd]
    have hp1 := hp (k - 1) (by omega)
    have e1 : lg L i / 10 ^ (k - 1) / 10 = lg L i / 10 ^ k := by rw [Nat.div_div_eq_div_mul, ← Nat.pow_succ]; congr 2; omega
    rw [hz] at e1
    omega
theorem byteCells_at {w : World} {base g n cap : Nat} {l : List UInt8} (hown : w.ownsRow base 5 1 (.slice (some ⟨g, 0, none⟩) n cap) n (Lib.byteCells l)) (k : Nat) (hk : k < l.length) :
    w.cell? ⟨g, k, none⟩ = some (.int .u8 ((l[k]'hk).toNat : Int)) := by
  have hn : (Lib.byteCells l).length = n * 1 := hown.1
  have h := hown.cellAt k (by rw [← hn, Lib.byteCells_length]; exact hk)
  rw [h]; simp [Lib.byteCells, hk]
theorem bytes_slice {w : World} {base : Nat} {v : Value} {l : List UInt8} (h : w.ownsRow base 5 1 v l.length (Lib.byteCells l)) : (l = [] ∧ v = .slice none 0 0) ∨ ∃ g cap, v = .slice (some ⟨g, 0, none⟩) l.length cap ∧ base ≤ g ∧ g < w.heap.size ∧ l.length ≤ cap ∧ cap ≤ maxLen := by
  rcases h.2 with ⟨h1, h2⟩ | ⟨g, cap, cur, hv, hg, hh, r1, r2, _⟩
  · exact Or.inl ⟨List.eq_nil_of_length_eq_zero h2, h1⟩
  · exact Or.inr ⟨g, cap, hv, hg, lt_of_block hh, r1, r2⟩
theorem row_new (w : World) (e : TypeId) : (w.alloc (Obj.cells #[] e)).ownsRow w.heap.size e 1 (.slice (some ⟨w.heap.size, 0, none⟩) 0 0) 0 [] :=
  World.ownsRow_made (base := w.heap.size) (e := e) (size := 1) w #[] 0 (Nat.le_refl _) (by unfold maxLen; omega) (by simp)
set_option maxHeartbeats 400000 in
theorem rtext_none (w : World) (ao : Option Addr) (ca : Nat) :
    Calls Tryz.prog 71 #[.agg #[.slice ao 0 ca]] w fun e w' => e = .returned (.string ⟨#[48]⟩) ∧ Below w.heap.size w w' := by
  go_enter Tryz.func71, Tryz.ntmps71
  go_wp2
  go_ret
  exact ⟨rfl, (Below.refl _ _).alloc (Nat.le_refl _) _⟩
set_option maxHeartbeats 2000000 in
theorem rtext_walk (w : World) (ga n ca : Nat) (L : List Nat) (hL : R.Bd L) (hT : Top L) (hn : n ≤ 1000000000) (hn0 : n ≠ 0) (hLl : L.length = n) (hcap : n ≤ ca) (hcm : ca ≤ maxLen) (oa : w.ownsRow 0 3 1 (.slice (some ⟨ga, 0, none⟩) n ca) n (i64s L)) :
    Calls Tryz.prog 71 #[.agg #[.slice (some ⟨ga, 0, none⟩) n ca]] w fun e w' => (∃ l, e = .returned (.string ⟨l.toArray⟩) ∧ Dg l ∧ (∃ a r, l = a :: r ∧ a.toNat ≠ 48) ∧ lv l = R.val L) ∧ Below w.heap.size w w' := by
  obtain ⟨i0, hi, hz0, hz1, hz2⟩ := info_parts Tryz.info5
  have hga : ga < w.heap.size := by
    rcases oa.2 with ⟨h, _⟩ | ⟨g', cap', cur, hv, _, hh, _⟩
    · simp at h
    · simp only [Value.slice.injEq, Option.some.injEq, Addr.mk.injEq, and_true, true_and] at hv
      rw [hv.1]; exact lt_of_block hh
  have e1 : ((n : Int) == 0) = false := beq_eq_false_iff_ne.2 (by omega)
  have HL := hid hLl
  have hcell : ∀ k, k < n → w.cell? ⟨ga, k, none⟩ = some (.int .i64 (lg L k : Int)) := fun k hk => i64s_at oa k (by omega)
  have hx : ((w.alloc (Obj.cells #[Value.slice (some ⟨ga, 0, none⟩) n ca] 31)).alloc (Obj.cells #[] 5)).heap[w.heap.size]? = some (Obj.cells #[Value.slice (some ⟨ga, 0, none⟩) n ca] 31) := box_alloc (box_new _ _) _
  have ho := row_new (w.alloc (Obj.cells #[Value.slice (some ⟨ga, 0, none⟩) n ca] 31)) 5
  have hb : Below (w.heap.size + 1) (w.alloc (Obj.cells #[Value.slice (some ⟨ga, 0, none⟩) n ca] 31)) ((w.alloc (Obj.cells #[Value.slice (some ⟨ga, 0, none⟩) n ca] 31)).alloc (Obj.cells #[] 5)) := (Below.refl _ _).alloc (by simp) _
  have hb0 : Below w.heap.size w (w.alloc (Obj.cells #[Value.slice (some ⟨ga, 0, none⟩) n ca] 31)) := (Below.refl _ _).alloc (Nat.le_refl _) _
  have hs0 : (w.alloc (Obj.cells #[Value.slice (some ⟨ga, 0, none⟩) n ca] 31)).heap.size = w.heap.size + 1 := by simp
  have hx0 : (w.alloc (Obj.cells #[Value.slice (some ⟨ga, 0, none⟩) n ca] 31)).cell? ⟨w.heap.size, 0, none⟩ = some (Value.slice (some ⟨ga, 0, none⟩) n ca) := by simp [go_sem]
  rw [hs0] at ho
  unfold maxLen at hcm
  clear hLl oa hx
  go_enter Tryz.func71, Tryz.ntmps71
  go_wp2
  have hs1 : w.heap.size + 1 ≤ (w.alloc (Obj.cells #[Value.slice (some ⟨ga, 0, none⟩) n ca] 31)).heap.size := by omega
  clear hs0
  generalize (w.alloc (Obj.cells #[Value.slice (some ⟨ga, 0, none⟩) n ca] 31)).alloc (Obj.cells #[] 5) = W1 at *
  generalize w.alloc (Obj.cells #[Value.slice (some ⟨ga, 0, none⟩) n ca] 31) = W at *
  go_loopw [3, 4] (fun v c wr => ∃ (i : Nat) (l : List UInt8), i ≤ n ∧ c = .int .i64 i ∧ (i < n → RTx L i 0 l) ∧ (i = n → RFin L l) ∧ l.length ≤ 9 * i ∧ wr.ownsRow (w.heap.size + 1) 5 1 v l.length (Lib.byteCells l) ∧ v ≠ .slice none 0 0 ∧ Below (w.heap.size + 1) W wr) (fun _ c _ => n - (intOf c).toNat)
  case atStart => exact ⟨0, [], Nat.zero_le _, rfl, fun _ => ⟨by intro b hb; simp at hb, rfl, by simp [lev, lv, R.pv, Nat.mod_one], fun h => absurd rfl h⟩, fun h => by omega, by simp, ho, by simp, hb⟩
  case round =>
    obtain ⟨i, l, hi1, rfl, hA, hF, hll, hown, hnn, hbel⟩ := hrel
    have H := hid (And.intro hA (And.intro hF hnn))
    clear hA hF hnn ho hb
    have hbw : Below w.heap.size w wr := hb0.trans (hbel.mono (by omega))
    have cx := (hbel.cell (p := ⟨w.heap.size, 0, none⟩) (by show w.heap.size < _; omega)).trans hx0
    by_cases hlt : i < n
    · have hc := (hbw.cell (p := ⟨ga, i, none⟩) (by exact hga)).trans (hcell i hlt)
      have hx9 := hL i
      have HR0 := hid (H.out.1 hlt)
      have HN := hid H.out.2.2
      clear H
      go_wp2
      go_loopw [3, 5, 6] (fun v c k ws => ∃ (j y : Nat) (m : List UInt8), j ≤ 9 ∧ k = .int .i64 j ∧ c = .int .i64 y ∧ y = lg L i / 10 ^ j ∧ y < 1000000000 ∧ RTx L i j m ∧ (∀ q, q < j → i + 1 = n → lg L i / 10 ^ q ≠ 0) ∧ ws.ownsRow (w.heap.size + 1) 5 1 v m.length (Lib.byteCells m) ∧ v ≠ .slice none 0 0 ∧ Below (w.heap.size + 1) W ws) (fun _ _ k _ => 9 - (intOf k).toNat)
      case atStart => exact ⟨0, lg L i, l, by omega, rfl, rfl, by simp, hx9, HR0.out, fun q hq => by omega, hown, HN.out, hbel⟩
      case round =>
        obtain ⟨j, y, m, hj, rfl, rfl, hy, hy9, hR, hnz, hown2, hnn2, hbel2⟩ := hrel
        have HR := hid (And.intro hR (And.intro hy (And.intro hnz hnn2)))
        have hml := hR.2.1
        have hml2 : m.length ≤ 9000000009 := by omega
        clear hR hy hnz hnn2 hml hbel hown cx hc
        have cx := (hbel2.cell (p := ⟨w.heap.size, 0, none⟩) (by show w.heap.size < _; omega)).trans hx0
        by_cases hj9 : j < 9
        · by_cases hgo : 0 < y ∨ i + 1 < n
          · have hstep : 0 < y ∨ ¬ 0 < y ∧ i + 1 < n := by omega
            clear hgo
            have hd : (digB y).toNat = 48 + y % 10 := digB_toNat y
            have HD := hid hd
            clear hd
            have hsz2 : w.heap.size + 1 ≤ wr.heap.size := by have := hbel2.size; omega
            rcases hstep with hy0 | ⟨hy0, hi1'⟩
            all_goals
              go_wp2_with (at_builtin; refine wpList_append_own _ rfl _ _ 161 rfl (w.heap.size + 1) 5 i0 (.int .u8 0) 1 1 Tryz.underlying161 hi hz0 hz1 hz2 rfl (by decide) _ _ _ rfl (hown2.alloc _) ⟨wr.heap.size, 0, none⟩ 1 1 [.int .u8 (48 + (y : Int) % 10)] rfl rfl (by intro j u hu; match j, hu with | 0, hu => simp at hu; subst hu; simp [Addr.add]) (by intro u hu; simp at hu; subst hu; rfl) (by unfold maxLen; omega) (by omega) (by simp; omega) ?_)
              intro v' w1 hown3 hgrow hnil
              have hb3 : Below (w.heap.size + 1) W w1 := (below_alloc' hbel2 hs1 _).grown hgrow (by have := hbel2.size; simp; omega) (fun q hq => (hown2.lt q hq).1)
              have hown4 : w1.ownsRow (w.heap.size + 1) 5 1 v' (m ++ [digB y]).length (Lib.byteCells (m ++ [digB y])) := by
                have e : (Value.int IntKind.u8 (48 + (y : Int) % 10)) = Value.int .u8 ((digB y).toNat : Int) := by rw [HD.out]; congr 1
                rw [e] at hown3
                simpa [Lib.byteCells] using hown3
              have HR2 := hid (show RTx L i (j + 1) (m ++ [digB y]) from by have := HR.out.1.step; rw [← HR.out.2.1] at this; exact this)
              have HY := hid (show y / 10 = lg L i / 10 ^ (j + 1) from by rw [HR.out.2.1, Nat.div_div_eq_div_mul, ← Nat.pow_succ])
              have HZ := hid (show ∀ q, q < j + 1 → i + 1 = n → lg L i / 10 ^ q ≠ 0 from fun q hq he => by
                by_cases e : q = j
                · rw [e, ← HR.out.2.1]; omega
                · exact HR.out.2.2.1 q (by omega) he)
              have HNil := hid (show v' ≠ .slice none 0 0 from hnil)
              clear hown3 hgrow hnil hown2 hbel2 cx
              go_wp2
              go_roundw
              case rel => exact ⟨j + 1, y / 10, m ++ [digB y], by omega, by go_num, by go_num, HY.out, by omega, HR2.out, HZ.out, hown4, HNil.out, hb3⟩
              case measure => simp [intOf]; omega
          · have hy0 : ¬ 0 < y := by omega
            have hi1' : ¬ i + 1 < n := by omega
            have HFin := hid (show RFin L m from RTx.last (by have := HL.out; omega) hT HR.out.1 (by rw [← HR.out.2.1]; omega) (fun q hq => HR.out.2.2.1 q hq (by omega)))
            go_wp2
            go_roundw
            case rel => exact ⟨i + 1, m, by omega, by go_num, fun h => by omega, fun _ => HFin.out, by have := HR.out.1.2.1; omega, hown2, HR.out.2.2.2, hbel2⟩
            case measure => simp [intOf]; omega
        · have hj9' : j = 9 := by omega
          have HNext := hid (show (i + 1 < n → RTx L (i + 1) 0 m) ∧ (i + 1 = n → RFin L m) from by
            have h9 := HR.out.1
            rw [hj9'] at h9
            refine ⟨fun _ => h9.full hL, fun he => RTx.last (by have := HL.out; omega) hT h9 ?_ (fun q hq => HR.out.2.2.1 q (by omega) he)⟩
            have e9 : (10 : Nat) ^ 9 = 1000000000 := by decide
            rw [e9]; exact Nat.div_eq_of_lt hx9)
          clear hj9'
          go_wp2
          go_roundw
          case rel => exact ⟨i + 1, m, by omega, by go_num, HNext.out.1, HNext.out.2, by have := HR.out.1.2.1; omega, hown2, HR.out.2.2.2, hbel2⟩
          case measure => simp [intOf]; omega
    · have hin : i = n := by omega
      have HFin := hid (H.out.2.1 hin)
      have HN := hid H.out.2.2
      rcases bytes_slice hown with ⟨h0, _⟩ | ⟨gb, cb, hv, hgb, hgl, hcb1, hcb2⟩
      · obtain ⟨r, d, e, _⟩ := HFin.out.2.2
        rw [h0] at e; simp at e
      rw [hv] at hown ⊢
      have hcl : ∀ k (hk : k < l.length), wr.cell? ⟨gb, k, none⟩ = some (.int .u8 ((l[k]'hk).toNat : Int)) := fun k hk => byteCells_at hown k hk
      have hll2 : l.length ≤ 9000000000 := by omega
      have ho2 := row_new wr 5
      have hbw2 := hbw.alloc hbw.size (Obj.cells #[] 5)
      have HCl := hid hcl
      have hbn : Below wr.heap.size wr (wr.alloc (Obj.cells #[] 5)) := (Below.refl _ _).alloc (Nat.le_refl _) _
      clear hv H hin hcl hown hbel
      generalize hwo : wr = wo at *
      clear hwo
      unfold maxLen at hcb2
      obtain ⟨ln, hln⟩ : ∃ ln, ln = l.length := ⟨_, rfl⟩
      rw [← hln] at hll hll2 hcb1 ⊢
      have HLn := hid hln
      clear hln hcell
      go_wp2
      clear cx
      go_loopw [7, 8] (fun v c ws => ∃ j : Nat, j ≤ ln ∧ c = .int .i64 ((j : Int) - 1) ∧ ws.ownsRow wo.heap.size 5 1 v (ln - j) (Lib.byteCells (l.drop j).reverse) ∧ Below wo.heap.size wo ws) (fun _ c _ => (intOf c + 1).toNat)
      case atStart => exact ⟨ln, Nat.le_refl _, rfl, by rw [Nat.sub_self, HLn.out, List.drop_length]; exact ho2, hbn⟩
      case round =>
        obtain ⟨j, hj, rfl, hown, hbel⟩ := hrel
        clear ho2 hbn
        by_cases hj0 : 0 < j
        · obtain ⟨q, rfl⟩ : ∃ q, j = q + 1 := ⟨j - 1, by omega⟩
          have hql : q < l.length := by have := HLn.out; omega
          have hc := (hbel.cell (p := ⟨gb, q, none⟩) (by exact hgl)).trans (HCl.out q hql)
          have HD := hid (show (l.drop q).reverse = (l.drop (q + 1)).reverse ++ [l[q]'hql] from by rw [List.drop_eq_getElem_cons hql, List.reverse_cons])
          generalize l[q]'hql = b at *
          have hq1 : ((q + 1 : Nat) : Int) - 1 = (q : Int) := by omega
          rw [hq1]
          go_wp2_with (at_builtin; refine wpList_append_own _ rfl _ _ 161 rfl wo.heap.size 5 i0 (.int .u8 0) 1 1 Tryz.underlying161 hi hz0 hz1 hz2 rfl (by decide) _ _ _ rfl (hown.alloc _) ⟨wr.heap.size, 0, none⟩ 1 1 [.int .u8 (b.toNat : Int)] rfl rfl (by intro j u hu; match j, hu with | 0, hu => simp at hu; subst hu; simp [Addr.add]) (by intro u hu; simp at hu; subst hu; rfl) (by unfold maxLen; omega) (by omega) (by have := hbel.size; simp; omega) ?_)
          intro v' w1 hown3 hgrow hnil
          have hb3 : Below wo.heap.size wo w1 := (below_alloc' hbel (Nat.le_refl _) _).grown hgrow (by have := hbel.size; simp; omega) (fun q hq => (hown.lt q hq).1)
          have hown4 : w1.ownsRow wo.heap.size 5 1 v' (ln - q) (Lib.byteCells (l.drop q).reverse) := by
            rw [HD.out, Lib.byteCells_append, show ln - q = ln - (q + 1) + 1 by omega]
            exact hown3
          clear hown3 hgrow hnil hown hbel hc
          go_wp2
          go_roundw
          case rel => exact ⟨q, by omega, by go_num, hown4, hb3⟩
          case measure => simp [intOf] <;> omega
        · have hj0' : j = 0 := by omega
          rw [hj0', Nat.sub_zero, List.drop_zero] at hown
          have hlr : l.reverse.length = ln := by rw [List.length_reverse]; exact HLn.out.symm
          rw [← hlr] at hown
          rcases bytes_slice hown with ⟨h0, _⟩ | ⟨go, co, hv, _, _, _, _⟩
          · obtain ⟨r, d, e, _⟩ := HFin.out.2.2
            rw [e] at h0; simp at h0
          rw [hv] at hown ⊢
          have hcv := run_convert_bytes_back (P := Tryz.prog) wr 161 9 5 ⟨go, 0, none⟩ co l.reverse Tryz.underlying161 Tryz.underlying5 Tryz.underlying9 (fun j hj => by
            rw [Addr.add_lit, Nat.zero_add]
            exact byteCells_at hown j hj)
          have HF := hid (show Dg l.reverse ∧ (∃ a r, l.reverse = a :: r ∧ a.toNat ≠ 48) ∧ lv l.reverse = R.val L from by
            obtain ⟨h1, h2, r, d, e, hd⟩ := HFin.out
            exact ⟨fun b hb => h1 b (List.mem_reverse.1 hb), ⟨d, r.reverse, by rw [e]; simp, hd⟩, h2⟩)
          have hwz := chain2 hbw hbel
          clear hv hown hj0'
          generalize l.reverse = lr at *
          have hjm : ¬ ((0 : Int) ≤ (j : Int) - 1) := by omega
          rw [hlr] at hcv
          try rw [hlr]
          clear hlr
          go_wp2
          go_ret
          obtain ⟨f1, ⟨f2, f3, f4, f5⟩, f6⟩ := HF.out
          exact ⟨⟨lr, rfl, f1, ⟨f2, ⟨f3, f4⟩, f5⟩, f6⟩, hwz⟩
/-- The document's Text: the number's text. -/
theorem rtext_any (w : World) (a : Value) (m K : Nat) (hK : K ≤ 1000000000) (ha : RefIs w a m K) :
    Calls Tryz.prog 71 #[a] w fun e w' => (∃ s, e = .returned (.string s) ∧ Txt s ∧ num s = m) ∧ Below w.heap.size w w' := by
  obtain ⟨sa, A, rfl, oa, bA, tA, rfl, lA⟩ := ha
  by_cases h0 : A.length = 0
  · obtain ⟨aa, ca, rfl⟩ := ints_slice oa
    rw [h0]
    refine (rtext_none w aa ca).mono ?_
    rintro e w' ⟨rfl, hw⟩
    have e : A = [] := List.eq_nil_of_length_eq_zero h0
    exact ⟨⟨_, rfl, txt_zero.1, by rw [e]; exact txt_zero.2⟩, hw⟩
  · rcases oa.2 with ⟨_, h2⟩ | ⟨g, cap, cur, rfl, hg, hh, r1, r2, _⟩
    · exact absurd h2 h0
    refine (rtext_walk w g A.length cap A bA tA (by omega) h0 rfl r1 r2 oa).mono ?_
    rintro e w' ⟨⟨l, rfl, h1, h2, h3⟩, hw⟩
    have ht := txt_list l h1 h2
    exact ⟨⟨_, rfl, ht.1, by rw [ht.2]; exact h3⟩, hw⟩
end Go.Proofs.YtcdkoadobdgbhaaGreatDoor
