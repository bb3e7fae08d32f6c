/- Text: a number's text. -/
import Derived.Test.YtcdkoadobdgbhaaGreatDoorZChunks
import Derived.Test.YtcdkoadobdgbhaaGreatDoorZDigits
import Derived.Test.YtcdkoadobdgbhaaGreatDoorZFmt
import Derived.Lib.LaidTab
namespace Go.Proofs.YtcdkoadobdgbhaaGreatDoor
open Go.RowKit
set_option linter.unusedVariables false
set_option maxRecDepth 100000
set_option linter.unusedSimpArgs false

theorem tab_global : Tryz.prog.globalNamed "internal/strconv.uint64pow10" = some 1 := by kernel_rfl
/-- The library's table of powers of ten lies as its text lays it. -/
def Tab (w : World) : Prop := Lib.TabIs Tryz.prog w "internal/strconv.uint64pow10" .u64 Lib.pow10Tab
theorem Tab.below {w w' : World} (h : Tab w) (hb : Below w.heap.size w w') : Tab w' :=
  var?_below hb tab_global (World.block_lt_of_cell? w _ (h.cell tab_global 0 (by rw [Lib.pow10Tab_length]; omega))) h
theorem builder_below {T e : TypeId} {B b : Nat} {bs : List Value} {w w' : World} (h : Lib.IsBuilderF T e B b bs w) (hb : Below w.heap.size w w') : Lib.IsBuilderF T e B b bs w' := by
  have key : ∀ p, Lib.BuilderAtF T e B b p bs w → Lib.BuilderAtF T e B b p bs w' := by
    rintro p ⟨h1, v, h2, ⟨h3, h4⟩, h5⟩
    refine ⟨h1, v, by rw [hb.block b (lt_of_block h2)]; exact h2, ⟨h3, ?_⟩, h5⟩
    rcases h4 with h4 | ⟨g, cap, cur, fz, hv, hg, hh, r⟩
    · exact Or.inl h4
    · exact Or.inr ⟨g, cap, cur, fz, hv, hg, by rw [hb.block g (lt_of_block hh)]; exact hh, r⟩
  exact h.elim (fun x => Or.inl (key _ x)) (fun x => Or.inr (key _ x))
theorem builder_new (w : World) : Lib.IsBuilderF 225 5 w.heap.size w.heap.size (Lib.byteCells []) (w.alloc (Obj.cells #[.pointer none, .slice none 0 0] 225)) :=
  Or.inl ⟨Nat.le_refl _, .slice none 0 0, box_new _ _, ⟨rfl, Or.inl ⟨rfl, rfl⟩⟩, by simp [Value.ownBlock]⟩
theorem thousand (n : Nat) : 4294967296 ^ n ≤ 1000000000 ^ (2 * n) := by
  rw [Nat.pow_mul]; exact Nat.pow_le_pow_left (by decide) n
set_option maxHeartbeats 1600000 in
theorem text_walk (w : World) (aa : Option Addr) (na ca m : Nat) (A : List Nat) (hA : Bd A) (hT : Top A) (hna : na ≤ 1000000000) (hn0 : na ≠ 0) (hAl : A.length = na) (hm : val A = m) (oa : Limbs w (.slice aa na ca) A) (htab : Tab w) :
    Calls Tryz.prog 158 #[.agg #[.slice aa na ca]] w fun e w' => (∃ l, e = .returned (.string ⟨l.toArray⟩) ∧ Dg l ∧ (∃ a r, l = a :: r ∧ a.toNat ≠ 48) ∧ lv l = m) ∧ Below w.heap.size w w' := by
  have e1 : ((na : Int) == 0) = false := beq_eq_false_iff_ne.2 (by omega)
  have hm0 : m ≠ 0 := by have := val_pos hT (by omega); omega
  have oa1 := oa.alloc (Obj.cells #[Value.slice aa na ca] 69)
  have hb0 : Below w.heap.size w (w.alloc (Obj.cells #[Value.slice aa na ca] 69)) := (Below.refl _ _).alloc (Nat.le_refl _) _
  have HA := hid (And.intro hAl hm)
  have hN : m < 1000000000 ^ (2 * na) := by have h1 := val_lt hA; rw [hAl, hm] at h1; exact Nat.lt_of_lt_of_le h1 (thousand na)
  have HN := hid hN
  clear hAl hm hN
  go_enter Tryz.func158, Tryz.ntmps158
  go_wp2_with fail
  generalize w.alloc (Obj.cells #[Value.slice aa na ca] 69) = W at *
  refine (chunks_walk W aa na ca m (2 * na) A hA hT hna HA.out.1 HA.out.2 HN.out (by omega) oa1).mono ?_
  rintro e w1 ⟨⟨v1, C, rfl, oC, bC, tC, vC, lC⟩, hb1⟩
  have hw1 := chain2 hb0 hb1
  rcases Limbs.form (ownsRow_base0 oC) with ⟨_, h0⟩ | ⟨gc, cc, hv1, l1, l2, l3⟩
  · rw [h0] at vC; exact absurd vC.symm (by simpa [R.val, R.pv] using hm0)
  rw [hv1] at oC ⊢
  have HC := hid (And.intro vC (And.intro bC tC))
  have htab1 := htab.below hw1
  clear hv1 hb0 hb1 oa oa1 vC bC tC htab
  obtain ⟨n, hn⟩ : ∃ n, n = C.length := ⟨_, rfl⟩
  rw [← hn] at oC l1 lC ⊢
  have HNn := hid hn
  clear hn
  go_wp2
  have hcell : ∀ wr, Below w1.heap.size w1 wr → ∀ k, k < n → wr.cell? ⟨gc, k, none⟩ = some (.int .u32 (lg C k : Int)) := fun wr hb k hk => (hb.cell (by exact l3)).trans (u32s_at oC k (by have := HNn.out; omega))
  have hB0 := builder_new w1
  have hb0 : Below w1.heap.size w1 (w1.alloc (Obj.cells #[.pointer none, .slice none 0 0] 225)) := (Below.refl _ _).alloc (Nat.le_refl _) _
  have HCell := hid hcell
  clear hcell oC
  unfold maxLen at l2
  go_loopw [15] (fun c wr => ∃ (i : Nat) (l : List UInt8), i ≤ n ∧ c = .int .i64 i ∧ TxRel C i l ∧ Lib.IsBuilderF 225 5 w1.heap.size w1.heap.size (Lib.byteCells l) wr ∧ Below w1.heap.size w1 wr) (fun c _ => n - (intOf c).toNat)
  case atStart => exact ⟨0, [], Nat.zero_le _, rfl, ⟨by simp [R.val, lv], by intro b hb; simp at hb, by simp, fun h => absurd rfl h⟩, hB0, hb0⟩
  case round =>
    obtain ⟨i, l, hi, rfl, hR, hB, hbw⟩ := hrel
    have HR := hid hR
    have hll : l.length ≤ 18000000000 := by have := hR.2.2.1; omega
    clear hR hB0 hb0
    by_cases hlt : i < n
    · obtain ⟨q, hq⟩ : ∃ q : Nat, (n : Int) - 1 - i = q := ⟨n - 1 - i, by omega⟩
      have hq' : q < n := by omega
      have hc := HCell.out wr hbw q hq'
      have hx := HC.out.2.1 q
      have hx64 : lg C q < 18446744073709551616 := by omega
      have n9 := nDigits_nine _ hx
      have hdl : (⟨(Lib.decDigits (lg C q)).toArray⟩ : ByteArray).size = Lib.nDigits (lg C q) := by rw [← dec_len]; simp [ByteArray.size]
      obtain ⟨nd, hnd⟩ : ∃ nd, Lib.nDigits (lg C q) = nd := ⟨_, rfl⟩
      rw [hnd] at n9 hdl
      have HND := hid hnd
      clear hnd
      obtain ⟨x, hxe⟩ : ∃ x, x = lg C q := ⟨_, rfl⟩
      rw [← hxe] at hc hx64 hdl
      have HX := hid hxe
      clear hxe hx
      have htab2 := htab1.below hbw
      go_wp2_with fail
      refine (fmt_any x hx64 wr htab2).mono ?_
      rintro e w2 ⟨rfl, hb2⟩
      have hB2 := builder_below hB hb2
      have hbw2 := chain2 hbw hb2
      obtain ⟨s, hs⟩ : ∃ s, s = (⟨(Lib.decDigits x).toArray⟩ : ByteArray) := ⟨_, rfl⟩
      rw [← hs] at hdl ⊢
      have HS := hid hs
      clear hs hB hbw hb2
      by_cases h0 : 0 < i
      · go_wp2_with fail
        rw [show (9 : Int) - (nd : Int) = ((9 - nd : Nat) : Int) by omega]
        refine (Tryz.strings_Repeat ⟨#[48]⟩ (9 - nd) w2 (by omega) (by have : (⟨#[48]⟩ : ByteArray).size = 1 := rfl; rw [this]; omega)).mono ?_
        rintro e w3 ⟨rfl, hb3⟩
        have hB3 := builder_below hB2 hb3
        have hbw3 := chain2 hbw2 hb3
        obtain ⟨z, hz⟩ : ∃ z, z = (⟨(Lib.repeatL (⟨#[48]⟩ : ByteArray).data.toList (9 - nd)).toArray⟩ : ByteArray) := ⟨_, rfl⟩
        rw [← hz]
        have hzl : z.size = 9 - nd := by rw [hz]; show (Lib.repeatL [48] (9 - nd)).toArray.size = _; simp [rep_len]
        have hzc : Lib.strCells z = Lib.byteCells (Lib.repeatL [48] (9 - nd)) := by rw [hz]; rfl
        have HZ := hid hzc
        clear hz hzc hb3 hB2 hbw2
        go_wp2_with fail
        refine (Tryz.Builder_WriteString_k w1.heap.size w1.heap.size (Lib.byteCells l) z w3 hB3 (by rw [Lib.byteCells_length]; omega) hbw3.size).mono ?_
        rintro e w4 ⟨rfl, hB4, hb4, _⟩
        have hB4' : Lib.IsBuilderF 225 5 w1.heap.size w1.heap.size (Lib.byteCells (l ++ Lib.repeatL [48] (9 - nd))) w4 := Or.inr (by rw [Lib.byteCells_append, ← HZ.out]; exact hB4)
        have hbw4 := hbw3.trans hb4
        clear hB3 hB4 hb4 hbw3
        go_wp2_with fail
        refine (Tryz.Builder_WriteString_k w1.heap.size w1.heap.size (Lib.byteCells (l ++ Lib.repeatL [48] (9 - nd))) s w4 hB4' (by rw [Lib.byteCells_length, List.length_append, rep_len]; omega) hbw4.size).mono ?_
        rintro e w5 ⟨rfl, hB5, hb5, _⟩
        have hB5' : Lib.IsBuilderF 225 5 w1.heap.size w1.heap.size (Lib.byteCells (l ++ Lib.repeatL [48] (9 - nd) ++ Lib.decDigits x)) w5 := Or.inr (by rw [Lib.byteCells_append (l ++ Lib.repeatL [48] (9 - nd))]; have := hB5; rw [HS.out] at this; exact this)
        have hbw5 := hbw4.trans hb5
        have HR2 := hid (show TxRel C (i + 1) (l ++ Lib.repeatL [48] (9 - nd) ++ Lib.decDigits x) from by have := HR.out.next (m := q) (by have := HNn.out; omega) (by omega) HC.out.2.1; rw [HX.out, ← HND.out]; exact this)
        clear hB4' hB5 hb5 hbw4
        go_wp2
        go_roundw
        case rel => exact ⟨i + 1, _, by omega, by go_num, HR2.out, hB5', hbw5⟩
        case measure => simp [intOf]; omega
      · have hi0 : i = 0 := by omega
        go_wp2_with fail
        refine (Tryz.Builder_WriteString_k w1.heap.size w1.heap.size (Lib.byteCells l) s w2 hB2 (by rw [Lib.byteCells_length]; omega) hbw2.size).mono ?_
        rintro e w5 ⟨rfl, hB5, hb5, _⟩
        have hl0 : l = [] := List.eq_nil_of_length_eq_zero (by have := HR.out.2.2.1; omega)
        have hB5' : Lib.IsBuilderF 225 5 w1.heap.size w1.heap.size (Lib.byteCells (Lib.decDigits x)) w5 := Or.inr (by have := hB5; rw [hl0, HS.out] at this; exact this)
        have hbw5 := hbw2.trans hb5
        have HR2 := hid (show TxRel C (i + 1) (Lib.decDigits x) from by rw [hi0, HX.out]; exact TxRel.first (by have := HNn.out; omega) HC.out.2.1 HC.out.2.2)
        clear hB5 hb5 hbw2 hl0 hi0
        go_wp2
        go_roundw
        case rel => exact ⟨i + 1, _, by omega, by go_num, HR2.out, hB5', hbw5⟩
        case measure => simp [intOf]; omega
    · have hin : i = n := by omega
      have hi0 : i ≠ 0 := by
        intro h
        have := HR.out.1
        have h2 := HNn.out
        rw [show C.length = 0 by omega] at this
        have h3 := HC.out.1
        have h4 : C = [] := List.eq_nil_of_length_eq_zero (by omega)
        rw [h4] at h3
        exact hm0 h3.symm
      have HF := hid (show Dg l ∧ (∃ a r, l = a :: r ∧ a.toNat ≠ 48) ∧ lv l = m from by
        obtain ⟨h1, h2, h3, h4⟩ := HR.out
        refine ⟨h2, h4 hi0, ?_⟩
        rw [show C.length - i = 0 by have := HNn.out; omega] at h1
        simp only [Nat.pow_zero, Nat.mul_one, R.pv, Nat.add_zero] at h1
        rw [← h1]; exact HC.out.1)
      have hw5 := chain2 hw1 hbw
      clear hin hi0
      go_wp2_with fail
      refine (Tryz.Builder_String_any_k w1.heap.size w1.heap.size l wr hB hbw.size).mono ?_
      rintro e w6 ⟨rfl, _, hb6, _⟩
      have hw6 := hw5.trans (hb6.mono hw1.size)
      go_wp2
      go_ret
      exact ⟨⟨l, rfl, HF.out⟩, hw6⟩
set_option maxHeartbeats 400000 in
theorem text_none (w : World) (ao : Option Addr) (ca : Nat) :
    Calls Tryz.prog 158 #[.agg #[.slice ao 0 ca]] w fun e w' => e = .returned (.string ⟨#[48]⟩) ∧ Below w.heap.size w w' := by
  go_enter Tryz.func158, Tryz.ntmps158
  go_wp2
  go_ret
  exact ⟨rfl, (Below.refl _ _).alloc (Nat.le_refl _) _⟩
/-- Text: the number's text. -/
theorem text_any (w : World) (a : Value) (m K : Nat) (hK : K ≤ 1000000000) (ha : NatIs w a m K) (htab : Tab w) :
    Calls Tryz.prog 158 #[a] w fun e w' => (∃ s, e = .returned (.string s) ∧ Txt s ∧ num s = m) ∧ Below w.heap.size w w' := by
  obtain ⟨sa, A, rfl, oa, bA, tA, rfl, lA⟩ := ha
  obtain ⟨aa, ca, rfl⟩ := oa.slice
  by_cases h0 : A.length = 0
  · rw [h0]
    refine (text_none w aa ca).mono ?_
    rintro e w' ⟨rfl, hw⟩
    have e : A = [] := List.eq_nil_of_length_eq_zero h0
    exact ⟨⟨_, rfl, txt_zero.1, by rw [e]; exact txt_zero.2⟩, hw⟩
  · refine (text_walk w aa A.length ca (val A) A bA tA (by omega) h0 rfl rfl oa htab).mono ?_
    rintro e w' ⟨⟨l, rfl, h1, h2, h3⟩, hw⟩
    have ht := txt_list l h1 h2
    exact ⟨⟨_, rfl, ht.1, by rw [ht.2]; exact h3⟩, hw⟩
end Go.Proofs.YtcdkoadobdgbhaaGreatDoor
