/- store: textOf. -/
import Derived.Test.YtjldlmonccgopaaGreatPk11
import Derived.Test.YtjldlmonccgopaaGreatPk13
import Derived.Test.YtjldlmonccgopaaGreatPk25
namespace Go.Proofs.YtjldlmonccgopaaGreat.Rc
open Go.RowKit
set_option linter.unusedVariables false
set_option maxRecDepth 100000
set_option linter.unusedSimpArgs false

theorem encT_good {r : Rec} (h : encE r = 0) : encT r = Bs.str (enc r) := by unfold encT; rw [if_pos h]
set_option maxHeartbeats 8000000 in
theorem textOf_any (w : World) (v : Value) (L : List Rec) (hl : L.length ≤ 1048576) (h : IsRecs w v L) :
    Calls Tryz.prog 56 #[v] w fun e w' => e = .returned (.tuple #[.string (allT L), .int .i64 (allE L)]) ∧ Below w.heap.size w w' := by
  obtain ⟨a, c, rfl, hlen⟩ := h.slice
  have hB0 := builder_new w
  have b0 : Below w.heap.size w (w.alloc (Obj.cells #[.pointer none, .slice none 0 0] 124)) := (Below.refl _ _).alloc (Nat.le_refl _) _
  go_enter Tryz.func56, Tryz.ntmps56
  go_wp2_with fail
  generalize (w.alloc (Obj.cells #[Value.pointer none, .slice none 0 0] 124)) = W at *
  go_loopw [11] (fun i wr => ∃ k : Nat, k ≤ L.length ∧ i = .int .i64 (k : Int) ∧ Hid (∀ i (h : i < L.length), i < k → encE L[i] = 0) ∧ (encs (L.take k)).length ≤ 17200 * k ∧ Lib.IsBuilderF 124 5 w.heap.size w.heap.size (Lib.byteCells (encs (L.take k))) wr ∧ Below w.heap.size w wr) (fun i _ => L.length - (intOf i).toNat)
  case atStart => exact ⟨0, Nat.zero_le _, rfl, fun i h h' => by omega, by simp [encs], hB0, b0⟩
  case round =>
    obtain ⟨k, hk, rfl, HG, hz, hB, hb⟩ := hrel
    clear hB0 b0
    by_cases hlt : k < L.length
    · obtain ⟨bb, oo, dd, u1, e1, l1, m1, f1, r1⟩ := (h.below hb).at k hlt
      simp only [Value.slice.injEq] at e1
      obtain ⟨rfl, _, rfl⟩ := e1
      unfold maxLen at m1
      have HE0 := hid (allE_at L k hlt (fun i hi => HG.out i (by omega) hi))
      have HT0 := hid (encs_take L k hlt)
      have HN := hid (fun (h0 : encE L[k] = 0) => show ∀ i (h : i < L.length), i < k + 1 → encE L[i] = 0 from fun i hi h' => by
        by_cases e : i = k
        · subst e; exact h0
        · exact HG.out i hi (by omega))
      obtain ⟨q1, x1, eq1, hN⟩ := r1.ints.slice
      subst eq1
      have HF := hid f1
      obtain ⟨k1, y1, n1, t1, in1⟩ := r1
      have HI := hid in1
      clear in1 f1 HG
      generalize L[k] = r at *
      obtain ⟨X, hX⟩ : ∃ X, X = encs (L.take k) := ⟨_, rfl⟩
      rw [← hX] at hz hB HT0
      have hbs := hb.size
      have ba := (Below.refl wr.heap.size wr).alloc (Nat.le_refl _) (Obj.cells #[.int .i64 r.kind, .string r.who, .slice q1 r.nums.length x1, .string r.text] 81)
      have bw := hb.trans (ba.mono hbs)
      have hB1 := builder_below hB ba
      have in2 := HI.out.below ba
      have HI2 := hid in2
      clear hX in2 hB
      go_wp2_with fail
      generalize wr.alloc (Obj.cells #[.int .i64 r.kind, .string r.who, .slice q1 r.nums.length x1, .string r.text] 81) = W1 at *
      refine (encode_any W1 r (.slice q1 r.nums.length x1) HF.out HI2.out).mono ?_
      rintro e w2 ⟨rfl, b2⟩
      have bw2 := hb.trans ((ba.trans (b2.mono ba.size)).mono hbs)
      have hB2 := builder_below hB1 b2
      clear k1 y1 n1 t1 hB1 b2 ba bw
      obtain ⟨E, hE⟩ : ∃ E, E = encE r := ⟨_, rfl⟩
      by_cases h0 : encE r = 0
      · have hxs := enc_max ((encE_good HI2.out.1).1 h0)
        have HT : encT r = Bs.str (enc r) := encT_good h0
        have hts : (encT r).size = (enc r).length := by rw [HT, str_size]
        have HC := hid (show Lib.strCells (encT r) = Lib.byteCells (enc r) by rw [HT]; rfl)
        have HN1 := hid (HN.out h0)
        rw [h0]
        clear HE0 HN HT hE h0
        generalize encT r = T at *
        generalize enc r = Y at *
        have hXY : (X ++ Y).length ≤ 17200 * (k + 1) := by rw [List.length_append]; omega
        have hXl : (Lib.byteCells X).length = X.length := Lib.byteCells_length _
        go_wp2_with fail
        refine (Tryz.Builder_WriteString_k w.heap.size w.heap.size (Lib.byteCells X) T w2 hB2 (by rw [hXl]; omega) bw2.size).mono ?_
        rintro e w3 ⟨rfl, hB3, b3, _⟩
        have hB3' : Lib.IsBuilderF 124 5 w.heap.size w.heap.size (Lib.byteCells (encs (L.take (k + 1)))) w3 := Or.inr (by rw [HT0.out, Lib.byteCells_append, ← HC.out]; exact hB3)
        have bw3 := bw2.trans b3
        have hL3 : (encs (L.take (k + 1))).length ≤ 17200 * (k + 1) := by rw [HT0.out]; exact hXY
        clear hB2 bw2 hB3 b3 hXl hXY HC
        go_wp2
        go_roundw
        case rel => exact ⟨k + 1, by omega, by go_num, HN1, hL3, hB3', bw3⟩
        case measure => simp [intOf]; omega
      · have HA := hid (HE0.out h0)
        have HAT := hid (show allT L = ⟨#[]⟩ by unfold allT; rw [if_neg (by rw [HA.out]; exact h0)])
        clear hB2 HE0 HN
        rw [← hE] at h0 ⊢
        have HEE := hid hE
        clear hE
        generalize encT r = T at *
        go_wp2
        exact bodyPost_ret (v := .tuple #[.string ⟨#[]⟩, .int .i64 E]) (by simp [results, Tryz.results56, go_sem]) rfl ⟨by rw [HAT.out, HA.out, ← HEE.out], bw2⟩
    · have hkL : k = L.length := by omega
      have HA := hid (show allE L = 0 from allE_all fun r hr => by
        obtain ⟨i, hi, rfl⟩ := List.mem_iff_getElem.1 hr
        exact HG.out i hi (by omega))
      have HAT := hid (show allT L = Bs.str (encs L) by unfold allT; rw [if_pos HA.out])
      rw [hkL, List.take_length] at hB
      obtain ⟨X, hX⟩ : ∃ X, X = encs L := ⟨_, rfl⟩
      rw [← hX] at hB HAT
      clear hz hX
      have hcond : ¬ (k : Int) < (L.length : Int) := by omega
      clear hkL
      go_wp2_with fail
      refine (Tryz.Builder_String_any_k w.heap.size w.heap.size X wr hB hb.size).mono ?_
      rintro e w2 ⟨rfl, _, hb2, _⟩
      have hbw2 := hb.trans hb2
      go_wp2
      exact bodyPost_ret (v := .tuple #[.string (Bs.str X), .int .i64 0]) (by simp [results, Tryz.results56, go_sem, Bs.str]) rfl ⟨by rw [HAT.out, HA.out], hbw2⟩
end Go.Proofs.YtjldlmonccgopaaGreat.Rc
