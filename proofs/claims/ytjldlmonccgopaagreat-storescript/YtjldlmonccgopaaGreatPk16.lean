/- YText, RcXone, RcXdec. -/
import Derived.Test.YtjldlmonccgopaaGreatPk11
import Derived.Test.YtjldlmonccgopaaGreatPk13
import Derived.Test.YtjldlmonccgopaaGreatPk12
import Derived.BigQuiet
import Derived.Deep.QuietTactic
/- The document's store: bytes. -/
namespace Go.Proofs.YtjldlmonccgopaaGreat.Rc
open Go.RowKit
set_option linter.unusedVariables false
set_option maxRecDepth 100000
set_option linter.unusedSimpArgs false

set_option maxHeartbeats 8000000 in
theorem ybytes_any (w : World) (v : Value) (L : List Rec) (hl : L.length ≤ 1048576) (h : IsRecs w v L) :
    Calls Tryz.prog 35 #[v] w fun e w' => e = .returned (.tuple #[.string (allT L), .int .i64 (allE L)]) ∧ Below w.heap.size w w' := by
  obtain ⟨i0, hi, hz0, hz1, hz2⟩ := info_parts info_u8
  obtain ⟨a, c, rfl, hlen⟩ := h.slice
  have o0 : (w.alloc (Obj.cells #[] 5)).ownsRow w.heap.size 5 1 (.slice (some ⟨w.heap.size, 0, none⟩) 0 0) 0 (Lib.byteCells []) := World.ownsRow_made w #[] 0 (Nat.le_refl _) (Nat.zero_le _) (by simp)
  have b0 := (Below.refl w.heap.size w).alloc (Nat.le_refl _) (Obj.cells #[] 5)
  go_enter Tryz.func35, Tryz.ntmps35
  go_wp2
  generalize w.alloc (Obj.cells #[] 5) = W at *
  go_loopw [4, 5] (fun bv i wr => ∃ (k g cap : Nat) (X : Bs), k ≤ L.length ∧ i = .int .i64 (k : Int) ∧ Hid (∀ i (h : i < L.length), i < k → encE L[i] = 0) ∧ Hid (X = encs (L.take k)) ∧ X.length ≤ 17200 * k ∧ bv = .slice (some ⟨g, 0, none⟩) X.length cap ∧ wr.ownsRow w.heap.size 5 1 bv X.length (Lib.byteCells X) ∧ Below w.heap.size w wr) (fun _ i _ => L.length - (intOf i).toNat)
  case atStart => exact ⟨0, _, _, [], Nat.zero_le _, rfl, fun i h h' => by omega, rfl, by simp, rfl, o0, b0⟩
  case round =>
    obtain ⟨k, g, cap, X, hk, rfl, HG, HX, hz, rfl, o1, hb⟩ := hrel
    clear o0 b0
    have hbs := hb.size
    by_cases hlt : k < L.length
    · obtain ⟨bb, oo, dd, u1, e1, l1, m1, f1, r1⟩ := (h.below hb).at k hlt
      simp only [Value.slice.injEq] at e1
      obtain ⟨rfl, _, rfl⟩ := e1
      unfold maxLen at m1
      have HE0 := hid (allE_at L k hlt (fun i hi => HG.out i (by omega) hi))
      have HT0 := hid (encs_take L k hlt)
      have HN := hid (fun (h0 : encE L[k] = 0) => show ∀ i (h : i < L.length), i < k + 1 → encE L[i] = 0 from fun i hi h' => by
        by_cases e : i = k
        · subst e; exact h0
        · exact HG.out i hi (by omega))
      obtain ⟨q1, x1, eq1, hN⟩ := r1.ints.slice
      subst eq1
      have HF := hid f1
      obtain ⟨k1, y1, n1, t1, in1⟩ := r1
      have HI := hid in1
      clear in1 f1 HG
      generalize L[k] = r at *
      go_wp2_with fail
      refine (xencode_any wr r (.slice q1 r.nums.length x1) HF.out HI.out).mono ?_
      rintro e w2 ⟨rfl, b2⟩
      have bw2 := hb.trans (b2.mono hbs)
      have o2 := own_below o1 b2
      have s2 := bw2.size
      clear k1 y1 n1 t1 b2 o1
      obtain ⟨E, hE⟩ : ∃ E, E = encE r := ⟨_, rfl⟩
      by_cases h0 : encE r = 0
      · have hxs := enc_max ((encE_good HI.out.1).1 h0)
        have HT : encT r = Bs.str (enc r) := by unfold encT; rw [if_pos h0]
        have hts : (encT r).size = (enc r).length := by rw [HT, str_size]
        have HC := hid (show Lib.strCells (encT r) = Lib.byteCells (enc r) by rw [HT]; rfl)
        have HN1 := hid (HN.out h0)
        have HXn := hid (show X ++ enc r = encs (L.take (k + 1)) by rw [HT0.out, HX.out])
        rw [h0]
        clear HE0 HN HT hE h0 HT0 HX
        generalize encT r = T at *
        generalize enc r = Y at *
        have hXY : (X ++ Y).length = X.length + Y.length := by rw [List.length_append]
        go_wp2_with (at_builtin; refine Lib.wpList_append_own_string _ rfl _ _ 102 9 rfl w.heap.size 5 i0 Tryz.underlying102 Tryz.underlying9 hi hz0 hz1 hz2 _ _ _ rfl o2 T rfl (by unfold maxLen; omega) (by omega) (by omega) ?_)
        intro v3 w3 o3 gr3 n3
        have b3 : Below w.heap.size w w3 := bw2.grown gr3 (by omega) (fun q hq => (o2.lt q hq).1)
        obtain ⟨g3, c3, rfl⟩ : ∃ g' c', v3 = .slice (some ⟨g', 0, none⟩) (X.length + Y.length) c' := by
          rcases o3.2 with ⟨h1, h2⟩ | ⟨g', c', _, h1, _⟩
          · exact absurd h1 n3
          · exact ⟨g', c', h1⟩
        have o4 : w3.ownsRow w.heap.size 5 1 (.slice (some ⟨g3, 0, none⟩) (X ++ Y).length c3) (X ++ Y).length (Lib.byteCells (X ++ Y)) := by
          rw [hXY, Lib.byteCells_append, ← HC.out]; exact o3
        have hfin : (X ++ Y).length ≤ 17200 * (k + 1) := by rw [hXY]; omega
        rw [← hXY]
        clear o2 o3 gr3 n3 bw2 HC hXY
        generalize X ++ Y = XY at *
        go_wp2
        go_roundw
        case rel => exact ⟨k + 1, g3, c3, XY, by omega, by go_num, HN1, HXn, hfin, rfl, o4, b3⟩
        case measure => simp [intOf]; omega
      · have HA := hid (HE0.out h0)
        have HAT := hid (show allT L = ⟨#[]⟩ by unfold allT; rw [if_neg (by rw [HA.out]; exact h0)])
        clear o2 HE0 HN
        rw [← hE] at h0 ⊢
        have HEE := hid hE
        clear hE
        generalize encT r = T at *
        go_wp2
        exact bodyPost_ret (v := .tuple #[.string ⟨#[]⟩, .int .i64 E]) (by simp [results, Tryz.results35, go_sem]) rfl ⟨by rw [HAT.out, HA.out, ← HEE.out], bw2⟩
    · have hkL : k = L.length := by omega
      have HA := hid (show allE L = 0 from allE_all fun r hr => by
        obtain ⟨i, hi, rfl⟩ := List.mem_iff_getElem.1 hr
        exact HG.out i hi (by omega))
      have HAT := hid (show allT L = Bs.str X by unfold allT; rw [if_pos HA.out, HX.out, hkL, List.take_length])
      have hcv := bytes_conv o1
      have hcond : ¬ (k : Int) < (L.length : Int) := by omega
      clear hkL o1 HX HG
      generalize X.length = M at *
      go_wp2
      exact bodyPost_ret (v := .tuple #[.string (Bs.str X), .int .i64 0]) (by simp [results, Tryz.results35, go_sem, Bs.str]) rfl ⟨by rw [HAT.out, HA.out], hb⟩
end Go.Proofs.YtjldlmonccgopaaGreat.Rc
/- The document's one. -/
namespace Go.Proofs.YtjldlmonccgopaaGreat.Rc
open Go.RowKit
set_option linter.unusedVariables false
set_option maxRecDepth 100000
set_option linter.unusedSimpArgs false

theorem i64s_one (v : Int) : i64s [v] = [.int .i64 v] := rfl
theorem str_ne {s t : ByteArray} (h : ¬ s = t) : (s.toList == t.toList) = false := by
  rw [beq_eq_false_iff_ne, ByteArray.toList_eq, ByteArray.toList_eq]
  exact fun e => h (of_inj e)
/-- What one answers. -/
def OneSays (w : World) (s : ByteArray) (e : Ending) (w' : World) : Prop :=
  ((∃ (r : Rec) (v : Value), Good r ∧ Bs.of s = enc r ++ (Bs.of s).drop (enc r).length ∧ w'.ownsRow w.heap.size 3 1 v r.nums.length (i64s r.nums) ∧ e = .returned (.tuple #[rv r v, .int .i64 ((enc r).length : Int)])) ∨
    (No (Bs.of s) ∧ ∃ (k : Int) (y : ByteArray) (a : Option Addr) (n c : Nat) (t : ByteArray), e = .returned (.tuple #[.agg #[.int .i64 k, .string y, .slice a n c, .string t], .int .i64 0]))) ∧ Below w.heap.size w w'
set_option maxHeartbeats 8000000 in
theorem xone_short (w : World) (s : ByteArray) (hs : s.size ≤ 1000000) (h : s.size < 3 ∨ 3 ≤ s.size ∧ s.size < 3 + bt s 1) :
    Calls Tryz.prog 55 #[.string s] w fun e w' => OneSays w s e w' := by
  have HNo := hid (show No (Bs.of s) from h.elim no_small (fun h => no_who h.1 h.2))
  have zb := (Box4.new w 81 (.int .i64 0) (.string ⟨#[]⟩) (.slice none 0 0) (.string ⟨#[]⟩)).below ((Below.refl (w.heap.size + 1) _).alloc (by simp) (Obj.cells #[.int .i64 0, .string ⟨#[]⟩, .slice none 0 0, .string ⟨#[]⟩] 81)) (by omega)
  have rb := Box4.new (w.alloc (Obj.cells #[.int .i64 0, .string ⟨#[]⟩, .slice none 0 0, .string ⟨#[]⟩] 81)) 81 (.int .i64 0) (.string ⟨#[]⟩) (.slice none 0 0) (.string ⟨#[]⟩)
  rw [World.size_alloc] at rb
  have bel := ((Below.refl w.heap.size w).alloc (Nat.le_refl _) (Obj.cells #[.int .i64 0, .string ⟨#[]⟩, .slice none 0 0, .string ⟨#[]⟩] 81)).alloc (by simp) (Obj.cells #[.int .i64 0, .string ⟨#[]⟩, .slice none 0 0, .string ⟨#[]⟩] 81)
  rcases h with h | ⟨h3, h⟩
  · have h' : (s.size : Int) < 3 := by omega
    go_enter Tryz.func55, Tryz.ntmps55
    go_wp2
    exact bodyPost_ret (v := .tuple #[.agg #[.int .i64 0, .string ⟨#[]⟩, .slice none 0 0, .string ⟨#[]⟩], .int .i64 0]) (by simp [results, Tryz.results55, go_sem]) rfl ⟨Or.inr ⟨HNo.out, _, _, _, _, _, _, rfl⟩, bel⟩
  · have e1 := bt_at s 1 (by omega)
    have l1 := bt_lt s 1
    generalize bt s 1 = x1 at *
    have h' : ¬ (s.size : Int) < 3 := by omega
    have h2 : (s.size : Int) < 3 + (x1 : Int) := by omega
    go_enter Tryz.func55, Tryz.ntmps55
    go_wp2
    exact bodyPost_ret (v := .tuple #[.agg #[.int .i64 0, .string ⟨#[]⟩, .slice none 0 0, .string ⟨#[]⟩], .int .i64 0]) (by simp [results, Tryz.results55, go_sem]) rfl ⟨Or.inr ⟨HNo.out, _, _, _, _, _, _, rfl⟩, bel⟩
set_option maxHeartbeats 16000000 in
theorem xone_long (w : World) (s : ByteArray) (hs : s.size ≤ 1000000) (h3 : 3 ≤ s.size) (hb : 3 + bt s 1 ≤ s.size) :
    Calls Tryz.prog 55 #[.string s] w fun e w' => OneSays w s e w' := by
  have HA := hid (ah_first h3 hb)
  obtain ⟨i0, hi, hz0, hz1, hz2⟩ := info_parts info_int
  have e0 := bt_at s 0 (by omega)
  have e1 := bt_at s 1 (by omega)
  have l0 := bt_lt s 0
  have l1 := bt_lt s 1
  generalize bt s 0 = x0 at *
  generalize bt s 1 = x1 at *
  have e2 := bt_at s (2 + x1) (by omega)
  have l2 := bt_lt s (2 + x1)
  generalize bt s (2 + x1) = x2 at *
  have zb := (Box4.new w 81 (.int .i64 0) (.string ⟨#[]⟩) (.slice none 0 0) (.string ⟨#[]⟩)).below ((Below.refl (w.heap.size + 1) _).alloc (by simp) (Obj.cells #[.int .i64 (x0 : Int), .string (s.extract 2 (2 + x1)), .slice none 0 0, .string ⟨#[]⟩] 81)) (by omega)
  have rb := Box4.new (w.alloc (Obj.cells #[.int .i64 0, .string ⟨#[]⟩, .slice none 0 0, .string ⟨#[]⟩] 81)) 81 (.int .i64 (x0 : Int)) (.string (s.extract 2 (2 + x1))) (.slice none 0 0) (.string ⟨#[]⟩)
  rw [World.size_alloc] at rb
  have bel := ((Below.refl w.heap.size w).alloc (Nat.le_refl _) (Obj.cells #[.int .i64 0, .string ⟨#[]⟩, .slice none 0 0, .string ⟨#[]⟩] 81)).alloc (by simp) (Obj.cells #[.int .i64 (x0 : Int), .string (s.extract 2 (2 + x1)), .slice none 0 0, .string ⟨#[]⟩] 81)
  have hsz : w.heap.size + 2 ≤ ((w.alloc (Obj.cells #[.int .i64 0, .string ⟨#[]⟩, .slice none 0 0, .string ⟨#[]⟩] 81)).alloc (Obj.cells #[.int .i64 (x0 : Int), .string (s.extract 2 (2 + x1)), .slice none 0 0, .string ⟨#[]⟩] 81)).heap.size := by simp
  go_enter Tryz.func55, Tryz.ntmps55
  go_wp2
  generalize ((w.alloc (Obj.cells #[Value.int .i64 0, .string ⟨#[]⟩, .slice none 0 0, .string ⟨#[]⟩] 81)).alloc (Obj.cells #[.int .i64 (x0 : Int), .string (s.extract 2 (2 + x1)), .slice none 0 0, .string ⟨#[]⟩] 81)) = W0 at *
  have hy : (s.extract 2 (2 + x1)).size ≤ 256 := by rw [ByteArray.size_extract]; omega
  generalize s.extract 2 (2 + x1) = y at *
  go_loopw [5, 7] (fun c i wr => ∃ (j k : Nat) (M : List Int) (va : Option Addr) (vc : Nat), i = .int .i64 (j : Int) ∧ j ≤ x2 ∧ c = .int .i64 (k : Int) ∧ k ≤ s.size ∧ Hid (M.length = j ∧ (∀ x ∈ M, I64 x) ∧ Ah s (x0 : Int) y x2 j M k) ∧ Box4 wr (w.heap.size + 1) 81 (.int .i64 (x0 : Int)) (.string y) (.slice va j vc) (.string ⟨#[]⟩) ∧ Box4 wr w.heap.size 81 (.int .i64 0) (.string ⟨#[]⟩) (.slice none 0 0) (.string ⟨#[]⟩) ∧ wr.ownsRow (w.heap.size + 2) 3 1 (.slice va j vc) j (i64s M) ∧ Below w.heap.size w wr ∧ w.heap.size + 2 ≤ wr.heap.size) (fun _ i _ => x2 - (intOf i).toNat)
  case atStart => exact ⟨0, 2 + x1 + 1, [], none, 0, rfl, by omega, by simp, by omega, ⟨rfl, by simp, HA.out⟩, rb, zb, World.ownsRow_nil _ _ _ _, bel, hsz⟩
  case round =>
    obtain ⟨j, k, M, va, vc, rfl, hj, rfl, hk, HM, rb1, zb1, o1, bel1, hs1⟩ := hrel
    clear rb zb bel hsz HA e0 e1 e2
    by_cases hlt : j < x2
    · have hxs : (s.extract k s.size).size ≤ 1000000 := by rw [ByteArray.size_extract]; omega
      have HSt := hid (show ∀ v m, NumOf (s.extract k s.size) v m → k + m ≤ s.size ∧ I64 v ∧ Ah s (x0 : Int) y x2 (j + 1) (M ++ [v]) (k + m) ∧ (m = 0 → No (Bs.of s)) from fun v m h => ⟨by have := h.2.1; rw [ByteArray.size_extract] at this; omega, h.1, HM.out.2.2.step hlt h, fun e => by subst e; exact HM.out.2.2.stop hlt h⟩)
      go_wp2_with fail
      refine (xnumber_any wr (s.extract k s.size) hxs).mono ?_
      rintro e w' ⟨⟨v, m, rfl, hN⟩, rfl⟩
      obtain ⟨n1, n2, n3, n4⟩ := HSt.out v m hN
      have HN3 := hid n3
      have HN2 := hid n2
      clear hN n3 HSt
      by_cases hm : m = 0
      · have HNo := hid (n4 hm)
        have hm1 : ((m : Int) == 0) = true := by rw [hm]; rfl
        clear n4 hm n2
        have q9 := zb1.set (.int .i64 (x0 : Int)) (.string y) (.slice va j vc) (.string ⟨#[]⟩)
        have HF := hid (below4 bel1 (Nat.le_refl _) (.int .i64 (x0 : Int)) (.string y) (.slice va j vc) (.string ⟨#[]⟩))
        obtain ⟨_, c0, c1, c2, c3, fr⟩ := zb1
        obtain ⟨_, d0, d1, d2, d3, fr2⟩ := rb1
        go_wp2
        obtain ⟨_, g0, g1, g2, g3, _⟩ := q9
        exact bodyPost_ret (v := .tuple #[.agg #[(.int .i64 (x0 : Int)), (.string y), (.slice va j vc), (.string ⟨#[]⟩)], .int .i64 0]) (by simp [results, Tryz.results55, go_sem, g0, g1, g2, g3]) rfl ⟨Or.inr ⟨HNo.out, _, _, _, _, _, _, rfl⟩, HF.out⟩
      · have hm1 : ((m : Int) == 0) = false := beq_eq_false_iff_ne.2 (by omega)
        clear n4
        have rbA := rb1.below ((Below.refl w'.heap.size w').alloc (Nat.le_refl _) (Obj.cells #[.int .i64 v] 3)) (by omega)
        obtain ⟨_, d0, d1, d2, d3, fr2⟩ := rb1
        have HRA := hid rbA
        obtain ⟨_, f0, f1, f2, f3, ff⟩ := rbA
        go_wp2_with (at_builtin; refine wpList_append_own _ rfl _ _ 53 rfl (w.heap.size + 2) 3 i0 (.int .i64 0) 1 8 Tryz.underlying53 hi hz0 hz1 hz2 rfl (by decide) _ _ _ rfl (o1.alloc _) ⟨w'.heap.size, 0, none⟩ 1 1 [.int .i64 v] rfl rfl (by intro j u hu; match j, hu with | 0, hu => simp at hu; subst hu; simp [Addr.add]) (by intro u hu; simp at hu; subst hu; rfl) (by unfold maxLen; omega) (by omega) (by simp; omega) ?_)
        intro v' w3 o3 g3 _
        obtain ⟨va', vc', rfl⟩ := own_slice o3
        have hne : ∀ q, Value.ownBlock (.slice va j vc) = some q → w.heap.size + 2 ≤ q := fun q hq => (o1.lt q hq).1
        have rb3 : Box4 w3 (w.heap.size + 1) 81 (.int .i64 (x0 : Int)) (.string y) (.slice va j vc) (.string ⟨#[]⟩) := Box4.of ((g3.block (w.heap.size + 1) (by simp; omega) (fun e => by have := hne _ e.symm; omega)).trans HRA.out.blk)
        have zb3 : Box4 w3 w.heap.size 81 (.int .i64 0) (.string ⟨#[]⟩) (.slice none 0 0) (.string ⟨#[]⟩) := Box4.of ((g3.block w.heap.size (by simp; omega) (fun e => by have := hne _ e.symm; omega)).trans (zb1.below ((Below.refl w'.heap.size w').alloc (Nat.le_refl _) (Obj.cells #[.int .i64 v] 3)) (by omega)).blk)
        have bel3 : Below w.heap.size w w3 := (bel1.alloc (by omega) _).grown g3 (by simp; omega) (fun q hq => by have := hne q hq; omega)
        have hs3 : w.heap.size + 2 ≤ w3.heap.size := by have := g3.size; simp at this; omega
        have rb4 : Box4 (w3.setCell ⟨w.heap.size + 1, 2, none⟩ (.slice va' (j + 1) vc')) (w.heap.size + 1) 81 (.int .i64 (x0 : Int)) (.string y) (.slice va' (j + 1) vc') (.string ⟨#[]⟩) := Box4.of (set_at (L := [_, _, _, _]) (k := 2) rb3.blk)
        have zb4 : Box4 (w3.setCell ⟨w.heap.size + 1, 2, none⟩ (.slice va' (j + 1) vc')) w.heap.size 81 (.int .i64 0) (.string ⟨#[]⟩) (.slice none 0 0) (.string ⟨#[]⟩) := Box4.of ((Below.heap_setCell w3 ⟨w.heap.size + 1, 2, none⟩ _ w.heap.size (by show w.heap.size ≠ w.heap.size + 1; omega)).trans zb3.blk)
        have o4 := ownsRow_setCell_below o3 (a := ⟨w.heap.size + 1, 2, none⟩) (by show w.heap.size + 1 < w.heap.size + 2; omega) (.slice va' (j + 1) vc')
        have bel4 := bel3.setCell (p := ⟨w.heap.size + 1, 2, none⟩) (by show w.heap.size ≤ w.heap.size + 1; omega) (.slice va' (j + 1) vc')
        have hs4 : w.heap.size + 2 ≤ (w3.setCell ⟨w.heap.size + 1, 2, none⟩ (.slice va' (j + 1) vc')).heap.size := by simp [World.setCell]; exact hs3
        have HM4 := hid (show (M ++ [v]).length = j + 1 ∧ (∀ x ∈ M ++ [v], I64 x) ∧ Ah s (x0 : Int) y x2 (j + 1) (M ++ [v]) (k + m) from ⟨by rw [List.length_append, HM.out.1]; rfl, fun u hu => by
          rcases List.mem_append.1 hu with hu | hu
          · exact HM.out.2.1 u hu
          · simp at hu; subst hu; exact HN2.out, HN3.out⟩)
        rw [← i64s_one, ← i64s_app] at o4
        clear o3 g3 o1 hne d0 d1 d2 d3 fr2 f0 f1 f2 f3 ff zb1 zb3 bel1 bel3 HRA
        obtain ⟨_, d0, d1, d2, d3, fr2⟩ := rb3
        go_wp2
        generalize w3.setCell ⟨w.heap.size + 1, 2, none⟩ (.slice va' (j + 1) vc') = W4 at *
        go_roundw
        case rel => exact ⟨j + 1, k + m, M ++ [v], va', vc', by go_num, by omega, by go_num, n1, HM4.out, rb4, zb4, o4, bel4, hs4⟩
        case measure => simp [intOf]; omega
    · obtain rfl : j = x2 := by omega
      have hle := HM.out.2.2
      by_cases h2 : s.size < k + 2
      · have HNo := hid (HM.out.2.2.noend hk h2)
        have h2' : (s.size : Int) < (k : Int) + 2 := by omega
        clear hle
        have q9 := zb1.set (.int .i64 (x0 : Int)) (.string y) (.slice va j vc) (.string ⟨#[]⟩)
        have HF := hid (below4 bel1 (Nat.le_refl _) (.int .i64 (x0 : Int)) (.string y) (.slice va j vc) (.string ⟨#[]⟩))
        obtain ⟨_, c0, c1, c2, c3, fr⟩ := zb1
        obtain ⟨_, d0, d1, d2, d3, fr2⟩ := rb1
        go_wp2
        obtain ⟨_, g0, g1, g2, g3, _⟩ := q9
        exact bodyPost_ret (v := .tuple #[.agg #[(.int .i64 (x0 : Int)), (.string y), (.slice va j vc), (.string ⟨#[]⟩)], .int .i64 0]) (by simp [results, Tryz.results55, go_sem, g0, g1, g2, g3]) rfl ⟨Or.inr ⟨HNo.out, _, _, _, _, _, _, rfl⟩, HF.out⟩
      · have h2' : ¬ (s.size : Int) < (k : Int) + 2 := by omega
        have ek := bt_at s k (by omega)
        have ek1 := bt_at s (k + 1) (by omega)
        have lk := bt_lt s k
        have lk1 := bt_lt s (k + 1)
        obtain ⟨z, hz⟩ : ∃ z, z = bt s k * 256 + bt s (k + 1) := ⟨_, rfl⟩
        have HZ := hid hz
        have HZi := hid (show (bt s k : Int) * 256 + (bt s (k + 1) : Int) = (z : Int) by rw [hz]; simp)
        have hzz := HZi.out
        have hzl : z < 65536 := by rw [hz]; omega
        clear hz hle
        have HNt := hid (show s.size < k + 2 + z → No (Bs.of s) from fun h => HM.out.2.2.notext (by omega) (by rw [← HZ.out]; exact h))
        have HAl := hid (show k + 2 + z ≤ s.size → ∀ t, t = s.extract (k + 2) (k + 2 + z) → (encE ⟨(x0 : Int), y, M, t⟩ ≠ 0 ∨ encT ⟨(x0 : Int), y, M, t⟩ ≠ s.extract 0 (k + 2 + z)) → No (Bs.of s) from fun hle t ht h => by subst ht; exact HM.out.2.2.no HZ.out hle HM.out.2.1 h)
        generalize bt s k = p at *
        generalize bt s (k + 1) = q at *
        go_wp2_with fail
        go_quiet (fail)
        have rb5 := rb1.drewN nq
        have zb5 := zb1.drewN nq
        have bel5 := below_dn bel1 nq
        have o5 : (wr.drewN nq).ownsRow (w.heap.size + 2) 3 1 (.slice va j vc) j (i64s M) := o1
        have hs5 : w.heap.size + 2 ≤ (wr.drewN nq).heap.size := hs1
        clear rb1 zb1 bel1 o1 hs1 ek ek1
        generalize wr.drewN nq = W5 at *
        by_cases h4 : s.size < k + 2 + z
        · have HNo := hid (HNt.out h4)
          have h4' : (s.size : Int) < (k : Int) + 2 + (z : Int) := by omega
          have q9 := zb5.set (.int .i64 (x0 : Int)) (.string y) (.slice va j vc) (.string ⟨#[]⟩)
          have HF := hid (below4 bel5 (Nat.le_refl _) (.int .i64 (x0 : Int)) (.string y) (.slice va j vc) (.string ⟨#[]⟩))
          obtain ⟨_, c0, c1, c2, c3, fr⟩ := zb5
          obtain ⟨_, d0, d1, d2, d3, fr2⟩ := rb5
          go_wp2
          obtain ⟨_, g0, g1, g2, g3, _⟩ := q9
          exact bodyPost_ret (v := .tuple #[.agg #[(.int .i64 (x0 : Int)), (.string y), (.slice va j vc), (.string ⟨#[]⟩)], .int .i64 0]) (by simp [results, Tryz.results55, go_sem, g0, g1, g2, g3]) rfl ⟨Or.inr ⟨HNo.out, _, _, _, _, _, _, rfl⟩, HF.out⟩
        · have h4' : ¬ (s.size : Int) < (k : Int) + 2 + (z : Int) := by omega
          have hts : (s.extract (k + 2) (k + 2 + z)).size ≤ 100000 := by rw [ByteArray.size_extract]; omega
          have HGd := hid (show ∀ t, encE ⟨(x0 : Int), y, M, t⟩ = 0 → encT ⟨(x0 : Int), y, M, t⟩ = s.extract 0 (k + 2 + z) → _ from fun t h1 h2 => one_good (r := ⟨(x0 : Int), y, M, t⟩) HM.out.2.1 h1 h2 (show k + 2 + z ≤ s.size by omega))
          obtain ⟨t, ht⟩ : ∃ t, t = s.extract (k + 2) (k + 2 + z) := ⟨_, rfl⟩
          have HAl2 := hid (HAl.out (by omega) t ht)
          have rb6 : Box4 (W5.setCell ⟨w.heap.size + 1, 3, none⟩ (.string t)) (w.heap.size + 1) 81 (.int .i64 (x0 : Int)) (.string y) (.slice va j vc) (.string t) := Box4.of (set_at (L := [_, _, _, _]) (k := 3) rb5.blk)
          have zb6 : Box4 (W5.setCell ⟨w.heap.size + 1, 3, none⟩ (.string t)) w.heap.size 81 (.int .i64 0) (.string ⟨#[]⟩) (.slice none 0 0) (.string ⟨#[]⟩) := Box4.of ((Below.heap_setCell W5 ⟨w.heap.size + 1, 3, none⟩ _ w.heap.size (by show w.heap.size ≠ w.heap.size + 1; omega)).trans zb5.blk)
          have o6 := ownsRow_setCell_below o5 (a := ⟨w.heap.size + 1, 3, none⟩) (by show w.heap.size + 1 < w.heap.size + 2; omega) (.string t)
          have bel6 := bel5.setCell (p := ⟨w.heap.size + 1, 3, none⟩) (by show w.heap.size ≤ w.heap.size + 1; omega) (.string t)
          have hs6 : w.heap.size + 2 ≤ (W5.setCell ⟨w.heap.size + 1, 3, none⟩ (.string t)).heap.size := by simp [World.setCell]; exact hs5
          have htl : t.size ≤ 100000 := by rw [ht]; exact hts
          rw [ht] at rb6 zb6 o6 bel6 hs6
          obtain ⟨_, d0, d1, d2, d3, fr2⟩ := rb5
          have HRB := hid rb6
          obtain ⟨_, f0, f1, f2, f3, ff⟩ := rb6
          clear HAl
          go_wp2_with fail
          rw [← ht] at HRB zb6 o6 bel6 hs6 ⊢
          clear f0 f1 f2 f3 ff d0 d1 d2 d3 fr2 hts zb5 o5 bel5 hs5
          generalize W5.setCell ⟨w.heap.size + 1, 3, none⟩ (.string t) = W6 at *
          have hx := xencode_any W6 ⟨(x0 : Int), y, M, t⟩ (.slice va j vc) ⟨by show I64 (x0 : Int); unfold I64; omega, by show y.size ≤ maxLen; unfold maxLen; omega, by show t.size ≤ maxLen; unfold maxLen; omega⟩ (IsInts.of_own (base := w.heap.size + 2) (by rw [HM.out.1]; exact o6) HM.out.2.1)
          simp only [rv] at hx
          have HT := hid ht
          clear ht
          refine hx.mono ?_
          rintro e W7 ⟨rfl, b7'⟩
          clear hx
          have rb7 := HRB.out.below b7' (by omega)
          have zb7 := zb6.below b7' (by omega)
          have o7 := own_below o6 b7'
          have bel7 := bel6.trans (b7'.mono (by omega))
          clear HRB zb6 o6 bel6 b7'
          obtain ⟨E, HE⟩ : ∃ E, Hid (encE ⟨(x0 : Int), y, M, t⟩ = E) := ⟨_, rfl⟩
          obtain ⟨T, HTT⟩ : ∃ T, Hid (encT ⟨(x0 : Int), y, M, t⟩ = T) := ⟨_, rfl⟩
          rw [HE.out, HTT.out]
          have HAl3 := HAl2.out
          have HGd2 := HGd.out t
          rw [HE.out, HTT.out] at HAl3 HGd2
          have HAl4 := hid HAl3
          have HGd3 := hid HGd2
          clear HAl3 HGd2 HAl2 HGd
          by_cases hE : E = 0
          · have hE1 : (E == 0) = true := by rw [hE]; rfl
            have hE2 : (E != 0) = false := by rw [hE]; rfl
            by_cases hT : T = s.extract 0 (k + 2 + z)
            · have HR := hid (HGd3.out hE hT)
              have HO := hid (own_mono (own_set4 o7 (b := w.heap.size) (by omega) (.int .i64 (x0 : Int)) (.string y) (.slice va j vc) (.string t)) (show w.heap.size ≤ w.heap.size + 2 by omega))
              have q9 := zb7.set (.int .i64 (x0 : Int)) (.string y) (.slice va j vc) (.string t)
              have HF := hid (below4 bel7 (Nat.le_refl _) (.int .i64 (x0 : Int)) (.string y) (.slice va j vc) (.string t))
              obtain ⟨_, c0, c1, c2, c3, fr⟩ := zb7
              obtain ⟨_, d0, d1, d2, d3, fr2⟩ := rb7
              subst hE
              clear hE1 hE2 bel7 o7
              subst hT
              go_wp2
              obtain ⟨_, g0, g1, g2, g3, _⟩ := q9
              exact bodyPost_ret (v := .tuple #[.agg #[.int .i64 (x0 : Int), .string y, .slice va j vc, .string t], .int .i64 ((k : Int) + 2 + (z : Int))]) (by simp [results, Tryz.results55, go_sem, g0, g1, g2, g3]) rfl ⟨Or.inl ⟨⟨(x0 : Int), y, M, t⟩, .slice va j vc, HR.out.1, by rw [← HR.out.2.2]; exact HR.out.2.1, by show World.ownsRow _ _ _ _ _ M.length (i64s M); rw [HM.out.1]; exact HO.out, by rw [← HR.out.2.2]; simp [rv]⟩, HF.out⟩
            · have HNo := hid (HAl4.out (Or.inr hT))
              have hT1 : (T.toList == (s.extract 0 (k + 2 + z)).toList) = false := str_ne hT
              subst hE
              have q9 := zb7.set (.int .i64 (x0 : Int)) (.string y) (.slice va j vc) (.string t)
              have HF := hid (below4 bel7 (Nat.le_refl _) (.int .i64 (x0 : Int)) (.string y) (.slice va j vc) (.string t))
              obtain ⟨_, c0, c1, c2, c3, fr⟩ := zb7
              obtain ⟨_, d0, d1, d2, d3, fr2⟩ := rb7
              go_wp2
              obtain ⟨_, g0, g1, g2, g3, _⟩ := q9
              exact bodyPost_ret (v := .tuple #[.agg #[(.int .i64 (x0 : Int)), (.string y), (.slice va j vc), (.string t)], .int .i64 0]) (by simp [results, Tryz.results55, go_sem, g0, g1, g2, g3]) rfl ⟨Or.inr ⟨HNo.out, _, _, _, _, _, _, rfl⟩, HF.out⟩
          · have HNo := hid (HAl4.out (Or.inl hE))
            have hE1 : (E == 0) = false := by simp [hE]
            have hE2 : (E != 0) = true := by simp [hE]
            have q9 := zb7.set (.int .i64 (x0 : Int)) (.string y) (.slice va j vc) (.string t)
            have HF := hid (below4 bel7 (Nat.le_refl _) (.int .i64 (x0 : Int)) (.string y) (.slice va j vc) (.string t))
            obtain ⟨_, c0, c1, c2, c3, fr⟩ := zb7
            obtain ⟨_, d0, d1, d2, d3, fr2⟩ := rb7
            go_wp2
            obtain ⟨_, g0, g1, g2, g3, _⟩ := q9
            exact bodyPost_ret (v := .tuple #[.agg #[(.int .i64 (x0 : Int)), (.string y), (.slice va j vc), (.string t)], .int .i64 0]) (by simp [results, Tryz.results55, go_sem, g0, g1, g2, g3]) rfl ⟨Or.inr ⟨HNo.out, _, _, _, _, _, _, rfl⟩, HF.out⟩
theorem xone_any (w : World) (s : ByteArray) (hs : s.size ≤ 1000000) : Calls Tryz.prog 55 #[.string s] w fun e w' => OneSays w s e w' := by
  by_cases h3 : 3 ≤ s.size
  · by_cases hb : 3 + bt s 1 ≤ s.size
    · exact xone_long w s hs h3 hb
    · exact xone_short w s hs (Or.inr ⟨h3, by omega⟩)
  · exact xone_short w s hs (Or.inl (by omega))
end Go.Proofs.YtjldlmonccgopaaGreat.Rc
/- The document's Decode. -/
namespace Go.Proofs.YtjldlmonccgopaaGreat.Rc
open Go.RowKit
set_option linter.unusedVariables false
set_option maxRecDepth 100000
set_option linter.unusedSimpArgs false

theorem DRow.made (w : World) (base : Nat) (hb : base ≤ w.heap.size) : DRow (w.alloc (.cells #[] 81)) base (.slice (some ⟨w.heap.size, 0, none⟩) 0 0) [] :=
  ⟨by simp, [], rfl, World.ownsRow_made w #[] 0 hb (Nat.zero_le _) (by simp), fun i hi => by simp at hi⟩
set_option maxHeartbeats 8000000 in
theorem xdecode_any (w : World) (s : ByteArray) (hs : s.size ≤ 1000000) :
    Calls Tryz.prog 32 #[.string s] w fun e w' => ∃ (l : Value) (L : List Rec) (n : Nat), e = .returned (.tuple #[l, .int .i64 (n : Int)]) ∧ Dec (Bs.of s) L n ∧ Row w' w.heap.size l L ∧ Below w.heap.size w w' := by
  have B0 := (Below.refl w.heap.size w).alloc (Nat.le_refl _) (Obj.cells #[] 81)
  have D0 := DRow.made w w.heap.size (Nat.le_refl _)
  obtain ⟨i0, hi, hz0, hz1, hz2⟩ := info_parts info_rec
  go_enter Tryz.func32, Tryz.ntmps32
  go_wp2
  generalize w.alloc (Obj.cells #[] 81) = W0 at *
  go_loopw [4, 5] (fun l c wr => ∃ (L : List Rec) (k : Nat), c = .int .i64 (k : Int) ∧ Hid (k = (encs L).length ∧ Bs.of s = encs L ++ (Bs.of s).drop k) ∧ k ≤ s.size ∧ L.length ≤ k ∧ DRow wr w.heap.size l L ∧ Below w.heap.size w wr) (fun _ c _ => s.size - (intOf c).toNat)
  case atStart => exact ⟨[], 0, rfl, ⟨rfl, rfl⟩, by omega, Nat.le_refl _, D0, B0⟩
  case round =>
    obtain ⟨L, k, rfl, HK, hkl, hLk, D, b⟩ := hrel
    clear B0 D0
    have sz := b.size
    by_cases hlt : k < s.size
    · have hxs : (s.extract k s.size).size ≤ 1000000 := by rw [ByteArray.size_extract]; omega
      have HEx := hid (of_extract_end s k)
      go_wp2_with fail
      refine (xone_any wr (s.extract k s.size) hxs).mono ?_
      rintro e w1 ⟨⟨r, v, g, hd, o, rfl⟩ | ⟨hno, k1, y1, a1, n1, c1, t1, rfl⟩, b1'⟩
      · rw [HEx.out] at hd
        have D1 := D.below b1'
        have b1 := chain2 b b1'
        have o1 := own_mono o sz
        have s1 := b1'.size
        have HK' := hid (show k + (enc r).length = (encs (L ++ [r])).length ∧ Bs.of s = encs (L ++ [r]) ++ (Bs.of s).drop (k + (enc r).length) ∧ k + (enc r).length ≤ s.size from by
          have h1 := congrArg List.length hd
          rw [List.length_drop, List.length_append, List.length_drop, List.length_drop, of_len] at h1
          refine ⟨by rw [encs_snoc, List.length_append, ← HK.out.1], ?_, by omega⟩
          rw [encs_snoc, List.append_assoc, ← List.drop_drop, ← hd]
          exact HK.out.2)
        have hk2 : k + (enc r).length ≤ s.size := HK'.out.2.2
        have hen := enc_len r
        have HG := hid g
        clear D b b1' hd o g
        obtain ⟨m, HM⟩ : ∃ m, Hid ((enc r).length = m) := ⟨_, rfl⟩
        rw [HM.out] at hk2 hen ⊢
        unfold rv
        obtain ⟨va, vc, rfl⟩ := own_slice o1
        obtain ⟨hf, vs, q1, q2, q3⟩ := D1
        have HF := hid hf
        have HQ1 := hid q1
        have HQ3 := hid q3
        clear hf q1 q3
        have hm0 : ((m : Int) == 0) = false := beq_eq_false_iff_ne.2 (by omega)
        have X1 := (Below.refl w1.heap.size w1).alloc (Nat.le_refl _) (Obj.cells #[.int .i64 r.kind, .string r.who, .slice va r.nums.length vc, .string r.text] 81)
        have q2' := (q2.alloc (Obj.cells #[.int .i64 r.kind, .string r.who, .slice va r.nums.length vc, .string r.text] 81)).alloc (Obj.cells #[.int .i64 r.kind, .string r.who, .slice va r.nums.length vc, .string r.text] 81)
        have o2 := (o1.alloc (Obj.cells #[.int .i64 r.kind, .string r.who, .slice va r.nums.length vc, .string r.text] 81)).alloc (Obj.cells #[.int .i64 r.kind, .string r.who, .slice va r.nums.length vc, .string r.text] 81)
        have hb2 : Below w1.heap.size w1 ((w1.alloc (Obj.cells #[.int .i64 r.kind, .string r.who, .slice va r.nums.length vc, .string r.text] 81)).alloc (Obj.cells #[.int .i64 r.kind, .string r.who, .slice va r.nums.length vc, .string r.text] 81)) := X1.alloc (by simp) _
        have b2 := chain2 b1 hb2
        have hs1 : w.heap.size ≤ w1.heap.size := by omega
        go_wp2_with (at_builtin; refine wpList_append_own _ rfl _ _ 29 rfl w.heap.size 81 i0 (.agg #[.int .i64 0, .string ⟨#[]⟩, .slice none 0 0, .string ⟨#[]⟩]) 4 64 Tryz.underlying29 hi hz0 hz1 hz2 rfl (by decide) _ _ _ rfl q2' ⟨w1.heap.size + 1, 0, none⟩ 1 1 [.int .i64 r.kind, .string r.who, .slice va r.nums.length vc, .string r.text] rfl rfl (fun j u hj => by have h4 := four_cells (w1.alloc (Obj.cells #[.int .i64 r.kind, .string r.who, .slice va r.nums.length vc, .string r.text] 81)) 81 _ _ _ _ j u hj; rw [World.size_alloc] at h4; exact h4) (by intro u hu; simp at hu; rcases hu with rfl | rfl | rfl | rfl <;> rfl) (by unfold maxLen; omega) (by omega) (by simp; omega) ?_)
        intro v' w3 o3 hgrow _
        have D3 : DRow w3 w.heap.size v' (L ++ [r]) := DRow.snoc HF.out HQ1.out q2' (fun i hi hi' => ((HQ3.out i hi hi').alloc _).alloc _) HG.out o2 o3 hgrow
        have b3 : Below w.heap.size w w3 := b2.grown hgrow (by simp; omega) (fun g hg => (q2'.lt g hg).1)
        clear o3 hgrow q2' o2 b2 hb2 X1 q2 b1 o1
        go_wp2
        go_roundw
        case rel => exact ⟨L ++ [r], k + m, by go_num, by show _ = _ ∧ _; rw [← HM.out]; exact ⟨HK'.out.1, HK'.out.2.1⟩, hk2, by simp; omega, D3, b3⟩
        case measure => simp [intOf]; omega
      · rw [HEx.out] at hno
        have D1 := D.below b1'
        have b1 := chain2 b b1'
        have HD := hid (show Dec (Bs.of s) L k from ⟨D.1, HK.out.1, _, HK.out.2, hno⟩)
        have X1 := (Below.refl w1.heap.size w1).alloc (Nat.le_refl _) (Obj.cells #[.int .i64 k1, .string y1, .slice a1 n1 c1, .string t1] 81)
        have HR := hid (D1.below X1).row
        have HBB := hid (chain2 b1 X1)
        clear D b b1' hno D1 b1 X1
        go_wp2
        exact bodyPost_ret (v := .tuple #[u4, .int .i64 (k : Int)]) (by simp [results, Tryz.results32, go_sem]) rfl ⟨_, _, _, rfl, HD.out, HR.out, HBB.out⟩
    · have HD := hid (show Dec (Bs.of s) L k from ⟨D.1, HK.out.1, _, HK.out.2, by rw [drop_end s k (by omega)]; exact no_short (by simp)⟩)
      have HR := hid D.row
      go_wp2
      exact bodyPost_ret (v := .tuple #[u4, .int .i64 (k : Int)]) (by simp [results, Tryz.results32, go_sem]) rfl ⟨_, _, _, rfl, HD.out, HR.out, b⟩
end Go.Proofs.YtjldlmonccgopaaGreat.Rc
