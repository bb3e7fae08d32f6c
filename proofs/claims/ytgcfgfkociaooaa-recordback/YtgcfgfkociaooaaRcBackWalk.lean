/- The law RecordBack. -/
import Derived.Test.YtgcfgfkociaooaaRcBack
namespace Go.Proofs.Ytgcfgfkociaooaa
open Go.RowKit
set_option linter.unusedVariables false
set_option maxRecDepth 100000
set_option linter.unusedSimpArgs false

set_option maxHeartbeats 16000000 in
theorem rback_any (v : Value) (L : List Rec) (at0 : Int) (w : World) (h : IsRecs w v L) (hat0 : (Lit.int .i64 at0).wf = true) :
    Calls Try.prog 7 #[v, .int .i64 at0] w fun e w' => e = .returned (.bool true) ∧ Below w.heap.size w w' := by
  have hat := bounds_i64 hat0
  obtain ⟨a, c, rfl, hl⟩ := h.slice
  obtain ⟨i0, hi, hz0, hz1, hz2⟩ := info_parts info_int
  obtain ⟨j0, hj, hy0, hy1, hy2⟩ := info_parts info_rec
  go_enter Try.func7, Try.ntmps7
  go_wp2_with fail
  refine (heavy_any w _ L (L.length ≤ 131072) (fun hh => (hsum_few hh).1) h).mono ?_
  rintro e w1 ⟨rfl | ⟨rfl, hn⟩, b1⟩
  · go_wp2
    go_ret
    exact ⟨rfl, b1⟩
  have oE : ((w1.alloc (Obj.cells #[.int .i64 0] 3)).alloc (Obj.cells #[] 24)).ownsRow w1.heap.size 3 1 (.slice (some ⟨w1.heap.size, 0, none⟩) 1 1) 1 (i64s (eL [])) :=
    World.ownsRow.alloc ⟨rfl, Or.inr ⟨w1.heap.size, 1, #[.int .i64 0], rfl, Nat.le_refl _, heap_alloc_last w1 _, Nat.le_refl _, by unfold maxLen; omega, rfl, rfl⟩⟩ _
  have gG := GRow.made w1.heap.size (w1.alloc (Obj.cells #[.int .i64 0] 3)) w1.heap.size (by simp)
  rw [World.size_alloc] at gG
  have bW := ((Below.refl w1.heap.size w1).alloc (Nat.le_refl _) (Obj.cells #[.int .i64 0] 3)).alloc (by simp) (Obj.cells #[] 24)
  go_wp2
  generalize (w1.alloc (Obj.cells #[Value.int .i64 0] 3)).alloc (Obj.cells #[] 24) = W0 at *
  have H1 := hid (h.below b1)
  clear h
  go_loopw [5, 6, 7, 8] (fun s ve vg i wr => ∃ (j : Nat) (T : ByteArray) (G : List Rec), j ≤ L.length ∧ i = .int .i64 (j : Int) ∧ s = .string T ∧ T.size ≤ 170000 ∧ G.length ≤ j ∧ Hid (Bs.of T = encs G) ∧ wr.ownsRow w1.heap.size 3 1 ve (G.length + 1) (i64s (eL G)) ∧ GRow w1.heap.size wr w1.heap.size vg G ∧ ve ≠ .slice none 0 0 ∧ vg ≠ .slice none 0 0 ∧ Below w1.heap.size w1 wr) (fun _ _ _ i _ => L.length - (intOf i).toNat)
  case atStart => exact ⟨0, ⟨#[]⟩, [], Nat.zero_le _, rfl, rfl, by show (0 : Nat) ≤ _; omega, Nat.le_refl _, rfl, oE, gG, by simp, by simp, bW⟩
  case round =>
    obtain ⟨j, T, G, hjl, rfl, rfl, hTs, hGj, HT, oE1, gG1, nE, nG, b2⟩ := hrel
    clear oE gG bW
    have sz2 := b2.size
    by_cases hlt : j < L.length
    · obtain ⟨bb, oo, dd, u1, e1, l1, m1, f1, r1⟩ := H1.out.at j hlt
      have hlow := hid r1.ints.lt
      have hL := List.getElem_mem hlt
      simp only [Value.slice.injEq] at e1
      obtain ⟨rfl, _, rfl⟩ := e1
      unfold maxLen at m1
      obtain ⟨q1, x1, eq1, hN⟩ := r1.ints.slice
      subst eq1
      have HR1 := hid r1
      have HF := hid f1
      clear hL
      generalize L[j] = r at *
      have ra := HR1.out.below b2
      obtain ⟨k1, y1, n1, t1, in1⟩ := ra
      have HIa := hid in1
      clear in1 r1 f1
      go_wp2_with fail
      refine (encode_any wr r (.slice q1 r.nums.length x1) HF.out HIa.out).mono ?_
      rintro e w3 ⟨rfl, b3'⟩
      have b3 := chain2 b2 b3'
      have gG3 := gG1.below b3'
      have oE3 := own_below oE1 b3'
      clear k1 y1 n1 t1 gG1 oE1 b3'
      have ra := HR1.out.below b3
      obtain ⟨k1, y1, n1, t1, in1⟩ := ra
      have HIb := hid in1
      clear in1
      obtain ⟨E, HE⟩ : ∃ E, Hid (encE r = E) := ⟨_, rfl⟩
      obtain ⟨X, HX⟩ : ∃ X, Hid (encT r = X) := ⟨_, rfl⟩
      rw [HE.out, HX.out]
      go_wp2_with fail
      refine (xencode_any w3 r (.slice q1 r.nums.length x1) HF.out HIb.out).mono ?_
      rintro e w4 ⟨rfl, b4'⟩
      have b4 := chain2 b3 b4'
      have gG4 := gG3.below b4'
      have oE4 := own_below oE3 b4'
      clear k1 y1 n1 t1 gG3 oE3 b4'
      rw [HE.out, HX.out]
      have sz4 := b4.size
      have HTs := hid hTs
      by_cases hE : E = 0
      · by_cases hT : T.size < 131072
        · have hE1 : (E == 0) = true := by rw [hE]; rfl
          have hT1 : (T.size : Int) < 131072 := by omega
          have hG : Good r := (encE_good HIb.out.1).1 (HE.out.trans hE)
          have hX : Bs.of X = enc r := by
            rw [← HX.out, encT, if_pos (HE.out.trans hE), of_str]
          have hXs : X.size ≤ 20000 := by
            rw [← of_len, hX]
            have h1 := hG.who
            have h2 := hG.text
            have h3 := gs_len r.nums 64 hG.fit hG.nums
            simp only [enc, tx, cnt_len, List.length_cons, List.length_append, of_len]
            omega
          have hsum : ∀ v, (Op.stringOp .add T X).run Try.prog v = .ok (.string (T ++ X)) v := fun v => run_string_add_sum v _ _ (by omega)
          have HTn := hid (show Bs.of (T ++ X) = encs (G ++ [r]) by rw [of_append, HT.out, hX, encs_snoc])
          have HG := hid hG
          have hTX : (T ++ X).size = T.size + X.size := ByteArray.size_append
          have HTX := hid hTX
          obtain ⟨TX, HTX2⟩ : ∃ TX, Hid (T ++ X = TX) := ⟨_, rfl⟩
          rw [HTX2.out] at HTn HTX hsum hTX
          have hTXs : TX.size ≤ 170000 := by omega
          clear hX hG hTX
          subst hE
          have ra := HR1.out.below b4
          obtain ⟨k1, y1, n1, t1, in1⟩ := ra
          have HIc := hid in1
          clear in1
          go_wp2_with (at_builtin; refine wpList_append_own _ rfl _ _ 22 rfl w1.heap.size 3 i0 (.int .i64 0) 1 8 Try.underlying22 hi hz0 hz1 hz2 rfl (by decide) _ _ _ rfl (oE4.alloc _) ⟨w4.heap.size, 0, none⟩ 1 1 [.int .i64 (TX.size : Int)] rfl rfl (by intro j u hu; match j, hu with | 0, hu => simp at hu; subst hu; simp [Addr.add]) (by intro u hu; simp at hu; subst hu; rfl) (by unfold maxLen; omega) (by omega) (by simp; omega) ?_)
          intro ve5 w5 oE5 gr5 nE5
          have b5 : Below w1.heap.size w1 w5 := (b4.alloc (by omega) _).grown gr5 (by simp; omega) (fun q hq => (oE4.lt q hq).1)
          obtain ⟨xs4, og4⟩ := gG4.own
          have gG5 := (gG4.below ((Below.refl _ _).alloc (Nat.le_refl _) _)).other gr5 (own_apart og4 oE4 (by decide)) (fun k hk => (oE4.lt k hk).1)
          clear oE4 gG4 og4 gr5 k1 y1 n1 t1
          have ra := HR1.out.below b5
          obtain ⟨k1, y1, n1, t1, in1⟩ := ra
          have HId := hid in1
          clear in1
          have sz5 := b5.size
          obtain ⟨hf, vs, p1, p2, p3⟩ := gG5
          have HFf := hid hf
          have HP1 := hid p1
          have HP3 := hid p3
          clear hf p1 p3
          have p2' := p2.alloc (Obj.cells #[.int .i64 r.kind, .string r.who, .slice q1 r.nums.length x1, .string r.text] 24)
          go_wp2_with (at_builtin; refine wpList_append_own _ rfl _ _ 29 rfl w1.heap.size 24 j0 (.agg #[.int .i64 0, .string ⟨#[]⟩, .slice none 0 0, .string ⟨#[]⟩]) 4 64 Try.underlying29 hj hy0 hy1 hy2 rfl (by decide) _ _ _ rfl p2' ⟨w5.heap.size, 0, none⟩ 1 1 [.int .i64 r.kind, .string r.who, .slice q1 r.nums.length x1, .string r.text] rfl rfl (four_cells w5 24 _ _ _ _) (by intro u hu; simp at hu; rcases hu with rfl | rfl | rfl | rfl <;> rfl) (by unfold maxLen; omega) (by omega) (by simp; omega) ?_)
          intro vg6 w6 oG6 gr6 nG6
          have X5 := (Below.refl w5.heap.size w5).alloc (Nat.le_refl _) (Obj.cells #[.int .i64 r.kind, .string r.who, .slice q1 r.nums.length x1, .string r.text] 24)
          have gG6 : GRow w1.heap.size w6 w1.heap.size vg6 (G ++ [r]) := GRow.snoc (Nat.le_refl _) HFf.out HP1.out p2' (fun i hi hi' => ⟨(HP3.out i hi hi').1.below X5, (HP3.out i hi hi').2⟩) HG.out (HId.out.below X5) hlow.out oG6 gr6
          have b6 : Below w1.heap.size w1 w6 := (chain2 b5 X5).grown gr6 (by simp; omega) (fun q hq => (p2'.lt q hq).1)
          have oE6 : w6.ownsRow w1.heap.size 3 1 ve5 ((G ++ [r]).length + 1) (i64s (eL (G ++ [r]))) := by
            have e1 : (TX.size : Int) = ((encs (G ++ [r])).length : Int) := by rw [← HTn.out, of_len]
            rw [eL_snoc, i64s_app, ← e1, List.length_append]
            exact (oE5.alloc _).kept gr6 (own_apart oE5 p2 (by decide))
          clear oG6 gr6 p2' p2 oE5 X5 k1 y1 n1 t1 hsum
          go_wp2
          go_roundw
          case rel => exact ⟨j + 1, TX, G ++ [r], by omega, by go_num, rfl, hTXs, by simp; omega, HTn.out, oE6, gG6, nE5, nG6, b6⟩
          case measure => simp [intOf]; omega
        · have hE1 : (E == 0) = true := by rw [hE]; rfl
          have hT1 : decide ((T.size : Int) < 131072) = false := decide_eq_false (by omega)
          clear hT hTs hE
          go_wp2
          go_roundw
          case rel => exact ⟨j + 1, T, G, by omega, by go_num, rfl, HTs.out, by omega, HT.out, oE4, gG4, nE, nG, b4⟩
          case measure => simp [intOf]; omega
      · have hE1 : (E == 0) = false := by simp [hE]
        go_wp2
        go_roundw
        case rel => exact ⟨j + 1, T, G, by omega, by go_num, rfl, hTs, by omega, HT.out, oE4, gG4, nE, nG, b4⟩
        case measure => simp [intOf]; omega
    · obtain rfl : j = L.length := by omega
      obtain ⟨q, hq, hq1, hq2, p, hp, hp2⟩ := into at0 T.size
      have HP := hid hp
      have HQ := hid hq
      go_wp2
      obtain ⟨WW, hWW⟩ : ∃ X, X = wr := ⟨_, rfl⟩
      subst hWW
      have hpz : (p : Int) ≤ T.size := by omega
      obtain ⟨ge, ce, rfl, hce, hce2⟩ := own_some oE1 nE
      have hTe : T.size = (encs G).length := by rw [← of_len, HT.out]
      have HIe := hid (show IsInts WW (.slice (some ⟨ge, 0, none⟩) (G.length + 1) ce) (eL G) from IsInts.of_own (base := w1.heap.size) (by rw [eL_len]; exact oE1) (eL_fits G (by omega)))
      unfold maxLen at hce2
      have HTe := hid hTe
      clear hTe oE1 hq hp
      go_loopw [13] (fun c w2 => ∃ m : Nat, m ≤ G.length ∧ c = .int .i64 (m : Int) ∧ Hid ((encs (G.take m)).length ≤ p) ∧ Below WW.heap.size WW w2) (fun c _ => G.length - (intOf c).toNat)
      case atStart => exact ⟨0, Nat.zero_le _, rfl, by show (encs (G.take 0)).length ≤ p; simp [encs], Below.refl _ _⟩
      case round =>
        obtain ⟨m, hm, rfl, HM, bM⟩ := hrel
        by_cases hmG : m < G.length
        · obtain ⟨g', o', c', e', hcl⟩ := (HIe.out.below bM).at (m + 1) (by rw [eL_len]; omega)
          simp only [Value.slice.injEq, Option.some.injEq, Addr.mk.injEq] at e'
          obtain ⟨⟨rfl, rfl, -⟩, -, rfl⟩ := e'
          rw [eL_at G (m + 1) (by omega), Nat.zero_add] at hcl
          have HCu := hid (show (encs (G.take (m + 1))).length ≤ p → True from fun _ => trivial)
          obtain ⟨y, HY⟩ : ∃ y, Hid ((encs (G.take (m + 1))).length = y) := ⟨_, rfl⟩
          rw [HY.out] at hcl
          have hyl : y ≤ 170000 := by
            have h1 := congrArg List.length (congrArg encs (List.take_append_drop (m + 1) G))
            rw [encs_app, List.length_append, HY.out, ← HTe.out] at h1
            omega
          clear HCu
          by_cases hyp : y ≤ p
          · have hyp' : (y : Int) ≤ (p : Int) := by omega
            go_wp2
            go_roundw
            case rel => exact ⟨m + 1, by omega, by go_num, by show _ ≤ _; rw [HY.out]; exact hyp, bM⟩
            case measure => simp [intOf]; omega
          · have hyp' : ¬ (y : Int) ≤ (p : Int) := by omega
            have HC := hid (show m < G.length → p < (encs (G.take (m + 1))).length from fun _ => by rw [HY.out]; omega)
            have DA : Dec (Bs.of T) G T.size := by rw [HT.out, HTe.out]; exact Dec.all gG1.1
            have hpT : p ≤ T.size := by omega
            have DC : Dec (Bs.of (T.extract 0 p)) (G.take m) (encs (G.take m)).length := by
              rw [of_extract_head, HT.out]
              exact Dec.cut gG1.1 m p hm HM.out HC.out
            have HDA := hid DA
            have HDC := hid DC
            have gGr := gG1.below bM
            have HIr := hid (HIe.out.below bM)
            have hxs : (T.extract 0 p).size ≤ 1000000 := by rw [ByteArray.size_extract]; omega
            clear DA DC
            go_wp2_with fail
            refine (decode_any wr T (by omega)).mono ?_
            rintro e w5 ⟨va, A, n5, rfl, D5, R5, b5'⟩
            obtain ⟨rfl, rfl⟩ := HDA.out.uniq D5
            have gG5 := gGr.below b5'
            have HI5 := hid (HIr.out.below b5')
            have b5 := chain2 (chain2 b2 bM) b5'
            clear D5 gGr b5'
            go_wp2_with fail
            refine (decode_any w5 (T.extract 0 p) hxs).mono ?_
            rintro e w6 ⟨vb, A6, n6, rfl, D6, R6, b6'⟩
            obtain ⟨h61, h62⟩ := HDC.out.uniq D6
            have gG6 := gG5.below b6'
            have HI6 := hid (HI5.out.below b6')
            have b6 := chain2 b5 b6'
            have HA6 := hid (R5.below b6').recs
            have HB6 := hid (show IsRecs w6 vb (G.take m) by rw [h61]; exact R6.recs)
            clear D6 gG5 b6' R5 R6 h61
            obtain ⟨xs6, og6⟩ := gG6.own
            obtain ⟨gg, cg, hgf, hcg, hcg2⟩ := own_some og6 nG
            unfold maxLen at hcg2
            have HG6 := hid (gG6.row (Nat.le_refl _)).recs
            rw [hgf] at HG6
            have HH6 := hid (HG6.out.head m hm)
            obtain ⟨z, HZ⟩ : ∃ z, Hid ((encs (G.take m)).length = z) := ⟨_, rfl⟩
            rw [HZ.out] at h62
            subst h62
            subst hgf
            clear og6 gG6
            have hzl : z ≤ 170000 := by have := HM.out; rw [HZ.out] at this; omega
            go_wp2_with fail
            refine (same_true w6 va _ G HA6.out HG6.out).mono ?_
            rintro e w7 ⟨rfl, b7'⟩
            obtain ⟨g2, o2, c2, e2, hz2c⟩ := (HI6.out.below b7').at m (by rw [eL_len]; omega)
            simp only [Value.slice.injEq, Option.some.injEq, Addr.mk.injEq] at e2
            obtain ⟨⟨rfl, rfl, -⟩, -, rfl⟩ := e2
            rw [eL_at G m hm, Nat.zero_add, HZ.out] at hz2c
            have b7 := chain2 b6 b7'
            have HB7 := hid (HB6.out.below b7')
            have HH7 := hid (HH6.out.below b7')
            clear b7'
            go_wp2_with fail
            refine (same_true w7 vb _ (G.take m) HB7.out HH7.out).mono ?_
            rintro e w8 ⟨rfl, b8'⟩
            have b8 := b1.trans ((chain2 b7 b8').mono b1.size)
            go_wp2
            go_ret
            exact ⟨by simp, b8⟩
        · have HC := hid (show m < G.length → p < (encs (G.take (m + 1))).length from fun hh => absurd hh hmG)
          have DA : Dec (Bs.of T) G T.size := by rw [HT.out, HTe.out]; exact Dec.all gG1.1
          have hpT : p ≤ T.size := by omega
          have DC : Dec (Bs.of (T.extract 0 p)) (G.take m) (encs (G.take m)).length := by
            rw [of_extract_head, HT.out]
            exact Dec.cut gG1.1 m p hm HM.out HC.out
          have HDA := hid DA
          have HDC := hid DC
          have gGr := gG1.below bM
          have HIr := hid (HIe.out.below bM)
          have hxs : (T.extract 0 p).size ≤ 1000000 := by rw [ByteArray.size_extract]; omega
          clear DA DC
          go_wp2_with fail
          refine (decode_any wr T (by omega)).mono ?_
          rintro e w5 ⟨va, A, n5, rfl, D5, R5, b5'⟩
          obtain ⟨rfl, rfl⟩ := HDA.out.uniq D5
          have gG5 := gGr.below b5'
          have HI5 := hid (HIr.out.below b5')
          have b5 := chain2 (chain2 b2 bM) b5'
          clear D5 gGr b5'
          go_wp2_with fail
          refine (decode_any w5 (T.extract 0 p) hxs).mono ?_
          rintro e w6 ⟨vb, A6, n6, rfl, D6, R6, b6'⟩
          obtain ⟨h61, h62⟩ := HDC.out.uniq D6
          have gG6 := gG5.below b6'
          have HI6 := hid (HI5.out.below b6')
          have b6 := chain2 b5 b6'
          have HA6 := hid (R5.below b6').recs
          have HB6 := hid (show IsRecs w6 vb (G.take m) by rw [h61]; exact R6.recs)
          clear D6 gG5 b6' R5 R6 h61
          obtain ⟨xs6, og6⟩ := gG6.own
          obtain ⟨gg, cg, hgf, hcg, hcg2⟩ := own_some og6 nG
          unfold maxLen at hcg2
          have HG6 := hid (gG6.row (Nat.le_refl _)).recs
          rw [hgf] at HG6
          have HH6 := hid (HG6.out.head m hm)
          obtain ⟨z, HZ⟩ : ∃ z, Hid ((encs (G.take m)).length = z) := ⟨_, rfl⟩
          rw [HZ.out] at h62
          subst h62
          subst hgf
          clear og6 gG6
          have hzl : z ≤ 170000 := by have := HM.out; rw [HZ.out] at this; omega
          go_wp2_with fail
          refine (same_true w6 va _ G HA6.out HG6.out).mono ?_
          rintro e w7 ⟨rfl, b7'⟩
          obtain ⟨g2, o2, c2, e2, hz2c⟩ := (HI6.out.below b7').at m (by rw [eL_len]; omega)
          simp only [Value.slice.injEq, Option.some.injEq, Addr.mk.injEq] at e2
          obtain ⟨⟨rfl, rfl, -⟩, -, rfl⟩ := e2
          rw [eL_at G m hm, Nat.zero_add, HZ.out] at hz2c
          have b7 := chain2 b6 b7'
          have HB7 := hid (HB6.out.below b7')
          have HH7 := hid (HH6.out.below b7')
          clear b7'
          go_wp2_with fail
          refine (same_true w7 vb _ (G.take m) HB7.out HH7.out).mono ?_
          rintro e w8 ⟨rfl, b8'⟩
          have b8 := b1.trans ((chain2 b7 b8').mono b1.size)
          go_wp2
          go_ret
          exact ⟨by simp, b8⟩
end Go.Proofs.Ytgcfgfkociaooaa
