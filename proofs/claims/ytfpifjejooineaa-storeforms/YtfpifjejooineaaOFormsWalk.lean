/- The law StoreForms. -/
import Derived.Test.YtfpifjejooineaaOLaw
import Derived.Test.YtfpifjejooineaaOLong
import Derived.Test.YtfpifjejooineaaRcBack
import Derived.Test.YtfpifjejooineaaRcXdec
namespace Go.Proofs.Ytfpifjejooineaa.Rc
open Go.RowKit
set_option linter.unusedVariables false
set_option maxRecDepth 100000
set_option linter.unusedSimpArgs false

theorem Dec.ge : ∀ (G : List Rec) (a : Bs) (L : List Rec) (n : Nat), (∀ r ∈ G, Good r) → Dec (encs G ++ a) L n → G.length ≤ L.length
  | [], _, _, _, _, _ => by simp
  | g :: G, a, [], n, hG, h => by
    obtain ⟨x, e, hno⟩ := h.rest
    simp only [encs, List.nil_append, List.append_assoc] at e
    exact absurd e.symm (hno g _ (hG g (by simp)))
  | g :: G, a, y :: L, n, hG, h => by
    obtain ⟨x, e, hno⟩ := h.rest
    simp only [encs, List.append_assoc] at e
    obtain ⟨e1, e2⟩ := enc_pre (hG g (by simp)) (h.good y (by simp)) e
    have := Dec.ge G a L _ (fun r hr => hG r (by simp [hr])) ⟨fun r hr => h.good r (by simp [hr]), rfl, x, e2, hno⟩
    simp; omega
set_option maxHeartbeats 16000000 in
theorem oforms_any (v : Value) (L : List Rec) (more : ByteArray) (w : World) (h : IsRecs w v L) (hmore : more.size ≤ maxLen) :
    Calls Try.prog 3 #[v, .string more] w fun e w' => e = .returned (.bool true) ∧ Below w.heap.size w w' := by
  unfold maxLen at hmore
  have hlong := long_any w v L h
  obtain ⟨a, c, rfl, hl⟩ := h.slice
  obtain ⟨j0, hj, hy0, hy1, hy2⟩ := info_parts info_rec
  go_enter Try.func3, Try.ntmps3
  go_wp2_with fail
  refine hlong.mono ?_
  rintro e w1 ⟨⟨n, rfl, hn1, hn2⟩, b1⟩
  clear hlong
  by_cases hn : n ≤ 8192
  · by_cases hm : more.size ≤ 1024
    · have hn' : ¬ (8192 : Int) < (n : Int) := by omega
      have hm' : ¬ (1024 : Int) < (more.size : Int) := by omega
      have hlL := hn2 (by omega)
      clear hn2
      have gG := GRow.made w1.heap.size w1 w1.heap.size (Nat.le_refl _)
      have bW := (Below.refl w1.heap.size w1).alloc (Nat.le_refl _) (Obj.cells #[] 29)
      go_wp2
      generalize w1.alloc (Obj.cells #[] 29) = W0 at *
      have H1 := hid (h.below b1)
      clear h
      go_loopw [5, 6, 7] (fun s vg i wr => ∃ (j : Nat) (T : ByteArray) (G : List Rec), j ≤ L.length ∧ i = .int .i64 (j : Int) ∧ s = .string T ∧ T.size ≤ 8192 ∧ G.length ≤ j ∧ Hid (Bs.of T = encs G ∧ ∀ r ∈ G, Good r) ∧ GRow w1.heap.size wr w1.heap.size vg G ∧ vg ≠ .slice none 0 0 ∧ Below w1.heap.size w1 wr) (fun _ _ i _ => L.length - (intOf i).toNat)
      case atStart => exact ⟨0, ⟨#[]⟩, [], Nat.zero_le _, rfl, rfl, by show (0 : Nat) ≤ _; omega, Nat.le_refl _, ⟨rfl, by simp⟩, gG, by simp, bW⟩
      case round =>
        obtain ⟨j, T, G, hjl, rfl, rfl, hTs, hGj, HT, gG1, nG, b2⟩ := hrel
        clear gG bW
        have sz2 := b2.size
        by_cases hlt : j < L.length
        · obtain ⟨bb, oo, dd, u1, e1, l1, m1, f1, r1⟩ := H1.out.at j hlt
          have hlow := hid r1.ints.lt
          simp only [Value.slice.injEq] at e1
          obtain ⟨rfl, _, rfl⟩ := e1
          unfold maxLen at m1
          obtain ⟨q1, x1, eq1, hN⟩ := r1.ints.slice
          subst eq1
          have HR1 := hid r1
          have HF := hid f1
          generalize L[j] = r at *
          have ra := HR1.out.below b2
          obtain ⟨k1, y1, n1, t1, in1⟩ := ra
          have HIa := hid in1
          clear in1 r1 f1
          go_wp2_with fail
          refine (xencode_any wr r (.slice q1 r.nums.length x1) HF.out HIa.out).mono ?_
          rintro e w4 ⟨rfl, b4'⟩
          have b4 := chain2 b2 b4'
          have gG4 := gG1.below b4'
          clear k1 y1 n1 t1 gG1 b4'
          obtain ⟨E, HE⟩ : ∃ E, Hid (encE r = E) := ⟨_, rfl⟩
          obtain ⟨X, HX⟩ : ∃ X, Hid (encT r = X) := ⟨_, rfl⟩
          rw [HE.out, HX.out]
          have sz4 := b4.size
          have HTs := hid hTs
          by_cases hE : E = 0
          · have hG : Good r := (encE_good HIa.out.1).1 (HE.out.trans hE)
            have hX : Bs.of X = enc r := by rw [← HX.out, encT, if_pos (HE.out.trans hE), of_str]
            have hXs : X.size ≤ 20000 := by
              rw [← of_len, hX]; have := enc_max hG; omega
            by_cases hT : T.size + X.size ≤ 8192
            · have hE1 : (E == 0) = true := by rw [hE]; rfl
              have hT1 : (T.size : Int) + (X.size : Int) ≤ 8192 := by omega
              have hsum : ∀ v, (Op.stringOp .add T X).run Try.prog v = .ok (.string (T ++ X)) v := fun v => run_string_add_sum v _ _ (by omega)
              have HTn := hid (show Bs.of (T ++ X) = encs (G ++ [r]) ∧ ∀ q ∈ G ++ [r], Good q from ⟨by rw [of_append, HT.out.1, hX, encs_snoc], fun q hq => by
                rcases List.mem_append.1 hq with hq | hq
                · exact HT.out.2 q hq
                · simp at hq; rw [hq]; exact hG⟩)
              have HG := hid hG
              have hTX : (T ++ X).size = T.size + X.size := ByteArray.size_append
              obtain ⟨TX, HTX2⟩ : ∃ TX, Hid (T ++ X = TX) := ⟨_, rfl⟩
              rw [HTX2.out] at HTn hsum hTX
              have hTXs : TX.size ≤ 8192 := by omega
              clear hX hG hTX
              subst hE
              have ra := HR1.out.below b4
              obtain ⟨k1, y1, n1, t1, in1⟩ := ra
              have HId := hid in1
              clear in1
              obtain ⟨hf, vs, p1, p2, p3⟩ := gG4
              have HFf := hid hf
              have HP1 := hid p1
              have HP3 := hid p3
              clear hf p1 p3
              have p2' := p2.alloc (Obj.cells #[.int .i64 r.kind, .string r.who, .slice q1 r.nums.length x1, .string r.text] 29)
              go_wp2_with (at_builtin; refine wpList_append_own _ rfl _ _ 22 rfl w1.heap.size 29 j0 (.agg #[.int .i64 0, .string ⟨#[]⟩, .slice none 0 0, .string ⟨#[]⟩]) 4 64 Try.underlying22 hj hy0 hy1 hy2 rfl (by decide) _ _ _ rfl p2' ⟨w4.heap.size, 0, none⟩ 1 1 [.int .i64 r.kind, .string r.who, .slice q1 r.nums.length x1, .string r.text] rfl rfl (four_cells w4 29 _ _ _ _) (by intro u hu; simp at hu; rcases hu with rfl | rfl | rfl | rfl <;> rfl) (by unfold maxLen; omega) (by omega) (by simp; omega) ?_)
              intro vg6 w6 oG6 gr6 nG6
              have X5 := (Below.refl w4.heap.size w4).alloc (Nat.le_refl _) (Obj.cells #[.int .i64 r.kind, .string r.who, .slice q1 r.nums.length x1, .string r.text] 29)
              have gG6 : GRow w1.heap.size w6 w1.heap.size vg6 (G ++ [r]) := GRow.snoc (Nat.le_refl _) HFf.out HP1.out p2' (fun i hi hi' => ⟨(HP3.out i hi hi').1.below X5, (HP3.out i hi hi').2⟩) HG.out (HId.out.below X5) hlow.out oG6 gr6
              have b6 : Below w1.heap.size w1 w6 := (chain2 b4 X5).grown gr6 (by simp; omega) (fun q hq => (p2'.lt q hq).1)
              clear oG6 gr6 p2' p2 X5 k1 y1 n1 t1 hsum
              go_wp2
              go_roundw
              case rel => exact ⟨j + 1, TX, G ++ [r], by omega, by go_num, rfl, hTXs, by simp; omega, HTn, gG6, nG6, b6⟩
              case measure => simp [intOf]; omega
            · have hE1 : (E == 0) = true := by rw [hE]; rfl
              have hT1 : decide ((T.size : Int) + (X.size : Int) ≤ 8192) = false := decide_eq_false (by omega)
              clear hT hE hX
              go_wp2
              go_roundw
              case rel => exact ⟨j + 1, T, G, by omega, by go_num, rfl, HTs.out, by omega, HT, gG4, nG, b4⟩
              case measure => simp [intOf]; omega
          · have hE1 : (E == 0) = false := by simp [hE]
            go_wp2
            go_roundw
            case rel => exact ⟨j + 1, T, G, by omega, by go_num, rfl, hTs, by omega, HT, gG4, nG, b4⟩
            case measure => simp [intOf]; omega
        · obtain rfl : j = L.length := by omega
          obtain ⟨xs4, og4⟩ := gG1.own
          obtain ⟨ga, gc, rfl⟩ := own_slice og4
          have hGl : G.length ≤ 8192 := by omega
          have bw := chain2 b1 b2
          clear og4 gG1 H1 nG b2 hlt
          have sbw := bw.size
          go_wp2_with fail
          refine (new_any wr).mono ?_
          rintro e w2 ⟨rfl, hd2, b2⟩
          have bw2 := chain2 bw b2
          go_wp2_with fail
          refine (s_first w w2 w.heap.size wr.heap.size sbw hd2 bw2).mono ?_
          rintro e w3 ⟨l, rfl, st3, _, b3⟩
          have c3 := hc_new
          obtain ⟨f1, f2, f3, _⟩ := c3.fit (by omega)
          have ha := c3.append (s := T) (by show 0 + T.size ≤ _; omega) (by omega)
          rw [show ByteArray.empty ++ T = T from ByteArray.empty_append] at ha
          obtain ⟨a1, c4⟩ := ha
          have hA := s_append st3 T f1 f2 (by omega) f3
          rw [a1] at hA
          generalize (Lg.append ⟨com0, tailT ByteArray.empty, 0⟩ Dsk.new T) = R4 at *
          obtain ⟨g1, g2, g3, _⟩ := c4.fit (by omega)
          have hb := c4.append (s := more) (by omega) (by omega)
          obtain ⟨a2, c5⟩ := hb
          have hB := fun v (h : St w.heap.size w v wr.heap.size l R4.1 R4.2.1) => s_append h more g1 g2 (by omega) g3
          rw [a2] at hB
          clear f1 f2 f3 g1 g2 g3 a1 a2 c3 st3
          go_wp2_with fail
          refine hA.mono ?_
          rintro e w4 ⟨rfl, st4⟩
          clear hA
          go_wp2_with fail
          refine (hB w4 st4).mono ?_
          rintro e w5 ⟨rfl, st5⟩
          clear hB st4 c4
          generalize (Lg.append R4.2.1 R4.1 more) = R5 at *
          have hsum : ∀ v, (Op.stringOp .add T more).run Try.prog v = .ok (.string (T ++ more)) v := fun v => run_string_add_sum v _ _ (by omega)
          have hTX : (T ++ more).size = T.size + more.size := ByteArray.size_append
          have HGE := hid (fun L' n' (hD : Dec (Bs.of (T ++ more)) L' n') => Dec.ge G (Bs.of more) L' n' HT.out.2 (by rw [← HT.out.1, ← of_append]; exact hD))
          obtain ⟨TX, HTX2⟩ : ∃ TX, Hid (T ++ more = TX) := ⟨_, rfl⟩
          rw [HTX2.out] at hsum hTX c5 HGE
          have bw5 := st5.bel
          have sb5 := bw5.size
          go_wp2_with fail
          refine (xdecode_any w5 TX (by omega)).mono ?_
          rintro e w6 ⟨v6, L6, n6, rfl, hD6, hR6, b6⟩
          have hge := HGE.out L6 n6 hD6
          have HD6 := hid hD6
          have hn6 : n6 ≤ TX.size := by have := hD6.le; rwa [of_len] at this
          have hL6 := hD6.few
          have st6 := st5.below b6
          have hop := oopen_any w6 wr.heap.size R5.1 (c5.hl.sz.now c5.hl.good) st6.disk
          have HR6 := hid hR6
          obtain ⟨ra, rc, rfl, hlr⟩ := hR6.recs.slice
          have bw6 := st6.bel
          clear hD6 hR6 st5 b6
          go_wp2_with fail
          refine hop.mono ?_
          rintro e w7 ⟨⟨c7, t7, hT7, L7, n7, hD7, h7⟩, b7⟩
          obtain ⟨rfl, rfl, c7⟩ := c5.tells hT7
          obtain ⟨rfl, rfl⟩ := hD7.uniq HD6.out
          have bw7 := chain2 bw6 b7
          clear hop hT7 hD7 HGE
          rcases h7 with ⟨h71, rfl⟩ | ⟨h71, s7, l7, v7, rfl, h72, h73, h74, h75, h76⟩
          · have hx : (n7 : Int) < (T.size : Int) + (more.size : Int) := by omega
            go_wp2
            go_ret
            exact ⟨rfl, bw7⟩
          · have hx : ¬ (n7 : Int) < (T.size : Int) + (more.size : Int) := by omega
            have HR7 := hid (HR6.out.below b7).recs
            have HR8 := hid h76.recs
            obtain ⟨va, vc, rfl, hlv⟩ := h76.recs.slice
            clear h76
            go_wp2_with fail
            refine (same_true w7 _ _ L7 HR8.out HR7.out).mono ?_
            rintro e w8 ⟨rfl, b8⟩
            have bw8 := chain2 bw7 b8
            go_wp2_with fail
            refine (olen_any w8 s7 l7 L7.length (h75.below b8)).mono ?_
            rintro e w9 ⟨rfl, rfl⟩
            have hge' : (G.length : Int) ≤ (L7.length : Int) := by omega
            go_wp2
            go_ret
            exact ⟨rfl, bw8⟩
    · have hn' : ¬ (8192 : Int) < (n : Int) := by omega
      have hm' : (1024 : Int) < (more.size : Int) := by omega
      go_wp2
      go_ret
      exact ⟨rfl, b1⟩
  · have hn' : (8192 : Int) < (n : Int) := by omega
    go_wp2
    go_ret
    exact ⟨rfl, b1⟩
end Go.Proofs.Ytfpifjejooineaa.Rc
