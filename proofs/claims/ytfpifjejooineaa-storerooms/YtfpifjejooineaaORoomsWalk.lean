/- The law StoreRooms. -/
import Derived.Test.YtfpifjejooineaaOLaw
import Derived.Test.YtfpifjejooineaaOLong
import Derived.Test.YtfpifjejooineaaRcBack
namespace Go.Proofs.Ytfpifjejooineaa.Rc
open Go.RowKit
set_option linter.unusedVariables false
set_option maxRecDepth 100000
set_option linter.unusedSimpArgs false

/-- A text of noughts. -/
def zt (n : Nat) : ByteArray := ⟨(List.replicate n (0 : UInt8)).toArray⟩
theorem zt_size (n : Nat) : (zt n).size = n := by unfold zt; simp [ByteArray.size]
theorem zt_conv {w : World} {base g : Nat} (n : Nat) (h : w.ownsRow base 5 1 (.slice (some ⟨g, 0, none⟩) n n) n (List.replicate n (Value.int .u8 0))) : (convert 46 9 (.slice (some ⟨g, 0, none⟩) n n)).run Try.prog w = .ok (.string (zt n)) w := by
  have hb : Lib.byteCells (List.replicate n (0 : UInt8)) = List.replicate n (Value.int .u8 0) := by simp [Lib.byteCells]
  have := Go.Proofs.Ytfpifjejooineaa.bytes_conv (l := List.replicate n (0 : UInt8)) (w := w) (base := base) (g := g) (cap := n) (by rw [List.length_replicate, hb]; exact h)
  rw [List.length_replicate] at this
  exact this
theorem one_row (X : World) (r : Rec) (u : Value) (hf : RecFits r) (hI : IsInts X u r.nums) : IsRecs (X.alloc (Obj.cells #[.int .i64 r.kind, .string r.who, u, .string r.text] 29)) (.slice (some ⟨X.heap.size, 0, none⟩) 1 1) [r] := by
  refine ⟨_, _, rfl, Nat.le_refl _, by unfold maxLen; omega, Or.inr ⟨X.heap.size, 0, rfl, fun i hi => ?_⟩⟩
  have hi0 : i = 0 := by simp at hi; omega
  subst hi0
  have hc := fun j u hj => four_cells X 29 (.int .i64 r.kind) (.string r.who) u (.string r.text) j u hj
  have hb := Box4.new X 29 (.int .i64 r.kind) (.string r.who) u (.string r.text)
  exact ⟨hf, u, ⟨hb.c0, hb.c1, hb.c2, hb.c3, hI.below ((Below.refl _ _).alloc (Nat.le_refl _) _)⟩⟩
/-- The record of noughts. -/
def zr (n : Nat) : Rec := ⟨9, ⟨#[]⟩, [], zt n⟩
theorem zr_good {n : Nat} (h : n ≤ 16384) : Good (zr n) := ⟨by show (1 : Int) ≤ 9 ∧ (9 : Int) ≤ 255; omega, by show (0 : Nat) ≤ _; omega, by show (0 : Nat) ≤ _; omega, by show (zt n).size ≤ _; rw [zt_size]; exact h, by intro m hm; simp [zr] at hm⟩
theorem zr_len (n : Nat) : (enc (zr n)).length = n + 5 := by
  have h1 : (Bs.of (zt n)).length = n := by rw [of_len, zt_size]
  have h2 : (Bs.of (⟨#[]⟩ : ByteArray)).length = 0 := rfl
  simp only [enc, zr, tx, cnt_len, gs, List.length_cons, List.length_append, List.length_nil, h1, h2]
  omega
theorem laid_ok {D : Dsk} {L : Lg} {m el : Nat} {x : Dsk × Lg × Int} {R : List Rec} (h1 : allE R = 0) (h2 : x.2.2 = 0) : laid D L m x el R = (x.1, x.2.1, el + R.length, 0) := by unfold laid; rw [if_pos h1, if_pos h2]
theorem laid_err {D : Dsk} {L : Lg} {m el : Nat} {x : Dsk × Lg × Int} {R : List Rec} (h1 : allE R = 0) (h2 : x.2.2 ≠ 0) : laid D L m x el R = (x.1, x.2.1, m, x.2.2) := by unfold laid; rw [if_pos h1, if_neg h2]
theorem allE_good {R : List Rec} (h : ∀ r ∈ R, Good r) : allE R = 0 := allE_all fun r hr => (encE_good (h r hr).fit).2 (h r hr)
theorem allT_good {R : List Rec} (h : ∀ r ∈ R, Good r) : allT R = Bs.str (encs R) := by unfold allT; rw [if_pos (allE_good h)]
set_option maxHeartbeats 16000000 in
theorem orooms_any (v : Value) (L : List Rec) (big0 : Int) (w : World) (h : IsRecs w v L) (hbig0 : (Lit.int .u16 big0).wf = true) :
    Calls Try.prog 4 #[v, .int .u16 big0] w fun e w' => e = .returned (.bool true) ∧ Below w.heap.size w w' := by
  have hbb := bounds_u16 hbig0
  obtain ⟨big, rfl⟩ : ∃ n : Nat, big0 = n := ⟨big0.toNat, by omega⟩
  have hlong := long_any w v L h
  obtain ⟨a, c, rfl, hl⟩ := h.slice
  obtain ⟨j0, hj, hy0, hy1, hy2⟩ := info_parts info_rec
  obtain ⟨i0, hi, hz0, hz1, hz2⟩ := info_parts info_u8
  go_enter Try.func4, Try.ntmps4
  go_wp2_with fail
  refine hlong.mono ?_
  rintro e w1 ⟨⟨n, rfl, hn1, hn2⟩, b1⟩
  clear hlong
  by_cases hn : n ≤ 16384
  · have hn' : ¬ (16384 : Int) < (n : Int) := by omega
    have hlL := hn2 (by omega)
    clear hn2
    go_wp2_with fail
    refine (new_any w1).mono ?_
    rintro e w2 ⟨rfl, hd2, b2⟩
    have bw2 := chain2 b1 b2
    have sb1 := b1.size
    go_wp2_with fail
    refine (o_first w w2 w.heap.size w1.heap.size sb1 hd2 bw2).mono ?_
    rintro e w3 ⟨⟨s, l, v3, rfl, _, so3⟩, b3'⟩
    have c3 := hc_new
    clear hd2 b3'
    go_wp2_with fail
    refine (o_room so3 c3 (by omega)).mono ?_
    rintro e w3 ⟨rfl, rfl⟩
    have bw3 := so3.st.bel
    have H1 := hid (h.below bw3)
    clear h
    have gG := GRow.made w3.heap.size w3 w3.heap.size (Nat.le_refl _)
    have bW := (Below.refl w3.heap.size w3).alloc (Nat.le_refl _) (Obj.cells #[] 29)
    rw [show ((32512 - ByteArray.empty.size : Nat) : Int) = 32512 from rfl]
    have SO := hid so3
    clear so3
    go_wp2
    generalize w3.alloc (Obj.cells #[] 29) = W0 at *
    go_loopw [10, 11, 12] (fun s vg i wr => ∃ (j : Nat) (S : Nat) (G : List Rec), j ≤ L.length ∧ i = .int .i64 (j : Int) ∧ s = .int .i64 (S : Int) ∧ S ≤ 16384 ∧ G.length ≤ j ∧ Hid (S = (encs G).length ∧ ∀ r ∈ G, Good r) ∧ GRow w3.heap.size wr w3.heap.size vg G ∧ vg ≠ .slice none 0 0 ∧ Below w3.heap.size w3 wr) (fun _ _ i _ => L.length - (intOf i).toNat)
    case atStart => exact ⟨0, 0, [], Nat.zero_le _, rfl, rfl, by omega, Nat.le_refl _, ⟨rfl, by simp⟩, gG, by simp, bW⟩
    case round =>
      obtain ⟨j, S, G, hjl, rfl, rfl, hTs, hGj, HT, gG1, nG, b2⟩ := hrel
      clear gG bW
      have sz2 := b2.size
      by_cases hlt : j < L.length
      · obtain ⟨bb, oo, dd, u1, e1, l1, m1, f1, r1⟩ := H1.out.at j hlt
        have hlow := hid r1.ints.lt
        simp only [Value.slice.injEq] at e1
        obtain ⟨rfl, _, rfl⟩ := e1
        unfold maxLen at m1
        obtain ⟨q1, x1, eq1, hN⟩ := r1.ints.slice
        subst eq1
        have HR1 := hid r1
        have HF := hid f1
        generalize L[j] = r at *
        have ra := HR1.out.below b2
        obtain ⟨k1, y1, n1, t1, in1⟩ := ra
        have HIa := hid in1
        clear in1 r1 f1
        go_wp2_with fail
        refine (xencode_any wr r (.slice q1 r.nums.length x1) HF.out HIa.out).mono ?_
        rintro e w4 ⟨rfl, b4'⟩
        have b4 := chain2 b2 b4'
        have gG4 := gG1.below b4'
        clear k1 y1 n1 t1 gG1 b4'
        obtain ⟨E, HE⟩ : ∃ E, Hid (encE r = E) := ⟨_, rfl⟩
        obtain ⟨X, HX⟩ : ∃ X, Hid (encT r = X) := ⟨_, rfl⟩
        rw [HE.out, HX.out]
        have sz4 := b4.size
        have HTs := hid hTs
        by_cases hE : E = 0
        · have hG : Good r := (encE_good HIa.out.1).1 (HE.out.trans hE)
          have hX : Bs.of X = enc r := by rw [← HX.out, encT, if_pos (HE.out.trans hE), of_str]
          have hXs : X.size ≤ 20000 := by
            rw [← of_len, hX]; have := enc_max hG; omega
          by_cases hT : S + X.size ≤ 16384
          · have hE1 : (E == 0) = true := by rw [hE]; rfl
            have hT1 : (S : Int) + (X.size : Int) ≤ 16384 := by omega
            have HTn := hid (show S + X.size = (encs (G ++ [r])).length ∧ ∀ q ∈ G ++ [r], Good q from ⟨by rw [encs_snoc, List.length_append, ← HT.out.1, ← hX, of_len], fun q hq => by
              rcases List.mem_append.1 hq with hq | hq
              · exact HT.out.2 q hq
              · simp at hq; rw [hq]; exact hG⟩)
            have HG := hid hG
            clear hX hG
            subst hE
            have ra := HR1.out.below b4
            obtain ⟨k1, y1, n1, t1, in1⟩ := ra
            have HId := hid in1
            clear in1
            obtain ⟨hf, vs, p1, p2, p3⟩ := gG4
            have HFf := hid hf
            have HP1 := hid p1
            have HP3 := hid p3
            clear hf p1 p3
            have p2' := p2.alloc (Obj.cells #[.int .i64 r.kind, .string r.who, .slice q1 r.nums.length x1, .string r.text] 29)
            go_wp2_with (at_builtin; refine wpList_append_own _ rfl _ _ 22 rfl w3.heap.size 29 j0 (.agg #[.int .i64 0, .string ⟨#[]⟩, .slice none 0 0, .string ⟨#[]⟩]) 4 64 Try.underlying22 hj hy0 hy1 hy2 rfl (by decide) _ _ _ rfl p2' ⟨w4.heap.size, 0, none⟩ 1 1 [.int .i64 r.kind, .string r.who, .slice q1 r.nums.length x1, .string r.text] rfl rfl (four_cells w4 29 _ _ _ _) (by intro u hu; simp at hu; rcases hu with rfl | rfl | rfl | rfl <;> rfl) (by unfold maxLen; omega) (by omega) (by simp; omega) ?_)
            intro vg6 w6 oG6 gr6 nG6
            have X5 := (Below.refl w4.heap.size w4).alloc (Nat.le_refl _) (Obj.cells #[.int .i64 r.kind, .string r.who, .slice q1 r.nums.length x1, .string r.text] 29)
            have gG6 : GRow w3.heap.size w6 w3.heap.size vg6 (G ++ [r]) := GRow.snoc (Nat.le_refl _) HFf.out HP1.out p2' (fun i hi hi' => ⟨(HP3.out i hi hi').1.below X5, (HP3.out i hi hi').2⟩) HG.out (HId.out.below X5) hlow.out oG6 gr6
            have b6 : Below w3.heap.size w3 w6 := (chain2 b4 X5).grown gr6 (by simp; omega) (fun q hq => (p2'.lt q hq).1)
            clear oG6 gr6 p2' p2 X5 k1 y1 n1 t1
            go_wp2
            go_roundw
            case rel => exact ⟨j + 1, S + X.size, G ++ [r], by omega, by go_num, by go_num, hT, by simp; omega, HTn, gG6, nG6, b6⟩
            case measure => simp [intOf]; omega
          · have hE1 : (E == 0) = true := by rw [hE]; rfl
            have hT1 : decide ((S : Int) + (X.size : Int) ≤ 16384) = false := decide_eq_false (by omega)
            clear hT hE hX
            go_wp2
            go_roundw
            case rel => exact ⟨j + 1, S, G, by omega, by go_num, rfl, HTs.out, by omega, HT, gG4, nG, b4⟩
            case measure => simp [intOf]; omega
        · have hE1 : (E == 0) = false := by simp [hE]
          go_wp2
          go_roundw
          case rel => exact ⟨j + 1, S, G, by omega, by go_num, rfl, hTs, by omega, HT, gG4, nG, b4⟩
          case measure => simp [intOf]; omega
      · obtain rfl : j = L.length := by omega
        have hr := (gG1.row (Nat.le_refl _)).recs
        obtain ⟨ga, gc, rfl, hGlen⟩ := hr.slice
        have hGl : G.length ≤ 16384 := by omega
        have so4 := SO.out.below b2
        have hgood := HT.out.2
        have hS := HT.out.1
        have hE := allE_good hgood
        have hTt := allT_good hgood
        have hTs : (allT G).size = S := by rw [hTt, str_size, hS]
        have hadd := o_add so4 c3 (by omega) (by omega) _ G (by omega) hr
        obtain ⟨a4, c4⟩ := c3.append (s := allT G) (by show 0 + _ ≤ _; omega) (by omega)
        rw [laid_ok hE a4] at hadd
        rw [show ByteArray.empty ++ allT G = allT G from ByteArray.empty_append] at c4
        generalize (Lg.append ⟨com0, tailT ByteArray.empty, 0⟩ Dsk.new (allT G)) = R4 at *
        simp only at hadd
        have HS := hid hS
        rw [Nat.zero_add] at hadd
        clear hS hTt hE gG1 hr H1 hgood a4 so4 hlt SO nG
        go_wp2_with fail
        refine hadd.mono ?_
        rintro e w5 ⟨rfl, so5⟩
        clear hadd
        have hroom := o_room so5 c4 (by omega)
        rw [hTs] at hroom
        have hRe := hid (show ((32512 - S : Nat) : Int) = 32512 - (S : Int) by omega)
        rw [hRe.out] at hroom
        go_wp2_with fail
        refine hroom.mono ?_
        rintro e w5 ⟨rfl, rfl⟩
        clear hroom
        go_wp2_with fail
        refine (o_len so5).mono ?_
        rintro e w5 ⟨rfl, rfl⟩
        obtain ⟨B, hB, hB2⟩ : ∃ B : Nat, Int.tmod (big : Int) 16385 = (B : Int) ∧ B ≤ 16384 := ⟨big % 16385, rfl, by omega⟩
        go_wp2_with (first | (at_make; refine wpList_make_full _ rfl _ _ 46 rfl w5.heap.size 5 i0 (.int .u8 0) 1 Try.underlying46 hi hz0 hz1 _ _ _ _ B rfl rfl (by omega) (by omega) (by rw [hz2]; omega) (by unfold maxLen; omega) (by simp) ?_))
        intro w6 hown hgrow
        have b6 : Below w5.heap.size w5 w6 := (Below.refl _ _).grown hgrow (by simp) (by intro k hk; simp at hk)
        simp only [toList_madeCells_one, Value.cells, Nat.mul_one] at hown
        have hcv := zt_conv B hown
        have so6 := so5.below b6
        have b7 := (Below.refl w6.heap.size w6).alloc (Nat.le_refl _) (Obj.cells #[.int .i64 9, .string ⟨#[]⟩, .slice none 0 0, .string (zt B)] 29)
        have hone := one_row w6 (zr B) (.slice none 0 0) ⟨by show I64 9; unfold I64; omega, by show (0 : Nat) ≤ _; unfold maxLen; omega, by show (zt B).size ≤ _; rw [zt_size]; unfold maxLen; omega⟩ (IsInts.nil _)
        have so7 := so6.below b7
        have HG1 := hid (zr_good hB2)
        have HL1 := hid (zr_len B)
        have hone' : IsRecs (w6.alloc (Obj.cells #[.int .i64 9, .string ⟨#[]⟩, .slice none 0 0, .string (zt B)] 29)) (.slice (some ⟨w6.heap.size, 0, none⟩) 1 1) [zr B] := hone
        clear hone so6 b6 b7 hown hgrow so5
        generalize zt B = Z at *
        go_wp2_with fail
        generalize w6.alloc (Obj.cells #[.int .i64 9, .string ⟨#[]⟩, .slice none 0 0, .string Z] 29) = W6 at *
        have hroom := o_room so7 c4 (by omega)
        rw [hTs, hRe.out] at hroom
        refine hroom.mono ?_
        rintro e w7 ⟨rfl, rfl⟩
        clear hroom
        have hgood1 : ∀ r ∈ [zr B], Good r := fun r hr => by simp at hr; rw [hr]; exact HG1.out
        have hE1 := allE_good hgood1
        have hT1 : (allT [zr B]).size = B + 5 := by rw [allT_good hgood1, str_size]; simp [encs, HL1.out]
        have hadd := o_add so7 c4 (by omega) (by omega) _ [zr B] (by simp) hone'
        by_cases hfull : 32512 < S + (B + 5)
        · rw [laid_err hE1 (by rw [c4.full (by omega)]; simp), c4.full (by omega)] at hadd
          simp only at hadd
          have hcmp : ¬ (B : Int) + 5 ≤ 32512 - (S : Int) := by omega
          go_wp2_with fail
          refine hadd.mono ?_
          rintro e w8 ⟨rfl, so8⟩
          clear hadd
          have hroom := o_room so8 c4 (by omega)
          rw [hTs, hRe.out] at hroom
          go_wp2_with fail
          refine hroom.mono ?_
          rintro e w8 ⟨rfl, rfl⟩
          go_wp2_with fail
          refine (o_len so8).mono ?_
          rintro e w8 ⟨rfl, rfl⟩
          have hrep := o_replace so8 c4 (by omega) (by (try simp only [List.length_cons, List.length_nil]); omega) (.slice none 0 0) [] (by simp) (Row.nil _ 0).recs
          obtain ⟨a6, c6⟩ := c4.check (s := allT []) (by rw [show allT [] = ⟨#[]⟩ from rfl]; show (0 : Nat) ≤ _; omega) (by omega)
          rw [laid_ok (show allE [] = 0 from rfl) a6] at hrep
          simp only [List.length_nil, Nat.add_zero] at hrep
          have hr6 := fun v (h : So w.heap.size w v w1.heap.size l s (Lg.checkpoint R4.2.1 R4.1 (allT [])).1 (Lg.checkpoint R4.2.1 R4.1 (allT [])).2.1 0) => o_room h c6 (by omega)
          rw [show (allT []).size = 0 from rfl, show ((32512 - 0 : Nat) : Int) = 32512 from rfl] at hr6
          generalize Lg.checkpoint R4.2.1 R4.1 (allT []) = R6 at *
          go_wp2_with fail
          refine hrep.mono ?_
          rintro e w9 ⟨rfl, so9⟩
          go_wp2_with fail
          refine (hr6 w9 so9).mono ?_
          rintro e w9 ⟨rfl, rfl⟩
          go_wp2_with fail
          refine (o_len so9).mono ?_
          rintro e w9 ⟨rfl, rfl⟩
          go_wp2
          go_ret
          exact ⟨rfl, so9.st.bel⟩
        · obtain ⟨a5, c5⟩ := c4.append (s := allT [zr B]) (by omega) (by omega)
          rw [laid_ok hE1 a5] at hadd
          simp only at hadd
          have hcmp : (B : Int) + 5 ≤ 32512 - (S : Int) := by omega
          go_wp2_with fail
          refine hadd.mono ?_
          rintro e w8 ⟨rfl, so8⟩
          clear hadd
          generalize Lg.append R4.2.1 R4.1 (allT [zr B]) = R5 at *
          have hrep := o_replace so8 c5 (by omega) (by (try simp only [List.length_cons, List.length_nil]); omega) (.slice none 0 0) [] (by simp) (Row.nil _ 0).recs
          obtain ⟨a6, c6⟩ := c5.check (s := allT []) (by rw [show allT [] = ⟨#[]⟩ from rfl]; show (0 : Nat) ≤ _; omega) (by omega)
          rw [laid_ok (show allE [] = 0 from rfl) a6] at hrep
          simp only [List.length_nil, Nat.add_zero] at hrep
          have hr6 := fun v (h : So w.heap.size w v w1.heap.size l s (Lg.checkpoint R5.2.1 R5.1 (allT [])).1 (Lg.checkpoint R5.2.1 R5.1 (allT [])).2.1 0) => o_room h c6 (by omega)
          rw [show (allT []).size = 0 from rfl, show ((32512 - 0 : Nat) : Int) = 32512 from rfl] at hr6
          generalize Lg.checkpoint R5.2.1 R5.1 (allT []) = R6 at *
          go_wp2_with fail
          refine hrep.mono ?_
          rintro e w9 ⟨rfl, so9⟩
          go_wp2_with fail
          refine (hr6 w9 so9).mono ?_
          rintro e w9 ⟨rfl, rfl⟩
          go_wp2_with fail
          refine (o_len so9).mono ?_
          rintro e w9 ⟨rfl, rfl⟩
          go_wp2
          go_ret
          exact ⟨rfl, so9.st.bel⟩
  · have hn' : (16384 : Int) < (n : Int) := by omega
    go_wp2
    go_ret
    exact ⟨rfl, b1⟩
end Go.Proofs.Ytfpifjejooineaa.Rc
