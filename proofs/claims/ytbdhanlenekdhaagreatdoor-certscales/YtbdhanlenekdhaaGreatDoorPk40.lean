/- CRead, CWorth, CFeas. -/
import Derived.Test.YtbdhanlenekdhaaGreatDoorPk34
import Derived.Test.YtbdhanlenekdhaaGreatDoorZCLev2
import Derived.Test.YtbdhanlenekdhaaGreatDoorPk36
import Derived.Test.YtbdhanlenekdhaaGreatDoorZCTimes
import Derived.Test.YtbdhanlenekdhaaGreatDoorZCCov
/- cert: read. -/
namespace Go.Proofs.YtbdhanlenekdhaaGreatDoor
open Go.RowKit
set_option linter.unusedVariables false
set_option maxRecDepth 100000
set_option maxHeartbeats 40000000
set_option linter.unusedSimpArgs false

theorem LIs.set {X : World} {tv p1 p2 p3 p4 : Value} {L : List Rat} {bx i : Nat} {c : Array Value} {fz : Nat × Nat} (h : LIs X tv p1 p2 p3 p4 L) (hb : X.heap[bx]? = some (.cells c 71 fz)) (u : Value) : LIs (X.setCell ⟨bx, i, none⟩ u) tv p1 p2 p3 p4 L := by
  obtain ⟨m, base, C, h1, h4, h5, h6, h2, h3⟩ := h
  exact ⟨m, base, C, h1, h4, h5, h6, h2.kty (Kty.of_set (t1 := 69) (t2 := 71) hb (Or.inr rfl) u) (by decide) (by decide), QLs.set h3 hb u⟩
set_option maxHeartbeats 40000000 in
theorem read_any (w : World) (rv ev bv cv sv : Value) (P : Prb) (S : List ByteArray) (n : Nat) (hp : IsPrb w rv ev bv cv P) (hs : Strs w sv S) (hsz : chk P = 0 → ∀ s ∈ S, s.size ≤ 600) (hn0 : chk P = 0 → n ≤ 64) (hn1 : n ≤ 9223372036854775807) (hmx : Mx w) (htab : Tab w) :
    Calls Tryz.prog 37 #[.agg #[rv, ev, bv, cv], sv, .int .i64 (n : Int)] w fun e w' =>
      CRd P S n e w' ∧ Below w.heap.size w w' := by
  obtain ⟨i0, hi0, hz0, hz1, hz2⟩ := info_parts info_RatZ
  obtain ⟨ra, rc, rfl, rl, rm⟩ := hp.rows.slice
  obtain ⟨ea, ec, rfl, el, em⟩ := hp.rel.slice
  obtain ⟨ba, bc, rfl, bl, bm⟩ := hp.b.slice
  obtain ⟨ca, cc, rfl, cl, cm⟩ := hp.c.slice
  obtain ⟨sa, sc, rfl, sl, sm⟩ := hs.slice
  unfold maxLen at rm em bm cm sm
  have HP := hid hp
  have HS := hid hs
  have HSZ := hid hsz
  have HMX := hid hmx
  have HTB := hid htab
  clear hp hs hsz hmx htab
  have b0 := boxed2 (Below.refl w.heap.size w) (Obj.cells #[.slice ra P.rows.length rc, .slice ea P.rel.length ec, .slice ba P.b.length bc, .slice ca P.c.length cc] 25) (Obj.cells #[.slice none 0 0, .slice none 0 0, .bool false, .slice none 0 0, .bool false] 71)
  have x0 := boxed2_first w (Obj.cells #[.slice ra P.rows.length rc, .slice ea P.rel.length ec, .slice ba P.b.length bc, .slice ca P.c.length cc] 25) (Obj.cells #[.slice none 0 0, .slice none 0 0, .bool false, .slice none 0 0, .bool false] 71)
  have z0 := boxed2_second w (Obj.cells #[.slice ra P.rows.length rc, .slice ea P.rel.length ec, .slice ba P.b.length bc, .slice ca P.c.length cc] 25) (Obj.cells #[.slice none 0 0, .slice none 0 0, .bool false, .slice none 0 0, .bool false] 71)
  have c0 := bxc x0 0 (.slice ra P.rows.length rc) rfl
  have c1 := bxc x0 1 (.slice ea P.rel.length ec) rfl
  have c2 := bxc x0 2 (.slice ba P.b.length bc) rfl
  have c3 := bxc x0 3 (.slice ca P.c.length cc) rfl
  have HC := hid (cCheck_any _ _ _ _ _ P (HP.out.below b0))
  have HB0 := hid b0
  have HZ0 := hid z0
  clear x0 b0 z0
  go_enter Tryz.func37, Tryz.ntmps37
  go_wp2_with fail
  generalize (w.alloc (Obj.cells #[.slice ra P.rows.length rc, .slice ea P.rel.length ec, .slice ba P.b.length bc, .slice ca P.c.length cc] 25)).alloc (Obj.cells #[.slice none 0 0, .slice none 0 0, .bool false, .slice none 0 0, .bool false] 71) = W0 at *
  refine HC.out.mono ?_
  rintro e X1 ⟨rfl, bX1⟩
  have B1 := chain2 HB0.out bX1
  have HZ1 := hid (box_below bX1 HZ0.out (lt_of_block HZ0.out))
  clear c0 c1 c2 c3 bX1 HC HB0 HZ0
  by_cases hck : chk P = 0
  case neg =>
    have hck1 : (chk P == 0) = false := beq_eq_false_iff_ne.2 hck
    generalize hcp : chk P = cp at *
    have z0 := bxc (HZ1.out) 0 (.slice none 0 0) rfl
    have z1 := bxc (HZ1.out) 1 (.slice none 0 0) rfl
    have z2 := bxc (HZ1.out) 2 (.bool false) rfl
    have z3 := bxc (HZ1.out) 3 (.slice none 0 0) rfl
    have z4 := bxc (HZ1.out) 4 (.bool false) rfl
    have fr := fun j => blk_free HZ1.out j
    have w1 := blk_set HZ1.out 0 (.slice none 0 0)
    have w2 := blk_set w1 1 (.slice none 0 0)
    have w3 := blk_set w2 2 (.bool false)
    have w4 := blk_set w3 3 (.slice none 0 0)
    have w5 := blk_set w4 4 (.bool false)
    have B5 := (((((B1).setCell (p := ⟨w.heap.size + 1, 0, none⟩) (Nat.le_succ _) (.slice none 0 0)).setCell (p := ⟨w.heap.size + 1, 1, none⟩) (Nat.le_succ _) (.slice none 0 0)).setCell (p := ⟨w.heap.size + 1, 2, none⟩) (Nat.le_succ _) (.bool false)).setCell (p := ⟨w.heap.size + 1, 3, none⟩) (Nat.le_succ _) (.slice none 0 0)).setCell (p := ⟨w.heap.size + 1, 4, none⟩) (Nat.le_succ _) (.bool false)
    have zS : ((((((X1).setCell ⟨w.heap.size + 1, 0, none⟩ (.slice none 0 0)).setCell ⟨w.heap.size + 1, 1, none⟩ (.slice none 0 0)).setCell ⟨w.heap.size + 1, 2, none⟩ (.bool false)).setCell ⟨w.heap.size + 1, 3, none⟩ (.slice none 0 0)).setCell ⟨w.heap.size + 1, 4, none⟩ (.bool false)).heap[w.heap.size + 1]? = some (.cells #[.slice none 0 0, .slice none 0 0, .bool false, .slice none 0 0, .bool false] 71 (0, 0)) := w5
    have r0 := bxc zS 0 (.slice none 0 0) rfl
    have r1 := bxc zS 1 (.slice none 0 0) rfl
    have r2 := bxc zS 2 (.bool false) rfl
    have r3 := bxc zS 3 (.slice none 0 0) rfl
    have r4 := bxc zS 4 (.bool false) rfl
    have HO := hid (And.intro r0 (And.intro r1 (And.intro r2 (And.intro r3 r4))))
    have HB5 := hid B5
    have HER := hid (show rdE P S n = cp from by unfold rdE; rw [hcp, if_pos hck])
    clear w1 w2 w3 w4 w5 B5 zS r0 r1 r2 r3 r4
    go_wp2
    exact bodyPost_ret (v := .tuple #[.agg #[.slice none 0 0, .slice none 0 0, .bool false, .slice none 0 0, .bool false], .int .i64 cp]) (by simp [results, Tryz.results37, go_sem, HO.out.1, HO.out.2.1, HO.out.2.2.1, HO.out.2.2.2.1, HO.out.2.2.2.2]) rfl ⟨Or.inr ⟨fun hh => hck (hcp.symm.trans hh.1), by rw [HER.out]⟩, HB5.out⟩
  case pos =>
    have hn := hn0 hck
    rw [hck]
    by_cases hln : S.length = n
    case neg =>
      have hln1 : ((S.length : Int) == (n : Int)) = false := beq_eq_false_iff_ne.2 (by omega)
      have hln2 : ¬ (S.length : Int) = (n : Int) := by omega
      have z0 := bxc (HZ1.out) 0 (.slice none 0 0) rfl
      have z1 := bxc (HZ1.out) 1 (.slice none 0 0) rfl
      have z2 := bxc (HZ1.out) 2 (.bool false) rfl
      have z3 := bxc (HZ1.out) 3 (.slice none 0 0) rfl
      have z4 := bxc (HZ1.out) 4 (.bool false) rfl
      have fr := fun j => blk_free HZ1.out j
      have w1 := blk_set HZ1.out 0 (.slice none 0 0)
      have w2 := blk_set w1 1 (.slice none 0 0)
      have w3 := blk_set w2 2 (.bool false)
      have w4 := blk_set w3 3 (.slice none 0 0)
      have w5 := blk_set w4 4 (.bool false)
      have B5 := (((((B1).setCell (p := ⟨w.heap.size + 1, 0, none⟩) (Nat.le_succ _) (.slice none 0 0)).setCell (p := ⟨w.heap.size + 1, 1, none⟩) (Nat.le_succ _) (.slice none 0 0)).setCell (p := ⟨w.heap.size + 1, 2, none⟩) (Nat.le_succ _) (.bool false)).setCell (p := ⟨w.heap.size + 1, 3, none⟩) (Nat.le_succ _) (.slice none 0 0)).setCell (p := ⟨w.heap.size + 1, 4, none⟩) (Nat.le_succ _) (.bool false)
      have zS : ((((((X1).setCell ⟨w.heap.size + 1, 0, none⟩ (.slice none 0 0)).setCell ⟨w.heap.size + 1, 1, none⟩ (.slice none 0 0)).setCell ⟨w.heap.size + 1, 2, none⟩ (.bool false)).setCell ⟨w.heap.size + 1, 3, none⟩ (.slice none 0 0)).setCell ⟨w.heap.size + 1, 4, none⟩ (.bool false)).heap[w.heap.size + 1]? = some (.cells #[.slice none 0 0, .slice none 0 0, .bool false, .slice none 0 0, .bool false] 71 (0, 0)) := w5
      have r0 := bxc zS 0 (.slice none 0 0) rfl
      have r1 := bxc zS 1 (.slice none 0 0) rfl
      have r2 := bxc zS 2 (.bool false) rfl
      have r3 := bxc zS 3 (.slice none 0 0) rfl
      have r4 := bxc zS 4 (.bool false) rfl
      have HO := hid (And.intro r0 (And.intro r1 (And.intro r2 (And.intro r3 r4))))
      have HB5 := hid B5
      have HER := hid (show rdE P S n = 120 from by unfold rdE; rw [if_neg (by omega), if_pos hln])
      clear w1 w2 w3 w4 w5 B5 zS r0 r1 r2 r3 r4
      go_wp2
      exact bodyPost_ret (v := .tuple #[.agg #[.slice none 0 0, .slice none 0 0, .bool false, .slice none 0 0, .bool false], .int .i64 120]) (by simp [results, Tryz.results37, go_sem, HO.out.1, HO.out.2.1, HO.out.2.2.1, HO.out.2.2.2.1, HO.out.2.2.2.2]) rfl ⟨Or.inr ⟨fun hh => hln hh.2.1, by rw [HER.out]⟩, HB5.out⟩
    case pos =>
      subst hln
      have N0 : QLs X1 w.heap.size (.slice none 0 0) [] [] 5100 := Ls.none X1 _
      have HN0 := hid N0
      clear N0
      have hcz : (chk P == 0) = true := by rw [hck]; rfl
      go_wp2
      generalize X1 = W1 at *
      go_loopw [9, 27] (fun l i wr => ∃ (k : Nat) (C : List (List Value)) (X : List Rat), k ≤ S.length ∧ i = .int .i64 (k : Int) ∧ Hid (Nums (S.take k) X) ∧ Hid (QLs wr w.heap.size l C X 5100) ∧ Hid (wr.heap[w.heap.size + 1]? = some (.cells #[.slice none 0 0, .slice none 0 0, .bool false, .slice none 0 0, .bool false] 71 (0, 0))) ∧ Below w.heap.size w wr) (fun _ i _ => S.length - (intOf i).toNat)
      case atStart => exact ⟨0, [], [], Nat.zero_le _, rfl, Nums.nil, HN0, HZ1, B1⟩
      case round =>
        obtain ⟨k, C, X, hk, rfl, HNU, HL, HZ, bw⟩ := hrel
        have hXl : X.length = k := by rw [HNU.out.len, List.length_take]; omega
        obtain ⟨la_, lc, hle, hll, hlm⟩ := HL.out.slice
        subst hle
        have HXL := hid hXl
        have hX64 : X.length ≤ 64 := by omega
        clear hXl
        by_cases hlt : k < S.length
        · obtain ⟨tb, toff, tcp, te, _, _, hc, _⟩ := (HS.out.below bw).at k hlt
          simp only [Value.slice.injEq] at te
          obtain ⟨rfl, -, rfl⟩ := te
          have hk255 := HSZ.out hck _ (List.getElem_mem hlt)
          have HPA := hid (q_parse S[k] wr (by omega) (HMX.out.below bw) (HTB.out.below bw))
          go_wp2_with fail
          refine HPA.out.mono ?_
          rintro e Y1 ⟨hr, bY1⟩
          clear HPA hc
          rcases hr with ⟨q, v, hcan, rfl, hq⟩ | ⟨hno, rfl⟩
          · skip
            obtain ⟨s1, s2, s3, s4, s5, s6, s7, s8, rfl⟩ := hq.form
            have bA := boxed2 (Below.refl Y1.heap.size Y1) (Obj.cells #[.slice s1 s2 s3, .bool s4, .slice s5 s6 s7, .bool s8] 69) (Obj.cells #[.slice s1 s2 s3, .bool s4, .slice s5 s6 s7, .bool s8] 69)
            have n1 := boxed2_first Y1 (Obj.cells #[.slice s1 s2 s3, .bool s4, .slice s5 s6 s7, .bool s8] 69) (Obj.cells #[.slice s1 s2 s3, .bool s4, .slice s5 s6 s7, .bool s8] 69)
            obtain ⟨t0, t1, t2, t3⟩ := four_cell (box_new Y1 (Obj.cells #[.slice s1 s2 s3, .bool s4, .slice s5 s6 s7, .bool s8] 69))
            have bY := chain2 bY1 bA
            have la := Ls.below (fun h b => h.below b) HL.out bY
            have own := la.own
            have hfn : ∀ j u, [Value.slice s1 s2 s3, .bool s4, .slice s5 s6 s7, .bool s8][j]? = some u → ((Y1.alloc (Obj.cells #[.slice s1 s2 s3, .bool s4, .slice s5 s6 s7, .bool s8] 69)).alloc (Obj.cells #[.slice s1 s2 s3, .bool s4, .slice s5 s6 s7, .bool s8] 69)).cell? ((⟨Y1.heap.size + 1, 0, none⟩ : Addr).add j) = some u := by
              have := four_new (Y1.alloc (Obj.cells #[.slice s1 s2 s3, .bool s4, .slice s5 s6 s7, .bool s8] 69)) 69 (.slice s1 s2 s3) (.bool s4) (.slice s5 s6 s7) (.bool s8)
              simpa using this
            have HLA := hid la
            have HQA := hid ((hq.below bA).mono (show S[k].size / 9 + 8 ≤ 5100 by omega))
            have HZA := hid (box_below bY HZ.out (lt_of_block HZ.out))
            have HBY := hid bY
            have hbs : w.heap.size ≤ ((Y1.alloc (Obj.cells #[.slice s1 s2 s3, .bool s4, .slice s5 s6 s7, .bool s8] 69)).alloc (Obj.cells #[.slice s1 s2 s3, .bool s4, .slice s5 s6 s7, .bool s8] 69)).heap.size := Nat.le_trans bw.size bY.size
            have HCN := hid hcan
            clear la bA n1 bY hq hcan bY1
            generalize S[k].size = sz at *
            go_wp2_with (first | (refine wpList_store_fresh rfl 69 _ _ rfl _ _ _ rfl (by simp) rfl 4 info_Rat (by rfl) (by rfl) (by simp [Value.oneCell']) ?_) | (at_builtin; refine wpList_append_own_at _ rfl _ _ 62 rfl w.heap.size 69 i0 (.agg #[.slice none 0 0, .bool false, .slice none 0 0, .bool false]) 4 64 Tryz.underlying62 hi0 hz0 hz1 hz2 rfl (by decide) (.slice la_ X.length lc) X.length C.flatten rfl own ⟨Y1.heap.size + 1, 0, none⟩ 1 1 [.slice s1 s2 s3, .bool s4, .slice s5 s6 s7, .bool s8] rfl rfl hfn (by intro u hu; simp at hu; rcases hu with rfl | rfl | rfl | rfl <;> rfl) (by unfold maxLen; omega) (by omega) hbs ?_))
            intro v' Y5 o5 hg5 _ hat5
            have kg : Kty 69 71 _ Y5 := Kty.of_grown hg5 (fun g hg => own_ty own g hg)
            have hpush := Ls.push HLA.out (w' := Y5) (v' := v') (x0 := .slice s1 s2 s3) (x1 := .bool s4) (x2 := .slice s5 s6 s7) (x3 := .bool s8) (q := q) o5 (fun h => QIs.kty h kg (by decide) (by decide)) HQA.out
            have z5 := (hg5.block (w.heap.size + 1) (lt_of_block HZA.out) (fun e => own_ne_ty own HZA.out (by decide) e.symm)).trans HZA.out
            have B5 := (bw.trans (HBY.out.mono bw.size)).grown hg5 hbs (fun g hg => (own.lt g hg).1)
            have HPU := hid hpush
            have HZ5 := hid z5
            have HNP := hid (HNU.out.push hlt HCN.out)
            clear hpush z5 kg own hfn o5 hg5 hat5 hbs t0 t1 t2 t3
            go_wp2
            go_roundw
            case rel => exact ⟨k + 1, _, _, by omega, by go_num, HNP, HPU, HZ5, B5⟩
            case measure => simp [intOf]; omega
          · skip
            have bA := (Below.refl Y1.heap.size Y1).alloc (Nat.le_refl _) (Obj.cells #[.slice none 0 0, .bool false, .slice none 0 0, .bool false] 69)
            have bY := chain2 bY1 bA
            have HZA := hid (box_below bY HZ.out (lt_of_block HZ.out))
            have BA := bw.trans (bY.mono bw.size)
            have HNN := hid (nums_no hlt hno)
            have HER := hid (show rdE P S S.length = 10 by unfold rdE; rw [if_neg (by omega), if_neg (by omega)])
            clear bA bY bY1 hno
            have z0 := bxc HZA.out 0 (.slice none 0 0) rfl
            have z1 := bxc HZA.out 1 (.slice none 0 0) rfl
            have z2 := bxc HZA.out 2 (.bool false) rfl
            have z3 := bxc HZA.out 3 (.slice none 0 0) rfl
            have z4 := bxc HZA.out 4 (.bool false) rfl
            have fr := fun j => blk_free HZA.out j
            have w1 := blk_set HZA.out 0 (.slice none 0 0)
            have w2 := blk_set w1 1 (.slice none 0 0)
            have w3 := blk_set w2 2 (.bool false)
            have w4 := blk_set w3 3 (.slice none 0 0)
            have w5 := blk_set w4 4 (.bool false)
            have B5 := (((((BA).setCell (p := ⟨w.heap.size + 1, 0, none⟩) (Nat.le_succ _) (.slice none 0 0)).setCell (p := ⟨w.heap.size + 1, 1, none⟩) (Nat.le_succ _) (.slice none 0 0)).setCell (p := ⟨w.heap.size + 1, 2, none⟩) (Nat.le_succ _) (.bool false)).setCell (p := ⟨w.heap.size + 1, 3, none⟩) (Nat.le_succ _) (.slice none 0 0)).setCell (p := ⟨w.heap.size + 1, 4, none⟩) (Nat.le_succ _) (.bool false)
            have zS : ((((((Y1.alloc (Obj.cells #[.slice none 0 0, .bool false, .slice none 0 0, .bool false] 69)).setCell ⟨w.heap.size + 1, 0, none⟩ (.slice none 0 0)).setCell ⟨w.heap.size + 1, 1, none⟩ (.slice none 0 0)).setCell ⟨w.heap.size + 1, 2, none⟩ (.bool false)).setCell ⟨w.heap.size + 1, 3, none⟩ (.slice none 0 0)).setCell ⟨w.heap.size + 1, 4, none⟩ (.bool false)).heap[w.heap.size + 1]? = some (.cells #[.slice none 0 0, .slice none 0 0, .bool false, .slice none 0 0, .bool false] 71 (0, 0)) := w5
            have r0 := bxc zS 0 (.slice none 0 0) rfl
            have r1 := bxc zS 1 (.slice none 0 0) rfl
            have r2 := bxc zS 2 (.bool false) rfl
            have r3 := bxc zS 3 (.slice none 0 0) rfl
            have r4 := bxc zS 4 (.bool false) rfl
            have HO := hid (And.intro r0 (And.intro r1 (And.intro r2 (And.intro r3 r4))))
            have HB5 := hid B5
            clear w1 w2 w3 w4 w5 B5 zS r0 r1 r2 r3 r4
            go_wp2
            exact bodyPost_ret (v := .tuple #[.agg #[.slice none 0 0, .slice none 0 0, .bool false, .slice none 0 0, .bool false], .int .i64 10]) (by simp [results, Tryz.results37, go_sem, HO.out.1, HO.out.2.1, HO.out.2.2.1, HO.out.2.2.2.1, HO.out.2.2.2.2]) rfl ⟨Or.inr ⟨fun hh => HNN.out hh.2.2, by rw [HER.out]⟩, HB5.out⟩
        · skip
          obtain rfl : k = S.length := by omega
          rw [List.take_length] at HNU
          go_wp2_with fail
          refine (levelled_any wr _ w.heap.size C X (by omega) (HNU.out.lt (HSZ.out hck)) HL.out).mono ?_
          rintro e Y1 ⟨⟨tv, p1, p2, p3, p4, p5, p6, p7, p8, rfl, hli⟩, bY1⟩
          have HZA := hid (box_below bY1 HZ.out (lt_of_block HZ.out))
          have BA := bw.trans (bY1.mono bw.size)
          have HLI0 := hid hli
          obtain ⟨ta, tc, q1, q2, q3, r1, q4, q5, q6, r2, rfl, -⟩ := hli.form
          clear bY1 hli
          have z0 := bxc HZA.out 0 (.slice none 0 0) rfl
          have z1 := bxc HZA.out 1 (.slice none 0 0) rfl
          have z2 := bxc HZA.out 2 (.bool false) rfl
          have z3 := bxc HZA.out 3 (.slice none 0 0) rfl
          have z4 := bxc HZA.out 4 (.bool false) rfl
          have fr := fun j => blk_free HZA.out j
          have w1 := blk_set HZA.out 0 (.slice ta X.length tc)
          have w2 := blk_set w1 1 (.slice p1 p2 p3)
          have w3 := blk_set w2 2 (.bool p4)
          have w4 := blk_set w3 3 (.slice p5 p6 p7)
          have w5 := blk_set w4 4 (.bool p8)
          have B5 := (((((BA).setCell (p := ⟨w.heap.size + 1, 0, none⟩) (Nat.le_succ _) (.slice ta X.length tc)).setCell (p := ⟨w.heap.size + 1, 1, none⟩) (Nat.le_succ _) (.slice p1 p2 p3)).setCell (p := ⟨w.heap.size + 1, 2, none⟩) (Nat.le_succ _) (.bool p4)).setCell (p := ⟨w.heap.size + 1, 3, none⟩) (Nat.le_succ _) (.slice p5 p6 p7)).setCell (p := ⟨w.heap.size + 1, 4, none⟩) (Nat.le_succ _) (.bool p8)
          have zS : ((((((Y1).setCell ⟨w.heap.size + 1, 0, none⟩ (.slice ta X.length tc)).setCell ⟨w.heap.size + 1, 1, none⟩ (.slice p1 p2 p3)).setCell ⟨w.heap.size + 1, 2, none⟩ (.bool p4)).setCell ⟨w.heap.size + 1, 3, none⟩ (.slice p5 p6 p7)).setCell ⟨w.heap.size + 1, 4, none⟩ (.bool p8)).heap[w.heap.size + 1]? = some (.cells #[.slice ta X.length tc, .slice p1 p2 p3, .bool p4, .slice p5 p6 p7, .bool p8] 71 (0, 0)) := w5
          have r0 := bxc zS 0 (.slice ta X.length tc) rfl
          have r1 := bxc zS 1 (.slice p1 p2 p3) rfl
          have r2 := bxc zS 2 (.bool p4) rfl
          have r3 := bxc zS 3 (.slice p5 p6 p7) rfl
          have r4 := bxc zS 4 (.bool p8) rfl
          have HO := hid (And.intro r0 (And.intro r1 (And.intro r2 (And.intro r3 r4))))
          have HB5 := hid B5
          have HLI := hid (LIs.set (i := 4) (LIs.set (i := 3) (LIs.set (i := 2) (LIs.set (i := 1) (LIs.set (i := 0) HLI0.out HZA.out (.slice ta X.length tc)) w1 (.slice p1 p2 p3)) w2 (.bool p4)) w3 (.slice p5 p6 p7)) w4 (.bool p8))
          clear w1 w2 w3 w4 w5 B5 zS r0 r1 r2 r3 r4
          go_wp2
          exact bodyPost_ret (v := .tuple #[.agg #[.slice ta X.length tc, .slice p1 p2 p3, .bool p4, .slice p5 p6 p7, .bool p8], .int .i64 0]) (by simp [results, Tryz.results37, go_sem, HO.out.1, HO.out.2.1, HO.out.2.2.1, HO.out.2.2.2.1, HO.out.2.2.2.2]) rfl ⟨Or.inl ⟨hck, rfl, X, _, p1, p2, p3, p4, p5, p6, p7, p8, HNU.out, rfl, HLI.out⟩, HB5.out⟩
end Go.Proofs.YtbdhanlenekdhaaGreatDoor
/- cert: worth, Value, Bound. -/
namespace Go.Proofs.YtbdhanlenekdhaaGreatDoor
open Go.RowKit
set_option linter.unusedVariables false
set_option maxRecDepth 100000
set_option linter.unusedSimpArgs false

theorem rd_ne (P : Prb) (S : List ByteArray) (n : Nat) : rdE P S n ≠ 0 := by
  unfold rdE
  split
  · assumption
  · split <;> omega
set_option maxHeartbeats 6400000 in
theorem worth_any (w : World) (rv ev bv cv fv sv : Value) (P : Prb) (f : List Int) (S : List ByteArray) (hp : IsPrb w rv ev bv cv P) (hs : Strs w sv S) (hsz : chk P = 0 → ∀ s ∈ S, s.size ≤ 600) (hmx : Mx w) (htab : Tab w) (hf : Ints w fv f) (hf9 : chk P = 0 → In9 f ∧ f.length ≤ 64) :
    Calls Tryz.prog 48 #[.agg #[rv, ev, bv, cv], fv, sv] w fun e w' => (∃ s er, e = .returned (.tuple #[.string s, .int .i64 er]) ∧ WorS P f S s er) ∧ Below w.heap.size w w' := by
  obtain ⟨ra, rc, rfl, rl, rm⟩ := hp.rows.slice
  obtain ⟨ea, ec, rfl, el, em⟩ := hp.rel.slice
  obtain ⟨ba, bc, rfl, bl, bm⟩ := hp.b.slice
  obtain ⟨ca, cc, rfl, cl, cm⟩ := hp.c.slice
  obtain ⟨sa, sc, rfl, sl, sm⟩ := hs.slice
  unfold maxLen at rm em bm cm sm
  obtain ⟨fa, fc, rfl, hfc, hfm⟩ := hf.slice
  unfold maxLen at hfm
  have b0 := (Below.refl w.heap.size w).alloc (Nat.le_refl _) (Obj.cells #[.slice ra P.rows.length rc, .slice ea P.rel.length ec, .slice ba P.b.length bc, .slice ca P.c.length cc] 25)
  have x0 := box_new w (Obj.cells #[.slice ra P.rows.length rc, .slice ea P.rel.length ec, .slice ba P.b.length bc, .slice ca P.c.length cc] 25)
  have y0 := bxc x0 0 (.slice ra P.rows.length rc) rfl
  have y1 := bxc x0 1 (.slice ea P.rel.length ec) rfl
  have y2 := bxc x0 2 (.slice ba P.b.length bc) rfl
  have y3 := bxc x0 3 (.slice ca P.c.length cc) rfl
  have HPB := hid x0
  have HP := hid (hp.below b0)
  have HS := hid (hs.below b0)
  have HMX := hid (hmx.below b0)
  have HTB := hid (htab.below b0)
  have HB0 := hid b0
  have HSZ := hid hsz
  have HF := hid (hf.below b0)
  have HF9 := hid hf9
  clear hp hs hmx htab b0 x0 hsz hf hf9
  go_enter Tryz.func48, Tryz.ntmps48
  go_wp2_with fail
  generalize w.alloc (Obj.cells #[.slice ra P.rows.length rc, .slice ea P.rel.length ec, .slice ba P.b.length bc, .slice ca P.c.length cc] 25) = W at *
  refine (read_any W _ _ _ _ _ P S f.length HP.out HS.out HSZ.out (fun hh => (HF9.out hh).2) (by omega) HMX.out HTB.out).mono ?_
  rintro e X1 ⟨hr, bX1⟩
  clear y0 y1 y2 y3
  rcases hr with ⟨hck, hln, X, tv, p1, p2, p3, p4, p5, p6, p7, p8, hnu, rfl, hli⟩ | ⟨hno, rfl⟩
  · have bA := (Below.refl X1.heap.size X1).alloc (Nat.le_refl _) (Obj.cells #[tv, .slice p1 p2 p3, .bool p4, .slice p5 p6 p7, .bool p8] 71)
    have x1 := box_new X1 (Obj.cells #[tv, .slice p1 p2 p3, .bool p4, .slice p5 p6 p7, .bool p8] 71)
    have z0 := bxc x1 0 tv rfl
    have z1 := bxc x1 1 (.slice p1 p2 p3) rfl
    have z2 := bxc x1 2 (.bool p4) rfl
    have z3 := bxc x1 3 (.slice p5 p6 p7) rfl
    have z4 := bxc x1 4 (.bool p8) rfl
    have BA := chain2 HB0.out (chain2 bX1 bA)
    have HX9 := hid (HF9.out hck).1
    have HTM := hid (ctimes_any _ _ _ _ _ _ X _ f (hli.below bA) (HF.out.below (chain2 bX1 bA)) (HF9.out hck).1 (by rw [hnu.len, hln]; exact Nat.le_refl _))
    have HTB1 := hid (HTB.out.below (chain2 bX1 bA))
    have HNU := hid hnu
    have HCK := hid hck
    have HLN := hid hln
    obtain ⟨ta, tc, _, _, _, _, _, _, _, _, rfl, -⟩ := hli.form
    clear hli bA x1 hnu hck hln bX1
    go_wp2_with (refine wpList_store_fresh rfl 71 _ _ rfl _ _ _ rfl (by simp) rfl 5 info_clist (by rfl) (by rfl) (by simp [Value.oneCell']) ?_)
    generalize X1.alloc (Obj.cells #[.slice ta X.length tc, .slice p1 p2 p3, .bool p4, .slice p5 p6 p7, .bool p8] 71) = W2 at *
    refine HTM.out.mono ?_
    rintro e X2 ⟨v2, rfl, n2, bX2⟩
    have HTB2 := hid (HTB1.out.below bX2)
    have B2 := chain2 BA bX2
    obtain ⟨d1, d2, d3, d4, d5, d6, d7, d8, rfl⟩ := n2.form
    have HN2 := hid n2
    clear n2 bX2 z0 z1 z2 z3 z4
    go_wp2_with fail
    refine (q_text X2 _ _ 6000 (by omega) HN2.out HTB2.out).mono ?_
    rintro e X3 ⟨⟨s, rfl, ht⟩, bX3⟩
    have HT := hid ht
    have B3 := chain2 B2 bX3
    clear ht bX3
    go_wp2
    go_ret2
    exact ⟨⟨s, 0, rfl, Or.inl ⟨HCK.out, HLN.out, ⟨X, HNU.out, HT.out⟩, rfl⟩⟩, B3⟩
  · have hne := rd_ne P S f.length
    have HW := hid (show WorS P f S ByteArray.empty (rdE P S f.length) from Or.inr ⟨hno, rfl, rfl⟩)
    generalize rdE P S f.length = er at *
    have hne1 : (er == 0) = false := beq_eq_false_iff_ne.2 hne
    have BA := chain2 HB0.out (chain2 bX1 ((Below.refl X1.heap.size X1).alloc (Nat.le_refl _) (Obj.cells #[.slice none 0 0, .slice none 0 0, .bool false, .slice none 0 0, .bool false] 71)))
    clear hno bX1
    go_wp2
    go_ret2
    exact ⟨⟨_, er, rfl, HW.out⟩, BA⟩
set_option maxHeartbeats 3200000 in
theorem cValue_any (w : World) (rv ev bv cv sv : Value) (P : Prb) (S : List ByteArray) (hp : IsPrb w rv ev bv cv P) (hs : Strs w sv S) (hsz : chk P = 0 → ∀ s ∈ S, s.size ≤ 600) (hmx : Mx w) (htab : Tab w) :
    Calls Tryz.prog 19 #[.agg #[rv, ev, bv, cv], sv] w fun e w' => (∃ s er, e = .returned (.tuple #[.string s, .int .i64 er]) ∧ WorS P P.c S s er) ∧ Below w.heap.size w w' := by
  obtain ⟨ra, rc, rfl, rl, rm⟩ := hp.rows.slice
  obtain ⟨ea, ec, rfl, el, em⟩ := hp.rel.slice
  obtain ⟨ba, bc, rfl, bl, bm⟩ := hp.b.slice
  obtain ⟨ca, cc, rfl, cl, cm⟩ := hp.c.slice
  obtain ⟨sa, sc, rfl, sl, sm⟩ := hs.slice
  unfold maxLen at rm em bm cm sm
  have b0 := (Below.refl w.heap.size w).alloc (Nat.le_refl _) (Obj.cells #[.slice ra P.rows.length rc, .slice ea P.rel.length ec, .slice ba P.b.length bc, .slice ca P.c.length cc] 25)
  have x0 := box_new w (Obj.cells #[.slice ra P.rows.length rc, .slice ea P.rel.length ec, .slice ba P.b.length bc, .slice ca P.c.length cc] 25)
  have y0 := bxc x0 0 (.slice ra P.rows.length rc) rfl
  have y1 := bxc x0 1 (.slice ea P.rel.length ec) rfl
  have y2 := bxc x0 2 (.slice ba P.b.length bc) rfl
  have y3 := bxc x0 3 (.slice ca P.c.length cc) rfl
  have HPB := hid x0
  have HP := hid (hp.below b0)
  have HS := hid (hs.below b0)
  have HMX := hid (hmx.below b0)
  have HTB := hid (htab.below b0)
  have HB0 := hid b0
  have HSZ := hid hsz
  clear hp hs hmx htab b0 x0 hsz
  go_enter Tryz.func19, Tryz.ntmps19
  go_wp2_with fail
  generalize w.alloc (Obj.cells #[.slice ra P.rows.length rc, .slice ea P.rel.length ec, .slice ba P.b.length bc, .slice ca P.c.length cc] 25) = W at *
  refine (worth_any W _ _ _ _ _ _ P P.c S HP.out HS.out HSZ.out HMX.out HTB.out HP.out.c (fun hh => ⟨(chk_ok hh).c9, by have := (chk_ok hh).b; have := (chk_ok hh).rl; have := (chk_ok hh).cl; omega⟩)).mono ?_
  rintro e X1 ⟨⟨s, er, rfl, hw⟩, bX1⟩
  have HW := hid hw
  have BA := chain2 HB0.out bX1
  clear hw bX1
  go_wp2
  go_ret2
  exact ⟨⟨s, er, rfl, HW.out⟩, BA⟩
set_option maxHeartbeats 3200000 in
theorem cBound_any (w : World) (rv ev bv cv sv : Value) (P : Prb) (S : List ByteArray) (hp : IsPrb w rv ev bv cv P) (hs : Strs w sv S) (hsz : chk P = 0 → ∀ s ∈ S, s.size ≤ 600) (hmx : Mx w) (htab : Tab w) :
    Calls Tryz.prog 21 #[.agg #[rv, ev, bv, cv], sv] w fun e w' => (∃ s er, e = .returned (.tuple #[.string s, .int .i64 er]) ∧ WorS P P.b S s er) ∧ Below w.heap.size w w' := by
  obtain ⟨ra, rc, rfl, rl, rm⟩ := hp.rows.slice
  obtain ⟨ea, ec, rfl, el, em⟩ := hp.rel.slice
  obtain ⟨ba, bc, rfl, bl, bm⟩ := hp.b.slice
  obtain ⟨ca, cc, rfl, cl, cm⟩ := hp.c.slice
  obtain ⟨sa, sc, rfl, sl, sm⟩ := hs.slice
  unfold maxLen at rm em bm cm sm
  have b0 := (Below.refl w.heap.size w).alloc (Nat.le_refl _) (Obj.cells #[.slice ra P.rows.length rc, .slice ea P.rel.length ec, .slice ba P.b.length bc, .slice ca P.c.length cc] 25)
  have x0 := box_new w (Obj.cells #[.slice ra P.rows.length rc, .slice ea P.rel.length ec, .slice ba P.b.length bc, .slice ca P.c.length cc] 25)
  have y0 := bxc x0 0 (.slice ra P.rows.length rc) rfl
  have y1 := bxc x0 1 (.slice ea P.rel.length ec) rfl
  have y2 := bxc x0 2 (.slice ba P.b.length bc) rfl
  have y3 := bxc x0 3 (.slice ca P.c.length cc) rfl
  have HPB := hid x0
  have HP := hid (hp.below b0)
  have HS := hid (hs.below b0)
  have HMX := hid (hmx.below b0)
  have HTB := hid (htab.below b0)
  have HB0 := hid b0
  have HSZ := hid hsz
  clear hp hs hmx htab b0 x0 hsz
  go_enter Tryz.func21, Tryz.ntmps21
  go_wp2_with fail
  generalize w.alloc (Obj.cells #[.slice ra P.rows.length rc, .slice ea P.rel.length ec, .slice ba P.b.length bc, .slice ca P.c.length cc] 25) = W at *
  refine (worth_any W _ _ _ _ _ _ P P.b S HP.out HS.out HSZ.out HMX.out HTB.out HP.out.b (fun hh => ⟨(chk_ok hh).b9, by have := (chk_ok hh).b; have := (chk_ok hh).rl; have := (chk_ok hh).cl; omega⟩)).mono ?_
  rintro e X1 ⟨⟨s, er, rfl, hw⟩, bX1⟩
  have HW := hid hw
  have BA := chain2 HB0.out bX1
  clear hw bX1
  go_wp2
  go_ret2
  exact ⟨⟨s, er, rfl, HW.out⟩, BA⟩
end Go.Proofs.YtbdhanlenekdhaaGreatDoor
/- cert: Feasible, Dual. -/
namespace Go.Proofs.YtbdhanlenekdhaaGreatDoor
open Go.RowKit
set_option linter.unusedVariables false
set_option maxRecDepth 100000
set_option linter.unusedSimpArgs false

set_option maxHeartbeats 6400000 in
theorem cFeasible_any (w : World) (rv ev bv cv sv : Value) (P : Prb) (S : List ByteArray) (hp : IsPrb w rv ev bv cv P) (hs : Strs w sv S) (hsz : chk P = 0 → ∀ s ∈ S, s.size ≤ 600) (hmx : Mx w) (htab : Tab w) (hrl : Rl w) (R : Bool) (hR : R = true ↔ FeaS P S) :
    Calls Tryz.prog 23 #[.agg #[rv, ev, bv, cv], sv] w fun e w' => e = .returned (.bool R) ∧ Below w.heap.size w w' := by
  obtain ⟨ra, rc, rfl, rl, rm⟩ := hp.rows.slice
  obtain ⟨ea, ec, rfl, el, em⟩ := hp.rel.slice
  obtain ⟨ba, bc, rfl, bl, bm⟩ := hp.b.slice
  obtain ⟨ca, cc, rfl, cl, cm⟩ := hp.c.slice
  obtain ⟨sa, sc, rfl, sl, sm⟩ := hs.slice
  unfold maxLen at rm em bm cm sm
  have b0 := (Below.refl w.heap.size w).alloc (Nat.le_refl _) (Obj.cells #[.slice ra P.rows.length rc, .slice ea P.rel.length ec, .slice ba P.b.length bc, .slice ca P.c.length cc] 25)
  have x0 := box_new w (Obj.cells #[.slice ra P.rows.length rc, .slice ea P.rel.length ec, .slice ba P.b.length bc, .slice ca P.c.length cc] 25)
  have y0 := bxc x0 0 (.slice ra P.rows.length rc) rfl
  have y1 := bxc x0 1 (.slice ea P.rel.length ec) rfl
  have y2 := bxc x0 2 (.slice ba P.b.length bc) rfl
  have y3 := bxc x0 3 (.slice ca P.c.length cc) rfl
  have HPB := hid x0
  have HP := hid (hp.below b0)
  have HS := hid (hs.below b0)
  have HMX := hid (hmx.below b0)
  have HTB := hid (htab.below b0)
  have HB0 := hid b0
  have HSZ := hid hsz
  have HRL := hid (hrl.below b0)
  have HRR := hid hR
  clear hp hs hmx htab b0 x0 hsz hrl hR
  go_enter Tryz.func23, Tryz.ntmps23
  go_wp2_with fail
  generalize w.alloc (Obj.cells #[.slice ra P.rows.length rc, .slice ea P.rel.length ec, .slice ba P.b.length bc, .slice ca P.c.length cc] 25) = W at *
  refine (read_any W _ _ _ _ _ P S P.c.length HP.out HS.out HSZ.out (fun hh => by have := (chk_ok hh).b; have := (chk_ok hh).rl; have := (chk_ok hh).cl; omega) (by omega) HMX.out HTB.out).mono ?_
  rintro e X1 ⟨hr, bX1⟩
  clear y0 y1 y2 y3
  rcases hr with ⟨hck, hln, X, tv, p1, p2, p3, p4, p5, p6, p7, p8, hnu, rfl, hli⟩ | ⟨hno, rfl⟩
  · have bA := (Below.refl X1.heap.size X1).alloc (Nat.le_refl _) (Obj.cells #[tv, .slice p1 p2 p3, .bool p4, .slice p5 p6 p7, .bool p8] 71)
    have x1 := box_new X1 (Obj.cells #[tv, .slice p1 p2 p3, .bool p4, .slice p5 p6 p7, .bool p8] 71)
    have z0 := bxc x1 0 tv rfl
    have z1 := bxc x1 1 (.slice p1 p2 p3) rfl
    have z2 := bxc x1 2 (.bool p4) rfl
    have z3 := bxc x1 3 (.slice p5 p6 p7) rfl
    have z4 := bxc x1 4 (.bool p8) rfl
    have x2 := box_below (chain2 bX1 bA) HPB.out (lt_of_block HPB.out)
    have y0 := bxc x2 0 (.slice ra P.rows.length rc) rfl
    have y1 := bxc x2 1 (.slice ea P.rel.length ec) rfl
    have y2 := bxc x2 2 (.slice ba P.b.length bc) rfl
    have y3 := bxc x2 3 (.slice ca P.c.length cc) rfl
    have BA := chain2 HB0.out (chain2 bX1 bA)
    have ok := chk_ok hck
    have HCALL := hid (keeps_any _ _ _ _ _ _ _ _ _ _ X P _ P.b (hli.below bA) (HP.out.below (chain2 bX1 bA)) (HP.out.b.below (chain2 bX1 bA)) (HRL.out.below (chain2 bX1 bA)) (fun r hr => by rw [ok.c r hr, hnu.len, hln]) ok.rel ok.b ok.r9 ok.b9 ok.rl R (HRR.out.trans ⟨fun ⟨h1, h2, Y, h3, h4⟩ => by rw [hnu.uniq h3]; exact h4, fun h4 => ⟨hck, hln, X, hnu, h4⟩⟩))
    obtain ⟨ta, tc, _, _, _, _, _, _, _, _, rfl, -⟩ := hli.form
    clear hli bA x1 x2 hnu hck hln bX1 ok
    go_wp2_with (refine wpList_store_fresh rfl 71 _ _ rfl _ _ _ rfl (by simp) rfl 5 info_clist (by rfl) (by rfl) (by simp [Value.oneCell']) ?_)
    generalize X1.alloc (Obj.cells #[.slice ta X.length tc, .slice p1 p2 p3, .bool p4, .slice p5 p6 p7, .bool p8] 71) = W2 at *
    refine HCALL.out.mono ?_
    rintro e X2 ⟨rfl, bX2⟩
    have B2 := chain2 BA bX2
    clear bX2 z0 z1 z2 z3 z4 y0 y1 y2 y3
    go_wp2
    go_ret
    exact ⟨rfl, B2⟩
  · have hne := rd_ne P S P.c.length
    have HF := hid (bool_no HRR.out (fun ⟨h1, h2, X, h3, _⟩ => hno ⟨h1, h2, X, h3⟩))
    generalize rdE P S P.c.length = er at *
    have hne1 : (er == 0) = false := beq_eq_false_iff_ne.2 hne
    have BA := chain2 HB0.out (chain2 bX1 ((Below.refl X1.heap.size X1).alloc (Nat.le_refl _) (Obj.cells #[.slice none 0 0, .slice none 0 0, .bool false, .slice none 0 0, .bool false] 71)))
    clear hno bX1
    go_wp2
    go_ret
    exact ⟨by rw [HF.out]; rfl, BA⟩
set_option maxHeartbeats 6400000 in
theorem cDual_any (w : World) (rv ev bv cv sv : Value) (P : Prb) (S : List ByteArray) (hp : IsPrb w rv ev bv cv P) (hs : Strs w sv S) (hsz : chk P = 0 → ∀ s ∈ S, s.size ≤ 600) (hmx : Mx w) (htab : Tab w) (hrl : Rl w) (R : Bool) (hR : R = true ↔ DuaS P S) :
    Calls Tryz.prog 13 #[.agg #[rv, ev, bv, cv], sv] w fun e w' => e = .returned (.bool R) ∧ Below w.heap.size w w' := by
  obtain ⟨ra, rc, rfl, rl, rm⟩ := hp.rows.slice
  obtain ⟨ea, ec, rfl, el, em⟩ := hp.rel.slice
  obtain ⟨ba, bc, rfl, bl, bm⟩ := hp.b.slice
  obtain ⟨ca, cc, rfl, cl, cm⟩ := hp.c.slice
  obtain ⟨sa, sc, rfl, sl, sm⟩ := hs.slice
  unfold maxLen at rm em bm cm sm
  have b0 := (Below.refl w.heap.size w).alloc (Nat.le_refl _) (Obj.cells #[.slice ra P.rows.length rc, .slice ea P.rel.length ec, .slice ba P.b.length bc, .slice ca P.c.length cc] 25)
  have x0 := box_new w (Obj.cells #[.slice ra P.rows.length rc, .slice ea P.rel.length ec, .slice ba P.b.length bc, .slice ca P.c.length cc] 25)
  have y0 := bxc x0 0 (.slice ra P.rows.length rc) rfl
  have y1 := bxc x0 1 (.slice ea P.rel.length ec) rfl
  have y2 := bxc x0 2 (.slice ba P.b.length bc) rfl
  have y3 := bxc x0 3 (.slice ca P.c.length cc) rfl
  have HPB := hid x0
  have HP := hid (hp.below b0)
  have HS := hid (hs.below b0)
  have HMX := hid (hmx.below b0)
  have HTB := hid (htab.below b0)
  have HB0 := hid b0
  have HSZ := hid hsz
  have HRL := hid (hrl.below b0)
  have HRR := hid hR
  clear hp hs hmx htab b0 x0 hsz hrl hR
  go_enter Tryz.func13, Tryz.ntmps13
  go_wp2_with fail
  generalize w.alloc (Obj.cells #[.slice ra P.rows.length rc, .slice ea P.rel.length ec, .slice ba P.b.length bc, .slice ca P.c.length cc] 25) = W at *
  refine (read_any W _ _ _ _ _ P S P.b.length HP.out HS.out HSZ.out (fun hh => by have := (chk_ok hh).b; have := (chk_ok hh).rl; have := (chk_ok hh).cl; omega) (by omega) HMX.out HTB.out).mono ?_
  rintro e X1 ⟨hr, bX1⟩
  clear y0 y1 y2 y3
  rcases hr with ⟨hck, hln, X, tv, p1, p2, p3, p4, p5, p6, p7, p8, hnu, rfl, hli⟩ | ⟨hno, rfl⟩
  · have bA := (Below.refl X1.heap.size X1).alloc (Nat.le_refl _) (Obj.cells #[tv, .slice p1 p2 p3, .bool p4, .slice p5 p6 p7, .bool p8] 71)
    have x1 := box_new X1 (Obj.cells #[tv, .slice p1 p2 p3, .bool p4, .slice p5 p6 p7, .bool p8] 71)
    have z0 := bxc x1 0 tv rfl
    have z1 := bxc x1 1 (.slice p1 p2 p3) rfl
    have z2 := bxc x1 2 (.bool p4) rfl
    have z3 := bxc x1 3 (.slice p5 p6 p7) rfl
    have z4 := bxc x1 4 (.bool p8) rfl
    have x2 := box_below (chain2 bX1 bA) HPB.out (lt_of_block HPB.out)
    have y0 := bxc x2 0 (.slice ra P.rows.length rc) rfl
    have y1 := bxc x2 1 (.slice ea P.rel.length ec) rfl
    have y2 := bxc x2 2 (.slice ba P.b.length bc) rfl
    have y3 := bxc x2 3 (.slice ca P.c.length cc) rfl
    have BA := chain2 HB0.out (chain2 bX1 bA)
    have ok := chk_ok hck
    have HCALL := hid (covers_any _ _ _ _ _ _ _ _ _ _ X P _ P.c (hli.below bA) (HP.out.below (chain2 bX1 bA)) (HP.out.c.below (chain2 bX1 bA)) (HRL.out.below (chain2 bX1 bA)) (by rw [hnu.len, hln, ok.b]) ok.rel ok.c ok.r9 ok.c9 ok.cl R (HRR.out.trans ⟨fun ⟨h1, h2, Y, h3, h4⟩ => by rw [hnu.uniq h3]; exact h4, fun h4 => ⟨hck, hln, X, hnu, h4⟩⟩))
    obtain ⟨ta, tc, _, _, _, _, _, _, _, _, rfl, -⟩ := hli.form
    clear hli bA x1 x2 hnu hck hln bX1 ok
    go_wp2_with (refine wpList_store_fresh rfl 71 _ _ rfl _ _ _ rfl (by simp) rfl 5 info_clist (by rfl) (by rfl) (by simp [Value.oneCell']) ?_)
    generalize X1.alloc (Obj.cells #[.slice ta X.length tc, .slice p1 p2 p3, .bool p4, .slice p5 p6 p7, .bool p8] 71) = W2 at *
    refine HCALL.out.mono ?_
    rintro e X2 ⟨rfl, bX2⟩
    have B2 := chain2 BA bX2
    clear bX2 z0 z1 z2 z3 z4 y0 y1 y2 y3
    go_wp2
    go_ret
    exact ⟨rfl, B2⟩
  · have hne := rd_ne P S P.b.length
    have HF := hid (bool_no HRR.out (fun ⟨h1, h2, X, h3, _⟩ => hno ⟨h1, h2, X, h3⟩))
    generalize rdE P S P.b.length = er at *
    have hne1 : (er == 0) = false := beq_eq_false_iff_ne.2 hne
    have BA := chain2 HB0.out (chain2 bX1 ((Below.refl X1.heap.size X1).alloc (Nat.le_refl _) (Obj.cells #[.slice none 0 0, .slice none 0 0, .bool false, .slice none 0 0, .bool false] 71)))
    clear hno bX1
    go_wp2
    go_ret
    exact ⟨by rw [HF.out]; rfl, BA⟩
end Go.Proofs.YtbdhanlenekdhaaGreatDoor
