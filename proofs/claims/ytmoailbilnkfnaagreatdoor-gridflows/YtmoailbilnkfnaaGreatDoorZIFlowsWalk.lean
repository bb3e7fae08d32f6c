/- GridFlows: the walk. -/
import Derived.Test.YtmoailbilnkfnaaGreatDoorPk43
import Derived.Test.YtmoailbilnkfnaaGreatDoorZIExp
import Derived.Test.YtmoailbilnkfnaaGreatDoorPk15
import Derived.Test.YtmoailbilnkfnaaGreatDoorPk16
import Derived.Deep.RegionHeld3
import Derived.Deep.RegionLaw
import Derived.Deep.RegionWith
namespace Go.Proofs.YtmoailbilnkfnaaGreatDoor
open Go.RowKit
set_option linter.unusedVariables false
set_option maxRecDepth 100000
set_option linter.unusedSimpArgs false

theorem own_formI {w : World} {base size : Nat} {e : TypeId} {v : Value} {n : Nat} {xs : List Value} (h : w.ownsRow base e size v n xs) : ∃ sa sc, v = .slice sa n sc := own_form4 h
set_option maxHeartbeats 25600000 in
theorem gridFlows_any (w : World) (g : Gr) (la : Option Addr) (lc : Nat) (h : Lns w (.slice la g.lines.length lc) g.lines) (fv : Value) (F : List ByteArray) (hf : Strs w fv F) (qv : Value) (Q : List ByteArray) (hq : Strs w qv Q) (hmx : Mx w) (htab : Tab w) :
    Calls Tryz.prog 3 #[.agg #[.int .i64 g.zones, .int .i64 g.hours, .slice la g.lines.length lc, .int .i64 g.low, .int .i64 g.high], fv, qv] w fun e w' => e = .returned (.bool true) ∧ Below w.heap.size w w' := by
  obtain ⟨i0, hi0, hz0, hz1, hz2⟩ := info_parts info_string
  obtain ⟨er, HER⟩ : ∃ er, Hid (errG g = er) := ⟨_, hid rfl⟩
  have HOK := hid (show er = 0 → gok g = true from fun e => by rw [← HER.out] at e; unfold errG at e; split at e; assumption; cases e)
  have HGI := hid (fun (hh : gok g = true) => (gok_iff.1 hh).1)
  have HG3 := hid (fun (hh : gok g = true) => (gok_iff.1 hh).2.2.2.1)
  have HIC0 := hid (fun (Y : World) (b : Below w.heap.size w Y) => icheck_any Y g la lc (h.below b))
  have HMC0 := hid (fun (Y : World) (b : Below w.heap.size w Y) => mcheck_any Y g la lc (h.below b))
  rw [HER.out] at HIC0 HMC0
  have HHF0 := hid (fun (Y : World) (b : Below w.heap.size w Y) => heavy14_any Y g la lc (h.below b) fv F (hf.below b))
  have HHQ0 := hid (fun (Y : World) (b : Below w.heap.size w Y) => heavy14_any Y g la lc (h.below b) qv Q (hq.below b))
  have HNF0 := hid (fun (k : Hvy14 g F) (Y : World) (b : Below w.heap.size w Y) => hNumbersW_any Y fv F (hf.below b) 256 36 (by decide) (by decide) k.2.1 (by have := k.1; omega))
  have HNQ0 := hid (fun (k : Hvy14 g Q) (Y : World) (b : Below w.heap.size w Y) => hNumbersW_any Y qv Q (hq.below b) 256 36 (by decide) (by decide) k.2.1 (by have := k.1; omega))
  have HEX0 := hid (fun (ok : gok g = true) (n : Nat) (hn : g.zones = n) (Y : World) (b : Below w.heap.size w Y) (sv : Value) (Z : List ByteArray) (hz : Strs Y sv Z) (m K : Nat) (hm100 : m ≤ 100000) (hmK : m / 9 + 8 ≤ K) (hK : K ≤ 4000) (hsz : ∀ s ∈ Z, s.size ≤ m) => iexport_any Y g la lc (h.below b) ok n hn sv Z hz m K hm100 hmK hK hsz (hmx.below b) (htab.below b))
  have HF := hid hf
  have HQ := hid hq
  obtain ⟨fa, fc, hfe, fl, fm⟩ := hf.slice
  obtain ⟨qa, qc, hqe, ql, qm⟩ := hq.slice
  obtain ⟨Z, H, lo, hi, S⟩ := g
  simp only at h HGI HG3 HIC0 HMC0 HHF0 HHQ0 HEX0 ⊢
  subst hfe
  subst hqe
  have b0 := ibel w (Obj.cells #[.int .i64 Z, .int .i64 H, .slice la S.length lc, .int .i64 lo, .int .i64 hi] 24)
  have x0 := inew w (Obj.cells #[.int .i64 Z, .int .i64 H, .slice la S.length lc, .int .i64 lo, .int .i64 hi] 24)
  have z0 := ibx x0 0 (.int .i64 Z) rfl
  have z1 := ibx x0 1 (.int .i64 H) rfl
  have z2 := ibx x0 2 (.slice la S.length lc) rfl
  have z3 := ibx x0 3 (.int .i64 lo) rfl
  have z4 := ibx x0 4 (.int .i64 hi) rfl
  obtain ⟨a', c', e', hl, hm⟩ := h.slice
  simp only [Value.slice.injEq] at e'
  obtain ⟨rfl, -, rfl⟩ := e'
  unfold maxLen at hm fm qm
  have HB0 := hid b0
  clear h x0 b0 HER hf hq hmx htab
  go_enter Tryz.func3, Tryz.ntmps3
  go_wp2_with fail
  generalize hW : w.alloc (Obj.cells #[.int .i64 Z, .int .i64 H, .slice la S.length lc, .int .i64 lo, .int .i64 hi] 24) = W at *
  clear hW
  have HKx := hid (fun (Y : World) (k : Below W.heap.size W Y) => show (Y.cell? ⟨w.heap.size, 0, none⟩ = some (.int .i64 Z) ∧ Y.cell? ⟨w.heap.size, 1, none⟩ = some (.int .i64 H) ∧ Y.cell? ⟨w.heap.size, 2, none⟩ = some (.slice la S.length lc) ∧ Y.cell? ⟨w.heap.size, 3, none⟩ = some (.int .i64 lo) ∧ Y.cell? ⟨w.heap.size, 4, none⟩ = some (.int .i64 hi)) from ⟨ikc k z0, ikc k z1, ikc k z2, ikc k z3, ikc k z4⟩)
  have HWw := hid (fun (Y : World) (k : Below W.heap.size W Y) => HB0.out.trans (k.mono HB0.out.size))
  have HIC := hid (fun (Y : World) (k : Below W.heap.size W Y) => HIC0.out Y (HWw.out Y k))
  have HMC := hid (fun (Y : World) (k : Below W.heap.size W Y) => HMC0.out Y (HWw.out Y k))
  refine (HHF0.out W HB0.out).mono ?_
  rintro e X ⟨r1, rfl, hv1, bX⟩
  obtain ⟨z0, z1, z2, z3, z4⟩ := HKx.out _ bX
  have HV1 := hid hv1
  clear HIC0 HMC0 HHF0 hv1
  cases r1 with
  | true =>
      have F0 : Below X.heap.size X X.drew := (Below.refl _ _).drew
      go_wp2_with fail
      first
      | (go_region_with (first
          | (have gk := F1; go_at_call 7; refine (HMC.out _ (by first | exact bX.trans (F1.mono bX.size) | exact (bX.trans (F1.mono bX.size)).drew | exact below_dn (bX.trans (F1.mono bX.size)) _)).mono ?_; rintro e Y2 ⟨rfl, bb⟩; have F2 : Below X.heap.size X Y2 := (by first | exact F1.trans (bb.mono F1.size) | exact F1.trans (Below.mono ⟨bb.os, bb.tape, bb.output, bb.size, bb.block⟩ F1.size)))
          | (go_at_call 8; refine (HIC.out _ (by first | exact bX | exact bX.drew | exact below_dn bX _)).mono ?_; rintro e Y1 ⟨rfl, bb⟩; have F1 : Below X.heap.size X Y1 := (by first | exact bb | exact ⟨bb.os, bb.tape, bb.output, bb.size, bb.block⟩); obtain ⟨a0, a1, a2, a3, a4⟩ := HKx.out _ (bX.trans (F1.mono bX.size)))))
      | fail
      all_goals
        have BF := HB0.out.trans ((bX.trans (F2.mono bX.size)).mono HB0.out.size)
        (try simp only [List.getElem_toArray, List.getElem_cons_zero, List.getElem_cons_succ, Act.put, List.setIfInBounds_toArray, List.set_cons_succ, List.set_cons_zero])
        go_wp2_with fail
        go_ret
        exact ⟨by simp, by first | exact BF | exact BF.drew | exact below_dn BF _⟩
  | false =>
    go_wp2_with fail
    refine (HHQ0.out X (HWw.out X bX)).mono ?_
    rintro e X2 ⟨r2, rfl, hv2, bX2⟩
    have bX := bX.trans (bX2.mono bX.size)
    have HV2 := hid hv2
    clear bX2 hv2 HHQ0
    generalize X2 = X at *
    obtain ⟨z0, z1, z2, z3, z4⟩ := HKx.out _ bX
    cases r2 with
    | true =>
      have F0 : Below X.heap.size X X.drew := (Below.refl _ _).drew
      go_wp2_with fail
      first
      | (go_region_with (first
          | (have gk := F1; go_at_call 7; refine (HMC.out _ (by first | exact bX.trans (F1.mono bX.size) | exact (bX.trans (F1.mono bX.size)).drew | exact below_dn (bX.trans (F1.mono bX.size)) _)).mono ?_; rintro e Y2 ⟨rfl, bb⟩; have F2 : Below X.heap.size X Y2 := (by first | exact F1.trans (bb.mono F1.size) | exact F1.trans (Below.mono ⟨bb.os, bb.tape, bb.output, bb.size, bb.block⟩ F1.size)))
          | (go_at_call 8; refine (HIC.out _ (by first | exact bX | exact bX.drew | exact below_dn bX _)).mono ?_; rintro e Y1 ⟨rfl, bb⟩; have F1 : Below X.heap.size X Y1 := (by first | exact bb | exact ⟨bb.os, bb.tape, bb.output, bb.size, bb.block⟩); obtain ⟨a0, a1, a2, a3, a4⟩ := HKx.out _ (bX.trans (F1.mono bX.size)))))
      | fail
      all_goals
        have BF := HB0.out.trans ((bX.trans (F2.mono bX.size)).mono HB0.out.size)
        (try simp only [List.getElem_toArray, List.getElem_cons_zero, List.getElem_cons_succ, Act.put, List.setIfInBounds_toArray, List.set_cons_succ, List.set_cons_zero])
        go_wp2_with fail
        go_ret
        exact ⟨by simp, by first | exact BF | exact BF.drew | exact below_dn BF _⟩
    | false =>
    go_wp2_with fail
    refine (HMC.out X bX).mono ?_
    rintro e X2 ⟨rfl, bX2⟩
    have bX := bX.trans (bX2.mono bX.size)
    clear bX2
    generalize X2 = X at *
    obtain ⟨z0, z1, z2, z3, z4⟩ := HKx.out _ bX
    by_cases he : er = 0
    case neg =>
      have he' : (er == 0) = false := by simpa using he
      have he'' : (er != 0) = true := by simpa using he
      have F0 : Below X.heap.size X X.drew := (Below.refl _ _).drew
      go_wp2_with fail
      first
      | (go_region_with (first
          | (have gk := F1; go_at_call 7; refine (HMC.out _ (by first | exact bX.trans (F1.mono bX.size) | exact (bX.trans (F1.mono bX.size)).drew | exact below_dn (bX.trans (F1.mono bX.size)) _)).mono ?_; rintro e Y2 ⟨rfl, bb⟩; have F2 : Below X.heap.size X Y2 := (by first | exact F1.trans (bb.mono F1.size) | exact F1.trans (Below.mono ⟨bb.os, bb.tape, bb.output, bb.size, bb.block⟩ F1.size)))
          | (go_at_call 8; refine (HIC.out _ (by first | exact bX | exact bX.drew | exact below_dn bX _)).mono ?_; rintro e Y1 ⟨rfl, bb⟩; have F1 : Below X.heap.size X Y1 := (by first | exact bb | exact ⟨bb.os, bb.tape, bb.output, bb.size, bb.block⟩); obtain ⟨a0, a1, a2, a3, a4⟩ := HKx.out _ (bX.trans (F1.mono bX.size)))))
      | fail
      all_goals
        have BF := HB0.out.trans ((bX.trans (F2.mono bX.size)).mono HB0.out.size)
        (try simp only [List.getElem_toArray, List.getElem_cons_zero, List.getElem_cons_succ, Act.put, List.setIfInBounds_toArray, List.set_cons_succ, List.set_cons_zero])
        go_wp2_with fail
        go_ret
        exact ⟨by simp, by first | exact BF | exact BF.drew | exact below_dn BF _⟩
    have ok := HOK.out he
    subst he
    have hz := HGI.out ok
    have hs3 := HG3.out ok
    obtain ⟨n, rfl⟩ : ∃ n : Nat, Z = n := ⟨Z.toNat, by omega⟩
    have HEX := hid (HEX0.out ok n rfl)
    have HNF := hid (HNF0.out (HV1.out (by first | rfl | trivial)) X (HWw.out X bX))
    have HFS := hid ((HV1.out (by first | rfl | trivial)).2.1)
    have HFL := hid ((HV1.out (by first | rfl | trivial)).1)
    have HQS := hid ((HV2.out (by first | rfl | trivial)).2.1)
    have HNQ1 := hid (HNQ0.out (HV2.out (by first | rfl | trivial)))
    clear HOK HGI HG3 HEX0 HNF0 HNQ0 HV1 HV2 HIC HMC ok
    go_wp2_with fail
    refine HNF.out.mono ?_
    rintro e X1 ⟨hr1, bX1⟩
    have bX := bX.trans (bX1.mono bX.size)
    have HNQ := hid (HNQ1.out X1 (HWw.out X1 bX))
    have hxb : X.heap.size ≤ X1.heap.size := bX1.size
    clear HNF HNQ1 bX1
    rcases hr1 with ⟨XF, tv, CF, hnf, rfl, hlf⟩ | ⟨hno, rfl⟩
    case inr =>
      clear hno
      go_wp2_with fail
      refine HNQ.out.mono ?_
      rintro e X3 ⟨hr2, bX3⟩
      have BF := HWw.out _ (bX.trans (bX3.mono bX.size))
      rcases hr2 with ⟨XQ, tq, CQ, hnq, rfl, hlq⟩ | ⟨hno2, rfl⟩
      · clear hnq hlq bX3
        go_wp2_with fail
        go_ret
        exact ⟨by simp, BF⟩
      · clear hno2 bX3
        go_wp2_with fail
        go_ret
        exact ⟨by simp, BF⟩
    have HNUF := hid hnf
    have HLF := hid hlf
    obtain ⟨ta, tc, hte, tl, tm⟩ := hlf.slice
    subst hte
    clear hnf hlf
    go_wp2_with fail
    refine HNQ.out.mono ?_
    rintro e X3 ⟨hr2, bX3⟩
    have HLF := hid (Ls.below (fun h b => h.below b) HLF.out bX3)
    have bX := bX.trans (bX3.mono bX.size)
    obtain ⟨z0, z1, z2, z3, z4⟩ := HKx.out _ bX
    clear HNQ bX3
    rcases hr2 with ⟨XQ, tq, CQ, hnq, rfl, hlq⟩ | ⟨hno2, rfl⟩
    case inr =>
      have BF := HWw.out _ bX
      clear hno2
      go_wp2_with fail
      go_ret
      exact ⟨by simp, BF⟩
    have HNUQ := hid hnq
    have HLQ := hid hlq
    obtain ⟨qa', qc', hqe, ql', qm'⟩ := hlq.slice
    subst hqe
    clear hnq hlq
    by_cases hfq : F.length = Q.length
    case neg =>
      have hq1 : ((F.length : Int) == (Q.length : Int)) = false := by simp; omega
      have hq2 : ((F.length : Int) != (Q.length : Int)) = true := by simp; omega
      have BF := HWw.out _ bX
      clear hfq
      go_wp2_with fail
      go_ret
      exact ⟨by simp, BF⟩
    have hq1 : ((F.length : Int) == (Q.length : Int)) = true := by simp; omega
    have hq2 : ((F.length : Int) != (Q.length : Int)) = false := by simp; omega
    have HXF := hid HNUF.out.len
    have HXQ := hid (HNUQ.out.len.trans hfq.symm)
    have HXX := hid (HXF.out.trans HXQ.out.symm)
    have HFQ := hid hfq
    clear hfq
    have bM := ibel X3 (Obj.cells #[] 9)
    have N0 := hid (show (X3.alloc (Obj.cells #[] 9)).ownsRow X3.heap.size 9 1 (.slice (some ⟨X3.heap.size, 0, none⟩) 0 0) 0 (strV []) from World.ownsRow_made X3 #[] 0 (Nat.le_refl _) (Nat.zero_le _) (by simp))
    have HSL := hid (sumL_len HXX.out)
    have hx3 : XF.length ≤ 1000 := by rw [HXF.out]; have := HFL.out; omega
    have hx4 : XQ.length ≤ 1000 := by rw [← HXX.out]; exact hx3
    have HBX := hid bX
    clear bX z0 z1 z2 z3 z4 hxb tl ql'
    go_wp2_with fail
    generalize hM : X3.alloc (Obj.cells #[] 9) = W2 at *
    clear hM
    go_loopw [11, 12] (fun sv iv wr => ∃ (k : Nat) (ZS : List ByteArray), k ≤ XF.length ∧ iv = .int .i64 (k : Int) ∧ Hid (TxL ZS ((sumL XF XQ).take k)) ∧ Hid (∀ s ∈ ZS, s.size ≤ 1600) ∧ Hid (wr.ownsRow X3.heap.size 9 1 sv k (strV ZS)) ∧ Below X3.heap.size X3 wr) (fun _ i _ => XF.length - (intOf i).toNat)
    case atStart => exact ⟨0, [], Nat.zero_le _, rfl, hid (by simpa using TxL.nil), hid (by simp), N0, bM⟩
    case round =>
      clear N0 bM
      obtain ⟨k, ZS, hk, rfl, HTL, HTS, HO, bw⟩ := hrel
      obtain ⟨va, vc, hse⟩ := own_formI HO.out
      subst hse
      by_cases hlt : k < XF.length
      · skip
        have hltQ : k < XQ.length := by rw [← HXX.out]; exact hlt
        have hltS : k < (sumL XF XQ).length := by rw [HSL.out]; exact hlt
        have hli1 : (0 : Int) ≤ (k : Int) ∧ (k : Int) < (XF.length : Int) := by omega
        have hli2 : (0 : Int) ≤ (k : Int) ∧ (k : Int) < (XQ.length : Int) := by omega
        obtain ⟨ug, uc', u0, ux1, ux2, ux3, ue, _, uq0, uq1, uq2, uq3, uq⟩ := (Ls.below (fun h b => h.below b) HLF.out bw).at k hlt
        simp only [Value.slice.injEq] at ue
        obtain ⟨rfl, -, rfl⟩ := ue
        obtain ⟨u1, u2, u3, u4, u5, u6, u7, u8, us⟩ := uq.form
        simp only [Value.agg.injEq, Array.mk.injEq, List.cons.injEq, and_true] at us
        obtain ⟨rfl, rfl, rfl, rfl⟩ := us
        obtain ⟨vg, vc', v0, vx1, vx2, vx3, ve, _, vq0, vq1, vq2, vq3, vq⟩ := (Ls.below (fun h b => h.below b) HLQ.out bw).at k hltQ
        simp only [Value.slice.injEq] at ve
        obtain ⟨rfl, -, rfl⟩ := ve
        obtain ⟨w1, w2, w3, w4, w5, w6, w7, w8, ws⟩ := vq.form
        simp only [Value.agg.injEq, Array.mk.injEq, List.cons.injEq, and_true] at ws
        obtain ⟨rfl, rfl, rfl, rfl⟩ := ws
        have HPUSH := hid (fun (s : ByteArray) (hs : TxR s (XF[k] + XQ[k])) => HTL.out.push hltS (by rw [sumL_at hlt hltQ]; exact hs))
        have HUQ := hid uq
        have HVQ := hid vq
        have hbs := bw.size
        clear uq vq
        generalize XF[k] = xf at *
        generalize XQ[k] = xq at *
        generalize XQ.length = lq at *
        go_wp2_with fail
        go_region_law (first
          | (refine step_append_at rfl _ _ 25 rfl X3.heap.size 9 i0 (.string ByteArray.empty) 1 16 Tryz.underlying25 hi0 hz0 hz1 hz2 rfl (by decide) (.slice va k vc) k _ rfl ((own_below HO.out F2).alloc (.cells #[.string st] 9)) ⟨Y2.heap.size, 0, none⟩ 1 1 [.string st] rfl rfl (str_newE _ _) (by intro u hu; simp at hu; subst hu; rfl) (by unfold maxLen; omega) (by omega) (by simp; have := F2.size; omega) ?_; intro v' Y5 o5 hg5 hat5; obtain ⟨va', vc2, rfl⟩ := own_formI o5)
          | (have gk := F1; go_simp; go_at_call 11; refine (t_text _ _ _ 78 (by omega) ((by first | exact N1 | exact N1.below (Below.refl _ _).drew | exact N1.below (below_dn (Below.refl _ _) _)) : TIs _ _ _ _)).mono ?_; rintro e Y2 ⟨⟨st, rfl, hst⟩, bb⟩; have F2 : Below wr.heap.size wr Y2 := (by first | exact chain2 F1 bb | exact chain2 F1 ⟨bb.os, bb.tape, bb.output, bb.size, bb.block⟩); dsimp only)
          | (go_simp; go_at_call 10; refine (t_add _ _ _ xf xq 36 (by omega) (HUQ.out.below (by first | exact Below.refl _ _ | exact (Below.refl _ _).drew | exact below_dn (Below.refl _ _) _)) (HVQ.out.below (by first | exact Below.refl _ _ | exact (Below.refl _ _).drew | exact below_dn (Below.refl _ _) _))).mono ?_; rintro e Y1 ⟨v1, rfl, n1, bb⟩; have F1 : Below wr.heap.size wr Y1 := ⟨bb.os, bb.tape, bb.output, bb.size, bb.block⟩; have N1 := n1.mono (show 2 * 36 + 6 ≤ 78 by omega); dsimp only))
        all_goals
          have bA := (Below.refl Y2.heap.size Y2).alloc (Nat.le_refl _) (Obj.cells #[.string st] 9)
          have F5 := chain2 F2 bA
          have B4 := bw.trans (F5.mono bw.size)
          have B5 := B4.grown hg5 B4.size (fun g hg => (HO.out.lt g hg).1)
          have HPU := hid (HPUSH.out st hst)
          have HTS2 := hid (show ∀ s ∈ ZS ++ [st], s.size ≤ 1600 from fun s hs => by
            rcases List.mem_append.1 hs with h | h
            · exact HTS.out s h
            · rw [List.mem_singleton] at h; subst h; have := t_size N1 hst; omega)
          have HO5 := hid (show Y5.ownsRow X3.heap.size 9 1 (.slice va' (k + 1) vc2) (k + 1) (strV (ZS ++ [st])) by rw [strV_app]; exact o5)
          clear o5 hg5 hat5 bA F5 B4
          go_wp2
          go_roundw
          case rel => exact ⟨k + 1, ZS ++ [st], by omega, by go_num, HPU, HTS2, HO5, B5⟩
          case measure => simp [intOf]; omega
      · obtain rfl : k = XF.length := by omega
        have hTL := HTL.out
        rw [List.take_of_length_le (by rw [HSL.out]; exact Nat.le_refl _)] at hTL
        have HZL := hid (show ZS.length = XF.length by rw [hTL.len, HSL.out])
        have HZS := hid (strs_own HO.out HZL.out HTS.out (by omega))
        have HSUM := hid hTL
        have bV := HBX.out.trans (bw.mono HBX.out.size)
        have HEF := hid (HEX.out wr (HWw.out wr bV) _ F (HF.out.below (HWw.out wr bV)) 256 36 (by decide) (by decide) (by decide) HFS.out)
        obtain ⟨z0, z1, z2, z3, z4⟩ := HKx.out _ bV
        have HADDX := hid (fun (hs : F.length = S.length) (z : Nat) => expo_add HXX.out (HXF.out.trans hs) z S.length (Nat.le_refl _))
        generalize XF.length = lf at *
        clear hTL HTL HLF HLQ HO bw hlt hk HBX HSL
        go_wp2_with fail
        refine HEF.out.mono ?_
        rintro e V1 ⟨hr1, bV1⟩
        have HZS := hid (HZS.out.below bV1)
        have bV := bV.trans (bV1.mono bV.size)
        have HEQ := hid (HEX.out V1 (HWw.out V1 bV) _ Q (HQ.out.below (HWw.out V1 bV)) 256 36 (by decide) (by decide) (by decide) HQS.out)
        obtain ⟨z0, z1, z2, z3, z4⟩ := HKx.out _ bV
        clear HEF
        by_cases hFS : F.length = S.length
        case neg =>
          obtain rfl := hr1.short hFS
          clear hr1 bV1
          go_wp2_with fail
          refine HEQ.out.mono ?_
          rintro e V2 ⟨hr2, bV2⟩
          have HZS := hid (HZS.out.below bV2)
          have bV := bV.trans (bV2.mono bV.size)
          have HER := hid (HEX.out V2 (HWw.out V2 bV) _ ZS HZS.out 1600 186 (by decide) (by decide) (by decide) HTS.out)
          obtain ⟨z0, z1, z2, z3, z4⟩ := HKx.out _ bV
          obtain rfl := hr2.short (by rw [← HFQ.out]; exact hFS)
          clear hr2 bV2 HEQ
          go_wp2_with fail
          refine HER.out.mono ?_
          rintro e V3 ⟨hr3, bV3⟩
          have bV := bV.trans (bV3.mono bV.size)
          obtain ⟨z0, z1, z2, z3, z4⟩ := HKx.out _ bV
          obtain rfl := hr3.short (by rw [HZL.out, HXF.out]; exact hFS)
          have hs1 : ((F.length : Int) == (S.length : Int)) = false := by simp; omega
          have hs2 : ((F.length : Int) != (S.length : Int)) = true := by simp; omega
          have BF := HWw.out _ bV
          clear hr3 bV3 HER hFS
          go_wp2_with fail
          go_ret
          exact ⟨by simp, BF⟩
        have hs1 : ((F.length : Int) == (S.length : Int)) = true := by simp; omega
        have hs2 : ((F.length : Int) != (S.length : Int)) = false := by simp; omega
        have HSE := hid hFS
        obtain ⟨pv, PZ, rfl, hps, hpt, hpz⟩ := hr1.full hFS HNUF.out
        have HPS := hid hps
        have HPT := hid hpt
        have HPZ := hid hpz
        clear hr1 bV1 hps hpt hpz hFS
        go_wp2_with fail
        refine HEQ.out.mono ?_
        rintro e V2 ⟨hr2, bV2⟩
        have HZS := hid (HZS.out.below bV2)
        have HPS := hid (HPS.out.below bV2)
        have bV := bV.trans (bV2.mono bV.size)
        have HER := hid (HEX.out V2 (HWw.out V2 bV) _ ZS HZS.out 1600 186 (by decide) (by decide) (by decide) HTS.out)
        obtain ⟨z0, z1, z2, z3, z4⟩ := HKx.out _ bV
        obtain ⟨yv, YZ, rfl, hys, hyt, hyz⟩ := hr2.full (HFQ.out.symm.trans HSE.out) HNUQ.out
        have HYS := hid hys
        have HYT := hid hyt
        have HYZ := hid hyz
        clear hr2 bV2 HEQ hys hyt hyz
        go_wp2_with fail
        refine HER.out.mono ?_
        rintro e V3 ⟨hr3, bV3⟩
        have HPS := hid (HPS.out.below bV3)
        have HYS := hid (HYS.out.below bV3)
        have bV := bV.trans (bV3.mono bV.size)
        obtain ⟨z0, z1, z2, z3, z4⟩ := HKx.out _ bV
        obtain ⟨rv, RZ, rfl, hrs, hrt, -⟩ := hr3.full (HZL.out.trans (HXF.out.trans HSE.out)) HSUM.out.nums
        have HRS := hid hrs
        have HRT := hid hrt
        have HNP := hid (hNumbersT_any V3 pv PZ _ HPS.out HPT.out 61215 6810 (by decide) (by decide) HPZ.out (by rw [HPT.out.len, exps_len]; omega))
        clear hr3 bV3 HER hrs hrt
        go_wp2_with fail
        refine HNP.out.mono ?_
        rintro e V4 ⟨⟨uv, CU, rfl, hlu⟩, bV4⟩
        have HYS := hid (HYS.out.below bV4)
        have HRS := hid (HRS.out.below bV4)
        have bV := bV.trans (bV4.mono bV.size)
        have HLU := hid hlu
        have HNY := hid (hNumbersT_any V4 yv YZ _ HYS.out HYT.out 61215 6810 (by decide) (by decide) HYZ.out (by rw [HYT.out.len, exps_len]; omega))
        obtain ⟨ua, uc, hue, ul, um⟩ := hlu.slice
        rw [exps_len] at hue ul
        subst hue
        obtain ⟨z0, z1, z2, z3, z4⟩ := HKx.out _ bV
        clear hlu HNP bV4
        go_wp2_with fail
        refine HNY.out.mono ?_
        rintro e V5 ⟨⟨yv2, CV, rfl, hlv⟩, bV5⟩
        have HRS := hid (HRS.out.below bV5)
        have HLU := hid (Ls.below (fun h b => h.below b) HLU.out bV5)
        have bV := bV.trans (bV5.mono bV.size)
        have HLV := hid hlv
        obtain ⟨ya, yc, hye, yl, ym⟩ := hlv.slice
        rw [exps_len] at hye yl
        subst hye
        obtain ⟨ra, rc, hre, rl, rm⟩ := HRS.out.slice
        have HRL := hid (show RZ.length = n by rw [HRT.out.len, exps_len])
        rw [HRL.out] at hre rl
        subst hre
        obtain ⟨z0, z1, z2, z3, z4⟩ := HKx.out _ bV
        have HBV := hid bV
        clear hlv HNY bV5 bV
        go_wp2_with fail
        go_loopw [23] (fun iv wr => ∃ z : Nat, z ≤ n ∧ iv = .int .i64 (z : Int) ∧ Below V5.heap.size V5 wr) (fun i _ => n - (intOf i).toNat)
        case atStart => exact ⟨0, Nat.zero_le _, rfl, Below.refl _ _⟩
        case round =>
          obtain ⟨z, hzn, rfl, bw⟩ := hrel
          have bV := HBV.out.trans (bw.mono HBV.out.size)
          obtain ⟨z0, z1, z2, z3, z4⟩ := HKx.out _ bV
          by_cases hlt : z < n
          · have hltI : (z : Int) < (n : Int) := by omega
            have hli : (0 : Int) ≤ (z : Int) ∧ (z : Int) < (n : Int) := by omega
            obtain ⟨ug, uc', u0, ux1, ux2, ux3, ue, _, uq0, uq1, uq2, uq3, uq⟩ := (Ls.below (fun h b => h.below b) HLU.out bw).at z (by rw [exps_len]; exact hlt)
            rw [exps_len] at ue
            simp only [Value.slice.injEq] at ue
            obtain ⟨rfl, -, rfl⟩ := ue
            obtain ⟨vg, vc', v0, vx1, vx2, vx3, ve, _, vq0, vq1, vq2, vq3, vq⟩ := (Ls.below (fun h b => h.below b) HLV.out bw).at z (by rw [exps_len]; exact hlt)
            rw [exps_len] at ve
            simp only [Value.slice.injEq] at ve
            obtain ⟨rfl, -, rfl⟩ := ve
            obtain ⟨rb, ro, rc', re, _, _, rq, _⟩ := (HRS.out.below bw).at z (by rw [HRL.out]; exact hlt)
            rw [HRL.out] at re
            simp only [Value.slice.injEq] at re
            obtain ⟨rfl, -, rfl⟩ := re
            have HTR := hid (show TxR (RZ[z]'(by rw [HRL.out]; exact hlt)) (expo S XF z S.length + expo S XQ z S.length) by
              have := HRT.out.is_ z (by rw [HRL.out]; exact hlt) (by rw [exps_len]; exact hlt)
              rw [exps_at, HADDX.out HSE.out z] at this
              exact this)
            rw [exps_at] at uq vq
            obtain ⟨u1, u2, u3, u4, u5, u6, u7, u8, us⟩ := uq.form
            simp only [Value.agg.injEq, Array.mk.injEq, List.cons.injEq, and_true] at us
            obtain ⟨rfl, rfl, rfl, rfl⟩ := us
            obtain ⟨w1, w2, w3, w4, w5, w6, w7, w8, ws⟩ := vq.form
            simp only [Value.agg.injEq, Array.mk.injEq, List.cons.injEq, and_true] at ws
            obtain ⟨rfl, rfl, rfl, rfl⟩ := ws
            have HUQ := hid uq
            have HVQ := hid vq
            clear uq vq
            generalize expo S XF z S.length = xf at *
            generalize expo S XQ z S.length = xq at *
            generalize RZ[z]'_ = rs at *
            have F0 : Below wr.heap.size wr wr.drew := (Below.refl _ _).drew
            have HKu := hid (fun (Y : World) (kz : Below wr.heap.size wr Y) => show (Y.cell? ⟨ug, z * 4, none⟩ = some (.bool u1) ∧ Y.cell? ⟨ug, z * 4 + 1, none⟩ = some (.slice u2 u3 u4) ∧ Y.cell? ⟨ug, z * 4 + 2, none⟩ = some (.bool u5) ∧ Y.cell? ⟨ug, z * 4 + 3, none⟩ = some (.slice u6 u7 u8) ∧ Y.cell? ⟨vg, z * 4, none⟩ = some (.bool w1) ∧ Y.cell? ⟨vg, z * 4 + 1, none⟩ = some (.slice w2 w3 w4) ∧ Y.cell? ⟨vg, z * 4 + 2, none⟩ = some (.bool w5) ∧ Y.cell? ⟨vg, z * 4 + 3, none⟩ = some (.slice w6 w7 w8) ∧ Y.cell? ⟨rb, ro + z, none⟩ = some (.string rs)) from ⟨ikc kz uq0, ikc kz uq1, ikc kz uq2, ikc kz uq3, ikc kz vq0, ikc kz vq1, ikc kz vq2, ikc kz vq3, ikc kz rq⟩)
            go_wp2_with fail
            go_region_held3 (fun Y => Y.cell? ⟨ug, z * 4, none⟩ = some (.bool u1) ∧ Y.cell? ⟨ug, z * 4 + 1, none⟩ = some (.slice u2 u3 u4) ∧ Y.cell? ⟨ug, z * 4 + 2, none⟩ = some (.bool u5) ∧ Y.cell? ⟨ug, z * 4 + 3, none⟩ = some (.slice u6 u7 u8) ∧ Y.cell? ⟨vg, z * 4, none⟩ = some (.bool w1) ∧ Y.cell? ⟨vg, z * 4 + 1, none⟩ = some (.slice w2 w3 w4) ∧ Y.cell? ⟨vg, z * 4 + 2, none⟩ = some (.bool w5) ∧ Y.cell? ⟨vg, z * 4 + 3, none⟩ = some (.slice w6 w7 w8) ∧ Y.cell? ⟨rb, ro + z, none⟩ = some (.string rs)) (first | exact HKu.out _ F0 | exact HKu.out _ F2 | exact HKu.out _ F1) (first
              | (have gk := F1; go_at_call 11; refine (t_text _ _ _ 13626 (by omega) n1).mono ?_; rintro e Y2 ⟨⟨st, rfl, hst⟩, bb⟩; have F2 := chain2 F1 bb; obtain rfl := TxR.inj hst HTR.out)
              | (go_at_call 10; refine (t_add _ _ _ xf xq 6810 (by omega) (HUQ.out.below F0) (HVQ.out.below F0)).mono ?_; rintro e Y1 ⟨v1, rfl, n1, bb⟩; have F1 := chain2 F0 bb))
            all_goals
              have BN := bw.trans (F2.mono bw.size)
              clear uq0 uq1 uq2 uq3 vq0 vq1 vq2 vq3 rq F0 F1 F2 HKu
              go_wp2_with fail
              go_roundw
              case rel => exact ⟨z + 1, by omega, by go_num, BN⟩
              case measure => simp [intOf]; omega
          · obtain rfl : z = n := by omega
            have BF := HWw.out _ bV
            clear hlt
            go_wp2_with fail
            go_ret
            exact ⟨by simp, BF⟩
end Go.Proofs.YtmoailbilnkfnaaGreatDoor
