/- result: the program's Linked. -/
import Derived.Test.YthhfphcneniniaaS16N
namespace Go.Proofs.Ythhfphcneniniaa
open Go.RowKit Go.MapKept
open Go.ChangeMaps (setBlock)
set_option linter.unusedVariables false
set_option maxRecDepth 100000
set_option linter.unusedSimpArgs false

set_option maxHeartbeats 12800000 in
theorem linked_any (w : World) (sa : Option Addr) (sc : Nat) (S : List Bl) (aa : Option Addr) (ac : Nat) (A : List Bool) (hs : Bks w (.slice sa S.length sc) S) (ha : Bols w (.slice aa A.length ac) A) :
    Calls Try.prog 4 #[.slice sa S.length sc, .slice aa A.length ac] w fun e w' => (∃ R, e = .returned (.bool R) ∧ LnR S A R) ∧ Below w.heap.size w w' := by
  have HS := hid hs
  have HA := hid ha
  obtain ⟨_, _, e1, sl, sm⟩ := hs.slice
  simp only [Value.slice.injEq] at e1
  obtain ⟨rfl, -, rfl⟩ := e1
  obtain ⟨_, _, e1, al, am⟩ := ha.slice
  simp only [Value.slice.injEq] at e1
  obtain ⟨rfl, -, rfl⟩ := e1
  unfold maxLen at sm am
  clear hs ha
  by_cases hl : A.length = S.length
  case neg =>
    have hl2 : ((A.length : Int) == (S.length : Int)) = false := by
      have : ¬ (A.length : Int) = (S.length : Int) := by omega
      simpa using this
    have HL := hid hl
    clear hl HS HA
    go_enter Try.func4, Try.ntmps4
    go_wp2
    go_ret
    exact ⟨⟨false, rfl, ⟨fun k => (by cases k), fun k => absurd k.1 HL.out⟩⟩, Below.refl _ _⟩
  have HL := hid hl
  rw [hl] at al
  simp only [hl] at HA ⊢
  clear hl
  have hmm := @run_makeMap Try.prog
  go_enter Try.func4, Try.ntmps4
  go_wp2
  clear hmm
  go_loopw [20] (fun i wr => ∃ k : Nat, k ≤ S.length ∧ i = .int .i64 (k : Int) ∧ Hid (Cnt wr w.heap.size (cntN Bl.seq S A k) ∧ Cnt wr (w.heap.size + 1) (cntN Bl.group S A k) ∧ Below w.heap.size w wr)) (fun i _ => S.length - (intOf i).toNat)
  case atStart =>
    refine ⟨0, Nat.zero_le _, rfl, hid ⟨?_, ?_, ?_⟩⟩
    · exact (Cnt.made w).below (ibel _ _)
    · have := Cnt.made (w.alloc (.map #[] 0))
      rwa [World.size_alloc] at this
    · exact (ibel w _).trans ((ibel _ _).mono (by simp))
  case round =>
    obtain ⟨k, hk, rfl, HC⟩ := hrel
    have BWX := HC.out.2.2
    by_cases hlt : k < S.length
    · obtain ⟨b, off, c, e, hat, hfit⟩ := (HS.out.below BWX).at k hlt
      simp only [Value.slice.injEq] at e
      obtain ⟨rfl, -, rfl⟩ := e
      have hkA : k < A.length := by rw [HL.out]; exact hlt
      obtain ⟨ab, aoff, acc, e, ga⟩ := (HA.out.below BWX).at k hkA
      simp only [Value.slice.injEq] at e
      obtain ⟨rfl, -, rfl⟩ := e
      have HAK := hid (List.getElem?_eq_getElem hkA)
      have HU1 := hid (fun (X : World) (hA : A[k]? = some true) (h : Cnt X w.heap.size (upd2 (cntN Bl.seq S A k) S[k].who S[k].seq (cntN Bl.seq S A k S[k].who S[k].seq + 1))) => show Cnt X w.heap.size (cntN Bl.seq S A (k + 1)) from by rw [← cntN_upd (f := Bl.seq) hlt hA (fun _ _ => rfl)]; exact h)
      have HU2 := hid (fun (X : World) (hA : A[k]? = some true) (h : Cnt X (w.heap.size + 1) (upd2 (cntN Bl.group S A k) S[k].who S[k].group (cntN Bl.group S A k S[k].who S[k].group + 1))) => show Cnt X (w.heap.size + 1) (cntN Bl.group S A (k + 1)) from by rw [← cntN_upd (f := Bl.group) hlt hA (fun _ _ => rfl)]; exact h)
      have HU3 := hid (fun (hA : A[k]? ≠ some true) => show Cnt wr w.heap.size (cntN Bl.seq S A (k + 1)) ∧ Cnt wr (w.heap.size + 1) (cntN Bl.group S A (k + 1)) from by rw [cntN_no hA, cntN_no hA]; exact ⟨HC.out.1, HC.out.2.1⟩)
      generalize S[k] = s at *
      generalize A[k] = t at *
      clear hkA
      obtain ⟨bwho, bseq, bzone, bbuy, bprice, bqa, bqc, bqty, bparent, bgroup⟩ := s
      obtain ⟨g0, g1, g2, g3, g4, g5, g6, g7⟩ := hat
      simp only at g0 g1 g2 g3 g4 g5 g6 g7
      have HWH := hid hfit.who
      have HWseq := hid hfit.seq.wf
      have HWparent := hid hfit.parent.wf
      have HWgroup := hid hfit.group.wf
      simp only at HWH HWseq HWparent HWgroup
      have bA := ibel wr (Obj.cells #[.string bwho, .int .i64 bseq, .int .i64 bzone, .bool bbuy, .int .i64 bprice, .slice bqa bqty.length bqc, .int .i64 bparent, .int .i64 bgroup] 27)
      have xA := inew wr (Obj.cells #[.string bwho, .int .i64 bseq, .int .i64 bzone, .bool bbuy, .int .i64 bprice, .slice bqa bqty.length bqc, .int .i64 bparent, .int .i64 bgroup] 27)
      have ga := ikc bA ga
      have z0 := ibx xA 0 _ rfl
      have z1 := ibx xA 1 _ rfl
      have z2 := ibx xA 2 _ rfl
      have z3 := ibx xA 3 _ rfl
      have z4 := ibx xA 4 _ rfl
      have z5 := ibx xA 5 _ rfl
      have z6 := ibx xA 6 _ rfl
      have z7 := ibx xA 7 _ rfl
      simp only at HU1 HU2
      obtain ⟨n1, HN1⟩ : ∃ n, Hid (cntN Bl.seq S A k bwho bseq = n) := ⟨_, hid rfl⟩
      obtain ⟨n2, HN2⟩ : ∃ n, Hid (cntN Bl.group S A k bwho bgroup = n) := ⟨_, hid rfl⟩
      rw [HN1.out] at HU1
      rw [HN2.out] at HU2
      have q1 := cntN_le Bl.seq S A k bwho bseq
      have q2 := cntN_le Bl.group S A k bwho bgroup
      rw [HN1.out] at q1
      rw [HN2.out] at q2
      have w1 : wrap64 (n1 + 1) = n1 + 1 := by simp only [wrap64]; omega
      have w2 : wrap64 (n2 + 1) = n2 + 1 := by simp only [wrap64]; omega
      have w3 : IntKind.i64.wrap (n1 + 1) = n1 + 1 := by simp [IntKind.wrap, IntKind.bits, IntKind.signed]; omega
      have w4 : IntKind.i64.wrap (n2 + 1) = n2 + 1 := by simp [IntKind.wrap, IntKind.bits, IntKind.signed]; omega
      have hbl : w.heap.size + 1 < wr.heap.size := HC.out.2.1.lt
      have HD1 := hid (HC.out.1.below bA)
      have HD2 := hid (HC.out.2.1.below bA)
      have HBW := hid (BWX.trans (bA.mono BWX.size))
      have HXA := hid xA
      have HLT := hid (show wr.heap.size < (wr.alloc (Obj.cells #[.string bwho, .int .i64 bseq, .int .i64 bzone, .bool bbuy, .int .i64 bprice, .slice bqa bqty.length bqc, .int .i64 bparent, .int .i64 bgroup] 27)).heap.size by simp)
      clear q1 q2 hfit
      cases t
      · have HE := hid (HU3.out (by rw [HAK.out]; simp))
        have HB2 := hid (show Below w.heap.size w (wr.alloc (Obj.cells #[.string bwho, .int .i64 bseq, .int .i64 bzone, .bool bbuy, .int .i64 bprice, .slice bqa bqty.length bqc, .int .i64 bparent, .int .i64 bgroup] 27)) from HBW.out)
        have HE2 := hid (show Cnt (wr.alloc (Obj.cells #[.string bwho, .int .i64 bseq, .int .i64 bzone, .bool bbuy, .int .i64 bprice, .slice bqa bqty.length bqc, .int .i64 bparent, .int .i64 bgroup] 27)) w.heap.size (cntN Bl.seq S A (k + 1)) ∧ Cnt (wr.alloc (Obj.cells #[.string bwho, .int .i64 bseq, .int .i64 bzone, .bool bbuy, .int .i64 bprice, .slice bqa bqty.length bqc, .int .i64 bparent, .int .i64 bgroup] 27)) (w.heap.size + 1) (cntN Bl.group S A (k + 1)) from ⟨HE.out.1.below bA, HE.out.2.below bA⟩)
        clear HU1 HU2 HU3 HN1 HN2 HD1 HD2 HXA HLT bA xA z0 z1 z2 z3 z4 z5 z6 z7
        go_wp2_with fail
        go_roundw
        case rel => exact ⟨k + 1, by omega, by go_num, hid ⟨HE2.out.1, HE2.out.2, HB2.out⟩⟩
        case measure => simp [intOf]; omega
      · have HU1 := hid (fun X => HU1.out X HAK.out)
        have HU2 := hid (fun X => HU2.out X HAK.out)
        clear HU3 HAK bA xA BWX HC
        go_wp2_with fail
        generalize wr.heap.size = bl at *
        generalize wr.alloc (Obj.cells #[.string bwho, .int .i64 bseq, .int .i64 bzone, .bool bbuy, .int .i64 bprice, .slice bqa bqty.length bqc, .int .i64 bparent, .int .i64 bgroup] 27) = W at *
        refine wp_region_noPanic ?_
        refine wp_region_held_drew (S := fun Y => True) (by kernel_rfl) (trivial) (fun hHeld => ?_)
        refine wpAnyH_take (i := 0) (v := ?_) rfl (by kernel_rfl) (by kernel_rfl) (by kernel_rfl) (fun _ _ _ h => h) (Or.inl ⟨by rfl, ?_⟩) (by assumption) ?_
        rotate_left
        · intro w hSw
          (try dsimp only at hSw)
          go_simp
          (try with_reducible rfl)
        (try simp only [List.getElem_toArray, List.getElem_cons_zero, List.getElem_cons_succ, Act.put, List.setIfInBounds_toArray, List.set_cons_zero, List.set_cons_succ])
        refine wpAnyH_ready (rs := [1]) (by kernel_rfl) (by simp) ?_
        refine AllReadyH.cons (o := _) rfl (fun Kc hKc => ?_) AllReadyH.nil
        go_simp
        refine hKc.out _ _ (trivial) (fun hHeld => ?_)
        clear hKc Kc
        (try simp only [List.getElem_toArray, List.getElem_cons_zero, List.getElem_cons_succ, Act.put, List.setIfInBounds_toArray, List.set_cons_zero, List.set_cons_succ])
        refine wpAnyH_ready (rs := [2]) (by kernel_rfl) (by simp) ?_
        refine AllReadyH.cons (o := _) rfl (fun Kc hKc => ?_) AllReadyH.nil
        go_simp
        (go_at_call 6; refine (blockName_any _ ⟨bwho, bseq, bzone, bbuy, bprice, bqa, bqc, bqty, bparent, bgroup⟩).mono ?_; rintro e Yp ⟨rfl, bb⟩; have Fp : Below W.heap.size W Yp := ⟨bb.os, bb.tape, bb.output, bb.size, bb.block⟩; obtain ⟨stp, wap, wbp, mep, lap, lbp, esp, map, mbp, cnp⟩ := (HD1.out.below Fp).bump bwho bseq HWH.out HWseq.out (n1 + 1); rw [HN1.out] at mep lap lbp; have FHp := hid Fp; have MBp := hid mbp; have CNp := hid cnp; clear map mbp cnp bb Fp)
        dsimp only
        refine hKc.out _ _ (trivial) (fun hHeld => ?_)
        clear hKc Kc
        (try simp only [List.getElem_toArray, List.getElem_cons_zero, List.getElem_cons_succ, Act.put, List.setIfInBounds_toArray, List.set_cons_zero, List.set_cons_succ])
        refine wpAnyH_ready (rs := [3, 5]) (by kernel_rfl) (by simp) ?_
        refine AllReadyH.cons (o := _) rfl (fun Kc hKc => ?_) (AllReadyH.cons (o := _) rfl (fun Kc hKc => ?_) (AllReadyH.nil))
        · go_simp
          refine hKc.out _ _ (trivial) (fun hHeld => ?_)
          clear hKc Kc
          (try simp only [List.getElem_toArray, List.getElem_cons_zero, List.getElem_cons_succ, Act.put, List.setIfInBounds_toArray, List.set_cons_zero, List.set_cons_succ])
          refine wpAnyH_take (i := 4) (v := ?_) rfl (by kernel_rfl) (by kernel_rfl) (by kernel_rfl) (fun _ _ _ h => h) (Or.inl ⟨by rfl, ?_⟩) (by assumption) ?_
          rotate_left
          · intro w hSw
            (try dsimp only at hSw)
            go_simp
            (try with_reducible rfl)
          (try simp only [List.getElem_toArray, List.getElem_cons_zero, List.getElem_cons_succ, Act.put, List.setIfInBounds_toArray, List.set_cons_zero, List.set_cons_succ])
          refine wpAnyH_ready (rs := [5]) (by kernel_rfl) (by simp) ?_
          refine AllReadyH.cons (o := _) rfl (fun Kc hKc => ?_) AllReadyH.nil
          go_simp
          refine hKc.out _ _ (trivial) (fun hHeld => ?_)
          clear hKc Kc
          (try simp only [List.getElem_toArray, List.getElem_cons_zero, List.getElem_cons_succ, Act.put, List.setIfInBounds_toArray, List.set_cons_zero, List.set_cons_succ])
          refine wpAnyH_take (i := 6) (v := ?_) rfl (by kernel_rfl) (by kernel_rfl) (by kernel_rfl) (fun _ _ _ h => h) (Or.inl ⟨by rfl, ?_⟩) (by assumption) ?_
          rotate_left
          · intro w hSw
            (try dsimp only at hSw)
            go_simp
            (try with_reducible rfl)
          (try simp only [List.getElem_toArray, List.getElem_cons_zero, List.getElem_cons_succ, Act.put, List.setIfInBounds_toArray, List.set_cons_zero, List.set_cons_succ])
          refine wpAnyH_ready (rs := [7]) (by kernel_rfl) (by simp) ?_
          refine AllReadyH.cons (o := _) rfl (fun Kc hKc => ?_) AllReadyH.nil
          go_simp
          refine hKc.out _ _ (trivial) (fun hHeld => ?_)
          clear hKc Kc
          (try simp only [List.getElem_toArray, List.getElem_cons_zero, List.getElem_cons_succ, Act.put, List.setIfInBounds_toArray, List.set_cons_zero, List.set_cons_succ])
          refine wpAnyH_done (by kernel_rfl) ?_ _
          refine NoPanic.normal ?_
          have HBP := hid (show Below w.heap.size w wbp from MBp.out.below (HBW.out.trans (FHp.out.mono HBW.out.size)) (by omega))
          have HDP := hid (HU1.out _ CNp.out)
          have HDQ := hid (MBp.out.cnt (HD2.out.below FHp.out) (by omega))
          have HZZ := (MBp.out.block bl (by omega)).trans ((FHp.out.block bl HLT.out).trans HXA.out)
          clear mep lap lbp esp MBp CNp FHp z0 z1 z2 z3 z4 z5 z6 z7
          have z0 := ibx HZZ 0 _ rfl
          have z1 := ibx HZZ 1 _ rfl
          have z2 := ibx HZZ 2 _ rfl
          have z3 := ibx HZZ 3 _ rfl
          have z4 := ibx HZZ 4 _ rfl
          have z5 := ibx HZZ 5 _ rfl
          have z6 := ibx HZZ 6 _ rfl
          have z7 := ibx HZZ 7 _ rfl
          clear HZZ
          go_wp2_with fail
          refine wp_region_noPanic ?_
          refine wp_region_held_drew (S := fun Y => True) (by kernel_rfl) (trivial) (fun hHeld => ?_)
          refine wpAnyH_take (i := 0) (v := ?_) rfl (by kernel_rfl) (by kernel_rfl) (by kernel_rfl) (fun _ _ _ h => h) (Or.inl ⟨by rfl, ?_⟩) (by assumption) ?_
          rotate_left
          · intro w hSw
            (try dsimp only at hSw)
            go_simp
            (try with_reducible rfl)
          (try simp only [List.getElem_toArray, List.getElem_cons_zero, List.getElem_cons_succ, Act.put, List.setIfInBounds_toArray, List.set_cons_zero, List.set_cons_succ])
          refine wpAnyH_ready (rs := [1]) (by kernel_rfl) (by simp) ?_
          refine AllReadyH.cons (o := _) rfl (fun Kc hKc => ?_) AllReadyH.nil
          go_simp
          refine hKc.out _ _ (trivial) (fun hHeld => ?_)
          clear hKc Kc
          (try simp only [List.getElem_toArray, List.getElem_cons_zero, List.getElem_cons_succ, Act.put, List.setIfInBounds_toArray, List.set_cons_zero, List.set_cons_succ])
          refine wpAnyH_ready (rs := [2]) (by kernel_rfl) (by simp) ?_
          refine AllReadyH.cons (o := _) rfl (fun Kc hKc => ?_) AllReadyH.nil
          go_simp
          (go_at_call 7; refine (groupName_any _ ⟨bwho, bseq, bzone, bbuy, bprice, bqa, bqc, bqty, bparent, bgroup⟩).mono ?_; rintro e Yq ⟨rfl, bb⟩; have Fq : Below wbp.heap.size wbp Yq := ⟨bb.os, bb.tape, bb.output, bb.size, bb.block⟩; obtain ⟨stq, waq, wbq, meq, laq, lbq, esq, maq, mbq, cnq⟩ := (HDQ.out.below Fq).bump bwho bgroup HWH.out HWgroup.out (n2 + 1); rw [HN2.out] at meq laq lbq; have FHq := hid Fq; have MBq := hid mbq; have CNq := hid cnq; clear maq mbq cnq bb Fq)
          dsimp only
          refine hKc.out _ _ (trivial) (fun hHeld => ?_)
          clear hKc Kc
          (try simp only [List.getElem_toArray, List.getElem_cons_zero, List.getElem_cons_succ, Act.put, List.setIfInBounds_toArray, List.set_cons_zero, List.set_cons_succ])
          refine wpAnyH_ready (rs := [3, 5]) (by kernel_rfl) (by simp) ?_
          refine AllReadyH.cons (o := _) rfl (fun Kc hKc => ?_) (AllReadyH.cons (o := _) rfl (fun Kc hKc => ?_) (AllReadyH.nil))
          · go_simp
            refine hKc.out _ _ (trivial) (fun hHeld => ?_)
            clear hKc Kc
            (try simp only [List.getElem_toArray, List.getElem_cons_zero, List.getElem_cons_succ, Act.put, List.setIfInBounds_toArray, List.set_cons_zero, List.set_cons_succ])
            refine wpAnyH_take (i := 4) (v := ?_) rfl (by kernel_rfl) (by kernel_rfl) (by kernel_rfl) (fun _ _ _ h => h) (Or.inl ⟨by rfl, ?_⟩) (by assumption) ?_
            rotate_left
            · intro w hSw
              (try dsimp only at hSw)
              go_simp
              (try with_reducible rfl)
            (try simp only [List.getElem_toArray, List.getElem_cons_zero, List.getElem_cons_succ, Act.put, List.setIfInBounds_toArray, List.set_cons_zero, List.set_cons_succ])
            refine wpAnyH_ready (rs := [5]) (by kernel_rfl) (by simp) ?_
            refine AllReadyH.cons (o := _) rfl (fun Kc hKc => ?_) AllReadyH.nil
            go_simp
            refine hKc.out _ _ (trivial) (fun hHeld => ?_)
            clear hKc Kc
            (try simp only [List.getElem_toArray, List.getElem_cons_zero, List.getElem_cons_succ, Act.put, List.setIfInBounds_toArray, List.set_cons_zero, List.set_cons_succ])
            refine wpAnyH_take (i := 6) (v := ?_) rfl (by kernel_rfl) (by kernel_rfl) (by kernel_rfl) (fun _ _ _ h => h) (Or.inl ⟨by rfl, ?_⟩) (by assumption) ?_
            rotate_left
            · intro w hSw
              (try dsimp only at hSw)
              go_simp
              (try with_reducible rfl)
            (try simp only [List.getElem_toArray, List.getElem_cons_zero, List.getElem_cons_succ, Act.put, List.setIfInBounds_toArray, List.set_cons_zero, List.set_cons_succ])
            refine wpAnyH_ready (rs := [7]) (by kernel_rfl) (by simp) ?_
            refine AllReadyH.cons (o := _) rfl (fun Kc hKc => ?_) AllReadyH.nil
            go_simp
            refine hKc.out _ _ (trivial) (fun hHeld => ?_)
            clear hKc Kc
            (try simp only [List.getElem_toArray, List.getElem_cons_zero, List.getElem_cons_succ, Act.put, List.setIfInBounds_toArray, List.set_cons_zero, List.set_cons_succ])
            refine wpAnyH_done (by kernel_rfl) ?_ _
            refine NoPanic.normal ?_
            have HCE := hid (show Cnt wbq w.heap.size (cntN Bl.seq S A (k + 1)) ∧ Cnt wbq (w.heap.size + 1) (cntN Bl.group S A (k + 1)) ∧ Below w.heap.size w wbq from ⟨MBq.out.cnt (HDP.out.below FHq.out) (by omega), HU2.out _ CNq.out, MBq.out.below (HBP.out.trans (FHq.out.mono HBP.out.size)) (by omega)⟩)
            clear meq laq lbq esq MBq CNq FHq
            go_wp2_with fail
            go_roundw
            case rel => exact ⟨k + 1, by omega, by go_num, HCE⟩
            case measure => simp [intOf]; omega
          · go_simp
            refine hKc.out _ _ (trivial) (fun hHeld => ?_)
            clear hKc Kc
            (try simp only [List.getElem_toArray, List.getElem_cons_zero, List.getElem_cons_succ, Act.put, List.setIfInBounds_toArray, List.set_cons_zero, List.set_cons_succ])
            refine wpAnyH_take (i := 6) (v := ?_) rfl (by kernel_rfl) (by kernel_rfl) (by kernel_rfl) (fun _ _ _ h => h) (Or.inl ⟨by rfl, ?_⟩) (by assumption) ?_
            rotate_left
            · intro w hSw
              (try dsimp only at hSw)
              go_simp
              (try with_reducible rfl)
            (try simp only [List.getElem_toArray, List.getElem_cons_zero, List.getElem_cons_succ, Act.put, List.setIfInBounds_toArray, List.set_cons_zero, List.set_cons_succ])
            refine wpAnyH_ready (rs := [3]) (by kernel_rfl) (by simp) ?_
            refine AllReadyH.cons (o := _) rfl (fun Kc hKc => ?_) AllReadyH.nil
            go_simp
            refine hKc.out _ _ (trivial) (fun hHeld => ?_)
            clear hKc Kc
            (try simp only [List.getElem_toArray, List.getElem_cons_zero, List.getElem_cons_succ, Act.put, List.setIfInBounds_toArray, List.set_cons_zero, List.set_cons_succ])
            refine wpAnyH_take (i := 4) (v := ?_) rfl (by kernel_rfl) (by kernel_rfl) (by kernel_rfl) (fun _ _ _ h => h) (Or.inl ⟨by rfl, ?_⟩) (by assumption) ?_
            rotate_left
            · intro w hSw
              (try dsimp only at hSw)
              go_simp
              (try with_reducible rfl)
            (try simp only [List.getElem_toArray, List.getElem_cons_zero, List.getElem_cons_succ, Act.put, List.setIfInBounds_toArray, List.set_cons_zero, List.set_cons_succ])
            refine wpAnyH_ready (rs := [7]) (by kernel_rfl) (by simp) ?_
            refine AllReadyH.cons (o := _) rfl (fun Kc hKc => ?_) AllReadyH.nil
            go_simp
            refine hKc.out _ _ (trivial) (fun hHeld => ?_)
            clear hKc Kc
            (try simp only [List.getElem_toArray, List.getElem_cons_zero, List.getElem_cons_succ, Act.put, List.setIfInBounds_toArray, List.set_cons_zero, List.set_cons_succ])
            refine wpAnyH_done (by kernel_rfl) ?_ _
            refine NoPanic.normal ?_
            have HCE := hid (show Cnt wbq w.heap.size (cntN Bl.seq S A (k + 1)) ∧ Cnt wbq (w.heap.size + 1) (cntN Bl.group S A (k + 1)) ∧ Below w.heap.size w wbq from ⟨MBq.out.cnt (HDP.out.below FHq.out) (by omega), HU2.out _ CNq.out, MBq.out.below (HBP.out.trans (FHq.out.mono HBP.out.size)) (by omega)⟩)
            clear meq laq lbq esq MBq CNq FHq
            go_wp2_with fail
            go_roundw
            case rel => exact ⟨k + 1, by omega, by go_num, HCE⟩
            case measure => simp [intOf]; omega
        · go_simp
          refine hKc.out _ _ (trivial) (fun hHeld => ?_)
          clear hKc Kc
          (try simp only [List.getElem_toArray, List.getElem_cons_zero, List.getElem_cons_succ, Act.put, List.setIfInBounds_toArray, List.set_cons_zero, List.set_cons_succ])
          refine wpAnyH_take (i := 6) (v := ?_) rfl (by kernel_rfl) (by kernel_rfl) (by kernel_rfl) (fun _ _ _ h => h) (Or.inl ⟨by rfl, ?_⟩) (by assumption) ?_
          rotate_left
          · intro w hSw
            (try dsimp only at hSw)
            go_simp
            (try with_reducible rfl)
          (try simp only [List.getElem_toArray, List.getElem_cons_zero, List.getElem_cons_succ, Act.put, List.setIfInBounds_toArray, List.set_cons_zero, List.set_cons_succ])
          refine wpAnyH_ready (rs := [3]) (by kernel_rfl) (by simp) ?_
          refine AllReadyH.cons (o := _) rfl (fun Kc hKc => ?_) AllReadyH.nil
          go_simp
          refine hKc.out _ _ (trivial) (fun hHeld => ?_)
          clear hKc Kc
          (try simp only [List.getElem_toArray, List.getElem_cons_zero, List.getElem_cons_succ, Act.put, List.setIfInBounds_toArray, List.set_cons_zero, List.set_cons_succ])
          refine wpAnyH_take (i := 4) (v := ?_) rfl (by kernel_rfl) (by kernel_rfl) (by kernel_rfl) (fun _ _ _ h => h) (Or.inl ⟨by rfl, ?_⟩) (by assumption) ?_
          rotate_left
          · intro w hSw
            (try dsimp only at hSw)
            go_simp
            (try with_reducible rfl)
          (try simp only [List.getElem_toArray, List.getElem_cons_zero, List.getElem_cons_succ, Act.put, List.setIfInBounds_toArray, List.set_cons_zero, List.set_cons_succ])
          refine wpAnyH_ready (rs := [7]) (by kernel_rfl) (by simp) ?_
          refine AllReadyH.cons (o := _) rfl (fun Kc hKc => ?_) AllReadyH.nil
          go_simp
          refine hKc.out _ _ (trivial) (fun hHeld => ?_)
          clear hKc Kc
          (try simp only [List.getElem_toArray, List.getElem_cons_zero, List.getElem_cons_succ, Act.put, List.setIfInBounds_toArray, List.set_cons_zero, List.set_cons_succ])
          refine wpAnyH_done (by kernel_rfl) ?_ _
          refine NoPanic.normal ?_
          have HBP := hid (show Below w.heap.size w wbp from MBp.out.below (HBW.out.trans (FHp.out.mono HBW.out.size)) (by omega))
          have HDP := hid (HU1.out _ CNp.out)
          have HDQ := hid (MBp.out.cnt (HD2.out.below FHp.out) (by omega))
          have HZZ := (MBp.out.block bl (by omega)).trans ((FHp.out.block bl HLT.out).trans HXA.out)
          clear mep lap lbp esp MBp CNp FHp z0 z1 z2 z3 z4 z5 z6 z7
          have z0 := ibx HZZ 0 _ rfl
          have z1 := ibx HZZ 1 _ rfl
          have z2 := ibx HZZ 2 _ rfl
          have z3 := ibx HZZ 3 _ rfl
          have z4 := ibx HZZ 4 _ rfl
          have z5 := ibx HZZ 5 _ rfl
          have z6 := ibx HZZ 6 _ rfl
          have z7 := ibx HZZ 7 _ rfl
          clear HZZ
          go_wp2_with fail
          refine wp_region_noPanic ?_
          refine wp_region_held_drew (S := fun Y => True) (by kernel_rfl) (trivial) (fun hHeld => ?_)
          refine wpAnyH_take (i := 0) (v := ?_) rfl (by kernel_rfl) (by kernel_rfl) (by kernel_rfl) (fun _ _ _ h => h) (Or.inl ⟨by rfl, ?_⟩) (by assumption) ?_
          rotate_left
          · intro w hSw
            (try dsimp only at hSw)
            go_simp
            (try with_reducible rfl)
          (try simp only [List.getElem_toArray, List.getElem_cons_zero, List.getElem_cons_succ, Act.put, List.setIfInBounds_toArray, List.set_cons_zero, List.set_cons_succ])
          refine wpAnyH_ready (rs := [1]) (by kernel_rfl) (by simp) ?_
          refine AllReadyH.cons (o := _) rfl (fun Kc hKc => ?_) AllReadyH.nil
          go_simp
          refine hKc.out _ _ (trivial) (fun hHeld => ?_)
          clear hKc Kc
          (try simp only [List.getElem_toArray, List.getElem_cons_zero, List.getElem_cons_succ, Act.put, List.setIfInBounds_toArray, List.set_cons_zero, List.set_cons_succ])
          refine wpAnyH_ready (rs := [2]) (by kernel_rfl) (by simp) ?_
          refine AllReadyH.cons (o := _) rfl (fun Kc hKc => ?_) AllReadyH.nil
          go_simp
          (go_at_call 7; refine (groupName_any _ ⟨bwho, bseq, bzone, bbuy, bprice, bqa, bqc, bqty, bparent, bgroup⟩).mono ?_; rintro e Yq ⟨rfl, bb⟩; have Fq : Below wbp.heap.size wbp Yq := ⟨bb.os, bb.tape, bb.output, bb.size, bb.block⟩; obtain ⟨stq, waq, wbq, meq, laq, lbq, esq, maq, mbq, cnq⟩ := (HDQ.out.below Fq).bump bwho bgroup HWH.out HWgroup.out (n2 + 1); rw [HN2.out] at meq laq lbq; have FHq := hid Fq; have MBq := hid mbq; have CNq := hid cnq; clear maq mbq cnq bb Fq)
          dsimp only
          refine hKc.out _ _ (trivial) (fun hHeld => ?_)
          clear hKc Kc
          (try simp only [List.getElem_toArray, List.getElem_cons_zero, List.getElem_cons_succ, Act.put, List.setIfInBounds_toArray, List.set_cons_zero, List.set_cons_succ])
          refine wpAnyH_ready (rs := [3, 5]) (by kernel_rfl) (by simp) ?_
          refine AllReadyH.cons (o := _) rfl (fun Kc hKc => ?_) (AllReadyH.cons (o := _) rfl (fun Kc hKc => ?_) (AllReadyH.nil))
          · go_simp
            refine hKc.out _ _ (trivial) (fun hHeld => ?_)
            clear hKc Kc
            (try simp only [List.getElem_toArray, List.getElem_cons_zero, List.getElem_cons_succ, Act.put, List.setIfInBounds_toArray, List.set_cons_zero, List.set_cons_succ])
            refine wpAnyH_take (i := 4) (v := ?_) rfl (by kernel_rfl) (by kernel_rfl) (by kernel_rfl) (fun _ _ _ h => h) (Or.inl ⟨by rfl, ?_⟩) (by assumption) ?_
            rotate_left
            · intro w hSw
              (try dsimp only at hSw)
              go_simp
              (try with_reducible rfl)
            (try simp only [List.getElem_toArray, List.getElem_cons_zero, List.getElem_cons_succ, Act.put, List.setIfInBounds_toArray, List.set_cons_zero, List.set_cons_succ])
            refine wpAnyH_ready (rs := [5]) (by kernel_rfl) (by simp) ?_
            refine AllReadyH.cons (o := _) rfl (fun Kc hKc => ?_) AllReadyH.nil
            go_simp
            refine hKc.out _ _ (trivial) (fun hHeld => ?_)
            clear hKc Kc
            (try simp only [List.getElem_toArray, List.getElem_cons_zero, List.getElem_cons_succ, Act.put, List.setIfInBounds_toArray, List.set_cons_zero, List.set_cons_succ])
            refine wpAnyH_take (i := 6) (v := ?_) rfl (by kernel_rfl) (by kernel_rfl) (by kernel_rfl) (fun _ _ _ h => h) (Or.inl ⟨by rfl, ?_⟩) (by assumption) ?_
            rotate_left
            · intro w hSw
              (try dsimp only at hSw)
              go_simp
              (try with_reducible rfl)
            (try simp only [List.getElem_toArray, List.getElem_cons_zero, List.getElem_cons_succ, Act.put, List.setIfInBounds_toArray, List.set_cons_zero, List.set_cons_succ])
            refine wpAnyH_ready (rs := [7]) (by kernel_rfl) (by simp) ?_
            refine AllReadyH.cons (o := _) rfl (fun Kc hKc => ?_) AllReadyH.nil
            go_simp
            refine hKc.out _ _ (trivial) (fun hHeld => ?_)
            clear hKc Kc
            (try simp only [List.getElem_toArray, List.getElem_cons_zero, List.getElem_cons_succ, Act.put, List.setIfInBounds_toArray, List.set_cons_zero, List.set_cons_succ])
            refine wpAnyH_done (by kernel_rfl) ?_ _
            refine NoPanic.normal ?_
            have HCE := hid (show Cnt wbq w.heap.size (cntN Bl.seq S A (k + 1)) ∧ Cnt wbq (w.heap.size + 1) (cntN Bl.group S A (k + 1)) ∧ Below w.heap.size w wbq from ⟨MBq.out.cnt (HDP.out.below FHq.out) (by omega), HU2.out _ CNq.out, MBq.out.below (HBP.out.trans (FHq.out.mono HBP.out.size)) (by omega)⟩)
            clear meq laq lbq esq MBq CNq FHq
            go_wp2_with fail
            go_roundw
            case rel => exact ⟨k + 1, by omega, by go_num, HCE⟩
            case measure => simp [intOf]; omega
          · go_simp
            refine hKc.out _ _ (trivial) (fun hHeld => ?_)
            clear hKc Kc
            (try simp only [List.getElem_toArray, List.getElem_cons_zero, List.getElem_cons_succ, Act.put, List.setIfInBounds_toArray, List.set_cons_zero, List.set_cons_succ])
            refine wpAnyH_take (i := 6) (v := ?_) rfl (by kernel_rfl) (by kernel_rfl) (by kernel_rfl) (fun _ _ _ h => h) (Or.inl ⟨by rfl, ?_⟩) (by assumption) ?_
            rotate_left
            · intro w hSw
              (try dsimp only at hSw)
              go_simp
              (try with_reducible rfl)
            (try simp only [List.getElem_toArray, List.getElem_cons_zero, List.getElem_cons_succ, Act.put, List.setIfInBounds_toArray, List.set_cons_zero, List.set_cons_succ])
            refine wpAnyH_ready (rs := [3]) (by kernel_rfl) (by simp) ?_
            refine AllReadyH.cons (o := _) rfl (fun Kc hKc => ?_) AllReadyH.nil
            go_simp
            refine hKc.out _ _ (trivial) (fun hHeld => ?_)
            clear hKc Kc
            (try simp only [List.getElem_toArray, List.getElem_cons_zero, List.getElem_cons_succ, Act.put, List.setIfInBounds_toArray, List.set_cons_zero, List.set_cons_succ])
            refine wpAnyH_take (i := 4) (v := ?_) rfl (by kernel_rfl) (by kernel_rfl) (by kernel_rfl) (fun _ _ _ h => h) (Or.inl ⟨by rfl, ?_⟩) (by assumption) ?_
            rotate_left
            · intro w hSw
              (try dsimp only at hSw)
              go_simp
              (try with_reducible rfl)
            (try simp only [List.getElem_toArray, List.getElem_cons_zero, List.getElem_cons_succ, Act.put, List.setIfInBounds_toArray, List.set_cons_zero, List.set_cons_succ])
            refine wpAnyH_ready (rs := [7]) (by kernel_rfl) (by simp) ?_
            refine AllReadyH.cons (o := _) rfl (fun Kc hKc => ?_) AllReadyH.nil
            go_simp
            refine hKc.out _ _ (trivial) (fun hHeld => ?_)
            clear hKc Kc
            (try simp only [List.getElem_toArray, List.getElem_cons_zero, List.getElem_cons_succ, Act.put, List.setIfInBounds_toArray, List.set_cons_zero, List.set_cons_succ])
            refine wpAnyH_done (by kernel_rfl) ?_ _
            refine NoPanic.normal ?_
            have HCE := hid (show Cnt wbq w.heap.size (cntN Bl.seq S A (k + 1)) ∧ Cnt wbq (w.heap.size + 1) (cntN Bl.group S A (k + 1)) ∧ Below w.heap.size w wbq from ⟨MBq.out.cnt (HDP.out.below FHq.out) (by omega), HU2.out _ CNq.out, MBq.out.below (HBP.out.trans (FHq.out.mono HBP.out.size)) (by omega)⟩)
            clear meq laq lbq esq MBq CNq FHq
            go_wp2_with fail
            go_roundw
            case rel => exact ⟨k + 1, by omega, by go_num, HCE⟩
            case measure => simp [intOf]; omega

    · obtain rfl : k = S.length := by omega
      have HC2 := hid HC.out
      clear HC BWX
      generalize hW1 : wr = W1 at *
      clear hW1
      go_wp2_with fail
      go_loopw [46] (fun i wq => ∃ k : Nat, k ≤ S.length ∧ i = .int .i64 (k : Int) ∧ Hid ((∀ j (h : j < S.length), j < k → A[j]? = some true → lkd S A S[j] j) ∧ Below W1.heap.size W1 wq)) (fun i _ => S.length - (intOf i).toNat)
      case atStart => exact ⟨0, Nat.zero_le _, rfl, hid ⟨fun j _ h => absurd h (Nat.not_lt_zero _), Below.refl _ _⟩⟩
      case round =>
        obtain ⟨k, hk, rfl, HI⟩ := hrel
        have BWX := HC2.out.2.2.trans (HI.out.2.mono HC2.out.2.2.size)
        by_cases hlt : k < S.length
        · obtain ⟨b, off, c, e, hat, hfit⟩ := (HS.out.below BWX).at k hlt
          simp only [Value.slice.injEq] at e
          obtain ⟨rfl, -, rfl⟩ := e
          have hkA : k < A.length := by rw [HL.out]; exact hlt
          obtain ⟨ab, aoff, acc, e, ga⟩ := (HA.out.below BWX).at k hkA
          simp only [Value.slice.injEq] at e
          obtain ⟨rfl, -, rfl⟩ := e
          have HAK := hid (List.getElem?_eq_getElem hkA)
          have HYE := hid (fun (h : A[k]? = some true → lkd S A S[k] k) => show ∀ j (h : j < S.length), j < k + 1 → A[j]? = some true → lkd S A S[j] j from fun j hj hjk => by
            by_cases hjj : j < k
            · exact HI.out.1 j hj hjj
            · obtain rfl : j = k := by omega
              exact h)
          have HNO := hid (fun (h : A[k]? = some true ∧ ¬ lkd S A S[k] k) => show LnR S A false from ⟨fun q => (by cases q), fun q => absurd (q.2 k hlt h.1) h.2⟩)
          have HLK := hid (fun (hA : A[k]? = some true) => lkd_iff hlt hA)
          generalize S[k] = s at *
          generalize A[k] = t at *
          clear hkA
          obtain ⟨bwho, bseq, bzone, bbuy, bprice, bqa, bqc, bqty, bparent, bgroup⟩ := s
          obtain ⟨g0, g1, g2, g3, g4, g5, g6, g7⟩ := hat
          simp only at g0 g1 g2 g3 g4 g5 g6 g7
          have HWH := hid hfit.who
          have HWseq := hid hfit.seq.wf
          have HWparent := hid hfit.parent.wf
          have HWgroup := hid hfit.group.wf
          simp only at HWH HWseq HWparent HWgroup
          have bA := ibel wr (Obj.cells #[.string bwho, .int .i64 bseq, .int .i64 bzone, .bool bbuy, .int .i64 bprice, .slice bqa bqty.length bqc, .int .i64 bparent, .int .i64 bgroup] 27)
          have xA := inew wr (Obj.cells #[.string bwho, .int .i64 bseq, .int .i64 bzone, .bool bbuy, .int .i64 bprice, .slice bqa bqty.length bqc, .int .i64 bparent, .int .i64 bgroup] 27)
          have ga := ikc bA ga
          have z0 := ibx xA 0 _ rfl
          have z1 := ibx xA 1 _ rfl
          have z2 := ibx xA 2 _ rfl
          have z3 := ibx xA 3 _ rfl
          have z4 := ibx xA 4 _ rfl
          have z5 := ibx xA 5 _ rfl
          have z6 := ibx xA 6 _ rfl
          have z7 := ibx xA 7 _ rfl
          simp only at HLK
          obtain ⟨c1, HN1⟩ : ∃ n, Hid (cntN Bl.seq S A S.length bwho bparent = n) := ⟨_, hid rfl⟩
          obtain ⟨c2, HN2⟩ : ∃ n, Hid (cntN Bl.group S A S.length bwho bgroup = n) := ⟨_, hid rfl⟩
          rw [HN1.out, HN2.out] at HLK
          have HBR := hid (show Below W1.heap.size W1 (wr.alloc (Obj.cells #[.string bwho, .int .i64 bseq, .int .i64 bzone, .bool bbuy, .int .i64 bprice, .slice bqa bqty.length bqc, .int .i64 bparent, .int .i64 bgroup] 27)) from HI.out.2.trans (bA.mono HI.out.2.size))
          have HBW := hid (show Below w.heap.size w (wr.alloc (Obj.cells #[.string bwho, .int .i64 bseq, .int .i64 bzone, .bool bbuy, .int .i64 bprice, .slice bqa bqty.length bqc, .int .i64 bparent, .int .i64 bgroup] 27)) from BWX.trans (bA.mono BWX.size))
          cases t
          · have HYE := hid (HYE.out (fun q => by rw [HAK.out] at q; simp at q))
            clear HNO HLK HN1 HN2 bA xA z0 z1 z2 z3 z4 z5 z6 z7
            go_wp2_with fail
            go_roundw
            case rel => exact ⟨k + 1, by omega, by go_num, hid ⟨HYE.out, HBR.out⟩⟩
            case measure => simp [intOf]; omega
          · have HLK := hid (HLK.out HAK.out)
            have HYE := hid (fun h => HYE.out (fun _ => h))
            have HNO := hid (fun h => HNO.out ⟨HAK.out, h⟩)
            have HM1 := hid (fun (Y : World) (bY : Below (wr.alloc (Obj.cells #[.string bwho, .int .i64 bseq, .int .i64 bzone, .bool bbuy, .int .i64 bprice, .slice bqa bqty.length bqc, .int .i64 bparent, .int .i64 bgroup] 27)).heap.size (wr.alloc (Obj.cells #[.string bwho, .int .i64 bseq, .int .i64 bzone, .bool bbuy, .int .i64 bprice, .slice bqa bqty.length bqc, .int .i64 bparent, .int .i64 bgroup] 27)) Y) => show (Instr.lookup 29 (.map (some w.heap.size)) (.agg #[.string bwho, .int .i64 bparent]) false).run Try.prog Y = .ok (.int .i64 c1) Y from by rw [← HN1.out]; exact (HC2.out.1.below (HBR.out.trans (bY.mono HBR.out.size))).look bwho bparent HWH.out HWparent.out)
            have HM2 := hid (fun (Y : World) (bY : Below (wr.alloc (Obj.cells #[.string bwho, .int .i64 bseq, .int .i64 bzone, .bool bbuy, .int .i64 bprice, .slice bqa bqty.length bqc, .int .i64 bparent, .int .i64 bgroup] 27)).heap.size (wr.alloc (Obj.cells #[.string bwho, .int .i64 bseq, .int .i64 bzone, .bool bbuy, .int .i64 bprice, .slice bqa bqty.length bqc, .int .i64 bparent, .int .i64 bgroup] 27)) Y) => show (Instr.lookup 29 (.map (some (w.heap.size + 1))) (.agg #[.string bwho, .int .i64 bgroup]) false).run Try.prog Y = .ok (.int .i64 c2) Y from by rw [← HN2.out]; exact (HC2.out.2.1.below (HBR.out.trans (bY.mono HBR.out.size))).look bwho bgroup HWH.out HWgroup.out)
            clear HAK bA xA BWX HN1 HN2 HI
            generalize hW : wr.alloc (Obj.cells #[.string bwho, .int .i64 bseq, .int .i64 bzone, .bool bbuy, .int .i64 bprice, .slice bqa bqty.length bqc, .int .i64 bparent, .int .i64 bgroup] 27) = W at *
            by_cases hp : 0 < bparent
            · have hp1 : decide (0 < bparent) = true := decide_eq_true hp
              by_cases hc : c1 = 0
              · have hc1 : (c1 == 0) = true := by simpa using hc
                have HPQ := hid (And.intro hp hc)
                clear hp hc
                go_wp2_with (first | (go_at_call 8; refine (parentName_any _ ⟨bwho, bseq, bzone, bbuy, bprice, bqa, bqc, bqty, bparent, bgroup⟩).mono ?_; rintro e Y1 ⟨rfl, bb⟩; have F1 : Below W.heap.size W Y1 := bb; have lk1 := HM1.out Y1 F1; have y0 := ikc bb z0; have y1 := ikc bb z1; have y2 := ikc bb z2; have y3 := ikc bb z3; have y4 := ikc bb z4; have y5 := ikc bb z5; have y6 := ikc bb z6; have y7 := ikc bb z7))
                go_ret
                exact ⟨⟨false, rfl, HNO.out (fun q => (HLK.out.1 q).1 HPQ.out)⟩, HBW.out.trans (F1.mono HBW.out.size)⟩

              · have hc1 : (c1 == 0) = false := by simpa using hc
                have HPQ := hid (show ¬ (0 < bparent ∧ c1 = 0) from fun q => hc q.2)
                clear hp hc
                by_cases hg : 0 < bgroup
                · have hg1 : decide (0 < bgroup) = true := decide_eq_true hg
                  by_cases hd : 1 < c2
                  · have hd1 : decide (1 < c2) = true := decide_eq_true hd
                    have HGQ := hid (And.intro hg hd)
                    clear hg hd
                    go_wp2_with (first | (go_at_call 8; refine (parentName_any _ ⟨bwho, bseq, bzone, bbuy, bprice, bqa, bqc, bqty, bparent, bgroup⟩).mono ?_; rintro e Y1 ⟨rfl, bb⟩; have F1 : Below W.heap.size W Y1 := bb; have lk1 := HM1.out Y1 F1; have y0 := ikc bb z0; have y1 := ikc bb z1; have y2 := ikc bb z2; have y3 := ikc bb z3; have y4 := ikc bb z4; have y5 := ikc bb z5; have y6 := ikc bb z6; have y7 := ikc bb z7) | (go_at_call 7; refine (groupName_any _ ⟨bwho, bseq, bzone, bbuy, bprice, bqa, bqc, bqty, bparent, bgroup⟩).mono ?_; rintro e Y2 ⟨rfl, bb⟩; have F2 : Below W.heap.size W Y2 := (by first | exact chain2 F1 bb | exact bb); have lk2 := HM2.out Y2 F2))
                    go_ret
                    exact ⟨⟨false, rfl, HNO.out (fun q => (HLK.out.1 q).2 HGQ.out)⟩, HBW.out.trans ((F2).mono HBW.out.size)⟩

                  · have hd1 : decide (1 < c2) = false := decide_eq_false hd
                    have HGQ := hid (show ¬ (0 < bgroup ∧ 1 < c2) from fun q => hd q.2)
                    clear hg hd
                    go_wp2_with (first | (go_at_call 8; refine (parentName_any _ ⟨bwho, bseq, bzone, bbuy, bprice, bqa, bqc, bqty, bparent, bgroup⟩).mono ?_; rintro e Y1 ⟨rfl, bb⟩; have F1 : Below W.heap.size W Y1 := bb; have lk1 := HM1.out Y1 F1; have y0 := ikc bb z0; have y1 := ikc bb z1; have y2 := ikc bb z2; have y3 := ikc bb z3; have y4 := ikc bb z4; have y5 := ikc bb z5; have y6 := ikc bb z6; have y7 := ikc bb z7) | (go_at_call 7; refine (groupName_any _ ⟨bwho, bseq, bzone, bbuy, bprice, bqa, bqc, bqty, bparent, bgroup⟩).mono ?_; rintro e Y2 ⟨rfl, bb⟩; have F2 : Below W.heap.size W Y2 := (by first | exact chain2 F1 bb | exact bb); have lk2 := HM2.out Y2 F2))
                    go_roundw
                    case rel => exact ⟨k + 1, by omega, by go_num, hid ⟨HYE.out (HLK.out.2 ⟨HPQ.out, HGQ.out⟩), HBR.out.trans ((F2).mono HBR.out.size)⟩⟩
                    case measure => simp [intOf]; omega

                · have hg1 : decide (0 < bgroup) = false := decide_eq_false hg
                  have HGQ := hid (show ¬ (0 < bgroup ∧ 1 < c2) from fun q => hg q.1)
                  clear hg
                  go_wp2_with (first | (go_at_call 8; refine (parentName_any _ ⟨bwho, bseq, bzone, bbuy, bprice, bqa, bqc, bqty, bparent, bgroup⟩).mono ?_; rintro e Y1 ⟨rfl, bb⟩; have F1 : Below W.heap.size W Y1 := bb; have lk1 := HM1.out Y1 F1; have y0 := ikc bb z0; have y1 := ikc bb z1; have y2 := ikc bb z2; have y3 := ikc bb z3; have y4 := ikc bb z4; have y5 := ikc bb z5; have y6 := ikc bb z6; have y7 := ikc bb z7))
                  go_roundw
                  case rel => exact ⟨k + 1, by omega, by go_num, hid ⟨HYE.out (HLK.out.2 ⟨HPQ.out, HGQ.out⟩), HBR.out.trans ((F1).mono HBR.out.size)⟩⟩
                  case measure => simp [intOf]; omega

            · have hp1 : decide (0 < bparent) = false := decide_eq_false hp
              have HPQ := hid (show ¬ (0 < bparent ∧ c1 = 0) from fun q => hp q.1)
              clear hp
              by_cases hg : 0 < bgroup
              · have hg1 : decide (0 < bgroup) = true := decide_eq_true hg
                by_cases hd : 1 < c2
                · have hd1 : decide (1 < c2) = true := decide_eq_true hd
                  have HGQ := hid (And.intro hg hd)
                  clear hg hd
                  go_wp2_with (first | (go_at_call 7; refine (groupName_any _ ⟨bwho, bseq, bzone, bbuy, bprice, bqa, bqc, bqty, bparent, bgroup⟩).mono ?_; rintro e Y2 ⟨rfl, bb⟩; have F2 : Below W.heap.size W Y2 := (by first | exact chain2 F1 bb | exact bb); have lk2 := HM2.out Y2 F2))
                  go_ret
                  exact ⟨⟨false, rfl, HNO.out (fun q => (HLK.out.1 q).2 HGQ.out)⟩, HBW.out.trans ((F2).mono HBW.out.size)⟩

                · have hd1 : decide (1 < c2) = false := decide_eq_false hd
                  have HGQ := hid (show ¬ (0 < bgroup ∧ 1 < c2) from fun q => hd q.2)
                  clear hg hd
                  go_wp2_with (first | (go_at_call 7; refine (groupName_any _ ⟨bwho, bseq, bzone, bbuy, bprice, bqa, bqc, bqty, bparent, bgroup⟩).mono ?_; rintro e Y2 ⟨rfl, bb⟩; have F2 : Below W.heap.size W Y2 := (by first | exact chain2 F1 bb | exact bb); have lk2 := HM2.out Y2 F2))
                  go_roundw
                  case rel => exact ⟨k + 1, by omega, by go_num, hid ⟨HYE.out (HLK.out.2 ⟨HPQ.out, HGQ.out⟩), HBR.out.trans ((F2).mono HBR.out.size)⟩⟩
                  case measure => simp [intOf]; omega

              · have hg1 : decide (0 < bgroup) = false := decide_eq_false hg
                have HGQ := hid (show ¬ (0 < bgroup ∧ 1 < c2) from fun q => hg q.1)
                clear hg
                go_wp2_with fail
                go_roundw
                case rel => exact ⟨k + 1, by omega, by go_num, hid ⟨HYE.out (HLK.out.2 ⟨HPQ.out, HGQ.out⟩), HBR.out.trans (((Below.refl _ _)).mono HBR.out.size)⟩⟩
                case measure => simp [intOf]; omega

        · obtain rfl : k = S.length := by omega
          have HB := hid BWX
          have HR := hid (show LnR S A true from ⟨fun _ => ⟨HL.out, fun j hj hA => HI.out.1 j hj hj hA⟩, fun _ => rfl⟩)
          clear BWX HI
          go_wp2_with fail
          go_ret
          exact ⟨⟨true, rfl, HR.out⟩, HB.out⟩
end Go.Proofs.Ythhfphcneniniaa
