/- The law StoreCuts. -/
import Derived.Test.YtfpifjejooineaaPk29
import Derived.Test.YtfpifjejooineaaPk13
import Derived.Test.YtfpifjejooineaaZRcOpen
namespace Go.Proofs.Ytfpifjejooineaa.Rc
open Go.RowKit Go.Deep
set_option linter.unusedVariables false
set_option maxRecDepth 100000
set_option linter.unusedSimpArgs false

set_option maxHeartbeats 16000000 in
theorem ycuts_any (va : Value) (A : List Rec) (vb : Value) (R : List Rec) (whole : Bool) (cn : Int) (keep : Nat) (w : World) (ha : IsRecs w va A) (fa : va = .slice none 0 0 ∨ ∃ ad n c, va = .slice (some ad) n c) (hb : IsRecs w vb R) (fb : vb = .slice none 0 0 ∨ ∃ ad n c, vb = .slice (some ad) n c) (hcn : -9223372036854775808 ≤ cn ∧ cn < 9223372036854775808) (hkp : keep < 18446744073709551616) :
    Calls Try.prog 5 #[va, vb, .bool whole, .int .i64 cn, .int .u64 (keep : Int)] w fun e w' => e = .returned (.bool true) ∧ Below w.heap.size w w' := by
  have hlo1 := long_any w va A ha
  have HLO := hid (fun W (k : Below w.heap.size w W) => long_any W vb R (hb.below k))
  have HA := hid ha
  have HB := hid hb
  have HFA := hid fa
  have HFB := hid fb
  obtain ⟨a1, c1, rfl, _⟩ := ha.slice
  obtain ⟨a2, c2, rfl, _⟩ := hb.slice
  clear ha hb fa fb
  go_enter Try.func5, Try.ntmps5
  go_wp2_with fail
  refine hlo1.mono ?_
  rintro e w1 ⟨⟨x1, rfl, hx1, hx1'⟩, b1⟩
  go_wp2_with fail
  refine (HLO.out w1 b1).mono ?_
  rintro e w2 ⟨⟨x2, rfl, hx2, hx2'⟩, b2'⟩
  have b2 := chain2 b1 b2'
  clear hlo1 b2' b1
  by_cases hx : 16384 < x1 + x2
  · have hx' : (16384 : Int) < (x1 : Int) + (x2 : Int) := by omega
    go_wp2
    go_ret
    exact ⟨rfl, b2⟩
  have hx' : ¬ (16384 : Int) < (x1 : Int) + (x2 : Int) := by omega
  have hAl := hx1' (by omega)
  have hRl := hx2' (by omega)
  have hAl2 : A.length ≤ 16384 := by omega
  have hRl2 : R.length ≤ 16384 := by omega
  clear hx1' hx2' hAl hRl HLO
  have s2 := b2.size
  go_wp2_with fail
  refine (new_any w2).mono ?_
  rintro e w3 ⟨rfl, hd3, b3'⟩
  clear hx hx' hx1 hx2
  have b3 := chain2 b2 b3'
  have t3 := b3'.size
  go_wp2_with fail
  refine (enew_any w3).mono ?_
  rintro e w4 ⟨rfl, ⟨vw, vi, hr4⟩, b4'⟩
  have b4 := chain2 b3 b4'
  have hd4 := hd3.below b4'
  have t4 := b4'.size
  go_wp2_with fail
  refine (o_first w w4 w.heap.size w2.heap.size s2 hd4 b4).mono ?_
  rintro e w5 ⟨⟨s, l, v5, rfl, hv5, so5⟩, b5'⟩
  have b5 := chain2 b4 b5'
  have hr5 := hr4.below b5'
  have t5 := b5'.size
  obtain ⟨q1, q2, rfl, _⟩ := hv5.slice
  go_wp2_with fail
  refine (yopen_any w5 w3.heap.size Dsk.new (sz_new.now Dsk.good_new) ⟨_, _, _, _, _, _, hr5⟩).mono ?_
  rintro e w6 ⟨⟨c6, t6, hT6, L6, n6, hD6, h6⟩, b6'⟩
  obtain ⟨rfl, rfl, -⟩ := open_hl ok_new Dsk.good_new sz_new hT6
  have hn6 : n6 = 0 := by have := hD6.le; simpa [of_len] using this
  have hL6 : L6 = [] := by have := hD6.few; rw [hn6] at this; exact List.eq_nil_of_length_eq_zero (by omega)
  subst hn6 hL6
  rcases h6 with ⟨h61, _⟩ | ⟨-, y, r, v6, rfl, hyb, hrb, hV6, hY6, hR6⟩
  · simp at h61
  have so6 := so5.below b6'
  have hr6 := hr5.below b6'
  have b6 := chain2 b5 b6'
  obtain ⟨sl6, hd6⟩ := so6.st.disk
  have pr6 : Pr w.heap.size w w6 w2.heap.size l w3.heap.size r Dsk.new (VL ByteArray.empty 0 0 0) Dsk.new ByteArray.empty 0 0 0 :=
    ⟨⟨sl6, vw, vi, .slice none 0 0, 0, 0, 0, hd6, hr6, fun g _ e => by simp [Value.ownBlock] at e⟩, so6.st.log, hV6, b6, so6.st.hb, so6.st.hl, by omega, by omega⟩
  have sa6 := so6.sat
  have hsb := so6.hs
  have yr6 : Yr w w6 v6 [] := by
    obtain ⟨_, us, u1, u2, u3⟩ := hR6
    exact ⟨by simp, us, u1, own_mono u2 (by omega), fun i hi => by simp at hi⟩
  obtain ⟨q3, q4, rfl, _⟩ := hR6.recs.slice
  have hyB : w.heap.size ≤ y := by omega
  clear hT6 hD6 hR6 hV6 so5 so6 hr4 hr5 hr6 hd3 hd4 hd6 b3' b4' b5' b6' hv5 b3 b4 b5
  have hc0 : Hc Dsk.new (VL ByteArray.empty 0 0 0) ByteArray.empty 0 := hc_new
  have hv0 : VFit ByteArray.empty 0 0 := ⟨by show (0 : Nat) ≤ _; omega, by omega, by omega⟩
  obtain ⟨X, hX⟩ : ∃ X, X = yst Dsk.new ByteArray.empty 0 0 0 A (vapp Dsk.new ByteArray.empty 0 0 0 (allT A)) := ⟨_, rfl⟩
  obtain ⟨hXz, hXn, hXf, hXv⟩ := yst_app hX hc0 Fine.new hv0 (by omega)
  have hadd := p_add_y pr6 sa6 hsb hv0 (by show (0 : Nat) + 1000 < _; omega) (by omega) _ A (by omega) (HA.out.below b6) hX
  have HYA := hid (fun W (p : Pr w.heap.size w W w2.heap.size l w3.heap.size r X.D (VL X.t X.n X.a X.er) Dsk.new ByteArray.empty 0 0 0) (q : YAt W y r (.slice q3 ([] : List Rec).length q4)) (u : Yr w W (.slice q3 ([] : List Rec).length q4) []) => y_add p Fine.new hv0 (by show (0 : Nat) + 1000 < _; omega) q hyB u (by simp) ⟨_, _, _, rfl⟩ _ A HA.out HFA.out (by omega))
  rw [← hX] at HYA
  have HXZ := hid hXz
  have HXN := hid hXn
  have HXF := hid hXf
  have HXV := hid hXv
  have HADD := hid hadd
  clear hX hXz hXn hXf hXv hadd hc0 hv0
  go_wp2_with fail
  refine HADD.out.mono ?_
  rintro e w7 ⟨rfl, pr7, sa7, ky7⟩
  have yr7 := yr6.kys ky7 sa6
  have y7 := hY6.kys ky7 sa6
  clear HADD pr6 yr6 hY6
  go_wp2_with fail
  refine (HYA.out w7 pr7 y7 yr7).mono ?_
  rintro e w8 ⟨rfl, pr8, ky8, vL, y8, yr8, sa', m', sc', rfl⟩
  have sa8 := sa7.ky ky8 y7
  rw [List.nil_append] at yr8
  clear HYA pr7 sa7 ky7 yr7 y7 sa6
  obtain ⟨R1, hR1, hR1g, hR1l, hc1⟩ : ∃ R1, R1 = (if X.E = 0 then A else []) ∧ (∀ q ∈ R1, Good q) ∧ R1.length ≤ A.length ∧ Hc X.D (VL X.t X.n X.a X.er) (Bs.str (encs R1)) 1 := by
    by_cases hE : X.E = 0
    · obtain ⟨z1, z2⟩ := HXZ.out hE
      refine ⟨A, by rw [if_pos hE], allE_all_good HA.out z1, Nat.le_refl _, ?_⟩
      rw [allT_enc z1, ByteArray.empty_append] at z2
      exact z2
    · exact ⟨[], by rw [if_neg hE], by simp, by simp, HXN.out hE⟩
  rw [← hR1] at yr8
  obtain ⟨m1, hm1, hm1'⟩ : ∃ m1 : Nat, m1 = (if X.E = 0 then 0 + A.length else 0) ∧ m1 ≤ 16384 := ⟨_, rfl, by split <;> omega⟩
  rw [← hm1] at sa8
  clear hR1 hm1 HXZ HXN
  have hXf := HXF.out
  have hXv := HXV.out
  obtain ⟨c0, c1', cf⟩ := y8.cells
  have bel8 := pr8.bel
  have t8 := bel8.size
  have hops : X.D.ops + 1000 < 4611686018427387904 := by have := hc1.ops; omega
  obtain ⟨f1, f2, f3, _⟩ := hc1.fit (by omega)
  generalize X.E = E1 at *
  cases whole
  · go_wp2_with fail
    have b9 := (Below.refl w8.heap.size w8).alloc (Nat.le_refl _) (Obj.cells #[] 29)
    have pr9 := pr8.below b9
    have sa9 := sa8.below b9
    have y9 := y8.below b9
    have yr9 := yr8.below b9
    have yb9 := yr_made w w8 t8
    have hne9 : (Value.slice sa' m' sc').ownBlock ≠ some w8.heap.size := yr8.ne
    obtain ⟨gB, hgB⟩ : ∃ gB, gB = w8.heap.size := ⟨_, rfl⟩
    rw [← hgB] at yb9 hne9 ⊢
    clear b9 pr8 sa8 y8 yr8 c0 c1' cf bel8 t8 hgB
    generalize w8.alloc (Obj.cells #[] 29) = W9 at *
    obtain ⟨X2, hX2⟩ : ∃ X2, X2 = yst X.D X.t X.n X.a X.er R (vapp X.D X.t X.n X.a X.er (allT R)) := ⟨_, rfl⟩
    have hyc := y_add pr9 hXf hXv hops y9 hyB yr9 (by omega) ⟨_, _, _, rfl⟩ _ R HB.out HFB.out (by omega)
    rw [← hX2] at hyc
    go_wp2_with fail
    refine hyc.mono ?_
    rintro e w10 ⟨rfl, pr10, ky10, vL2, y10, yr10, sa'', m'', sc'', rfl⟩
    have sa10 := sa9.ky ky10 y9
    have ah10 := yr9.ky ky10 y9
    have yb10 := yb9.ky ky10 y9
    clear hyc pr9 sa9 yr9 yb9 y9
    have bel10 := pr10.bel
    have t10 := bel10.size
    by_cases hE2 : X2.E = 0
    · have hz : allE R = 0 := by rw [hX2] at hE2; exact yst_zero hE2
      rw [if_pos hE2] at yr10
      obtain ⟨R2, hR2⟩ : ∃ R2, R2 = R1 ++ R := ⟨_, rfl⟩
      rw [← hR2] at yr10
      have hlen2 : R2.length ≤ 100000 := by rw [hR2]; (try simp only [List.length_append]); omega
      have HR2 := hid hR2
      clear hR2
      rw [hE2]
      clear hX2
      obtain ⟨us10, hs10, hi10⟩ := yr10.src
      obtain ⟨_, usb, ub1, ub2, _⟩ := yb10
      have hg2 := yr10.1
      obtain ⟨c0, c1', cf⟩ := y10.cells
      have HI10 := hid hi10
      have HG2 := hid hg2
      have HPR := hid pr10
      have HSA := hid sa10
      have HAH := hid ah10
      have husl := hs10.1
      have eub : usb = [] := List.eq_nil_of_length_eq_zero ub1
      subst eub
      clear hi10 hg2 pr10 sa10 ah10 yr10
      go_wp2_with (at_builtin; refine wpList_append_recs rfl _ _ rfl w.heap.size _ _ _ rfl ub2 _ R2 us10 rfl hs10 (by simp only [List.length_nil]; omega) (by omega) ?_)
      intro sab scb w11 o11 g11
      (try simp only [List.length_nil, Nat.zero_add, flat, List.nil_append] at o11 ⊢)
      have hsame : ∀ (p : Nat) (x : Array Value) (T : TypeId) (fz : Nat × Nat), w10.heap[p]? = some (Obj.cells x T fz) → T ≠ 29 → w11.heap[p]? = w10.heap[p]? := fun p x T fz hp hT => g11.block p (lt_of_block hp) fun e => by
        obtain ⟨c', fz', hc⟩ := own_kind ub2 p e.symm
        rw [hp] at hc
        simp only [Option.some.injEq, Obj.cells.injEq] at hc
        exact hT hc.2.1
      have bel11 : Below w.heap.size w w11 := bel10.grown g11 t10 (fun q hq => (ub2.lt q hq).1)
      have pr11 := pr_same HPR.out hsame bel11
      have sa11 : StoreAt w11 s l m1 := ⟨(hsame s _ _ _ HSA.out.blk (by decide)).trans HSA.out.blk⟩
      have ah11 := HAH.out.kept g11 (Or.inr (by simpa [Value.ownBlock] using hne9))
      have yb11 : Yr w w11 (.slice sab R2.length scb) R2 := ⟨HG2.out, us10, husl, o11, HI10.out⟩
      obtain ⟨M2, hM2⟩ : ∃ M2, M2 = R2.length := ⟨_, rfl⟩
      rw [← hM2] at yb11
      (try rw [← hM2])
      clear o11 g11 hsame ub2 hs10 c0 c1' cf y10 hM2
      have hcut := g_cut pr11 cn keep hcn hkp
      go_wp2_with fail
      refine hcut.mono ?_
      rintro e w12 ⟨rfl, pr12, kt12⟩
      have sa12 := sa11.kt kt12
      have ah12 := ah11.kt kt12
      have yb12 := yb11.kt kt12
      clear hcut pr11 sa11 ah11 yb11 kt12
      have hlay := p_add pr12 sa12 hsb f1 f2 (by show X.D.ops + 1000 < _; omega) (by omega) _ R (by omega) (HB.out.below pr12.bel)
      obtain ⟨l1, l2⟩ := laid_pos (D := X.D.cut cn keep) (L := VL X.t X.n X.a X.er) (m := m1) (el := m1) (x := (VL X.t X.n X.a X.er).append (X.D.cut cn keep) (allT R)) hz
      rw [l1, l2] at hlay
      have haft := After.append (hc1.cutl cn keep hcn.2 hkp) (s := allT R) (b := Bs.str (encs R2)) (by have := hc1.num; omega) (by rw [HR2.out, allT_enc hz, str_app, encs_app])
      generalize ((VL X.t X.n X.a X.er).append (X.D.cut cn keep) (allT R)) = Y at *
      generalize (laid (X.D.cut cn keep) (VL X.t X.n X.a X.er) m1 Y m1 R) = Z at *
      go_wp2_with fail
      refine hlay.mono ?_
      rintro e w13 ⟨rfl, pr13, sa13, ky13⟩
      have ah13 := ah12.kys ky13 sa12
      have yb13 := yb12.kys ky13 sa12
      clear hlay pr12 ah12 yb12
      obtain ⟨F, hF⟩ : ∃ F, F = Y.2.2 := ⟨_, rfl⟩
      rw [← hF] at haft ⊢
      clear hF l1 l2
      go_wp2_with fail
      refine (g_crash pr13 keep hkp).mono ?_
      rintro e w14 ⟨rfl, pr14, kt14⟩
      have ah14 := ah13.kt kt14
      have yb14 := yb13.kt kt14
      clear pr13 ah13 yb13
      go_wp2_with fail
      refine (g_power pr14).mono ?_
      rintro e w15 ⟨rfl, pr15, kt15⟩
      have ah15 := ah14.kt kt15
      have yb15 := yb14.kt kt15
      clear pr14 ah14 yb14
      have haft2 := (haft.crash keep).power
      obtain ⟨sl15, _, _, _, _, _, _, two15⟩ := pr15.two
      have hop := oopen_any w15 w2.heap.size ((Y.1.crash keep).power) (haft2.sz.now haft2.good) ⟨sl15, two15.d⟩
      have bel15 := pr15.bel
      clear haft pr15 two15 sa12 sa13 ky13 kt14 kt15
      go_wp2_with fail
      refine hop.mono ?_
      rintro e w16 ⟨⟨c16, t16, hT16, L16, n16, hD16, h16⟩, b16⟩
      obtain ⟨R16, rfl, tale⟩ := After.tale haft2 hT16
      have hg16 : ∀ q ∈ R16, Good q := by
        rcases tale with e | ⟨_, e⟩
        · rw [e]; exact HG2.out
        · rw [e]; exact hR1g
      obtain ⟨rfl, rfl⟩ := dec_str hg16 hD16
      have bel16 := bel15.trans (b16.mono bel15.size)
      have ah16 := (ah15.below b16).recs bel16
      have yb16 := (yb15.below b16).recs bel16
      clear hop hT16 hD16 haft2 ah15 yb15 bel15
      rcases h16 with ⟨h161, _⟩ | ⟨-, s16, l16, v16, rfl, -, -, -, -, row16⟩
      · omega
      have hv16 := row16.recs
      obtain ⟨va16, vc16, rfl, _⟩ := hv16.slice
      clear row16
      have HV16 := hid hv16
      have HAH16 := hid ah16
      have HYB16 := hid yb16
      clear hv16 ah16 yb16
      rcases tale with e16 | ⟨hFne, e16⟩
      · subst e16
        have HY2 := HYB16
        go_wp2_with fail
        refine (same_true w16 _ _ _ HV16.out HY2.out).mono ?_
        rintro e w17 ⟨rfl, b17⟩
        have bel17 := bel16.trans (b17.mono bel16.size)
        go_wp2
        go_ret
        exact ⟨rfl, bel17⟩
      · subst e16
        have HY2 := HAH16
        go_wp2_with fail
        refine (same_total w16 _ _ _ _ HV16.out HYB16.out).mono ?_
        rintro e w17 ⟨⟨bv, rfl⟩, b17⟩
        have bel17 := bel16.trans (b17.mono bel16.size)
        have hs17 := same_true w17 _ _ _ (HV16.out.below b17) (HY2.out.below b17)
        have hFb : (F != 0) = true := by simp [hFne]
        cases bv
        · go_wp2_with fail
          refine hs17.mono ?_
          rintro e w18 ⟨rfl, b18⟩
          have bel18 := bel17.trans (b18.mono bel17.size)
          go_wp2
          go_ret
          exact ⟨rfl, bel18⟩
        · go_wp2
          go_ret
          exact ⟨rfl, bel17⟩
    · have hlay := p_add_y pr10 sa10 hsb hXv hops (by omega) _ R (by omega) (HB.out.below pr10.bel) hX2
      clear hX2 pr10 sa10 ky10 y10 yr10 ah10 yb10
      generalize X2.E = E2 at *
      go_wp2_with fail
      refine hlay.mono ?_
      rintro e w11 ⟨rfl, pr11, _, _⟩
      have bel11 := pr11.bel
      clear hlay pr11
      go_wp2
      go_ret
      exact ⟨by simp [hE2], bel11⟩
  · go_wp2_with fail
    have b9 := (Below.refl w8.heap.size w8).alloc (Nat.le_refl _) (Obj.cells #[] 29)
    have pr9 := pr8.below b9
    have sa9 := sa8.below b9
    have y9 := y8.below b9
    have yr9 := yr8.below b9
    have yb9 := yr_made w w8 t8
    have hne9 : (Value.slice sa' m' sc').ownBlock ≠ some w8.heap.size := yr8.ne
    obtain ⟨gB, hgB⟩ : ∃ gB, gB = w8.heap.size := ⟨_, rfl⟩
    rw [← hgB] at yb9 hne9 ⊢
    clear b9 pr8 sa8 y8 yr8 c0 c1' cf bel8 t8 hgB
    generalize w8.alloc (Obj.cells #[] 29) = W9 at *
    obtain ⟨X2, hX2⟩ : ∃ X2, X2 = yst X.D X.t X.n X.a X.er R (vchk X.D X.t X.n X.a X.er (allT R)) := ⟨_, rfl⟩
    have hyc := y_replace pr9 hXf hXv hops y9 hyB yr9 (by omega) ⟨_, _, _, rfl⟩ _ R HB.out HFB.out (by omega)
    rw [← hX2] at hyc
    go_wp2_with fail
    refine hyc.mono ?_
    rintro e w10 ⟨rfl, pr10, ky10, vL2, y10, yr10, sa'', m'', sc'', rfl⟩
    have sa10 := sa9.ky ky10 y9
    have ah10 := yr9.ky ky10 y9
    have yb10 := yb9.ky ky10 y9
    clear hyc pr9 sa9 yr9 yb9 y9
    have bel10 := pr10.bel
    have t10 := bel10.size
    by_cases hE2 : X2.E = 0
    · have hz : allE R = 0 := by rw [hX2] at hE2; exact yst_zero hE2
      rw [if_pos hE2] at yr10
      obtain ⟨R2, hR2⟩ : ∃ R2, R2 = R := ⟨_, rfl⟩
      rw [← hR2] at yr10
      have hlen2 : R2.length ≤ 100000 := by rw [hR2]; (try simp only [List.length_append]); omega
      have HR2 := hid hR2
      clear hR2
      rw [hE2]
      clear hX2
      obtain ⟨us10, hs10, hi10⟩ := yr10.src
      obtain ⟨_, usb, ub1, ub2, _⟩ := yb10
      have hg2 := yr10.1
      obtain ⟨c0, c1', cf⟩ := y10.cells
      have HI10 := hid hi10
      have HG2 := hid hg2
      have HPR := hid pr10
      have HSA := hid sa10
      have HAH := hid ah10
      have husl := hs10.1
      have eub : usb = [] := List.eq_nil_of_length_eq_zero ub1
      subst eub
      clear hi10 hg2 pr10 sa10 ah10 yr10
      go_wp2_with (at_builtin; refine wpList_append_recs rfl _ _ rfl w.heap.size _ _ _ rfl ub2 _ R2 us10 rfl hs10 (by simp only [List.length_nil]; omega) (by omega) ?_)
      intro sab scb w11 o11 g11
      (try simp only [List.length_nil, Nat.zero_add, flat, List.nil_append] at o11 ⊢)
      have hsame : ∀ (p : Nat) (x : Array Value) (T : TypeId) (fz : Nat × Nat), w10.heap[p]? = some (Obj.cells x T fz) → T ≠ 29 → w11.heap[p]? = w10.heap[p]? := fun p x T fz hp hT => g11.block p (lt_of_block hp) fun e => by
        obtain ⟨c', fz', hc⟩ := own_kind ub2 p e.symm
        rw [hp] at hc
        simp only [Option.some.injEq, Obj.cells.injEq] at hc
        exact hT hc.2.1
      have bel11 : Below w.heap.size w w11 := bel10.grown g11 t10 (fun q hq => (ub2.lt q hq).1)
      have pr11 := pr_same HPR.out hsame bel11
      have sa11 : StoreAt w11 s l m1 := ⟨(hsame s _ _ _ HSA.out.blk (by decide)).trans HSA.out.blk⟩
      have ah11 := HAH.out.kept g11 (Or.inr (by simpa [Value.ownBlock] using hne9))
      have yb11 : Yr w w11 (.slice sab R2.length scb) R2 := ⟨HG2.out, us10, husl, o11, HI10.out⟩
      obtain ⟨M2, hM2⟩ : ∃ M2, M2 = R2.length := ⟨_, rfl⟩
      rw [← hM2] at yb11
      (try rw [← hM2])
      clear o11 g11 hsame ub2 hs10 c0 c1' cf y10 hM2
      have hcut := g_cut pr11 cn keep hcn hkp
      go_wp2_with fail
      refine hcut.mono ?_
      rintro e w12 ⟨rfl, pr12, kt12⟩
      have sa12 := sa11.kt kt12
      have ah12 := ah11.kt kt12
      have yb12 := yb11.kt kt12
      clear hcut pr11 sa11 ah11 yb11 kt12
      have hlay := p_replace pr12 sa12 hsb f1 f2 (by show X.D.ops + 1000 < _; omega) (by omega) _ R (by omega) (HB.out.below pr12.bel)
      obtain ⟨l1, l2⟩ := laid_pos (D := X.D.cut cn keep) (L := VL X.t X.n X.a X.er) (m := m1) (el := 0) (x := (VL X.t X.n X.a X.er).checkpoint (X.D.cut cn keep) (allT R)) hz
      rw [l1, l2] at hlay
      have haft := after_check (hc1.cutl cn keep hcn.2 hkp) (s := allT R) (b := Bs.str (encs R2)) (by have := hc1.num; omega) (by rw [HR2.out]; exact allT_enc hz)
      generalize ((VL X.t X.n X.a X.er).checkpoint (X.D.cut cn keep) (allT R)) = Y at *
      generalize (laid (X.D.cut cn keep) (VL X.t X.n X.a X.er) m1 Y 0 R) = Z at *
      go_wp2_with fail
      refine hlay.mono ?_
      rintro e w13 ⟨rfl, pr13, sa13, ky13⟩
      have ah13 := ah12.kys ky13 sa12
      have yb13 := yb12.kys ky13 sa12
      clear hlay pr12 ah12 yb12
      obtain ⟨F, hF⟩ : ∃ F, F = Y.2.2 := ⟨_, rfl⟩
      rw [← hF] at haft ⊢
      clear hF l1 l2
      go_wp2_with fail
      refine (g_crash pr13 keep hkp).mono ?_
      rintro e w14 ⟨rfl, pr14, kt14⟩
      have ah14 := ah13.kt kt14
      have yb14 := yb13.kt kt14
      clear pr13 ah13 yb13
      go_wp2_with fail
      refine (g_power pr14).mono ?_
      rintro e w15 ⟨rfl, pr15, kt15⟩
      have ah15 := ah14.kt kt15
      have yb15 := yb14.kt kt15
      clear pr14 ah14 yb14
      have haft2 := (haft.crash keep).power
      obtain ⟨sl15, _, _, _, _, _, _, two15⟩ := pr15.two
      have hop := oopen_any w15 w2.heap.size ((Y.1.crash keep).power) (haft2.sz.now haft2.good) ⟨sl15, two15.d⟩
      have bel15 := pr15.bel
      clear haft pr15 two15 sa12 sa13 ky13 kt14 kt15
      go_wp2_with fail
      refine hop.mono ?_
      rintro e w16 ⟨⟨c16, t16, hT16, L16, n16, hD16, h16⟩, b16⟩
      obtain ⟨R16, rfl, tale⟩ := After.tale haft2 hT16
      have hg16 : ∀ q ∈ R16, Good q := by
        rcases tale with e | ⟨_, e⟩
        · rw [e]; exact HG2.out
        · rw [e]; exact hR1g
      obtain ⟨rfl, rfl⟩ := dec_str hg16 hD16
      have bel16 := bel15.trans (b16.mono bel15.size)
      have ah16 := (ah15.below b16).recs bel16
      have yb16 := (yb15.below b16).recs bel16
      clear hop hT16 hD16 haft2 ah15 yb15 bel15
      rcases h16 with ⟨h161, _⟩ | ⟨-, s16, l16, v16, rfl, -, -, -, -, row16⟩
      · omega
      have hv16 := row16.recs
      obtain ⟨va16, vc16, rfl, _⟩ := hv16.slice
      clear row16
      have HV16 := hid hv16
      have HAH16 := hid ah16
      have HYB16 := hid yb16
      clear hv16 ah16 yb16
      rcases tale with e16 | ⟨hFne, e16⟩
      · subst e16
        have HY2 := HYB16
        go_wp2_with fail
        refine (same_true w16 _ _ _ HV16.out HY2.out).mono ?_
        rintro e w17 ⟨rfl, b17⟩
        have bel17 := bel16.trans (b17.mono bel16.size)
        go_wp2
        go_ret
        exact ⟨rfl, bel17⟩
      · subst e16
        have HY2 := HAH16
        go_wp2_with fail
        refine (same_total w16 _ _ _ _ HV16.out HYB16.out).mono ?_
        rintro e w17 ⟨⟨bv, rfl⟩, b17⟩
        have bel17 := bel16.trans (b17.mono bel16.size)
        have hs17 := same_true w17 _ _ _ (HV16.out.below b17) (HY2.out.below b17)
        have hFb : (F != 0) = true := by simp [hFne]
        cases bv
        · go_wp2_with fail
          refine hs17.mono ?_
          rintro e w18 ⟨rfl, b18⟩
          have bel18 := bel17.trans (b18.mono bel17.size)
          go_wp2
          go_ret
          exact ⟨rfl, bel18⟩
        · go_wp2
          go_ret
          exact ⟨rfl, bel17⟩
    · have hlay := p_rep_y pr10 sa10 hsb hXv hops (by omega) _ R (by omega) (HB.out.below pr10.bel) hX2
      clear hX2 pr10 sa10 ky10 y10 yr10 ah10 yb10
      generalize X2.E = E2 at *
      go_wp2_with fail
      refine hlay.mono ?_
      rintro e w11 ⟨rfl, pr11, _, _⟩
      have bel11 := pr11.bel
      clear hlay pr11
      go_wp2
      go_ret
      exact ⟨by simp [hE2], bel11⟩
end Go.Proofs.Ytfpifjejooineaa.Rc
