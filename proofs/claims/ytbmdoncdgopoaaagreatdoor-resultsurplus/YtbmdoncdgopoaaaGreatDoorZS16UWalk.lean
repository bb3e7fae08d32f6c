/- ResultSurplus: the walk. -/
import Derived.Test.YtbmdoncdgopoaaaGreatDoorPk39
import Derived.Test.YtbmdoncdgopoaaaGreatDoorZS16Q
namespace Go.Proofs.YtbmdoncdgopoaaaGreatDoor
open Go.RowKit
set_option linter.unusedVariables false
set_option maxRecDepth 100000
set_option linter.unusedSimpArgs false

theorem str_ne5 {a b : ByteArray} (h : a ≠ b) : (a.toList == b.toList) = false := by
  refine beq_eq_false_iff_ne.2 fun e => h ?_
  rw [Lib.toList_data, Lib.toList_data] at e
  cases a; cases b
  exact congrArg ByteArray.mk (Array.toList_inj.1 (by simpa using e))
theorem minus_ne (s : ByteArray) : minus s ≠ s := fun e => by have := congrArg ByteArray.size e; rw [minus_size] at this; omega
theorem minus_two (s : ByteArray) : minus (minus s) ≠ s := fun e => by have := congrArg ByteArray.size e; rw [minus_size, minus_size] at this; omega
set_option maxHeartbeats 6400000 in
theorem resultSurplus_any (w : World) (bwho : ByteArray) (bseq bzone : Int) (bbuy : Bool) (bprice : Int) (bqa : Option Addr) (bqc : Nat) (Q : List Int) (bparent bgroup : Int) (pa : Option Addr) (pn pc : Nat) (P : List (List ByteArray)) (hq : Ints w (.slice bqa Q.length bqc) Q) (hp0 : P.length = pn ∧ Sss w (.slice pa pn pc) P)
    (hpr : In64 bprice) (hQ : ∀ q ∈ Q, In64 q) (hmx : Mx w) (htab : Tab w) :
    Calls Tryz.prog 6 #[.agg #[.string bwho, .int .i64 bseq, .int .i64 bzone, .bool bbuy, .int .i64 bprice, .slice bqa Q.length bqc, .int .i64 bparent, .int .i64 bgroup], .slice pa pn pc] w fun e w' => e = .returned (.bool true) ∧ Below w.heap.size w w' := by
  obtain ⟨rfl, hp⟩ := hp0
  obtain ⟨pa', pc', e, pl, pm⟩ := hp.slice
  simp only [Value.slice.injEq] at e
  obtain ⟨rfl, -, rfl⟩ := e
  obtain ⟨qa', qc', e, ql, qm⟩ := hq.slice
  simp only [Value.slice.injEq] at e
  obtain ⟨rfl, -, rfl⟩ := e
  unfold maxLen at pm qm
  have bA := ibel w (Obj.cells #[.string bwho, .int .i64 bseq, .int .i64 bzone, .bool bbuy, .int .i64 bprice, .slice bqa Q.length bqc, .int .i64 bparent, .int .i64 bgroup] 54)
  have xA := inew w (Obj.cells #[.string bwho, .int .i64 bseq, .int .i64 bzone, .bool bbuy, .int .i64 bprice, .slice bqa Q.length bqc, .int .i64 bparent, .int .i64 bgroup] 54)
  have z0 := ibx xA 0 _ rfl
  have z1 := ibx xA 1 _ rfl
  have z2 := ibx xA 2 _ rfl
  have z3 := ibx xA 3 _ rfl
  have z4 := ibx xA 4 _ rfl
  have z5 := ibx xA 5 _ rfl
  have z6 := ibx xA 6 _ rfl
  have z7 := ibx xA 7 _ rfl
  have HQ := hid (hq.below bA)
  have HP := hid (hp.below bA)
  have HMX := hid (hmx.below bA)
  have HTAB := hid (htab.below bA)
  have HB0 := hid bA
  have HPR := hid hpr
  have HQQ := hid hQ
  clear hq hp hmx htab hpr hQ xA bA
  go_enter Tryz.func6, Tryz.ntmps6
  go_wp2_with fail
  have hbx : w.heap.size < (w.alloc (Obj.cells #[.string bwho, .int .i64 bseq, .int .i64 bzone, .bool bbuy, .int .i64 bprice, .slice bqa Q.length bqc, .int .i64 bparent, .int .i64 bgroup] 54)).heap.size := by simp
  generalize w.alloc (Obj.cells #[.string bwho, .int .i64 bseq, .int .i64 bzone, .bool bbuy, .int .i64 bprice, .slice bqa Q.length bqc, .int .i64 bparent, .int .i64 bgroup] 54) = W0 at *
  go_loopw [5, 6] (fun n i wr => ∃ (k m : Nat), k ≤ P.length ∧ n = .int .i64 (m : Int) ∧ i = .int .i64 (k : Int) ∧ Q.length + k ≤ m ∧ (m ≤ 2300000 ∨ (k = 0 ∧ m = Q.length)) ∧ Hid (m ≤ 256 → ∀ j, j < k → ∀ hj : j < P.length, P[j].length ≤ 256 ∧ ∀ s ∈ P[j], s.size ≤ 256) ∧ wr = W0) (fun n i _ => P.length - (intOf i).toNat)
  case atStart => exact ⟨0, Q.length, Nat.zero_le _, rfl, rfl, by omega, Or.inr ⟨rfl, rfl⟩, hid (fun _ j hj => absurd hj (Nat.not_lt_zero _)), rfl⟩
  case round =>
    obtain ⟨k, m, hk, rfl, rfl, hFm, hmm, HK, hw⟩ := hrel
    rw [hw]
    clear hw
    by_cases h256 : m ≤ 256
    case neg =>
      have h2' : decide ((m : Int) ≤ 256) = false := decide_eq_false (by omega)
      have h3' : decide ((256 : Int) < (m : Int)) = true := decide_eq_true (by omega)
      clear HK h256
      by_cases hlt : k < P.length
      · have hltI : decide ((k : Int) < (P.length : Int)) = true := decide_eq_true (by omega)
        go_wp2_with fail
        go_ret
        exact ⟨rfl, HB0.out⟩
      · have hltI : decide ((k : Int) < (P.length : Int)) = false := decide_eq_false (by omega)
        go_wp2_with fail
        go_ret
        exact ⟨rfl, HB0.out⟩
    have h2' : decide ((m : Int) ≤ 256) = true := decide_eq_true (by omega)
    have h3' : decide ((256 : Int) < (m : Int)) = false := decide_eq_false (by omega)
    by_cases hlt : k < P.length
    · have hltI : decide ((k : Int) < (P.length : Int)) = true := decide_eq_true (by omega)
      obtain ⟨pb, po, _, ua, uc, e, gk, hu, ul, um⟩ := HP.out.at k hlt
      simp only [Value.slice.injEq] at e
      obtain ⟨rfl, -, rfl⟩ := e
      unfold maxLen at um
      have hli : (0 : Int) ≤ (k : Int) ∧ (k : Int) < (P.length : Int) := by omega
      have HS1 := hid (fun (x : Nat) (hx : x ≤ 256 → P[k].length ≤ 256 ∧ ∀ s ∈ P[k], s.size ≤ 256) => show m + (1 + x) ≤ 256 → ∀ j, j < k + 1 → ∀ hj : j < P.length, P[j].length ≤ 256 ∧ ∀ s ∈ P[j], s.size ≤ 256 from fun hh j hj hjl => by
        rcases Nat.lt_or_ge j k with q | q
        · exact HK.out (by omega) j q hjl
        · obtain rfl : j = k := by omega
          exact hx (by omega))
      have HLO := hid (long16_any W0 _ _ hu)
      clear hu HK
      generalize P[k].length = un at *
      go_wp2_with (first | (go_at_call 18; refine HLO.out.mono ?_; rintro e Y1 ⟨⟨x, rfl, hx1, hx2⟩, rfl⟩; have HX2 := hid (HS1.out x hx2); clear hx2) | fail)
      clear HLO HS1
      go_roundw
      case rel => exact ⟨k + 1, m + (1 + x), by omega, by go_num, by go_num, by omega, Or.inl (by omega), HX2, by first | rfl | trivial⟩
      case measure => simp [intOf]; omega
    have hltI : decide ((k : Int) < (P.length : Int)) = false := decide_eq_false (by omega)
    have HSZ := hid (show ∀ r ∈ P, ∀ s ∈ r, s.size ≤ 256 from fun r hr => by
      obtain ⟨j, hj, rfl⟩ := List.mem_iff_getElem.1 hr
      exact (HK.out h256 j (by omega) hj).2)
    have hQl : Q.length ≤ 256 := by omega
    clear HK
    by_cases hp1 : 100000 < bprice
    · have hd1 : decide ((100000 : Int) < bprice) = true := decide_eq_true hp1
      go_wp2_with fail
      go_ret
      exact ⟨rfl, HB0.out⟩
    have hd1 : decide ((100000 : Int) < bprice) = false := decide_eq_false hp1
    by_cases hp2 : bprice < -100000
    · have hd2 : decide (bprice < (-100000 : Int)) = true := decide_eq_true hp2
      go_wp2_with fail
      go_ret
      exact ⟨rfl, HB0.out⟩
    have hd2 : decide (bprice < (-100000 : Int)) = false := decide_eq_false hp2
    clear hp1 hp2
    go_wp2_with fail
    go_loopw [7] (fun i wr => ∃ (k : Nat), k ≤ Q.length ∧ i = .int .i64 (k : Int) ∧ wr = W0) (fun i _ => Q.length - (intOf i).toNat)
    case atStart => exact ⟨0, Nat.zero_le _, rfl, rfl⟩
    case round =>
      obtain ⟨k, hk, rfl, hw⟩ := hrel
      rw [hw]
      clear hw
      by_cases hlt : k < Q.length
      · obtain ⟨qb, qo, _, e, _, _, gq⟩ := HQ.out.at k hlt
        simp only [Value.slice.injEq] at e
        obtain ⟨rfl, -, rfl⟩ := e
        have hli : (0 : Int) ≤ (k : Int) ∧ (k : Int) < (Q.length : Int) := by omega
        generalize Q[k] = qk at *
        by_cases hq1 : 100000 < qk
        · have hd3 : decide ((100000 : Int) < qk) = true := decide_eq_true hq1
          go_wp2_with fail
          go_ret
          exact ⟨rfl, HB0.out⟩
        have hd3 : decide ((100000 : Int) < qk) = false := decide_eq_false hq1
        by_cases hq2 : qk < -100000
        · have hd4 : decide (qk < (-100000 : Int)) = true := decide_eq_true hq2
          go_wp2_with fail
          go_ret
          exact ⟨rfl, HB0.out⟩
        have hd4 : decide (qk < (-100000 : Int)) = false := decide_eq_false hq2
        clear hq1 hq2
        go_wp2_with fail
        go_roundw
        case rel => exact ⟨k + 1, by omega, by go_num, by first | rfl | trivial⟩
        case measure => simp [intOf]; omega
      · obtain rfl : k = Q.length := by omega
        have HSU := hid (fun (Y : World) (b : Below W0.heap.size W0 Y) (bu : Bool) => surplus_any Y bwho bseq bzone bu bprice bqa bqc Q bparent bgroup (.slice pa P.length pc) P (HQ.out.below b) (HP.out.below b) HPR.out HQQ.out HSZ.out hQl (HMX.out.below b) (HTAB.out.below b))
        have HSH := hid (fun (Y : World) (b : Below W0.heap.size W0 Y) => hSurplus_any Y bwho bseq bzone bbuy bprice bqa bqc Q bparent bgroup (.slice pa P.length pc) P (HQ.out.below b) (HP.out.below b) HPR.out HQQ.out HSZ.out hQl)
        have HP2 := HPR
        have HQ2 := HQQ
        have HSZ2 := HSZ
        clear HQ HP HMX HTAB HPR HQQ HSZ
        go_wp2_with fail
        refine (HSU.out W0 (Below.refl _ _) bbuy).mono ?_
        rintro e Y1 ⟨⟨s, en, rfl, hs1⟩, b1⟩
        have y0 := ikc b1 z0
        have y1 := ikc b1 z1
        have y2 := ikc b1 z2
        have y3 := ikc b1 z3
        have y4 := ikc b1 z4
        have y5 := ikc b1 z5
        have y6 := ikc b1 z6
        have y7 := ikc b1 z7
        have H1 := hid hs1
        have B1 := hid b1
        clear hs1 b1
        go_wp2_with fail
        refine (HSH.out Y1 B1.out).mono ?_
        rintro e Y2 ⟨⟨t, en2, rfl, hs2⟩, b2⟩
        obtain ⟨rfl, rfl⟩ := H1.out.uniq hs2
        have B2 := hid (B1.out.trans (b2.mono B1.out.size))
        have x0 := ikc b2 y0
        have x1 := ikc b2 y1
        have x2 := ikc b2 y2
        have x3 := ikc b2 y3
        have x4 := ikc b2 y4
        have x5 := ikc b2 y5
        have x6 := ikc b2 y6
        have x7 := ikc b2 y7
        clear hs2 b2 y0 y1 y2 y3 y4 y5 y6 y7 z0 z1 z2 z3 z4 z5 z6 z7 HSH
        have xC := inew Y2 (Obj.cells #[.string bwho, .int .i64 bseq, .int .i64 bzone, .bool (!bbuy), .int .i64 bprice, .slice bqa Q.length bqc, .int .i64 bparent, .int .i64 bgroup] 54)
        have bC := ibel Y2 (Obj.cells #[.string bwho, .int .i64 bseq, .int .i64 bzone, .bool (!bbuy), .int .i64 bprice, .slice bqa Q.length bqc, .int .i64 bparent, .int .i64 bgroup] 54)
        have u0 := ibx xC 0 _ rfl
        have u1 := ibx xC 1 _ rfl
        have u2 := ibx xC 2 _ rfl
        have u3 := ibx xC 3 _ rfl
        have u4 := ibx xC 4 _ rfl
        have u5 := ibx xC 5 _ rfl
        have u6 := ibx xC 6 _ rfl
        have u7 := ibx xC 7 _ rfl
        have B3 := hid (B2.out.trans (bC.mono B2.out.size))
        have xK := inew Y2 (Obj.cells #[.string bwho, .int .i64 bseq, .int .i64 bzone, .bool bbuy, .int .i64 bprice, .slice bqa Q.length bqc, .int .i64 bparent, .int .i64 bgroup] 54)
        have bK := ibel Y2 (Obj.cells #[.string bwho, .int .i64 bseq, .int .i64 bzone, .bool bbuy, .int .i64 bprice, .slice bqa Q.length bqc, .int .i64 bparent, .int .i64 bgroup] 54)
        have k3 := ibx xK 3 _ rfl
        have l3 := ikc bK x3
        have fK := free_at (L := [.string bwho, .int .i64 bseq, .int .i64 bzone, .bool bbuy, .int .i64 bprice, .slice bqa Q.length bqc, .int .i64 bparent, .int .i64 bgroup]) xK 3
        have xB : ((Y2.alloc (Obj.cells #[.string bwho, .int .i64 bseq, .int .i64 bzone, .bool bbuy, .int .i64 bprice, .slice bqa Q.length bqc, .int .i64 bparent, .int .i64 bgroup] 54)).setCell ⟨Y2.heap.size, 3, none⟩ (.bool (!bbuy))).heap[Y2.heap.size]? = some (Obj.cells #[.string bwho, .int .i64 bseq, .int .i64 bzone, .bool (!bbuy), .int .i64 bprice, .slice bqa Q.length bqc, .int .i64 bparent, .int .i64 bgroup] 54) := by simpa using set_at (L := [.string bwho, .int .i64 bseq, .int .i64 bzone, .bool bbuy, .int .i64 bprice, .slice bqa Q.length bqc, .int .i64 bparent, .int .i64 bgroup]) (k := 3) (v := .bool (!bbuy)) xK
        have B3b := hid ((B2.out.trans (bK.mono B2.out.size)).setCell (p := ⟨Y2.heap.size, 3, none⟩) B2.out.size (.bool (!bbuy)))
        have v0 := ibx xB 0 _ rfl
        have v1 := ibx xB 1 _ rfl
        have v2 := ibx xB 2 _ rfl
        have v3 := ibx xB 3 _ rfl
        have v4 := ibx xB 4 _ rfl
        have v5 := ibx xB 5 _ rfl
        have v6 := ibx xB 6 _ rfl
        have v7 := ibx xB 7 _ rfl
        clear xC bC xK bK xB
        go_wp2_with fail
        refine (HSU.out _ (by first | exact B3.out | exact B3b.out) (!bbuy)).mono ?_
        rintro e Y3 ⟨⟨u, en3, rfl, hs3⟩, b3⟩
        have B4 := hid (by first | exact B3.out.trans (b3.mono B3.out.size) | exact B3b.out.trans (b3.mono B3b.out.size) : Below W0.heap.size W0 Y3)
        have HBF := hid (HB0.out.trans (B4.out.mono HB0.out.size))
        obtain ⟨rfl, HT⟩ := H1.out.turn hs3
        have HS3 := hid hs3
        clear hs3 b3 HSU
        have hz1 := H1.out.size HP2.out HQ2.out HSZ2.out hQl
        have hz2 := HS3.out.size HP2.out HQ2.out HSZ2.out hQl
        clear H1 HS3
        by_cases hne : en = 0
        case neg =>
          clear HT HSZ2 hz1 hz2
          go_wp2_with fail
          go_ret
          exact ⟨rfl, HBF.out⟩
        subst hne
        rcases HT with hne | ⟨rfl, rfl⟩ | rfl | rfl
        · exact absurd rfl hne
        · clear HSZ2
          go_wp2_with fail
          go_ret
          exact ⟨rfl, HBF.out⟩
        · have q1 : ¬ (minus s).toList = s.toList := fun e => by have := str_ne5 (minus_ne s); rw [e] at this; simp at this
          have q2 : ¬ 9223372036854775807 < 1 + s.size := by omega
          have q3 : (⟨#[45]⟩ ++ s : ByteArray) = minus s := rfl
          clear HSZ2 hz1 hz2
          go_wp2_with fail
          go_ret
          exact ⟨rfl, HBF.out⟩
        · have q1 : ¬ u.toList = (minus u).toList := fun e => by have := str_ne5 (minus_ne u); rw [← e] at this; simp at this
          have q2 : ¬ 9223372036854775807 < 1 + (minus u).size := by omega
          have q3 : (⟨#[45]⟩ ++ minus u : ByteArray) = minus (minus u) := rfl
          have q4 : ¬ u.toList = (minus (minus u)).toList := fun e => by have := str_ne5 (minus_two u); rw [← e] at this; simp at this
          have q5 : ¬ 9223372036854775807 < 1 + u.size := by omega
          have q6 : (⟨#[45]⟩ ++ u : ByteArray) = minus u := rfl
          clear HSZ2 hz1 hz2
          go_wp2_with fail
          go_ret
          exact ⟨rfl, HBF.out⟩
end Go.Proofs.YtbmdoncdgopoaaaGreatDoor
