/- price: heavy, of the law. -/
import Derived.Test.YtcdkoadobdgbhaaGreatDoorPk44
import Derived.Test.YtcdkoadobdgbhaaGreatDoorPk14
import Derived.Test.YtcdkoadobdgbhaaGreatDoorZK15M
namespace Go.Proofs.YtcdkoadobdgbhaaGreatDoor
open Go.RowKit
set_option linter.unusedVariables false
set_option maxRecDepth 100000
set_option linter.unusedSimpArgs false

/-- What heavy says where it says no. -/
def Hvy17 (S : List Sp) (B : List Bl) (X : List ByteArray) (F : List (List ByteArray)) : Prop := S.length ≤ 8 ∧ B.length ≤ 4 ∧ (X.length ≤ 256 ∧ ∀ s ∈ X, s.size ≤ 256) ∧ (F.length ≤ 256 ∧ ∀ f ∈ F, f.length ≤ 256 ∧ ∀ s ∈ f, s.size ≤ 256)
set_option maxHeartbeats 6400000 in
theorem heavy17_any (w : World) (g : Gr) (la : Option Addr) (lc : Nat) (sa : Option Addr) (sc : Nat) (S : List Sp) (ba : Option Addr) (bc : Nat) (B : List Bl) (aa : Option Addr) (ac : Nat) (A : List Bool) (xa : Option Addr) (xc : Nat) (X : List ByteArray) (fa : Option Addr) (fc : Nat) (F : List (List ByteArray))
    (hs : Sps w (.slice sa S.length sc) S) (hb : Bks w (.slice ba B.length bc) B) (hx : Strs w (.slice xa X.length xc) X) (hf : Sss w (.slice fa F.length fc) F) (hql : ∀ k (h : k < B.length), B[k].qty.length ≤ 9223372036854775807) (hla : g.lines.length ≤ 140737488351232) (haa : A.length ≤ 140737488351232) :
    Calls Tryz.prog 18 #[.agg #[.int .i64 g.zones, .int .i64 g.hours, .slice la g.lines.length lc, .int .i64 g.low, .int .i64 g.high, .slice sa S.length sc, .slice ba B.length bc, .slice aa A.length ac, .slice xa X.length xc, .slice fa F.length fc]] w fun e w' => (∃ R : Bool, e = .returned (.bool R) ∧ (R = false → Hvy17 S B X F)) ∧ Below w.heap.size w w' := by
  have b0 := ibel w (Obj.cells #[.int .i64 g.zones, .int .i64 g.hours, .slice la g.lines.length lc, .int .i64 g.low, .int .i64 g.high, .slice sa S.length sc, .slice ba B.length bc, .slice aa A.length ac, .slice xa X.length xc, .slice fa F.length fc] 55)
  have x0 := inew w (Obj.cells #[.int .i64 g.zones, .int .i64 g.hours, .slice la g.lines.length lc, .int .i64 g.low, .int .i64 g.high, .slice sa S.length sc, .slice ba B.length bc, .slice aa A.length ac, .slice xa X.length xc, .slice fa F.length fc] 55)
  have z2 := ibx x0 2 _ rfl
  have z5 := ibx x0 5 _ rfl
  have z6 := ibx x0 6 _ rfl
  have z7 := ibx x0 7 _ rfl
  have z8 := ibx x0 8 _ rfl
  have z9 := ibx x0 9 _ rfl
  have HXX := hid (hx.below b0)
  have HSS := hid (hf.below b0)
  have HBK := hid (hb.below b0)
  have HQL := hid hql
  have HB0 := hid b0
  obtain ⟨_, _, e1, _, xm⟩ := hx.slice
  simp only [Value.slice.injEq] at e1
  obtain ⟨rfl, -, rfl⟩ := e1
  obtain ⟨_, _, e1, _, fm⟩ := hf.slice
  simp only [Value.slice.injEq] at e1
  obtain ⟨rfl, -, rfl⟩ := e1
  obtain ⟨_, _, e1, bl, bm⟩ := hb.slice
  simp only [Value.slice.injEq] at e1
  obtain ⟨rfl, -, rfl⟩ := e1
  obtain ⟨_, _, e1, sl, sm⟩ := hs.slice
  simp only [Value.slice.injEq] at e1
  obtain ⟨rfl, -, rfl⟩ := e1
  unfold maxLen at xm fm bm sm
  clear hx hf hb hs hql x0 b0
  generalize g.lines.length = gl at *
  generalize A.length = al at *
  go_enter Tryz.func18, Tryz.ntmps18
  go_wp2_with fail
  generalize hW : w.alloc (Obj.cells #[.int .i64 g.zones, .int .i64 g.hours, .slice la gl lc, .int .i64 g.low, .int .i64 g.high, .slice sa S.length sc, .slice ba B.length bc, .slice aa al ac, .slice xa X.length xc, .slice fa F.length fc] 55) = W at *
  clear hW
  go_loopw [3, 4] (fun n i wr => ∃ (k m : Nat), k ≤ X.length ∧ n = .int .i64 (m : Int) ∧ i = .int .i64 (k : Int) ∧ k ≤ m ∧ m ≤ 300000000000000 ∧ Hid (m ≤ 256 → ∀ j, j < k → ∀ hj : j < X.length, X[j].size ≤ 256) ∧ wr = W) (fun n i _ => X.length - (intOf i).toNat)
  case atStart => exact ⟨0, gl + al, Nat.zero_le _, by go_num, rfl, Nat.zero_le _, by omega, hid (fun _ j hj => absurd hj (Nat.not_lt_zero _)), rfl⟩
  case round =>
    obtain ⟨k, m, hk, rfl, rfl, hkm, hmm, HK, hw⟩ := hrel
    rw [hw]
    clear hw hla haa
    by_cases hlt : k < X.length
    · have hltI : decide ((k : Int) < (X.length : Int)) = true := decide_eq_true (by omega)
      by_cases h256 : m ≤ 256
      · have h2' : decide ((m : Int) ≤ 256) = true := decide_eq_true (by omega)
        obtain ⟨b, off, c', e, _, _, q0, q1⟩ := HXX.out.at k hlt
        simp only [Value.slice.injEq] at e
        obtain ⟨rfl, -, rfl⟩ := e
        unfold maxLen at q1
        have hli : (0 : Int) ≤ (k : Int) ∧ (k : Int) < (X.length : Int) := by omega
        have HS1 := hid (show m + (1 + min X[k].size 1048576) ≤ 256 → ∀ j, j < k + 1 → ∀ hj : j < X.length, X[j].size ≤ 256 from fun hh j hj hjl => by
          rcases Nat.lt_or_ge j k with q | q
          · exact HK.out (by omega) j q hjl
          · obtain rfl : j = k := by omega
            omega)
        generalize X[k] = s at *
        obtain ⟨d, HD⟩ : ∃ d : Nat, Hid (min s.size 1048576 = d) := ⟨_, hid rfl⟩
        have hd1 : (if (1048576 : Int) < (s.size : Int) then (1048576 : Int) else (s.size : Int)) = (d : Int) := by rw [← HD.out]; split <;> omega
        have hd2 : (if 1048576 < s.size then (1048576 : Int) else (s.size : Int)) = (d : Int) := by rw [← HD.out]; split <;> omega
        have hd3 : min (s.size : Int) 1048576 = (d : Int) := by rw [← HD.out]; omega
        have hdl : d ≤ 1048576 := by rw [← HD.out]; omega
        rw [HD.out] at HS1
        clear HK HD
        go_wp2_with fail
        go_roundw
        case rel => exact ⟨k + 1, m + (1 + d), by omega, by go_num, by go_num, by omega, by omega, HS1, by first | rfl | trivial⟩
        case measure => simp [intOf]; omega
      · clear HK
        have h2' : decide ((m : Int) ≤ 256) = false := decide_eq_false (by omega)
        go_wp2_with fail
        go_loopw [3, 5] (fun n i wr => n = .int .i64 (m : Int) ∧ i = .int .i64 0 ∧ wr = W) (fun _ _ _ => 0)
        case atStart => exact ⟨rfl, rfl, rfl⟩
        case round =>
          obtain ⟨rfl, rfl, hw⟩ := hrel
          rw [hw]
          clear hw
          obtain ⟨bz, HBZ⟩ : ∃ b, decide (0 < F.length) = b := ⟨_, rfl⟩
          have HBY : decide ((0 : Int) < (F.length : Int)) = bz := by rw [← HBZ]; exact decide_eq_decide.2 (by omega)
          cases bz with
          | true =>
            go_wp2_with fail
            go_loopw [3, 7] (fun n i wr => n = .int .i64 (m : Int) ∧ i = .int .i64 0 ∧ wr = W) (fun _ _ _ => 0)
            case atStart => exact ⟨rfl, rfl, rfl⟩
            case round =>
              obtain ⟨rfl, rfl, hw⟩ := hrel
              rw [hw]
              clear hw
              obtain ⟨bz, HBZ⟩ : ∃ b, decide (0 < B.length) = b := ⟨_, rfl⟩
              have HBY : decide ((0 : Int) < (B.length : Int)) = bz := by rw [← HBZ]; exact decide_eq_decide.2 (by omega)
              cases bz with
              | true =>
                have h3' : decide ((256 : Int) < (m : Int)) = true := decide_eq_true (by omega)
                go_wp2_with fail
                go_ret
                exact ⟨⟨true, rfl, fun h => by cases h⟩, HB0.out⟩
              | false =>
                have h3' : decide ((256 : Int) < (m : Int)) = true := decide_eq_true (by omega)
                go_wp2_with fail
                go_ret
                exact ⟨⟨true, rfl, fun h => by cases h⟩, HB0.out⟩
          | false =>
            go_wp2_with fail
            go_loopw [3, 7] (fun n i wr => n = .int .i64 (m : Int) ∧ i = .int .i64 0 ∧ wr = W) (fun _ _ _ => 0)
            case atStart => exact ⟨rfl, rfl, rfl⟩
            case round =>
              obtain ⟨rfl, rfl, hw⟩ := hrel
              rw [hw]
              clear hw
              obtain ⟨bz, HBZ⟩ : ∃ b, decide (0 < B.length) = b := ⟨_, rfl⟩
              have HBY : decide ((0 : Int) < (B.length : Int)) = bz := by rw [← HBZ]; exact decide_eq_decide.2 (by omega)
              cases bz with
              | true =>
                have h3' : decide ((256 : Int) < (m : Int)) = true := decide_eq_true (by omega)
                go_wp2_with fail
                go_ret
                exact ⟨⟨true, rfl, fun h => by cases h⟩, HB0.out⟩
              | false =>
                have h3' : decide ((256 : Int) < (m : Int)) = true := decide_eq_true (by omega)
                go_wp2_with fail
                go_ret
                exact ⟨⟨true, rfl, fun h => by cases h⟩, HB0.out⟩
    · have hltI : decide ((k : Int) < (X.length : Int)) = false := decide_eq_false (by omega)
      have HXA := hid (show m ≤ 256 → X.length ≤ 256 ∧ ∀ s ∈ X, s.size ≤ 256 from fun h => ⟨by omega, fun s hs => by
        obtain ⟨j, hj, rfl⟩ := List.mem_iff_getElem.1 hs
        exact HK.out h j (by omega) hj⟩)
      clear HK hkm
      go_wp2_with fail
      go_loopw [3, 5] (fun n i wr => ∃ (k m' : Nat), k ≤ F.length ∧ n = .int .i64 (m' : Int) ∧ i = .int .i64 (k : Int) ∧ m ≤ m' ∧ k ≤ m' ∧ m' ≤ 300000000000000 ∧ Hid (m' ≤ 256 → ∀ j, j < k → ∀ hj : j < F.length, F[j].length ≤ 256 ∧ ∀ s ∈ F[j], s.size ≤ 256) ∧ wr = W) (fun n i _ => F.length - (intOf i).toNat)
      case atStart => exact ⟨0, m, Nat.zero_le _, rfl, rfl, Nat.le_refl _, Nat.zero_le _, hmm, hid (fun _ j hj => absurd hj (Nat.not_lt_zero _)), rfl⟩
      case round =>
        obtain ⟨k, m', hk, rfl, rfl, hmm0, hkm, hmm', HK, hw⟩ := hrel
        rw [hw]
        clear hw
        have HXA := hid (fun h : m' ≤ 256 => HXA.out (Nat.le_trans hmm0 h))
        clear hmm
        have hmm00 := hmm0
        by_cases hlt : k < F.length
        · have hltI : decide ((k : Int) < (F.length : Int)) = true := decide_eq_true (by omega)
          by_cases h256 : m' ≤ 256
          · have h2' : decide ((m' : Int) ≤ 256) = true := decide_eq_true (by omega)
            obtain ⟨pb, po, pc', ua, uc, e, gk, hu, ul, um⟩ := HSS.out.at k hlt
            simp only [Value.slice.injEq] at e
            obtain ⟨rfl, -, rfl⟩ := e
            unfold maxLen at um
            have HU := hid hu
            clear hu
            have hli : (0 : Int) ≤ (k : Int) ∧ (k : Int) < (F.length : Int) := by omega
            have HS2 := hid (fun (x : Nat) (hx0 : m' ≤ x) (hx : x ≤ 256 → F[k].length ≤ 256 ∧ ∀ s ∈ F[k], s.size ≤ 256) => show x ≤ 256 → ∀ j, j < k + 1 → ∀ hj : j < F.length, F[j].length ≤ 256 ∧ ∀ s ∈ F[j], s.size ≤ 256 from fun hh j hj hjl => by
              rcases Nat.lt_or_ge j k with q | q
              · exact HK.out (by omega) j q hjl
              · obtain rfl : j = k := by omega
                exact hx hh)
            clear HK
            generalize F[k] = U at *
            go_wp2_with fail
            go_loopw [3, 6] (fun n i wr => ∃ (j y : Nat), j ≤ U.length ∧ n = .int .i64 (y : Int) ∧ i = .int .i64 (j : Int) ∧ m' + 1 ≤ y ∧ j ≤ y ∧ y ≤ 300000000000000 ∧ Hid (y ≤ 256 → ∀ q, q < j → ∀ hq : q < U.length, U[q].size ≤ 256) ∧ wr = W) (fun n i _ => U.length - (intOf i).toNat)
            case atStart => exact ⟨0, m' + 1, Nat.zero_le _, by go_num, rfl, Nat.le_refl _, Nat.zero_le _, by omega, hid (fun _ j hj => absurd hj (Nat.not_lt_zero _)), rfl⟩
            case round =>
              obtain ⟨j, y, hj, rfl, rfl, hy0, hjy, hy1, HY, hw⟩ := hrel
              rw [hw]
              clear hw h2'
              by_cases hltj : j < U.length
              · have hltI2 : decide ((j : Int) < (U.length : Int)) = true := decide_eq_true (by omega)
                by_cases hy256 : y ≤ 256
                · have h2' : decide ((y : Int) ≤ 256) = true := decide_eq_true (by omega)
                  obtain ⟨sb, so, sc', e, _, _, q0, q1⟩ := HU.out.at j hltj
                  simp only [Value.slice.injEq] at e
                  obtain ⟨rfl, -, rfl⟩ := e
                  unfold maxLen at q1
                  have hli2 : (0 : Int) ≤ (j : Int) ∧ (j : Int) < (U.length : Int) := by omega
                  have HS1 := hid (show y + (1 + min U[j].size 1048576) ≤ 256 → ∀ q, q < j + 1 → ∀ hq : q < U.length, U[q].size ≤ 256 from fun hh q hq hql => by
                    rcases Nat.lt_or_ge q j with p | p
                    · exact HY.out (by omega) q p hql
                    · obtain rfl : q = j := by omega
                      omega)
                  generalize U[j] = s at *
                  obtain ⟨d, HD⟩ : ∃ d : Nat, Hid (min s.size 1048576 = d) := ⟨_, hid rfl⟩
                  have hd1 : (if (1048576 : Int) < (s.size : Int) then (1048576 : Int) else (s.size : Int)) = (d : Int) := by rw [← HD.out]; split <;> omega
                  have hd2 : (if 1048576 < s.size then (1048576 : Int) else (s.size : Int)) = (d : Int) := by rw [← HD.out]; split <;> omega
                  have hd3 : min (s.size : Int) 1048576 = (d : Int) := by rw [← HD.out]; omega
                  have hdl : d ≤ 1048576 := by rw [← HD.out]; omega
                  rw [HD.out] at HS1
                  clear HY HD HS2
                  go_wp2_with fail
                  go_roundw
                  case rel => exact ⟨j + 1, y + (1 + d), by omega, by go_num, by go_num, by omega, by omega, by omega, HS1, by first | rfl | trivial⟩
                  case measure => simp [intOf]; omega
                · have h2' : decide ((y : Int) ≤ 256) = false := decide_eq_false (by omega)
                  have HN := hid (HS2.out y (by omega) (fun h => by omega))
                  clear HY HS2
                  go_wp2_with fail
                  go_roundw
                  case rel => exact ⟨k + 1, y, by omega, rfl, by go_num, by omega, by omega, hy1, HN, by first | rfl | trivial⟩
                  case measure => simp [intOf]; omega
              · have hltI2 : decide ((j : Int) < (U.length : Int)) = false := decide_eq_false (by omega)
                have HN := hid (HS2.out y (by omega) (fun h => ⟨by omega, fun s hs => by
                  obtain ⟨q, hq, rfl⟩ := List.mem_iff_getElem.1 hs
                  exact HY.out h q (by omega) hq⟩))
                clear HY HS2
                go_wp2_with fail
                go_roundw
                case rel => exact ⟨k + 1, y, by omega, rfl, by go_num, by omega, by omega, hy1, HN, by first | rfl | trivial⟩
                case measure => simp [intOf]; omega
          · clear HK HXA hmm0 hmm00
            obtain ⟨m, hmeq⟩ : ∃ m, m = m' := ⟨_, rfl⟩
            subst hmeq
            have hmm := hmm'
            clear hmm'
            have h2' : decide ((m : Int) ≤ 256) = false := decide_eq_false (by omega)
            go_wp2_with fail
            go_loopw [3, 7] (fun n i wr => n = .int .i64 (m : Int) ∧ i = .int .i64 0 ∧ wr = W) (fun _ _ _ => 0)
            case atStart => exact ⟨rfl, rfl, rfl⟩
            case round =>
              obtain ⟨rfl, rfl, hw⟩ := hrel
              rw [hw]
              clear hw
              obtain ⟨bz, HBZ⟩ : ∃ b, decide (0 < B.length) = b := ⟨_, rfl⟩
              have HBY : decide ((0 : Int) < (B.length : Int)) = bz := by rw [← HBZ]; exact decide_eq_decide.2 (by omega)
              cases bz with
              | true =>
                have h3' : decide ((256 : Int) < (m : Int)) = true := decide_eq_true (by omega)
                go_wp2_with fail
                go_ret
                exact ⟨⟨true, rfl, fun h => by cases h⟩, HB0.out⟩
              | false =>
                have h3' : decide ((256 : Int) < (m : Int)) = true := decide_eq_true (by omega)
                go_wp2_with fail
                go_ret
                exact ⟨⟨true, rfl, fun h => by cases h⟩, HB0.out⟩
        · have hltI : decide ((k : Int) < (F.length : Int)) = false := decide_eq_false (by omega)
          have HFA := hid (show m' ≤ 256 → F.length ≤ 256 ∧ ∀ f ∈ F, f.length ≤ 256 ∧ ∀ s ∈ f, s.size ≤ 256 from fun h => ⟨by omega, fun f hf => by
            obtain ⟨j, hj, rfl⟩ := List.mem_iff_getElem.1 hf
            exact HK.out h j (by omega) hj⟩)
          clear HK hmm0 hmm00 hkm
          obtain ⟨m, hmeq⟩ : ∃ m, m = m' := ⟨_, rfl⟩
          subst hmeq
          have hmm := hmm'
          clear hmm'
          go_wp2_with fail
          go_loopw [3, 7] (fun n i wr => ∃ (k m' : Nat), k ≤ B.length ∧ n = .int .i64 (m' : Int) ∧ i = .int .i64 (k : Int) ∧ m ≤ m' ∧ m' ≤ 300000000000000 ∧ wr = W) (fun n i _ => B.length - (intOf i).toNat)
          case atStart => exact ⟨0, m, Nat.zero_le _, rfl, rfl, Nat.le_refl _, hmm, rfl⟩
          case round =>
            obtain ⟨k, m', hk, rfl, rfl, hmm0, hmm', hw⟩ := hrel
            rw [hw]
            clear hw
            have HXA := hid (fun h : m' ≤ 256 => HXA.out (Nat.le_trans hmm0 h))
            have HFA := hid (fun h : m' ≤ 256 => HFA.out (Nat.le_trans hmm0 h))
            clear hmm
            obtain ⟨m, hmeq⟩ : ∃ m, m = m' := ⟨_, rfl⟩
            subst hmeq
            have hmm := hmm'
            clear hmm'
            by_cases hlt : k < B.length
            · have hltI : decide ((k : Int) < (B.length : Int)) = true := decide_eq_true (by omega)
              by_cases h256 : m ≤ 256
              · have h2' : decide ((m : Int) ≤ 256) = true := decide_eq_true (by omega)
                obtain ⟨bb, bo, bc', e, hba, -⟩ := HBK.out.at k hlt
                simp only [Value.slice.injEq] at e
                obtain ⟨rfl, -, rfl⟩ := e
                have hli : (0 : Int) ≤ (k : Int) ∧ (k : Int) < (B.length : Int) := by omega
                obtain ⟨-, -, -, -, -, q5, -, -⟩ := hba
                have hQL := HQL.out k hlt
                generalize B[k].qty.length = ql at *
                generalize B[k].qa = qa at *
                generalize B[k].qc = qc at *
                obtain ⟨d, HD⟩ : ∃ d : Nat, Hid (min ql 1048576 = d) := ⟨_, hid rfl⟩
                have hd1 : (if (1048576 : Int) < (ql : Int) then (1048576 : Int) else (ql : Int)) = (d : Int) := by rw [← HD.out]; split <;> omega
                have hd2 : (if 1048576 < ql then (1048576 : Int) else (ql : Int)) = (d : Int) := by rw [← HD.out]; split <;> omega
                have hd3 : min (ql : Int) 1048576 = (d : Int) := by rw [← HD.out]; omega
                have hdl : d ≤ 1048576 := by rw [← HD.out]; omega
                clear HD
                go_wp2_with fail
                go_roundw
                case rel => exact ⟨k + 1, m + d, by omega, by go_num, by go_num, by omega, by omega, by first | rfl | trivial⟩
                case measure => simp [intOf]; omega
              · have h2' : decide ((m : Int) ≤ 256) = false := decide_eq_false (by omega)
                have h3' : decide ((256 : Int) < (m : Int)) = true := decide_eq_true (by omega)
                go_wp2_with fail
                go_ret
                exact ⟨⟨true, rfl, fun h => by cases h⟩, HB0.out⟩
            · have hltI : decide ((k : Int) < (B.length : Int)) = false := decide_eq_false (by omega)
              by_cases hm3 : m ≤ 256
              case neg =>
                have h3' : decide ((256 : Int) < (m : Int)) = true := decide_eq_true (by omega)
                go_wp2_with fail
                go_ret
                exact ⟨⟨true, rfl, fun h => by cases h⟩, HB0.out⟩
              have h3' : decide ((256 : Int) < (m : Int)) = false := decide_eq_false (by omega)
              by_cases hs8 : S.length ≤ 8
              case neg =>
                have h4' : decide ((8 : Int) < (S.length : Int)) = true := decide_eq_true (by omega)
                go_wp2_with fail
                go_ret
                exact ⟨⟨true, rfl, fun h => by cases h⟩, HB0.out⟩
              have h4' : decide ((8 : Int) < (S.length : Int)) = false := decide_eq_false (by omega)
              by_cases hb4 : B.length ≤ 4
              case neg =>
                have h5' : decide ((4 : Int) < (B.length : Int)) = true := decide_eq_true (by omega)
                go_wp2_with fail
                go_ret
                exact ⟨⟨true, rfl, fun h => by cases h⟩, HB0.out⟩
              have h5' : decide ((4 : Int) < (B.length : Int)) = false := decide_eq_false (by omega)
              have HV := hid (show Hvy17 S B X F from ⟨hs8, hb4, HXA.out (by omega), HFA.out (by omega)⟩)
              go_wp2_with fail
              go_ret
              exact ⟨⟨false, rfl, fun _ => HV.out⟩, HB0.out⟩
end Go.Proofs.YtcdkoadobdgbhaaGreatDoor
