/- The document's times: how often one number goes into another. -/
import Derived.Test.YtchibjdhdbkdhaaDoorRSmall
import Derived.Test.YtchibjdhdbkdhaaDoorRCmp
import Derived.Test.YtchibjdhdbkdhaaDoorLaws
import Derived.Test.YtchibjdhdbkdhaaDoorNBase
import Derived.Deep.LoopGhost
namespace Go.Proofs.YtchibjdhdbkdhaaDoor
open Go.RowKit
set_option linter.unusedVariables false
set_option maxRecDepth 100000
set_option linter.unusedSimpArgs false

set_option maxHeartbeats 2000000 in
theorem rtimes_any (w : World) (a b : Value) (m n K K' : Nat) (hK : K ≤ 900000000) (hK' : K' ≤ 900000000) (ha : RefIs w a m K) (hb : RefIs w b n K') (h0 : 0 < n) (hlt : m < 1000000000 * n) :
    Calls Tryd.prog 64 #[a, b] w fun e w' => e = .returned (.int .i64 ((m / n : Nat) : Int)) ∧ Below w.heap.size w w' := by
  obtain ⟨aa, la, ca, rfl⟩ := ha.form
  obtain ⟨ab, lb, cb, rfl⟩ := hb.form
  have B0 := boxed2 (Below.refl w.heap.size w) (Obj.cells #[Value.slice aa la ca] 29) (Obj.cells #[Value.slice ab lb cb] 29)
  have b1 := boxed2_first w (Obj.cells #[Value.slice aa la ca] 29) (Obj.cells #[Value.slice ab lb cb] 29)
  have b2 := boxed2_second w (Obj.cells #[Value.slice aa la ca] 29) (Obj.cells #[Value.slice ab lb cb] 29)
  go_enter Tryd.func64, Tryd.ntmps64
  go_wp2
  generalize (w.alloc (Obj.cells #[Value.slice aa la ca] 29)).alloc (Obj.cells #[Value.slice ab lb cb] 29) = W at *
  have hs0 : w.heap.size + 1 < W.heap.size := lt_of_block b2
  go_loopg [5, 6] 999999999 (fun k lo hi wr => ∃ l h : Nat, lo = .int .i64 l ∧ hi = .int .i64 h ∧ l + k = h ∧ h ≤ 999999999 ∧ Hid (l * n ≤ m ∧ m < (h + 1) * n) ∧ Below W.heap.size W wr)
  case atStart => exact ⟨0, 999999999, rfl, rfl, by omega, by omega, hid ⟨by omega, by omega⟩, Below.refl _ _⟩
  case round =>
    obtain ⟨l, h, rfl, rfl, hlk, hh, HR, hB⟩ := hrel
    cases gk with
    | zero =>
      have hle : ¬ ((l : Int) < (h : Int)) := by omega
      have HE := hid (show m / n = l from Nat.div_eq_of_lt_le HR.out.1 (by have := HR.out.2; rw [show h = l by omega] at this; exact this))
      have CE := chain2 B0 hB
      clear hlk
      go_wp2
      go_ret
      exact ⟨by rw [show ((m : Int) / (n : Int)) = (l : Int) from by rw [← HE.out]; simp]; rfl, CE⟩
    | succ g =>
      have hle : (l : Int) < (h : Int) := by omega
      obtain ⟨M, hM⟩ : ∃ M, (l + h + 1) / 2 = M := ⟨_, rfl⟩
      have hM1 : ((l : Int) + (h : Int) + 1).tdiv 2 = (M : Int) := by rw [Int.tdiv_eq_ediv_of_nonneg (by omega)]; omega
      have hM2 : ((l : Int) + (h : Int) + 1) / 2 = (M : Int) := by omega
      have hlM : l < M := by omega
      have hMh : M ≤ h := by omega
      have t1 := kc hB (cell_of_one b1)
      have t2 := kc hB (cell_of_one b2)
      have ha1 := (ha.below B0).below hB
      have hb1 := (hb.below B0).below hB
      clear hM
      have HL := hid hlk
      clear hlk
      by_cases hc : n * M + 0 ≤ m
      case' pos =>
        obtain ⟨q, hq⟩ : ∃ q, cmpI (n * M + 0) m = q := ⟨_, rfl⟩
        have hq0 : q ≤ 0 := by rw [← hq]; unfold cmpI; repeat' split
                               all_goals omega
      case' neg =>
        obtain ⟨q, hq⟩ : ∃ q, cmpI (n * M + 0) m = q := ⟨_, rfl⟩
        have hq0 : ¬ q ≤ 0 := by rw [← hq, cmpI_gt (by omega)]; omega
      all_goals
        have HQ := hid hq
        have HC := hid hc
        clear hq hc
        go_wp2
        have D0 : Below wr.heap.size wr wr.drew := (Below.refl _ _).drew
        go_region_held3 (fun w' => w'.cell? ⟨w.heap.size, 0, none⟩ = some (.slice aa la ca) ∧ w'.cell? ⟨w.heap.size + 1, 0, none⟩ = some (.slice ab lb cb)) ((first | exact ⟨t1, t2⟩ | exact K1 | exact K2)) (first
          | (have gg := D1; go_at_call 71; refine (rcmp_any _ _ _ _ _ _ _ (by omega) (by omega) n1 (ha1.below D1)).mono ?_; rintro e w3 ⟨rfl, hb3⟩; have D2 := chain2 D1 hb3; have K2 := And.intro (kc D2 t1) (kc D2 t2); rw [HQ.out])
          | (have gg := D0; go_at_call 66; refine (rsmall_any _ _ n K' M 0 (by omega) (by omega) (by omega) (hb1.below D0)).mono ?_; rintro e w2 ⟨v1, rfl, n1, hb2⟩; have D1 := chain2 D0 hb2; have K1 := And.intro (kc D1 t1) (kc D1 t2)))
        have BE := chain2 hB D2
        clear D1 D2 D0 K1 K2 hb2 hb3 n1 t1 t2 ha1 hb1 gg HQ
        go_wp2
      · go_roundg (M - 1 - l)
        case rel => exact ⟨l, M - 1, by go_num, by go_num, by omega, by omega, hid ⟨HR.out.1, by have := HC.out; rw [show M - 1 + 1 = M by omega, Nat.mul_comm]; omega⟩, BE⟩
        case measure => have := HL.out; omega
      · go_roundg (h - M)
        case rel => exact ⟨M, h, by go_num, by go_num, by omega, hh, hid ⟨by have := HC.out; rw [Nat.mul_comm]; omega, HR.out.2⟩, BE⟩
        case measure => have := HL.out; omega
end Go.Proofs.YtchibjdhdbkdhaaDoor
