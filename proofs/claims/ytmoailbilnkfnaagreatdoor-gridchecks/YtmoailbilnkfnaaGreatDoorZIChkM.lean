/- GridChecks: plain parts; same. -/
import Derived.Test.YtmoailbilnkfnaaGreatDoorZISumsM
import Derived.Deep.QuietTactic
import Derived.BigQuiet
namespace Go.Proofs.YtmoailbilnkfnaaGreatDoor
open Go.RowKit
set_option linter.unusedVariables false
set_option maxRecDepth 100000
set_option linter.unusedSimpArgs false

set_option maxHeartbeats 3200000 in
theorem same14_true (w : World) (va vb : Value) (L : List ByteArray) (ha : Strs w va L) (hb : Strs w vb L) :
    Calls Tryz.prog 14 #[va, vb] w fun e w' => e = .returned (.bool true) ∧ Below w.heap.size w w' := by
  obtain ⟨a1, c1, ea, hl, hm⟩ := ha.slice
  obtain ⟨a2, c2, eb, _, _⟩ := hb.slice
  subst ea eb
  unfold maxLen at hm
  go_enter Tryz.func14, Tryz.ntmps14
  go_wp2
  go_loopw [5] (fun i wr => ∃ k : Nat, k ≤ L.length ∧ i = .int .i64 (k : Int) ∧ Below w.heap.size w wr) (fun i _ => L.length - (intOf i).toNat)
  case atStart => exact ⟨0, Nat.zero_le _, rfl, Below.refl _ _⟩
  case round =>
    obtain ⟨k, hk, rfl, hbel⟩ := hrel
    by_cases hlt : k < L.length
    · obtain ⟨b1, o1, d1, e1, l1, m1, f1, r1⟩ := (ha.below hbel).at k hlt
      obtain ⟨b2, o2, d2, e2, l2, m2, f2, r2⟩ := (hb.below hbel).at k hlt
      simp only [Value.slice.injEq] at e1 e2
      obtain ⟨rfl, _, rfl⟩ := e1
      obtain ⟨rfl, _, rfl⟩ := e2
      unfold maxLen at m1 m2
      have HA := hid ha
      have HB := hid hb
      clear ha hb r1 r2
      generalize L[k] = x at *
      go_wp2_with fail
      go_quiet (fail)
      have hbW := below_dn hbel nq
      clear f1 f2 hbel
      generalize wr.drewN nq = W at *
      go_wp2
      go_roundw
      case rel => exact ⟨k + 1, by omega, by go_num, hbW⟩
      case measure => simp [intOf]; omega
    · go_wp2
      go_ret
      exact ⟨rfl, hbel⟩
theorem IExp.some {F : List ByteArray} {S : List Ln} {n M : Nat} {e1 : Ending} {w1 : World} (h : IExp F S n M e1 w1) :
    ∃ av L ee, e1 = .returned (.tuple #[av, .int .i64 ee]) ∧ Strs w1 av L ∧ ∀ (M' : Nat) (e2 : Ending) (w2 : World), IExp F S n M' e2 w2 → ∃ bv, e2 = .returned (.tuple #[bv, .int .i64 ee]) ∧ Strs w2 bv L := by
  by_cases hl : F.length = S.length
  · by_cases hx : ∃ X, Nums F X
    · obtain ⟨X, hX⟩ := hx
      obtain ⟨a, Z, h1, h2, h3, _⟩ := h.full hl hX
      refine ⟨a, Z, 0, h1, h2, fun M' e2 w2 k => ?_⟩
      obtain ⟨b, Z', k1, k2, k3, _⟩ := k.full hl hX
      obtain rfl := TxL.uniq h3 k3
      exact ⟨b, k1, k2⟩
    · exact ⟨_, [], 10, h.none hl hx, Strs.nil _, fun M' e2 w2 k => ⟨_, k.none hl hx, Strs.nil _⟩⟩
  · exact ⟨_, [], 120, h.short hl, Strs.nil _, fun M' e2 w2 k => ⟨_, k.short hl, Strs.nil _⟩⟩
end Go.Proofs.YtmoailbilnkfnaaGreatDoor
