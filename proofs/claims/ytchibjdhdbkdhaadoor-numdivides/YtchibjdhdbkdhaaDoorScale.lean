/- scaleUp: the limbs made factor times as great, and more added. -/
import Derived.Test.YtchibjdhdbkdhaaDoorWalk1
namespace Go.Proofs.YtchibjdhdbkdhaaDoor
open Go.RowKit
set_option linter.unusedVariables false
set_option maxRecDepth 100000
set_option linter.unusedSimpArgs false

theorem grown_trans {a b c : World} {row : Option Nat} (h : a.grownBy b row) (k : b.grownBy c row) : a.grownBy c row :=
  ⟨k.os.trans h.os, k.tape.trans h.tape, k.output.trans h.output, Nat.le_trans h.size k.size, fun i hi hn => (k.block i (Nat.lt_of_lt_of_le hi h.size) hn).trans (h.block i hi hn)⟩
theorem scale_next (L S : List Nat) (f m k d n : Nat) (hk : k < n) (h : S.length = n ∧ Bd S ∧ (∀ j, k ≤ j → lg S j = lg L j) ∧ pv S k + d * 4294967296 ^ k = pv L k * f + m) :
    (S.set k ((lg L k * f + d) % 4294967296)).length = n ∧ Bd (S.set k ((lg L k * f + d) % 4294967296)) ∧ (∀ j, k + 1 ≤ j → lg (S.set k ((lg L k * f + d) % 4294967296)) j = lg L j) ∧
      pv (S.set k ((lg L k * f + d) % 4294967296)) (k + 1) + (lg L k * f + d) / 4294967296 * 4294967296 ^ (k + 1) = pv L (k + 1) * f + m := by
  obtain ⟨h1, h2, h3, h4⟩ := h
  refine ⟨by simpa using h1, Bd_set h2 k _ (by omega), fun j hj => ?_, scale_round L S f m k d (by omega) h4⟩
  rw [lg_set_other S k _ j (by omega)]; exact h3 j (by omega)
set_option maxHeartbeats 800000 in
theorem scale_any (w : World) (base g n cap : Nat) (L : List Nat) (hb : Bd L) (hl : L.length = n) (hcap : n ≤ cap) (hcm : cap ≤ maxLen) (hown : w.ownsRow base 73 1 (.slice (some ⟨g, 0, none⟩) n cap) n (u32s L))
    (f m : Nat) (hf : f < 4294967296) (hm : m < 4294967296) (hfit : val L * f + m < 4294967296 ^ n) :
    Calls Tryd.prog 74 #[.slice (some ⟨g, 0, none⟩) n cap, .int .u32 f, .int .u32 m] w fun e w' => e = .returned (.tuple #[]) ∧ (∃ L', L'.length = n ∧ Bd L' ∧ val L' = val L * f + m ∧ w'.ownsRow base 73 1 (.slice (some ⟨g, 0, none⟩) n cap) n (u32s L')) ∧ w.grownBy w' (some g) := by
  have HF := hid (And.intro hl hfit)
  clear hl hfit
  unfold maxLen at hcm
  go_enter Tryd.func74, Tryd.ntmps74
  go_wp2
  go_loopw [6, 13] (fun c i wr => ∃ (k d : Nat) (S : List Nat), k ≤ n ∧ i = .int .i64 k ∧ c = .int .u64 d ∧ d < 4294967296 ∧ S.length = n ∧ Bd S ∧ (∀ j, k ≤ j → lg S j = lg L j) ∧ pv S k + d * 4294967296 ^ k = pv L k * f + m ∧
        wr.ownsRow base 73 1 (.slice (some ⟨g, 0, none⟩) n cap) n (u32s S) ∧ w.grownBy wr (some g)) (fun _ i _ => n - (intOf i).toNat)
  case atStart => exact ⟨0, m, L, Nat.zero_le _, rfl, rfl, hm, HF.out.1, hb, fun j _ => rfl, by simp [pv], hown, World.grownBy.refl _ _⟩
  case round =>
    obtain ⟨k, d, S, hk, rfl, rfl, hd, hS, hSb, hSz, hpv, hown', hgr⟩ := hrel
    have R : Hid (S.length = n ∧ Bd S ∧ (∀ j, k ≤ j → lg S j = lg L j) ∧ pv S k + d * 4294967296 ^ k = pv L k * f + m) := ⟨hS, hSb, hSz, hpv⟩
    have hst := u32s_at hown' k
    rw [hS, hSz k (Nat.le_refl _)] at hst
    clear hS hSb hSz hpv hown
    by_cases hlt : k < n
    · have hst := hst hlt
      have hfr := hown'.frozenAt k
      have RN := scale_next L S f m k d n hlt R.out
      have hT := mul_lt_limb (hb k) hf hd
      have own3 := hown'.stored k (.int .u32 (((lg L k * f + d) % 4294967296 : Nat) : Int))
      rw [← u32s_set] at own3
      have hxf : ((lg L k : Nat) : Int) * (f : Int) = ((lg L k * f : Nat) : Int) := by simp
      obtain ⟨p, hp⟩ : ∃ p, lg L k * f = p := ⟨_, rfl⟩
      rw [hp] at hT RN own3 hxf
      obtain ⟨h1, h2, h3⟩ := hT
      have HO := hid own3
      have HR := hid RN
      clear own3 RN hp
      have HX := hid (hb k)
      go_wp2
      have eW : IntKind.u64.wrap (IntKind.u64.wrap (IntKind.u64.wrap ↑(lg L k) * ↑f) + ↑d) = ((p + d : Nat) : Int) := by
        have h0 := HX.out
        have e1 : IntKind.u64.wrap (lg L k : Int) = (lg L k : Int) := w64 _ (by omega) (by omega)
        rw [e1, hxf]
        have e2 : IntKind.u64.wrap ((p : Nat) : Int) = (p : Int) := w64 _ (by omega) (by omega)
        rw [e2, w64 _ (by omega) (by omega)]; omega
      rw [eW]
      have O := HO.out
      rw [show (((p + d) % 4294967296 : Nat) : Int) = ((p + d : Nat) : Int) % 4294967296 by omega] at O
      go_roundw
      case rel => exact ⟨k + 1, (p + d) / 4294967296, S.set k ((p + d) % 4294967296), by omega, by go_num, by go_num, h2, HR.out.1, HR.out.2.1, HR.out.2.2.1, HR.out.2.2.2, O.1, grown_trans hgr O.2⟩
      case measure => simp [intOf]; omega
    · go_wp2
      go_end0
      have hk' : k = n := by omega
      subst hk'
      obtain ⟨r1, r2, _, r4⟩ := R.out
      obtain ⟨q1, q2⟩ := HF.out
      rw [pv_val L k (by omega)] at r4
      have := no_carry r4 q2
      exact ⟨rfl, ⟨S, r1, r2, by rw [← this.2]; exact (pv_val S k (by omega)).symm, hown'⟩, hgr⟩
end Go.Proofs.YtchibjdhdbkdhaaDoor
