/- StoreScript's helper disks. -/
import Derived.Test.YtjldlmonccgopaaGreatZETwo
import Derived.Test.YtjldlmonccgopaaGreatPk17
namespace Go.Proofs.YtjldlmonccgopaaGreat
open Go.RowKit
set_option linter.unusedVariables false
set_option maxRecDepth 100000
set_option linter.unusedSimpArgs false

set_option maxHeartbeats 4000000 in
theorem disks7_any (w : World) (b c : Nat) (D : Dsk) (sl vw vi vc : Value) (cl fk : Int) (keep : Nat) (h : Two w b c D D sl vw vi vc cl fk keep) :
    Calls Tryz.prog 27 #[.pointer (some ⟨b, 0, none⟩), .pointer (some ⟨c, 0, none⟩)] w fun e w' => e = .returned (.bool true) ∧ ∃ n, w' = w.drewN n := by
  obtain ⟨gi, ci, rfl, hi1, hi2⟩ := own_pos h.r.is (by omega)
  have c1 := h.r.cell 1 _ rfl
  have hwl := h.r.good.wl
  go_enter Tryz.func27, Tryz.ntmps27
  go_wp2
  go_loop [5] (fun j => ∃ k : Nat, k ≤ 256 ∧ j = .int .i64 (k : Int)) (fun j => (256 - intOf j).toNat)
  case atStart => exact ⟨0, by omega, rfl⟩
  case round =>
    obtain ⟨k, hk, rfl⟩ := hrel
    by_cases hlt : k < 256
    · have hrd := read_any w b D (k : Int) ⟨_, h.d⟩
      have hce := row_at h.r.is k (by rw [hwl]; exact hlt)
      rw [read_in D _ hlt, readE_in _ hlt] at hrd
      generalize D.wr.getD k ByteArray.empty = s at *
      go_wp2_with fail
      refine hrd.mono ?_
      rintro e w1 ⟨rfl, rfl⟩
      go_wp2
      go_round
      case rel => exact ⟨k + 1, by omega, by go_num⟩
      case measure => simp [intOf]; omega
    · obtain rfl : k = 256 := by omega
      have c9 := h.r.cell 9 _ rfl
      have c3 := h.r.cell 3 _ rfl
      have HD := fun v (hv : DiskIs v b D) => dead_any v b D hv
      have HO := fun v (hv : DiskIs v b D) => ops_any v b D hv
      have HDI := hid (show ∀ n, DiskIs (w.drewN n) b D from fun n => DiskIs.below ⟨_, h.d⟩ (below_dn (Below.refl _ _) n))
      generalize D.ops = N at *
      generalize D.dead = XX at *
      cases XX
      all_goals
        go_wp2_with fail
        go_quiet (first | (go_at_call 48; exact Calls.quiet_of_same (HD _ (by first | exact HDI.out _ | exact ⟨_, h.d⟩))) | (go_at_call 49; exact Calls.quiet_of_same (HO _ (by first | exact HDI.out _ | exact ⟨_, h.d⟩))))
        go_wp2
        go_ret
        exact ⟨rfl, nq, rfl⟩
end Go.Proofs.YtjldlmonccgopaaGreat
