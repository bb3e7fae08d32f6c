/- WalScript's helpers: heavy, disks. -/
import Derived.Test.YthcefjkpiaecjaaDSteps
import Derived.Test.YthcefjkpiaecjaaETwo
import Derived.Test.YthcefjkpiaecjaaWParse
namespace Go.Proofs.Ythcefjkpiaecjaa
open Go.RowKit
set_option linter.unusedVariables false
set_option maxRecDepth 100000
set_option linter.unusedSimpArgs false

theorem hsum_mono (z : Nat → Stp) (n : Nat) : ∀ {j k : Nat}, j ≤ k → hsum z n j ≤ hsum z n k
  | j, 0, h => by rw [show j = 0 by omega]; exact Nat.le_refl _
  | j, k + 1, h => by
    by_cases e : j = k + 1
    · rw [e]; exact Nat.le_refl _
    · have := hsum_mono z n (show j ≤ k by omega)
      simp only [hsum]; omega
theorem hsum_few {z : Nat → Stp} {len : Nat} (h : hsum z len len ≤ 262144) : ∀ k, k < len → (z k).s.size ≤ 262144 := fun k hk => by
  have h1 := hsum_mono z len (show k + 1 ≤ len by omega)
  simp only [hsum] at h1
  omega
set_option maxHeartbeats 1000000 in
theorem heavy5_any (w : World) (a : Option Addr) (len cap : Nat) (z : Nat → Stp) (R : Prop) (HR : Hid (len ≤ 128 → (∀ k, k < len → (z k).s.size ≤ 262144) → R)) (h : IsSteps w a len cap z) :
    Calls Try.prog 4 #[.slice a len cap] w fun e w' => (e = .returned (.bool true) ∨ (e = .returned (.bool false) ∧ R)) ∧ w' = w := by
  have hlen := h.len
  go_enter Try.func4, Try.ntmps4
  go_wp2
  go_loop [3, 4] (fun m i => ∃ k : Nat, k ≤ len ∧ i = .int .i64 k ∧ m = .int .i64 (hsum z len k) ∧ (k = 0 ∨ hsum z len k ≤ 2000000)) (fun _ i => len - (intOf i).toNat)
  case atStart => exact ⟨0, Nat.zero_le _, rfl, rfl, Or.inl rfl⟩
  case round =>
    obtain ⟨k, hk, rfl, rfl, hb⟩ := hrel
    have hge := hsum_ge z len k
    have hbig : hsum z len k ≤ 9223372036854775807 := by
      rcases hb with rfl | hb
      · exact hlen
      · omega
    by_cases hlt : k < len
    · by_cases hm : hsum z len k ≤ 262144
      · obtain ⟨b, off, rfl, hs, hf, hl, hc, hbl⟩ := h.at k hlt
        have hcs := hs.s
        have hsz := hf.s
        have HS := hid (show hsum z len (k + 1) = hsum z len k + min (z k).s.size 1048576 from rfl)
        have HRR := HR
        clear HR
        generalize (z k).s = s at *
        generalize hsum z len k = x at *
        clear hs hf hb
        rcases (show s.size < 1048576 ∨ 1048576 < s.size ∨ s.size ≤ 1048576 ∧ 1048576 ≤ s.size by omega) with hc1 | hc1 | ⟨hc1, hc2⟩
        all_goals
          go_wp2
          go_round
          case rel => exact ⟨k + 1, by omega, by go_num, by rw [HS.out]; go_num, by rw [HS.out]; omega⟩
          case measure => simp [intOf]; omega
      · have hm' : ¬ (hsum z len k : Int) ≤ 262144 := by omega
        go_wp2
        go_ret
        exact ⟨Or.inl (by simp <;> omega), rfl⟩
    · have hkl : k = len := by omega
      by_cases hm : hsum z len k ≤ 262144
      · by_cases hl : len ≤ 128
        · have hl' : (len : Int) ≤ 128 := by omega
          have HL := hid (HR.out hl (hsum_few (by rw [hkl] at hm; exact hm)))
          clear hl hkl
          go_wp2
          go_ret
          exact ⟨Or.inr ⟨by simp <;> omega, HL.out⟩, rfl⟩
        · have hl' : ¬ (len : Int) ≤ 128 := by omega
          clear hl hkl
          go_wp2
          go_ret
          exact ⟨Or.inl (by simp <;> omega), rfl⟩
      · have hm' : ¬ (hsum z len k : Int) ≤ 262144 := by omega
        clear hkl
        go_wp2
        go_ret
        exact ⟨Or.inl (by simp <;> omega), rfl⟩
set_option maxHeartbeats 4000000 in
theorem disks5_any (w : World) (b c : Nat) (D : Dsk) (sl vw vi vc : Value) (cl fk : Int) (keep : Nat) (h : Two w b c D D sl vw vi vc cl fk keep) :
    Calls Try.prog 25 #[.pointer (some ⟨b, 0, none⟩), .pointer (some ⟨c, 0, none⟩)] w fun e w' => e = .returned (.bool true) ∧ ∃ n, w' = w.drewN n := by
  obtain ⟨gi, ci, rfl, hi1, hi2⟩ := own_pos h.r.is (by omega)
  have c1 := h.r.cell 1 _ rfl
  have hwl := h.r.good.wl
  go_enter Try.func25, Try.ntmps25
  go_wp2
  go_loop [5] (fun j => ∃ k : Nat, k ≤ 256 ∧ j = .int .i64 (k : Int)) (fun j => (256 - intOf j).toNat)
  case atStart => exact ⟨0, by omega, rfl⟩
  case round =>
    obtain ⟨k, hk, rfl⟩ := hrel
    by_cases hlt : k < 256
    · have hrd := read_any w b D (k : Int) ⟨_, h.d⟩
      have hce := row_at h.r.is k (by rw [hwl]; exact hlt)
      rw [read_in D _ hlt, readE_in _ hlt] at hrd
      generalize D.wr.getD k ByteArray.empty = s at *
      go_wp2_with fail
      refine hrd.mono ?_
      rintro e w1 ⟨rfl, rfl⟩
      go_wp2
      go_round
      case rel => exact ⟨k + 1, by omega, by go_num⟩
      case measure => simp [intOf]; omega
    · obtain rfl : k = 256 := by omega
      have c9 := h.r.cell 9 _ rfl
      have c3 := h.r.cell 3 _ rfl
      have HD := fun v (hv : DiskIs v b D) => dead_any v b D hv
      have HO := fun v (hv : DiskIs v b D) => ops_any v b D hv
      have HDI := hid (show ∀ n, DiskIs (w.drewN n) b D from fun n => DiskIs.below ⟨_, h.d⟩ (below_dn (Below.refl _ _) n))
      generalize D.ops = N at *
      generalize D.dead = XX at *
      cases XX
      all_goals
        go_wp2_with fail
        go_quiet (first | (go_at_call 40; exact Calls.quiet_of_same (HD _ (by first | exact HDI.out _ | exact ⟨_, h.d⟩))) | (go_at_call 41; exact Calls.quiet_of_same (HO _ (by first | exact HDI.out _ | exact ⟨_, h.d⟩))))
        go_wp2
        go_ret
        exact ⟨rfl, nq, rfl⟩
end Go.Proofs.Ythcefjkpiaecjaa
