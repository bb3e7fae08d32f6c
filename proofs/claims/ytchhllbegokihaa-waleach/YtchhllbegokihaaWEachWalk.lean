/- The law WalEach. -/
import Derived.Test.YtchhllbegokihaaWSumS
namespace Go.Proofs.Ytchhllbegokihaa
open Go.RowKit
set_option linter.unusedVariables false
set_option maxRecDepth 100000
set_option linter.unusedSimpArgs false

set_option maxHeartbeats 4000000 in
theorem weach_walk (a : Option Addr) (len cap : Nat) (ss : List ByteArray) (keep : Nat) (w : World) (w0 : IsStrs w a len cap ss) (hk : keep < 18446744073709551616) :
    Calls Try.prog 3 #[.slice a len cap, .int .u64 (keep : Int)] w fun e w' => e = .returned (.bool true) ∧ Below w.heap.size w w' := by
  go_enter Try.func3, Try.ntmps3
  go_wp2_with fail
  go_loop [5, 6] (fun z i => ∃ k sz : Nat, k ≤ len ∧ i = .int .i64 k ∧ z = .int .i64 sz ∧ sz ≤ 2000000 ∧ (sz ≤ 16384 → sz = sumS ss k)) (fun z i => len - (intOf i).toNat)
  case atStart => exact ⟨0, 0, Nat.zero_le _, rfl, rfl, by omega, fun _ => rfl⟩
  case round =>
    obtain ⟨k, sz, hk', rfl, rfl, hsz, hall⟩ := hrel
    have HALL := hid hall
    clear hall
    by_cases hlt : k < len
    · obtain ⟨b, off, rfl, hcell, hsl, hlc, hcm⟩ := w0.at k hlt
      unfold maxLen at hcm
      obtain ⟨sk, hsk⟩ : ∃ sk, sk = ss.getD k ByteArray.empty := ⟨_, rfl⟩
      rw [← hsk] at hcell hsl
      have HSK := hid hsk
      clear hsk
      by_cases hs : sz ≤ 16384
      · obtain ⟨m, hm⟩ : ∃ m : Nat, min (sk.size : Int) 1048576 = m := ⟨min sk.size 1048576, by omega⟩
        go_wp2
        go_round
        case rel => exact ⟨k + 1, sz + (1 + m), by omega, by go_num, by go_num, by omega, fun h => by
          have h1 := HALL.out hs
          have h2 := HSK.out
          simp only [sumS]
          rw [← h2]
          omega⟩
        case measure => simp [intOf]; omega
      · have hs' : ¬ ((sz : Int) ≤ 16384) := by omega
        go_wp2
        go_ret
        exact ⟨rfl, Below.refl _ _⟩
    · obtain rfl : k = len := by omega
      by_cases hs : sz ≤ 16384
      · have HS := hid (HALL.out hs)
        clear HALL
        go_wp2_with fail
        refine (new_any w).mono ?_
        rintro e w1 ⟨rfl, hd1, b1⟩
        have dst1 : DSt w.heap.size w w1 w.heap.size Dsk.new := ⟨hd1, b1, Nat.le_refl _⟩
        go_wp2_with fail
        go_loopw [8, 9] (fun tv iv wr => ∃ (j : Nat) (t : ByteArray) (D : Dsk) (c : Com), j ≤ k ∧ iv = .int .i64 j ∧ tv = .string t ∧ DSt w.heap.size w wr w.heap.size D ∧ All (Ok · c t) D ∧ D.Good ∧ All Sz D ∧ Calm D ∧ D.ops ≤ 300 * j ∧ 3 * j ≤ D.ops ∧ c.num ≤ j ∧ t.size + j = sumS ss j) (fun _ iv _ => k - (intOf iv).toNat)
        case atStart => exact ⟨0, ByteArray.empty, _, _, Nat.zero_le _, rfl, rfl, dst1, ok_new, Dsk.good_new, sz_new, calm_new, Nat.le_refl _, Nat.le_refl _, Nat.le_refl _, rfl⟩
        case round =>
          obtain ⟨j, t, D, c, hj, rfl, rfl, st, hOk, hG, hZ, hC, hO, hO3, hN, hT⟩ := hrel
          clear dst1 hd1 b1
          have hsum := sumS_mono ss hj
          have hkk := sumS_ge ss k
          have hHS := HS.out
          have htz : t.size ≤ 16384 := by omega
          have hk16 : k ≤ 16384 := by omega
          clear hkk
          by_cases hjk : j < k
          · obtain ⟨b, off, rfl, hcell, hsl, hlc, hcm⟩ := w0.at j hjk
            unfold maxLen at hcm
            have hs1 := sumS_mono ss (show j + 1 ≤ k by omega)
            have hs2 : sumS ss (j + 1) = sumS ss j + (1 + (ss.getD j ByteArray.empty).size) := rfl
            have hblk : b < w.heap.size := World.block_lt_of_cell? _ _ hcell
            generalize ss.getD j ByteArray.empty = sj at *
            have hsj : t.size + sj.size ≤ 16384 := by omega
            have HSum := hid (show (t ++ sj).size + (j + 1) = sumS ss (j + 1) by rw [ByteArray.size_append]; omega)
            clear hs1 hs2 hsum hHS hT
            have hop := d_open st (hZ.now hG)
            go_wp2_with fail
            refine hop.mono ?_
            rintro e w2 ⟨l, c0, t0, rfl, hTl, st2⟩
            obtain ⟨rfl, rfl, hl2⟩ := open_hl hOk hG hZ hTl
            have n1 := hl2.len
            clear hop hTl st
            have hap := s_append st2 sj n1.2.2.1 n1.2.2.2 (by omega) (by omega)
            have HA := hid (hl2.append (s := sj) (by omega) (by show c0.num + 1 < _; omega))
            have HC := hid (append_calm (L := ⟨c0, tailT t0, 0⟩) (s := sj) hC rfl n1.2.2.1 (by show (tailT t0).size = c0.len % 256; rw [tailT_size]; have := n1.1; simp only at this; rw [this]) (by have := n1.1; simp only at this; show c0.len + sj.size ≤ _; omega))
            have hlen := chg_len (f := c0) (tl := tailT t0) (s := sj) (by rw [tailT_size]; omega)
            obtain ⟨R, hR⟩ : ∃ R, R = Lg.append ⟨c0, tailT t0, 0⟩ D sj := ⟨_, rfl⟩
            rw [← hR] at hap HA HC
            obtain ⟨D3, L3, e3⟩ := R
            have hRr := hR.symm
            clear hR
            simp only at hap HA HC
            have he3 : e3 = 0 := HC.out.1
            subst he3
            have hl3 : Hl D3 L3 (t0 ++ sj) := by
              rcases HA.out.2.2 with ⟨_, k, _⟩ | ⟨k, _⟩
              · exact k
              · exact absurd rfl k
            have hops3 := HC.out.2.2.1
            have hnum3 : L3.c.num ≤ j + 1 := by
              rw [HC.out.2.2.2.1]
              show (c0.num + 1) % 18446744073709551616 ≤ _
              omega
            have hL3 : L3.c.len = t0.size + sj.size := by have := hl3.len.1; rw [ByteArray.size_append] at this; exact this
            clear HA HC
            have hc2 := (st2.bel.cell (p := ⟨b, off + j, none⟩) hblk).trans hcell
            have HLN := hid (show ∀ (w3 : World), St w.heap.size w w3 w.heap.size l D3 L3 → Calls Try.prog 12 #[.pointer (some ⟨l, 0, none⟩)] w3 fun e w' => e = .returned (.int .i64 ((t0.size + sj.size : Nat) : Int)) ∧ w' = w3 from fun w3 h => by have := s_len h; rwa [hL3] at this)
            have hap2 := s_append (st2.below (Below.refl w2.heap.size w2).drew) sj n1.2.2.1 n1.2.2.2 (by omega) (by omega)
            rw [hRr] at hap2
            simp only at hap2
            clear hap
            go_wp2_with fail
            go_region_held3 (fun w' => w'.cell? ⟨b, off + j, none⟩ = some (.string sj)) (first | exact hc2 | exact hc3) (first | (go_at_call 11; refine hap2.mono ?_; rintro e w3 ⟨rfl, st3⟩; have hc3 := (st3.bel.cell (p := ⟨b, off + j, none⟩) hblk).trans hcell) | (go_at_call 12; refine (HLN.out _ st3).mono ?_; rintro e w' ⟨rfl, rfl⟩))
            clear hc2 hap2
            have hwr : IntKind.i64.wrap ((t0.size : Int) + (sj.size : Int)) = ((t0.size + sj.size : Nat) : Int) := by
              rw [IntKind.wrap_i64]; omega
            try rw [hwr]
            have hbb : ((((t0.size + sj.size : Nat) : Int)) != ((t0.size + sj.size : Nat) : Int)) = false := by simp
            try rw [hbb]
            clear hwr hbb
            go_wp2_with fail
            refine (s_crash st3 keep hk).mono ?_
            rintro e w5 ⟨rfl, st5⟩
            clear st3 hc3
            go_wp2_with fail
            refine (s_power st5).mono ?_
            rintro e w6 ⟨rfl, st6⟩
            clear st5
            have hOk4 : All (Ok · L3.c (t0 ++ sj)) (D3.crash keep).power := (hl3.ok.crash hl3.good keep).power
            have hG4 : (D3.crash keep).power.Good := (hl3.good.crash keep).power
            have hZ4 : All Sz (D3.crash keep).power := (hl3.sz.crash hl3.good keep).power
            have hO4 : (D3.crash keep).power.ops = D3.ops := by
              show (D3.crash keep).ops = D3.ops
              unfold Dsk.crash
              split <;> rfl
            have hC4 := power_calm (D3.crash keep)
            have dst6 := st6.dst
            generalize (D3.crash keep).power = D4 at *
            go_wp2
            go_roundw
            case rel => exact ⟨j + 1, t0 ++ sj, D4, L3.c, by omega, by go_num, rfl, dst6, hOk4, hG4, hZ4, hC4, by omega, by omega, hnum3, HSum.out⟩
            case measure => simp [intOf]; omega
          · obtain rfl : j = k := by omega
            have hop := d_open st (hZ.now hG)
            go_wp2_with fail
            refine hop.mono ?_
            rintro e w2 ⟨l, c0, t0, rfl, hTl, st2⟩
            obtain ⟨rfl, rfl, _⟩ := open_hl hOk hG hZ hTl
            clear hop hTl st
            have hop := d_open st2.dst (hZ.now hG)
            go_wp2_with fail
            refine hop.mono ?_
            rintro e w3 ⟨l3, c3, t3, rfl, hTl, st3⟩
            obtain ⟨rfl, rfl, _⟩ := open_hl hOk hG hZ hTl
            clear hop hTl st2
            have hoo := s_ops st3
            have hge : (3 : Int) * (j : Int) ≤ (D.ops : Int) := by omega
            have hbel := st3.bel
            go_wp2_with fail
            refine hoo.mono ?_
            rintro e w' ⟨rfl, rfl⟩
            go_wp2
            go_ret
            exact ⟨rfl, hbel⟩
      · have hs' : (16384 : Int) < (sz : Int) := by omega
        go_wp2
        go_ret
        exact ⟨rfl, Below.refl _ _⟩
theorem weach_any (a : Option Addr) (len cap : Nat) (ss : List ByteArray) (keep : Int) (w : World) (w0 : IsStrs w a len cap ss) (hk : (Lit.int .u64 keep).wf = true) :
    Calls Try.prog 3 #[.slice a len cap, .int .u64 keep] w fun e w' => e = .returned (.bool true) ∧ Below w.heap.size w w' := by
  have hk' : 0 ≤ keep ∧ keep < 18446744073709551616 := by
    simp only [Lit.wf, IntKind.min, IntKind.max, IntKind.signed, IntKind.bits] at hk
    simp at hk
    omega
  obtain ⟨q, rfl⟩ : ∃ q : Nat, keep = q := ⟨keep.toNat, by omega⟩
  exact weach_walk a len cap ss q w w0 (by omega)
end Go.Proofs.Ytchhllbegokihaa
