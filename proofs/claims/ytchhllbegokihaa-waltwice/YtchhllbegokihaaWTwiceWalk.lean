/- The law WalTwice. -/
import Derived.Test.YtchhllbegokihaaWTwo
namespace Go.Proofs.Ytchhllbegokihaa
open Go.RowKit
set_option linter.unusedVariables false
set_option maxRecDepth 100000
set_option linter.unusedSimpArgs false

set_option maxHeartbeats 4000000 in
theorem wtwice_any (a : Option Addr) (len cap : Nat) (ss : List ByteArray) (w : World) (w0 : IsStrs w a len cap ss) :
    Calls Try.prog 4 #[.slice a len cap] w fun e w' => e = .returned (.bool true) ∧ Below w.heap.size w w' := by
  go_enter Try.func4, Try.ntmps4
  go_wp2_with fail
  go_loop [3, 4] (fun z i => ∃ k sz : Nat, k ≤ len ∧ i = .int .i64 k ∧ z = .int .i64 sz ∧ sz ≤ 2000000 ∧ (sz ≤ 16384 → sz = sumS ss k)) (fun z i => len - (intOf i).toNat)
  case atStart => exact ⟨0, 0, Nat.zero_le _, rfl, rfl, by omega, fun _ => rfl⟩
  case round =>
    obtain ⟨k, sz, hk', rfl, rfl, hsz, hall⟩ := hrel
    have HALL := hid hall
    clear hall
    by_cases hlt : k < len
    · obtain ⟨b, off, rfl, hcell, hsl, hlc, hcm⟩ := w0.at k hlt
      unfold maxLen at hcm
      obtain ⟨sk, hsk⟩ : ∃ sk, sk = ss.getD k ByteArray.empty := ⟨_, rfl⟩
      rw [← hsk] at hcell hsl
      have HSK := hid hsk
      clear hsk
      by_cases hs : sz ≤ 16384
      · obtain ⟨m, hm⟩ : ∃ m : Nat, min (sk.size : Int) 1048576 = m := ⟨min sk.size 1048576, by omega⟩
        go_wp2
        go_round
        case rel => exact ⟨k + 1, sz + (1 + m), by omega, by go_num, by go_num, by omega, fun h => by
          have h1 := HALL.out hs
          have h2 := HSK.out
          simp only [sumS]
          rw [← h2]
          omega⟩
        case measure => simp [intOf]; omega
      · have hs' : ¬ ((sz : Int) ≤ 16384) := by omega
        go_wp2
        go_ret
        exact ⟨rfl, Below.refl _ _⟩
    · obtain rfl : k = len := by omega
      by_cases hs : sz ≤ 16384
      · have HS := hid (HALL.out hs)
        clear HALL
        go_wp2_with fail
        refine (new_at w).mono ?_
        rintro e w1 ⟨rfl, hd1, b1⟩
        go_wp2_with fail
        refine (new_at w1).mono ?_
        rintro e w2 ⟨rfl, hd2, b2⟩
        have hlt1 := lt_of_block hd1.blk
        have hd1' := hd1.below b2
        have B2 := b1.trans (b2.mono b1.size)
        go_wp2_with fail
        refine (open_any w2 w.heap.size Dsk.new (sz_new.now Dsk.good_new) ⟨_, hd1'⟩).mono ?_
        rintro e w3 ⟨⟨x, cx, tx, rfl, hTx, lx, hx⟩, b3⟩
        obtain ⟨rfl, rfl, hHx⟩ := open_hl ok_new Dsk.good_new sz_new hTx
        rw [show ByteArray.empty = (⟨#[]⟩ : ByteArray) from rfl]
        go_wp2_with fail
        refine (open_any w3 w1.heap.size Dsk.new (sz_new.now Dsk.good_new) ⟨_, hd2.below b3⟩).mono ?_
        rintro e w4 ⟨⟨y, cy, ty, rfl, hTy, ly, hy⟩, b4⟩
        obtain ⟨rfl, rfl, hHy⟩ := open_hl ok_new Dsk.good_new sz_new hTy
        have hxl := lt_of_block lx.blk
        have hs3 := b3.size
        have hs2 := b2.size
        have tw0 : Tw w.heap.size w w4 w.heap.size x Dsk.new ⟨com0, tailT ByteArray.empty, 0⟩ w1.heap.size y Dsk.new ⟨com0, tailT ByteArray.empty, 0⟩ :=
          ⟨⟨.slice none 0 0, .slice none 0 0, ⟨(hd1'.below b3).below b4, LogAt.below lx b4 hxl⟩, ⟨(hd2.below b3).below b4, ly⟩, fun g hg => by simp [Value.ownBlock] at hg⟩, by omega, by omega, (B2.trans (b3.mono B2.size)).trans (b4.mono (by omega)), Nat.le_refl _, by omega, by omega, by omega⟩
        rw [show ByteArray.empty = (⟨#[]⟩ : ByteArray) from rfl]
        clear lx ly hd1 hd1' hd2 b1 b2 b3 b4 B2 hTx hTy hx hy hxl hs3 hs2
        go_wp2_with fail
        go_loopw [13, 14] (fun tv iv wr => ∃ (j : Nat) (t : ByteArray) (D : Dsk) (L : Lg), j ≤ k ∧ iv = .int .i64 j ∧ tv = .string t ∧ Tw w.heap.size w wr w.heap.size x D L w1.heap.size y Dsk.new ⟨com0, tailT ByteArray.empty, 0⟩ ∧ Hl D L t ∧ Calm D ∧ D.ops ≤ 300 * j ∧ L.c.num ≤ j ∧ t.size + j = sumS ss j) (fun _ iv _ => k - (intOf iv).toNat)
        case atStart => exact ⟨0, ByteArray.empty, _, _, Nat.zero_le _, rfl, rfl, tw0, hHx, calm_new, Nat.le_refl _, Nat.le_refl _, rfl⟩
        case round =>
          obtain ⟨j, t, D, L, hj, rfl, rfl, tw, hL, hC, hO, hN, hT⟩ := hrel
          clear tw0 hHx
          obtain ⟨n1, n2, n3, n4⟩ := hL.len
          have hsum := sumS_mono ss hj
          have hkk := sumS_ge ss k
          have hHS := HS.out
          have htz : t.size ≤ 16384 := by omega
          have hk16 : k ≤ 16384 := by omega
          clear hkk
          by_cases hjk : j < k
          · obtain ⟨b, off, rfl, hcell, hsl, hlc, hcm⟩ := w0.at j hjk
            unfold maxLen at hcm
            have hs1 := sumS_mono ss (show j + 1 ≤ k by omega)
            have hs2 : sumS ss (j + 1) = sumS ss j + (1 + (ss.getD j ByteArray.empty).size) := rfl
            have hblk : b < w.heap.size := World.block_lt_of_cell? _ _ hcell
            have hc1 := (tw.bel.cell (p := ⟨b, off + j, none⟩) hblk).trans hcell
            generalize ss.getD j ByteArray.empty = sj at *
            have hsj : t.size + sj.size ≤ 16384 := by omega
            have HSum := hid (show (t ++ sj).size + (j + 1) = sumS ss (j + 1) by rw [ByteArray.size_append]; omega)
            clear hs1 hs2 hsum hHS hT
            have hap := t_append tw sj n3 n4 (by omega) (by omega)
            have HA := hid (hL.append (s := sj) (by omega) (by omega))
            have HC := hid (append_calm (s := sj) hC hL.er n3 (by rw [hL.tail, tailT_size, n1]) (by omega))
            have hlen := chg_len (f := L.c) (tl := L.tail) (s := sj) (by rw [hL.tail, tailT_size]; omega)
            obtain ⟨R, hR⟩ : ∃ R, R = L.append D sj := ⟨_, rfl⟩
            rw [← hR] at hap HA HC
            clear hR
            obtain ⟨D3, L3, e3⟩ := R
            simp only at hap HA HC
            have he3 : e3 = 0 := HC.out.1
            subst he3
            have hl3 : Hl D3 L3 (t ++ sj) := by
              rcases HA.out.2.2 with ⟨_, k, _⟩ | ⟨k, _⟩
              · exact k
              · exact absurd rfl k
            have hops3 := HC.out.2.2.1
            have hcalm3 : Calm D3 := HC.out.2.1
            have hnum3 : L3.c.num ≤ j + 1 := by
              rw [HC.out.2.2.2.1]
              show (L.c.num + 1) % 18446744073709551616 ≤ _
              omega
            clear HA HC
            go_wp2_with fail
            refine hap.mono ?_
            rintro e w5 ⟨rfl, tw5⟩
            have hc3 := (tw5.bel.cell (p := ⟨b, off + j, none⟩) hblk).trans hcell
            clear hap tw hc1
            go_wp2
            go_roundw
            case rel => exact ⟨j + 1, t ++ sj, D3, L3, by omega, by go_num, rfl, tw5, hl3, hcalm3, by omega, hnum3, HSum.out⟩
            case measure => simp [intOf]; omega
          · obtain rfl : j = k := by omega
            have hap := t_append tw.swap t com0_fit (by show (tailT ByteArray.empty).size ≤ _; rw [tailT_size]; show 0 % 256 ≤ _; omega) (by omega) (by show (0 : Nat) + 1000 < _; omega)
            have HA := hid (hHy.append (s := t) (by show 0 + t.size ≤ _; omega) (by show (0 : Nat) + 1 < _; omega))
            have HC := hid (append_calm (L := ⟨com0, tailT ByteArray.empty, 0⟩) (s := t) calm_new rfl com0_fit rfl (by show 0 + t.size ≤ _; omega))
            obtain ⟨R, hR⟩ : ∃ R, R = Lg.append ⟨com0, tailT ByteArray.empty, 0⟩ Dsk.new t := ⟨_, rfl⟩
            rw [← hR] at hap HA HC
            clear hR
            obtain ⟨E3, M3, e3⟩ := R
            simp only at hap HA HC
            have he3 : e3 = 0 := HC.out.1
            subst he3
            have hm3 : Hl E3 M3 t := by
              rcases HA.out.2.2 with ⟨_, k, _⟩ | ⟨k, _⟩
              · rw [ByteArray.empty_append] at k; exact k
              · exact absurd rfl k
            clear HA HC
            have hck := fun w5 (tw5 : Tw w.heap.size w w5 w.heap.size x D L w1.heap.size y E3 M3) => t_check tw5 t n3 (by omega) (by omega)
            have HC2 := hid (checkpoint_calm (s := t) hC hL.er (by omega))
            have HK := hid (hL.checkpoint (s := t) (by omega) (by omega))
            obtain ⟨R, hR⟩ : ∃ R, R = L.checkpoint D t := ⟨_, rfl⟩
            rw [← hR] at hck HK HC2
            clear hR
            obtain ⟨D4, L4, e4⟩ := R
            simp only at hck HK HC2
            have he4 : e4 = 0 := HC2.out.1
            subst he4
            have hl4 : Hl D4 L4 t := by
              rcases HK.out.2.2 with ⟨_, k, _⟩ | ⟨k, _⟩
              · exact k
              · exact absurd rfl k
            clear HK HC2
            have hlx := fun w6 (tw6 : Tw w.heap.size w w6 w.heap.size x D4 L4 w1.heap.size y E3 M3) => t_len tw6
            have hly := fun w6 (tw6 : Tw w.heap.size w w6 w.heap.size x D4 L4 w1.heap.size y E3 M3) => t_len tw6.swap
            rw [hl4.len.1] at hlx
            rw [hm3.len.1] at hly
            go_wp2_with fail
            refine hap.mono ?_
            rintro e w5 ⟨rfl, tw5'⟩
            have tw5 := tw5'.swap
            clear hap tw tw5'
            go_wp2_with fail
            refine (hck _ tw5).mono ?_
            rintro e w6 ⟨rfl, tw6⟩
            clear hck tw5
            go_wp2_with fail
            refine (hlx _ tw6).mono ?_
            rintro e w' ⟨rfl, rfl⟩
            go_wp2_with fail
            refine (hly _ tw6).mono ?_
            rintro e w' ⟨rfl, rfl⟩
            clear hlx hly
            go_wp2_with fail
            refine (t_open tw6 (hl4.sz.now hl4.good)).mono ?_
            rintro e w7 ⟨l7, c7, t7, rfl, hT7, tw7⟩
            obtain ⟨rfl, rfl, _⟩ := open_hl hl4.ok hl4.good hl4.sz hT7
            go_wp2_with fail
            refine (t_open tw7.swap (hm3.sz.now hm3.good)).mono ?_
            rintro e w8 ⟨l8, c8, t8, rfl, hT8, tw8⟩
            obtain ⟨rfl, rfl, _⟩ := open_hl hm3.ok hm3.good hm3.sz hT8
            have hbel := tw8.bel
            go_wp2
            go_ret
            exact ⟨rfl, hbel⟩
      · have hs' : (16384 : Int) < (sz : Int) := by omega
        go_wp2
        go_ret
        exact ⟨rfl, Below.refl _ _⟩
end Go.Proofs.Ytchhllbegokihaa
