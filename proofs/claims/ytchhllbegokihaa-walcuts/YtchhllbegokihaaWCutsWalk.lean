/- The law WalCuts. -/
import Derived.Test.YtchhllbegokihaaWFault
namespace Go.Proofs.Ytchhllbegokihaa
open Go.RowKit
set_option linter.unusedVariables false
set_option maxRecDepth 100000
set_option linter.unusedSimpArgs false

/-- What is behind the call: the text as it was, the new one, or one of both. -/
structure After (D : Dsk) (e : Int) (text behind : ByteArray) : Prop where
  good : D.Good
  sz : All Sz D
  cs : (32512 < behind.size ∧ e = 50 ∧ ∃ c, All (Ok · c text) D) ∨ (behind.size ≤ 32512 ∧ e = 0 ∧ ∃ c, All (Ok · c behind) D) ∨ (behind.size ≤ 32512 ∧ e ≠ 0 ∧ ∃ c c', All (fun V => Ok V c text ∨ Ok V c' behind) D)
theorem After.crash {D : Dsk} {e : Int} {t b : ByteArray} (h : After D e t b) (keep : Nat) : After (D.crash keep) e t b := by
  refine ⟨h.good.crash keep, h.sz.crash h.good keep, ?_⟩
  rcases h.cs with ⟨h1, h2, c, h3⟩ | ⟨h1, h2, c, h3⟩ | ⟨h1, h2, c, c', h3⟩
  · exact Or.inl ⟨h1, h2, c, h3.crash h.good keep⟩
  · exact Or.inr (Or.inl ⟨h1, h2, c, h3.crash h.good keep⟩)
  · exact Or.inr (Or.inr ⟨h1, h2, c, c', h3.crash h.good keep⟩)
theorem After.power {D : Dsk} {e : Int} {t b : ByteArray} (h : After D e t b) : After D.power e t b := ⟨h.good.power, h.sz, h.cs⟩
theorem After.append {D : Dsk} {L : Lg} {t s b : ByteArray} (h : Hl D L t) (hn : L.c.num + 1 < 18446744073709551616) (hb : t ++ s = b) : After (L.append D s).1 (L.append D s).2.2 t b := by
  subst hb
  by_cases hf : 32512 < (t ++ s).size
  · rw [append_full h (by rw [ByteArray.size_append] at hf; exact hf)]
    exact ⟨h.good, h.sz, Or.inl ⟨hf, rfl, _, h.ok⟩⟩
  · obtain ⟨_, _, k⟩ := h.append (s := s) (by rw [ByteArray.size_append] at hf; omega) hn
    rcases k with ⟨k1, k2, _⟩ | ⟨k1, _, k2⟩
    · exact ⟨k2.good, k2.sz, Or.inr (Or.inl ⟨by omega, k1, _, k2.ok⟩)⟩
    · exact ⟨k2.good, k2.sz, Or.inr (Or.inr ⟨by omega, k1, _, _, k2.ok⟩)⟩
theorem After.checkpoint {D : Dsk} {L : Lg} {t s : ByteArray} (h : Hl D L t) (hn : L.c.num + 1 < 18446744073709551616) : After (L.checkpoint D s).1 (L.checkpoint D s).2.2 t s := by
  by_cases hf : 32512 < s.size
  · rw [checkpoint_full h hf]
    exact ⟨h.good, h.sz, Or.inl ⟨hf, rfl, _, h.ok⟩⟩
  · obtain ⟨_, _, k⟩ := h.checkpoint (s := s) (by omega) hn
    rcases k with ⟨k1, k2, _⟩ | ⟨k1, _, c', k2⟩
    · exact ⟨k2.good, k2.sz, Or.inr (Or.inl ⟨by omega, k1, _, k2.ok⟩)⟩
    · exact ⟨k2.good, k2.sz, Or.inr (Or.inr ⟨by omega, k1, _, _, k2.ok⟩)⟩
theorem After.tells {D : Dsk} {e : Int} {t b t0 : ByteArray} {c0 : Com} (h : After D e t b) (k : Tells D.wr c0 t0) : (32512 < b.size ∧ e = 50 ∧ t0 = t) ∨ (b.size ≤ 32512 ∧ e = 0 ∧ t0 = b) ∨ (b.size ≤ 32512 ∧ e ≠ 0 ∧ (t0 = t ∨ t0 = b)) := by
  rcases h.cs with ⟨h1, h2, c, h3⟩ | ⟨h1, h2, c, h3⟩ | ⟨h1, h2, c, c', h3⟩
  · exact Or.inl ⟨h1, h2, (k.unique (h3.now h.good).tells).2⟩
  · exact Or.inr (Or.inl ⟨h1, h2, (k.unique (h3.now h.good).tells).2⟩)
  · refine Or.inr (Or.inr ⟨h1, h2, ?_⟩)
    rcases h3.now h.good with q | q
    · exact Or.inl (k.unique q.tells).2
    · exact Or.inr (k.unique q.tells).2
set_option maxHeartbeats 16000000 in
theorem wcuts_walk (a : Option Addr) (len cap : Nat) (ss : List ByteArray) (last : ByteArray) (whole : Bool) (n : Int) (keep : Nat) (fails : Bool) (w : World) (w0 : IsStrs w a len cap ss) (hl : last.size ≤ maxLen) (hn : -9223372036854775808 ≤ n ∧ n < 9223372036854775808) (hk : keep < 18446744073709551616) :
    Calls Try.prog 7 #[.slice a len cap, .string last, .bool whole, .int .i64 n, .int .u64 (keep : Int), .bool fails] w fun e w' => e = .returned (.bool true) ∧ Below w.heap.size w w' := by
  unfold maxLen at hl
  go_enter Try.func7, Try.ntmps7
  go_wp2_with fail
  go_loop [13, 14] (fun z i => ∃ k sz : Nat, k ≤ len ∧ i = .int .i64 k ∧ z = .int .i64 sz ∧ sz ≤ 9223372036854775807 ∧ last.size ≤ sz ∧ (sz ≤ 65536 → ∀ j, j < k → (ss.getD j ByteArray.empty).size ≤ 65536)) (fun z i => len - (intOf i).toNat)
  case atStart => exact ⟨0, last.size, Nat.zero_le _, rfl, rfl, by omega, Nat.le_refl _, fun _ j hj => by omega⟩
  case round =>
    obtain ⟨k, sz, hk', rfl, rfl, hsz, hls, hall⟩ := hrel
    have HALL := hid hall
    clear hall
    by_cases hlt : k < len
    · obtain ⟨b, off, rfl, hcell, hsl, hlc, hcm⟩ := w0.at k hlt
      unfold maxLen at hcm
      obtain ⟨sk, hsk⟩ : ∃ sk, sk = ss.getD k ByteArray.empty := ⟨_, rfl⟩
      rw [← hsk] at hcell hsl
      have HSK := hid hsk
      clear hsk
      by_cases hs : sz ≤ 65536
      · obtain ⟨m, hm⟩ : ∃ m : Nat, min (sk.size : Int) 1048576 = m := ⟨min sk.size 1048576, by omega⟩
        go_wp2
        go_round
        case rel => exact ⟨k + 1, sz + m, by omega, by go_num, by go_num, by omega, by omega, fun h j hj => by
          by_cases e : j = k
          · rw [e, ← HSK.out]; omega
          · exact HALL.out (by omega) j (by omega)⟩
        case measure => simp [intOf]; omega
      · have hs' : ¬ ((sz : Int) ≤ 65536) := by omega
        go_wp2
        go_ret
        exact ⟨rfl, Below.refl _ _⟩
    · obtain rfl : k = len := by omega
      by_cases hs : sz ≤ 65536
      · by_cases h64 : 64 < k
        · go_wp2
          go_ret
          exact ⟨rfl, Below.refl _ _⟩
        · have hlast : last.size ≤ 65536 := by omega
          have HS := hid (HALL.out hs)
          clear HALL
          go_wp2_with fail
          refine (new_any w).mono ?_
          rintro e w1 ⟨rfl, hd1, b1⟩
          go_wp2_with fail
          refine (s_first w w1 w.heap.size w.heap.size (Nat.le_refl _) hd1 b1).mono ?_
          rintro e w2 ⟨l, rfl, st2, hl2, _⟩
          rw [show ByteArray.empty = (⟨#[]⟩ : ByteArray) from rfl]
          clear hd1 b1
          go_wp2_with fail
          go_loopw [19, 20] (fun tv iv wr => ∃ (j : Nat) (t : ByteArray) (D : Dsk) (L : Lg), j ≤ k ∧ iv = .int .i64 j ∧ tv = .string t ∧ St w.heap.size w wr w.heap.size l D L ∧ Hl D L t ∧ Calm D ∧ D.ops ≤ 300 * j ∧ L.c.num ≤ j) (fun _ iv _ => k - (intOf iv).toNat)
          case atStart => exact ⟨0, ByteArray.empty, _, _, Nat.zero_le _, rfl, rfl, st2, hl2, calm_new, Nat.le_refl _, Nat.le_refl _⟩
          case round =>
            obtain ⟨j, t, D, L, hj, rfl, rfl, st, hL, hC, hO, hN⟩ := hrel
            clear st2 hl2
            obtain ⟨n1, n2, n3, n4⟩ := hL.len
            by_cases hjk : j < k
            · obtain ⟨b, off, rfl, hcell, hsl, hlc, hcm⟩ := w0.at j hjk
              unfold maxLen at hcm
              have hsj := HS.out j hjk
              have hblk : b < w.heap.size := World.block_lt_of_cell? _ _ hcell
              have hc1 := (st.bel.cell (p := ⟨b, off + j, none⟩) hblk).trans hcell
              generalize ss.getD j ByteArray.empty = sj at *
              have hap := s_append st sj n3 n4 (by omega) (by omega)
              by_cases hfull : 32512 < t.size + sj.size
              · rw [append_full hL hfull] at hap
                simp only at hap
                go_wp2_with fail
                refine hap.mono ?_
                rintro e w3 ⟨rfl, st3⟩
                go_wp2
                go_roundw
                case rel => exact ⟨j + 1, t, D, L, by omega, by go_num, rfl, st3, hL, hC, by omega, by omega⟩
                case measure => simp [intOf]; omega
              · have HA := hid (hL.append (s := sj) (by omega) (by omega))
                have HC := hid (append_calm (s := sj) hC hL.er n3 (by rw [hL.tail, tailT_size, n1]) (by omega))
                obtain ⟨R, hR⟩ : ∃ R, R = L.append D sj := ⟨_, rfl⟩
                rw [← hR] at hap HA HC
                clear hR
                obtain ⟨D3, L3, e3⟩ := R
                simp only at hap HA HC
                have he3 : e3 = 0 := HC.out.1
                subst he3
                have hl3 : Hl D3 L3 (t ++ sj) := by
                  rcases HA.out.2.2 with ⟨_, k, _⟩ | ⟨k, _⟩
                  · exact k
                  · exact absurd rfl k
                have hops3 : D3.ops ≤ 300 * (j + 1) := by
                  have h1 := HC.out.2.2.1
                  have h2 := chg_len (f := L.c) (tl := L.tail) (s := sj) (by rw [hL.tail, tailT_size]; omega)
                  omega
                have hnum3 : L3.c.num ≤ j + 1 := by
                  rw [HC.out.2.2.2.1]
                  show (L.c.num + 1) % 18446744073709551616 ≤ _
                  omega
                have hcalm3 : Calm D3 := HC.out.2.1
                clear HA HC
                go_wp2_with fail
                refine hap.mono ?_
                rintro e w3 ⟨rfl, st3⟩
                have hc3 := (st3.bel.cell (p := ⟨b, off + j, none⟩) hblk).trans hcell
                clear hap st hc1
                go_wp2
                go_roundw
                case rel => exact ⟨j + 1, t ++ sj, D3, L3, by omega, by go_num, rfl, st3, hl3, hcalm3, hops3, hnum3⟩
                case measure => simp [intOf]; omega
            · obtain rfl : j = k := by omega
              cases whole
              · cases fails
                · obtain ⟨beh0, hbeh⟩ : ∃ b0, t ++ last = b0 := ⟨_, rfl⟩
                  have hbs : beh0.size = t.size + last.size := by rw [← hbeh, ByteArray.size_append]
                  have hl2 := hL.cut n keep hn.2 hk
                  have hcut := s_cut st n keep hn hk
                  have hop2 : (D.cut n keep).ops ≤ 300 * j := hO
                  generalize D.cut n keep = D2 at *
                  have HAf := hid (After.append (s := last) hl2 (by omega) hbeh)
                  go_wp2_with fail
                  refine hcut.mono ?_
                  rintro e w3 ⟨rfl, st3⟩
                  have hap := s_append st3 last n3 n4 (by omega) (by omega)
                  obtain ⟨R, hR⟩ : ∃ R, R = L.append D2 last := ⟨_, rfl⟩
                  rw [← hR] at hap HAf
                  clear hR hcut st hL hl2 hC
                  obtain ⟨D3, L3, e3⟩ := R
                  simp only at hap HAf
                  go_wp2_with fail
                  refine hap.mono ?_
                  rintro e w4 ⟨rfl, st4⟩
                  clear hap st3
                  go_wp2_with fail
                  refine (s_crash st4 keep hk).mono ?_
                  rintro e w5 ⟨rfl, st5⟩
                  clear st4
                  go_wp2_with fail
                  refine (s_power st5).mono ?_
                  rintro e w6 ⟨rfl, st6⟩
                  clear st5
                  have HAf2 := hid (HAf.out.crash keep).power
                  generalize (D3.crash keep).power = D4 at *
                  clear HAf
                  have hop := s_open st6 (HAf2.out.sz.now HAf2.out.good)
                  go_wp2_with fail
                  refine hop.mono ?_
                  rintro e w7 ⟨m, c0, t0, rfl, hTl, st7, _⟩
                  clear hop st6
                  have hbel := st7.bel
                  rcases HAf2.out.tells hTl with ⟨k1, k2, k3⟩ | ⟨k1, k2, k3⟩ | ⟨k1, k2, k3⟩
                  · subst k2
                    subst k3
                    have k1' : (32512 : Int) < (beh0.size : Int) := by omega
                    clear hTl HAf2 st7
                    go_wp2
                    all_goals
                      go_ret
                      exact ⟨rfl, hbel⟩
                  · subst k2
                    subst k3
                    have k1' : ¬ (32512 : Int) < (t0.size : Int) := by omega
                    clear hTl HAf2 st7
                    go_wp2
                    all_goals
                      go_ret
                      exact ⟨rfl, hbel⟩
                  · have k1' : ¬ (32512 : Int) < (beh0.size : Int) := by omega
                    have k2' : (e3 == 0) = false := beq_eq_false_iff_ne.2 k2
                    have k2'' : (e3 != 0) = true := by simp [k2]
                    clear hTl HAf2 st7 k2
                    rcases k3 with k3 | k3
                    all_goals
                      subst k3
                      go_wp2
                      all_goals
                        go_ret
                        exact ⟨rfl, hbel⟩
                · obtain ⟨beh0, hbeh⟩ : ∃ b0, t ++ last = b0 := ⟨_, rfl⟩
                  have hbs : beh0.size = t.size + last.size := by rw [← hbeh, ByteArray.size_append]
                  have hl2 := hL.fail n hn.2
                  have hcut := s_fail st n hn
                  have hop2 : (D.fail n).ops ≤ 300 * j := hO
                  generalize D.fail n = D2 at *
                  have HAf := hid (After.append (s := last) hl2 (by omega) hbeh)
                  go_wp2_with fail
                  refine hcut.mono ?_
                  rintro e w3 ⟨rfl, st3⟩
                  have hap := s_append st3 last n3 n4 (by omega) (by omega)
                  obtain ⟨R, hR⟩ : ∃ R, R = L.append D2 last := ⟨_, rfl⟩
                  rw [← hR] at hap HAf
                  clear hR hcut st hL hl2 hC
                  obtain ⟨D3, L3, e3⟩ := R
                  simp only at hap HAf
                  go_wp2_with fail
                  refine hap.mono ?_
                  rintro e w4 ⟨rfl, st4⟩
                  clear hap st3
                  go_wp2_with fail
                  refine (s_crash st4 keep hk).mono ?_
                  rintro e w5 ⟨rfl, st5⟩
                  clear st4
                  go_wp2_with fail
                  refine (s_power st5).mono ?_
                  rintro e w6 ⟨rfl, st6⟩
                  clear st5
                  have HAf2 := hid (HAf.out.crash keep).power
                  generalize (D3.crash keep).power = D4 at *
                  clear HAf
                  have hop := s_open st6 (HAf2.out.sz.now HAf2.out.good)
                  go_wp2_with fail
                  refine hop.mono ?_
                  rintro e w7 ⟨m, c0, t0, rfl, hTl, st7, _⟩
                  clear hop st6
                  have hbel := st7.bel
                  rcases HAf2.out.tells hTl with ⟨k1, k2, k3⟩ | ⟨k1, k2, k3⟩ | ⟨k1, k2, k3⟩
                  · subst k2
                    subst k3
                    have k1' : (32512 : Int) < (beh0.size : Int) := by omega
                    clear hTl HAf2 st7
                    go_wp2
                    all_goals
                      go_ret
                      exact ⟨rfl, hbel⟩
                  · subst k2
                    subst k3
                    have k1' : ¬ (32512 : Int) < (t0.size : Int) := by omega
                    clear hTl HAf2 st7
                    go_wp2
                    all_goals
                      go_ret
                      exact ⟨rfl, hbel⟩
                  · have k1' : ¬ (32512 : Int) < (beh0.size : Int) := by omega
                    have k2' : (e3 == 0) = false := beq_eq_false_iff_ne.2 k2
                    have k2'' : (e3 != 0) = true := by simp [k2]
                    clear hTl HAf2 st7 k2
                    rcases k3 with k3 | k3
                    all_goals
                      subst k3
                      go_wp2
                      all_goals
                        go_ret
                        exact ⟨rfl, hbel⟩
              · cases fails
                · obtain ⟨beh0, hbeh⟩ : ∃ b0, t ++ last = b0 := ⟨_, rfl⟩
                  have hbs : beh0.size = t.size + last.size := by rw [← hbeh, ByteArray.size_append]
                  have hl2 := hL.cut n keep hn.2 hk
                  have hcut := s_cut st n keep hn hk
                  have hop2 : (D.cut n keep).ops ≤ 300 * j := hO
                  generalize D.cut n keep = D2 at *
                  have HAf := hid (After.checkpoint (s := last) hl2 (by omega))
                  go_wp2_with fail
                  refine hcut.mono ?_
                  rintro e w3 ⟨rfl, st3⟩
                  have hap := s_check st3 last n3 (by omega) (by omega)
                  obtain ⟨R, hR⟩ : ∃ R, R = L.checkpoint D2 last := ⟨_, rfl⟩
                  rw [← hR] at hap HAf
                  clear hR hcut st hL hl2 hC
                  obtain ⟨D3, L3, e3⟩ := R
                  simp only at hap HAf
                  go_wp2_with fail
                  refine hap.mono ?_
                  rintro e w4 ⟨rfl, st4⟩
                  clear hap st3
                  go_wp2_with fail
                  refine (s_crash st4 keep hk).mono ?_
                  rintro e w5 ⟨rfl, st5⟩
                  clear st4
                  go_wp2_with fail
                  refine (s_power st5).mono ?_
                  rintro e w6 ⟨rfl, st6⟩
                  clear st5
                  have HAf2 := hid (HAf.out.crash keep).power
                  generalize (D3.crash keep).power = D4 at *
                  clear HAf
                  have hop := s_open st6 (HAf2.out.sz.now HAf2.out.good)
                  go_wp2_with fail
                  refine hop.mono ?_
                  rintro e w7 ⟨m, c0, t0, rfl, hTl, st7, _⟩
                  clear hop st6
                  have hbel := st7.bel
                  rcases HAf2.out.tells hTl with ⟨k1, k2, k3⟩ | ⟨k1, k2, k3⟩ | ⟨k1, k2, k3⟩
                  · subst k2
                    subst k3
                    have k1' : (32512 : Int) < (last.size : Int) := by omega
                    clear hTl HAf2 st7
                    go_wp2
                    all_goals
                      go_ret
                      exact ⟨rfl, hbel⟩
                  · subst k2
                    subst k3
                    have k1' : ¬ (32512 : Int) < (t0.size : Int) := by omega
                    clear hTl HAf2 st7
                    go_wp2
                    all_goals
                      go_ret
                      exact ⟨rfl, hbel⟩
                  · have k1' : ¬ (32512 : Int) < (last.size : Int) := by omega
                    have k2' : (e3 == 0) = false := beq_eq_false_iff_ne.2 k2
                    have k2'' : (e3 != 0) = true := by simp [k2]
                    clear hTl HAf2 st7 k2
                    rcases k3 with k3 | k3
                    all_goals
                      subst k3
                      go_wp2
                      all_goals
                        go_ret
                        exact ⟨rfl, hbel⟩
                · obtain ⟨beh0, hbeh⟩ : ∃ b0, t ++ last = b0 := ⟨_, rfl⟩
                  have hbs : beh0.size = t.size + last.size := by rw [← hbeh, ByteArray.size_append]
                  have hl2 := hL.fail n hn.2
                  have hcut := s_fail st n hn
                  have hop2 : (D.fail n).ops ≤ 300 * j := hO
                  generalize D.fail n = D2 at *
                  have HAf := hid (After.checkpoint (s := last) hl2 (by omega))
                  go_wp2_with fail
                  refine hcut.mono ?_
                  rintro e w3 ⟨rfl, st3⟩
                  have hap := s_check st3 last n3 (by omega) (by omega)
                  obtain ⟨R, hR⟩ : ∃ R, R = L.checkpoint D2 last := ⟨_, rfl⟩
                  rw [← hR] at hap HAf
                  clear hR hcut st hL hl2 hC
                  obtain ⟨D3, L3, e3⟩ := R
                  simp only at hap HAf
                  go_wp2_with fail
                  refine hap.mono ?_
                  rintro e w4 ⟨rfl, st4⟩
                  clear hap st3
                  go_wp2_with fail
                  refine (s_crash st4 keep hk).mono ?_
                  rintro e w5 ⟨rfl, st5⟩
                  clear st4
                  go_wp2_with fail
                  refine (s_power st5).mono ?_
                  rintro e w6 ⟨rfl, st6⟩
                  clear st5
                  have HAf2 := hid (HAf.out.crash keep).power
                  generalize (D3.crash keep).power = D4 at *
                  clear HAf
                  have hop := s_open st6 (HAf2.out.sz.now HAf2.out.good)
                  go_wp2_with fail
                  refine hop.mono ?_
                  rintro e w7 ⟨m, c0, t0, rfl, hTl, st7, _⟩
                  clear hop st6
                  have hbel := st7.bel
                  rcases HAf2.out.tells hTl with ⟨k1, k2, k3⟩ | ⟨k1, k2, k3⟩ | ⟨k1, k2, k3⟩
                  · subst k2
                    subst k3
                    have k1' : (32512 : Int) < (last.size : Int) := by omega
                    clear hTl HAf2 st7
                    go_wp2
                    all_goals
                      go_ret
                      exact ⟨rfl, hbel⟩
                  · subst k2
                    subst k3
                    have k1' : ¬ (32512 : Int) < (t0.size : Int) := by omega
                    clear hTl HAf2 st7
                    go_wp2
                    all_goals
                      go_ret
                      exact ⟨rfl, hbel⟩
                  · have k1' : ¬ (32512 : Int) < (last.size : Int) := by omega
                    have k2' : (e3 == 0) = false := beq_eq_false_iff_ne.2 k2
                    have k2'' : (e3 != 0) = true := by simp [k2]
                    clear hTl HAf2 st7 k2
                    rcases k3 with k3 | k3
                    all_goals
                      subst k3
                      go_wp2
                      all_goals
                        go_ret
                        exact ⟨rfl, hbel⟩
      · have hs' : (65536 : Int) < (sz : Int) := by omega
        go_wp2
        go_ret
        exact ⟨rfl, Below.refl _ _⟩
theorem wcuts_any (a : Option Addr) (len cap : Nat) (ss : List ByteArray) (last : ByteArray) (whole : Bool) (n : Int) (keep : Int) (fails : Bool) (w : World) (w0 : IsStrs w a len cap ss) (hl : last.size ≤ maxLen) (hn : (Lit.int .i64 n).wf = true) (hk : (Lit.int .u64 keep).wf = true) :
    Calls Try.prog 7 #[.slice a len cap, .string last, .bool whole, .int .i64 n, .int .u64 keep, .bool fails] w fun e w' => e = .returned (.bool true) ∧ Below w.heap.size w w' := by
  have hn' : -9223372036854775808 ≤ n ∧ n < 9223372036854775808 := by
    simp only [Lit.wf, IntKind.min, IntKind.max, IntKind.signed, IntKind.bits] at hn
    simp at hn
    omega
  have hk' : 0 ≤ keep ∧ keep < 18446744073709551616 := by
    simp only [Lit.wf, IntKind.min, IntKind.max, IntKind.signed, IntKind.bits] at hk
    simp at hk
    omega
  obtain ⟨q, rfl⟩ : ∃ q : Nat, keep = q := ⟨keep.toNat, by omega⟩
  exact wcuts_walk a len cap ss last whole n q fails w w0 hl hn' (by omega)
end Go.Proofs.Ytchhllbegokihaa
