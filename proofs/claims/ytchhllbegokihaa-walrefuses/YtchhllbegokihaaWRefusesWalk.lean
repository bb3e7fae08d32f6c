/- The law WalRefuses. -/
import Derived.Test.YtchhllbegokihaaWFault
namespace Go.Proofs.Ytchhllbegokihaa
open Go.RowKit
set_option linter.unusedVariables false
set_option maxRecDepth 100000
set_option linter.unusedSimpArgs false

theorem lay_ops (D : Dsk) (xs : List (Nat × ByteArray)) (i : Nat) (t : ByteArray) (h : D.ops ≤ 300) (hx : xs.length ≤ 254) : (D.lay xs i t).1.ops ≤ 700 := by
  have h1 := wrs_ops xs D
  have h2 := (wrs D xs).1.sync_ops
  have h3 := (wrs D xs).1.sync.1.write_ops (i : Int) t
  have h4 := ((wrs D xs).1.sync.1.write (i : Int) t).1.sync_ops
  unfold Dsk.lay
  (repeat' split) <;> omega
set_option maxHeartbeats 4000000 in
theorem wrefuses_walk (x y z : ByteArray) (n : Int) (w : World) (hx : x.size ≤ 4096) (hy : y.size ≤ 4096) (hz : z.size ≤ 4096) (hn : -9223372036854775808 ≤ n ∧ n < 9223372036854775808) :
    Calls Try.prog 8 #[.string x, .string y, .string z, .int .i64 n] w fun e w' => e = .returned (.bool true) ∧ Below w.heap.size w w' := by
  go_enter Try.func8, Try.ntmps8
  go_wp2_with fail
  refine (new_any w).mono ?_
  rintro e w1 ⟨rfl, hd1, b1⟩
  go_wp2_with fail
  refine (s_first w w1 w.heap.size w.heap.size (Nat.le_refl _) hd1 b1).mono ?_
  rintro e w2 ⟨l, rfl, st2, hl2, _⟩
  rw [show ByteArray.empty = (⟨#[]⟩ : ByteArray) from rfl]
  have HL := hid (hl2.append (s := x) (by simp; omega) (by show (0 : Nat) + 1 < _; omega))
  have HC := hid (append_calm (L := ⟨com0, tailT ByteArray.empty, 0⟩) (s := x) calm_new rfl com0_fit rfl (by show (0 : Nat) + x.size ≤ _; omega))
  have hap := s_append st2 x com0_fit hl2.len.2.2.2 (by omega) (by show (0 : Nat) + 1000 < _; omega)
  clear st2 hl2 hd1 b1
  obtain ⟨R1, hR1⟩ : ∃ R1, R1 = Lg.append ⟨com0, tailT ByteArray.empty, 0⟩ Dsk.new x := ⟨_, rfl⟩
  rw [← hR1] at hap HL HC
  clear hR1
  obtain ⟨D1, L1, e1⟩ := R1
  simp only at hap HL HC
  have he1 : e1 = 0 := HC.out.1
  subst he1
  have hl1 : Hl D1 L1 x := by
    rcases HL.out.2.2 with ⟨_, k, _⟩ | ⟨k, _⟩
    · rw [ByteArray.empty_append] at k; exact k
    · exact absurd rfl k
  have hops : D1.ops ≤ 300 := by
    have h1 := HC.out.2.2.1
    have h2 := chg_len (f := com0) (tl := tailT ByteArray.empty) (s := x) (by rw [tailT_size]; simp; omega)
    have h3 : Dsk.new.ops = 0 := rfl
    omega
  have hlen1 := hl1.len
  have hnum : L1.c.num = 1 := by rw [HC.out.2.2.2.1]; rfl
  have hcalm : Calm D1 := HC.out.2.1
  clear HC HL
  go_wp2_with fail
  refine hap.mono ?_
  rintro e w3 ⟨rfl, st3⟩
  clear hap
  go_wp2_with fail
  refine (s_fail st3 n hn).mono ?_
  rintro e w4 ⟨rfl, st4⟩
  have hl2 := hl1.fail n hn.2
  have hwh : Whole (D1.fail n) := ⟨hcalm.dead, hcalm.cg⟩
  have HA := hid (hl2.append (s := y) (by omega) (by omega))
  have HW := hid (hwh.lay (xs := chg L1.c L1.tail y) (i := (comNext L1.c y).num % 2) (t := comT (comNext L1.c y)) (chg_ok hlen1.2.2.1.area (by omega) (by rw [hl1.tail, tailT_size, hlen1.1])) (by omega) (by rw [comT_size]; omega))
  have hops2 : (D1.fail n).ops ≤ 300 := hops
  have hfk : (D1.fail n).fk = n.toNat ∧ (D1.fail n).fg = true := ⟨rfl, rfl⟩
  generalize D1.fail n = D2 at *
  have hap := s_append st4 y hlen1.2.2.1 hlen1.2.2.2 (by omega) (by omega)
  obtain ⟨R2, hR2⟩ : ∃ R2, R2 = L1.append D2 y := ⟨_, rfl⟩
  rw [← hR2] at hap HA
  clear hR2 st3 hl1
  obtain ⟨D3, L3, e3⟩ := R2
  simp only at hap HA
  rw [← HA.out.1, ← HA.out.2.1] at HW
  go_wp2_with fail
  refine hap.mono ?_
  rintro e w5 ⟨rfl, st5⟩
  clear hap st4
  go_wp2_with fail
  refine (s_ops st5).mono ?_
  rintro e w' ⟨rfl, rfl⟩
  by_cases h0 : e3 = 0
  · have hn3 : 3 ≤ n := by have := HW.out.2.2 h0 hfk.2; omega
    have hL3 : L3.c.len = x.size + y.size := by
      rcases HA.out.2.2 with ⟨_, k, _⟩ | ⟨k, _⟩
      · have := k.len.1; rw [ByteArray.size_append] at this; omega
      · exact absurd h0 k
    subst h0
    have hln := s_len st5
    rw [hL3] at hln
    have hbel := st5.bel
    clear HA HW
    go_wp2_with fail
    refine hln.mono ?_
    rintro e w' ⟨rfl, rfl⟩
    go_wp2
    go_ret
    exact ⟨rfl, hbel⟩
  · have he3 : e3 = 42 := by rcases HW.out.2.1 with k | k; exact absurd k h0; exact k
    subst he3
    have hL3 : L3 = { L1 with er := 42 } ∧ Either D3 L1.c (comNext L1.c y) x (x ++ y) := by
      rcases HA.out.2.2 with ⟨k, _⟩ | ⟨_, k1, k2⟩
      · exact absurd k h0
      · exact ⟨k1, k2⟩
    obtain ⟨hL3e, hE⟩ := hL3
    have hW3 := HW.out.1
    have her3 : L3.er = 42 := by rw [hL3e]
    have hln3 : L3.c.len = x.size := by rw [hL3e]; exact hlen1.1
    have hf3 : L3.c.Fit := by rw [hL3e]; exact hlen1.2.2.1
    have ht3 : L3.tail.size ≤ 32512 := by rw [hL3e]; exact hlen1.2.2.2
    have hops3 : D3.ops ≤ 700 := by
      rw [HA.out.2.1]
      exact lay_ops _ _ _ _ (by omega) (chg_len (by omega))
    have hdead := fun D => append_dead (D := D) (L := L3) (by rw [her3]; omega) z
    clear HA HW hl2 hfk hwh
    have he := s_err st5
    have hln := s_len st5
    have hop := s_ops st5
    rw [her3] at he
    rw [hln3] at hln
    have hap := s_append st5 z hf3 ht3 (by omega) (by omega)
    have hcp := s_check st5 z hf3 (by omega) (by omega)
    rw [(hdead D3).1, her3] at hap
    rw [(hdead D3).2, her3] at hcp
    simp only at hap hcp
    go_wp2_with fail
    refine he.mono ?_
    rintro e w' ⟨rfl, rfl⟩
    go_wp2_with fail
    refine hap.mono ?_
    rintro e w6 ⟨rfl, st6⟩
    clear hap hcp he hln hop st5
    have hcp := s_check st6 z hf3 (by omega) (by omega)
    rw [(hdead D3).2, her3] at hcp
    simp only at hcp
    go_wp2_with fail
    refine hcp.mono ?_
    rintro e w7 ⟨rfl, st7⟩
    clear hcp st6
    have hln := s_len st7
    have hop := s_ops st7
    rw [hln3] at hln
    go_wp2_with fail
    refine hop.mono ?_
    rintro e w' ⟨rfl, rfl⟩
    go_wp2_with fail
    refine hln.mono ?_
    rintro e w' ⟨rfl, rfl⟩
    clear hln hop
    go_wp2_with fail
    refine (s_power st7).mono ?_
    rintro e w8 ⟨rfl, st8⟩
    clear st7
    have hcalm4 := power_calm D3
    have hops4 : D3.power.ops ≤ 700 := hops3
    have hT : D3.power.wr = D3.wr := rfl
    have hnow := hE.ok.now hE.good
    have hszn := hE.sz.now hE.good
    rw [← hT] at hnow hszn
    generalize D3.power = D4 at *
    have hap := s_append st8 z hf3 ht3 (by omega) (by omega)
    rw [(hdead D4).1, her3] at hap
    simp only at hap
    go_wp2_with fail
    refine hap.mono ?_
    rintro e w9 ⟨rfl, st9⟩
    clear hap st8
    have hop := s_open st9 hszn
    go_wp2_with fail
    refine hop.mono ?_
    rintro e w10 ⟨m, c, t, rfl, hTl, st10, _⟩
    clear hop st9
    have hcase : c.Fit ∧ t.size ≤ 8192 ∧ t.size = c.len ∧ (t = x ∨ t = x ++ y) := by
      rcases hnow with k | k
      · obtain ⟨rfl, rfl⟩ := hTl.unique k.tells
        exact ⟨k.fit, by omega, k.size, Or.inl rfl⟩
      · obtain ⟨rfl, rfl⟩ := hTl.unique k.tells
        exact ⟨k.fit, by rw [ByteArray.size_append]; omega, k.size, Or.inr rfl⟩
    obtain ⟨hcf, hts, htc, hor⟩ := hcase
    have hap := s_append st10 z hcf (by show (tailT t).size ≤ _; rw [tailT_size]; omega) (by omega) (by omega)
    have hcal := append_calm (L := ⟨c, tailT t, 0⟩) (s := z) hcalm4 rfl hcf (by show (tailT t).size = _; rw [tailT_size, htc]) (by show c.len + z.size ≤ _; omega)
    rw [hcal.1] at hap
    clear hcal hnow hTl
    have HO := hid hor
    clear hor
    have hbel := st10.bel
    by_cases hta : t = x
    · subst hta
      go_wp2_with fail
      refine hap.mono ?_
      rintro e w11 ⟨rfl, st11⟩
      go_wp2
      go_ret
      exact ⟨rfl, st11.bel⟩
    · have hta2 : t = x ++ y := by rcases HO.out with k | k; exact absurd k hta; exact k
      go_wp2_with fail
      all_goals
        refine hap.mono ?_
        rintro e w11 ⟨rfl, st11⟩
        go_wp2
        go_ret
        exact ⟨rfl, st11.bel⟩
theorem wrefuses_any (x y z : ByteArray) (n : Int) (w : World) (hx : x.size ≤ maxLen) (hy : y.size ≤ maxLen) (hz : z.size ≤ maxLen) (hn : (Lit.int .i64 n).wf = true) :
    Calls Try.prog 8 #[.string x, .string y, .string z, .int .i64 n] w fun e w' => e = .returned (.bool true) ∧ Below w.heap.size w w' := by
  have hn' : -9223372036854775808 ≤ n ∧ n < 9223372036854775808 := by
    simp only [Lit.wf, IntKind.min, IntKind.max, IntKind.signed, IntKind.bits] at hn
    simp at hn
    omega
  by_cases h : x.size ≤ 4096 ∧ y.size ≤ 4096 ∧ z.size ≤ 4096
  · exact wrefuses_walk x y z n w h.1 h.2.1 h.2.2 hn'
  · unfold maxLen at hx hy hz
    rcases (show 4096 < x.size ∨ ¬ 4096 < x.size ∧ 4096 < y.size ∨ ¬ 4096 < x.size ∧ ¬ 4096 < y.size ∧ 4096 < z.size by omega) with k | ⟨k, k2⟩ | ⟨k, k2, k3⟩
    all_goals
      clear h
      go_enter Try.func8, Try.ntmps8
      go_wp2
      go_ret
      exact ⟨rfl, Below.refl _ _⟩
end Go.Proofs.Ytchhllbegokihaa
