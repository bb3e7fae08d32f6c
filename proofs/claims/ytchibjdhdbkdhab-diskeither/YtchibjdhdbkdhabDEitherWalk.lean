/- DiskEither: what the call answers. -/
import Derived.Test.YtchibjdhdbkdhabDCalm
import Derived.Deep.RegionHeld3
import Derived.Deep.DrawnRows
namespace Go.Proofs.Ytchibjdhdbkdhab
open Go.RowKit
set_option linter.unusedVariables false
set_option maxRecDepth 100000
set_option linter.unusedSimpArgs false

def betw : ByteArray := ⟨#[98, 101, 116, 119, 101, 101, 110]⟩
/-- Sector i behind the first k texts of l. -/
def wasK (l : List ByteArray) (k i : Nat) : ByteArray := if i < k ∧ (l.getD i ByteArray.empty).size ≤ 256 then l.getD i ByteArray.empty else ByteArray.empty
/-- .. and behind the first k of the second list. -/
def isK (l m : List ByteArray) (la k i : Nat) : ByteArray := if i < k then (if (m.getD i ByteArray.empty).size ≤ 256 then m.getD i ByteArray.empty else betw) else wasK l la i
structure EitA (l : List ByteArray) (k : Nat) (D : Dsk) : Prop where
  calm : Calm D
  ops : D.ops ≤ k
  len : D.wr.length = 256
  wr : ∀ i, i < 256 → D.wr.getD i ByteArray.empty = wasK l k i
structure EitB (l m : List ByteArray) (la k : Nat) (D : Dsk) : Prop where
  calm : Calm D
  ops : D.ops ≤ 300 + 2 * k
  wl : D.wr.length = 256
  ll : D.la.length = 256
  wr : ∀ i, i < 256 → D.wr.getD i ByteArray.empty = isK l m la k i
  la : ∀ i, i < 256 → D.la.getD i ByteArray.empty = wasK l la i
  ca : D.ca = List.range k
theorem eita_start (l : List ByteArray) : EitA l 0 Dsk.new := ⟨calm_new, Nat.le_refl _, List.length_replicate, fun i hi => by
  show (List.replicate 256 ByteArray.empty).getD i ByteArray.empty = _
  rw [List.getD_eq_getElem?_getD, List.getElem?_replicate, if_pos hi, wasK, if_neg (by omega)]; rfl⟩
theorem eita_big {l : List ByteArray} {k : Nat} {D : Dsk} (h : EitA l k D) (hs : 256 < (l.getD k ByteArray.empty).size) : EitA l (k + 1) D :=
  ⟨h.calm, by have := h.ops; omega, h.len, fun i hi => by
    rw [h.wr i hi]; unfold wasK
    by_cases e : i = k
    · subst e; rw [if_neg (by omega), if_neg (by omega)]
    · by_cases e2 : i < k ∧ (l.getD i ByteArray.empty).size ≤ 256
      · rw [if_pos e2, if_pos ⟨by omega, e2.2⟩]
      · rw [if_neg e2, if_neg (fun h => e2 ⟨by omega, h.2⟩)]⟩
theorem eita_ok {l : List ByteArray} {k : Nat} {D : Dsk} (h : EitA l k D) (hk : k < 256) (hs : (l.getD k ByteArray.empty).size ≤ 256) : (D.write k (l.getD k ByteArray.empty)).2 = 0 ∧ EitA l (k + 1) (D.write k (l.getD k ByteArray.empty)).1 := by
  obtain ⟨h1, h2, h3, h4, h5, h6⟩ := h.calm.write k _ hk hs
  refine ⟨h1, h2, by have := h.ops; omega, by rw [h3, List.length_set]; exact h.len, fun i hi => ?_⟩
  rw [h3, getD_set (by rw [h.len]; exact hk), h.wr i hi]
  unfold wasK
  by_cases e : i = k
  · subst e; rw [if_pos rfl, if_pos ⟨by omega, hs⟩]
  · rw [if_neg e]
    by_cases e2 : i < k ∧ (l.getD i ByteArray.empty).size ≤ 256
    · rw [if_pos e2, if_pos ⟨by omega, e2.2⟩]
    · rw [if_neg e2, if_neg (fun h => e2 ⟨by omega, h.2⟩)]
theorem eit_sync {l m : List ByteArray} {la : Nat} {D : Dsk} (h : EitA l la D) (hl : la ≤ 256) : D.sync.2 = 0 ∧ EitB l m la 0 D.sync.1 := by
  obtain ⟨h1, h2, h3, h4, h5, h6⟩ := h.calm.sync
  refine ⟨h1, h2, by have := h.ops; omega, by rw [h3]; exact h.len, by rw [h4]; exact h.len, fun i hi => ?_, fun i hi => ?_, h5⟩
  · rw [h3, h.wr i hi, isK, if_neg (by omega)]
  · rw [h4, h.wr i hi]
theorem eitb_step {l m : List ByteArray} {la k : Nat} {D : Dsk} (h : EitB l m la k D) (hk : k < 256) :
    (D.write k betw).1.ops ≤ D.ops + 1 ∧ EitB l m la (k + 1) ((D.write k betw).1.write k (m.getD k ByteArray.empty)).1 := by
  obtain ⟨h1, h2, h3, h4, h5, h6⟩ := h.calm.write k betw hk (by decide)
  have hca : (D.write k betw).1.ca = List.range (k + 1) := by rw [h5, h.ca, if_neg (by simp), List.range_succ]
  refine ⟨by omega, ?_⟩
  by_cases hs : (m.getD k ByteArray.empty).size ≤ 256
  · obtain ⟨g1, g2, g3, g4, g5, g6⟩ := h2.write k _ hk hs
    refine ⟨g2, by have := h.ops; omega, by rw [g3, h3]; simp [h.wl], by rw [g4, h4]; exact h.ll, fun i hi => ?_, fun i hi => by rw [g4, h4]; exact h.la i hi, ?_⟩
    · rw [g3, getD_set (by rw [h3]; simp [h.wl, hk]), h3, getD_set (by rw [h.wl]; exact hk), h.wr i hi]
      unfold isK
      by_cases e : i = k
      · subst e; rw [if_pos rfl, if_pos (by omega), if_pos hs]
      · rw [if_neg e, if_neg e]
        by_cases e2 : i < k
        · simp only [if_pos e2, if_pos (show i < k + 1 by omega)]
        · simp only [if_neg e2, if_neg (show ¬ i < k + 1 by omega)]
    · rw [g5, hca, if_pos (by simp)]
  · rw [write_big _ k _ hk (by omega)]
    refine ⟨h2, by have := h.ops; show (D.write k betw).1.ops ≤ _; omega, by rw [h3]; simp [h.wl], by rw [h4]; exact h.ll, fun i hi => ?_, fun i hi => by rw [h4]; exact h.la i hi, hca⟩
    rw [h3, getD_set (by rw [h.wl]; exact hk), h.wr i hi]
    unfold isK
    by_cases e : i = k
    · subst e; rw [if_pos rfl, if_pos (by omega), if_neg hs]
    · rw [if_neg e]
      by_cases e2 : i < k
      · simp only [if_pos e2, if_pos (show i < k + 1 by omega)]
      · simp only [if_neg e2, if_neg (show ¬ i < k + 1 by omega)]
theorem eit_crash {l m : List ByteArray} {la k : Nat} {D : Dsk} (h : EitB l m la k D) (hk : k ≤ 256) (keep i : Nat) (hi : i < 256) : (D.crash keep).read i = if kbit keep i = true then isK l m la k i else wasK l la i := by
  rw [read_in _ _ hi, (h.calm.crash keep).1, h.ca, loseL_range keep _ _ h.ll k hk, h.wr i hi, h.la i hi]
  by_cases hb : kbit keep i = true
  · rw [if_pos hb]
    by_cases e : i < k
    · rw [if_pos ⟨e, hb⟩]
    · rw [if_neg (by omega), isK, if_neg e]
  · rw [if_neg hb, if_neg (fun h => hb h.2)]
theorem u64_bounds {n : Int} (h : (Lit.int .u64 n).wf = true) : ∃ k : Nat, n = k ∧ k < 18446744073709551616 := by
  have := bounds_u64 h
  exact ⟨n.toNat, by omega, by omega⟩
theorem IsStrs.later {w W : World} {a : Option Addr} {len cap : Nat} {ss : List ByteArray} (h : IsStrs w a len cap ss) (hb : Below w.heap.size w W) (i : Nat) (hi : i < len) :
    ∃ b off, a = some ⟨b, off, none⟩ ∧ W.cell? ⟨b, off + i, none⟩ = some (.string (ss.getD i ByteArray.empty)) ∧ (ss.getD i ByteArray.empty).size ≤ 9223372036854775807 ∧ len ≤ cap ∧ cap ≤ 9223372036854775807 := by
  obtain ⟨b, off, h1, h2, h3, h4, h5⟩ := h.at i hi
  unfold maxLen at h5
  exact ⟨b, off, h1, (hb.cell (p := ⟨b, off + i, none⟩) (World.block_lt_of_cell? w _ h2)).trans h2, h3, h4, by omega⟩
set_option maxHeartbeats 8000000 in
theorem either_any (a0 : Option Addr) (len0 cap0 : Nat) (l : List ByteArray) (a1 : Option Addr) (len1 cap1 : Nat) (m : List ByteArray) (keep : Nat) (w : World) (w0 : IsStrs w a0 len0 cap0 l) (w1 : IsStrs w a1 len1 cap1 m) (hkeep : keep < 18446744073709551616) :
    Calls Try.prog 3 #[.slice a0 len0 cap0, .slice a1 len1 cap1, .int .u64 (keep : Int)] w fun e w' => e = .returned (.bool true) ∧ Below w.heap.size w w' := by
  by_cases hl0 : 256 < len0
  · have hl0' : (256 : Int) < (len0 : Int) := by omega
    go_enter Try.func3, Try.ntmps3
    go_wp2
    go_ret
    exact ⟨rfl, Below.refl _ _⟩
  by_cases hl1 : 256 < len1
  · have hl0' : (len0 : Int) ≤ 256 := by omega
    have hl1' : (256 : Int) < (len1 : Int) := by omega
    go_enter Try.func3, Try.ntmps3
    go_wp2
    go_ret
    exact ⟨rfl, Below.refl _ _⟩
  have hl0' : (len0 : Int) ≤ 256 := by omega
  have hl1' : (len1 : Int) ≤ 256 := by omega
  go_enter Try.func3, Try.ntmps3
  go_wp2_with fail
  refine (new_any w).mono ?_
  rintro e W1 ⟨rfl, hd, hb⟩
  go_wp2
  go_loopw [8] (fun i W => ∃ (k : Nat) (D : Dsk), k ≤ len0 ∧ i = .int .i64 k ∧ EitA l k D ∧ DiskIs W w.heap.size D ∧ Below w.heap.size w W) (fun i _ => len0 - (intOf i).toNat)
  case atStart => exact ⟨0, _, Nat.zero_le _, rfl, eita_start l, hd, hb⟩
  case round =>
    obtain ⟨k, D, hk, rfl, hst, hd1, hb1⟩ := hrel
    clear hd hb
    have hops : D.ops < 4611686018427387904 := by have := hst.ops; omega
    have HST := hid hst
    clear hst
    by_cases hlt : k < len0
    · obtain ⟨b, off, rfl, hc, hsz, hl, hm⟩ := w0.at k hlt
      have hbl : b < w.heap.size := World.block_lt_of_cell? w _ hc
      have hb0 := hb1.drew
      have hc0 := (hb0.cell (p := ⟨b, off + k, none⟩) hbl).trans hc
      have hd0 := hd1.drew
      unfold maxLen at hm
      by_cases hs : 256 < (l.getD k ByteArray.empty).size
      · have HB := hid (eita_big HST.out hs)
        have HW := hid (write_big D k _ (by omega) hs)
        have hs' : ¬ ((l.getD k ByteArray.empty).size : Int) ≤ 256 := by omega
        generalize l.getD k ByteArray.empty = s at *
        go_wp2
        go_region_held3 (fun w' => w'.cell? ⟨b, off + k, none⟩ = some (.string s)) (first | exact hc0 | exact hc2) (first | (go_at_call 6; refine (write_any _ w.heap.size w.heap.size D k s hops (Nat.le_refl _) hd0).mono ?_; rintro e W2 ⟨rfl, hd2, k2⟩; rw [HW.out] at hd2 ⊢; have hb2 := below_kp hb0 k2; have hc2 := kp_cell k2 hbl hc0))
        all_goals
          clear hc0 hc2 hb0 hb1 hd0 hd1 k2
          go_wp2
          go_roundw
          case rel => exact ⟨k + 1, D, by omega, by go_num, HB.out, hd2, hb2⟩
          case measure => simp [intOf]; omega
      · have HB := hid (eita_ok HST.out (by omega) (by omega))
        have hs' : ((l.getD k ByteArray.empty).size : Int) ≤ 256 := by omega
        generalize l.getD k ByteArray.empty = s at *
        go_wp2
        go_region_held3 (fun w' => w'.cell? ⟨b, off + k, none⟩ = some (.string s)) (first | exact hc0 | exact hc2) (first | (go_at_call 6; refine (write_any _ w.heap.size w.heap.size D k s hops (Nat.le_refl _) hd0).mono ?_; rintro e W2 ⟨rfl, hd2, k2⟩; rw [HB.out.1]; have hb2 := below_kp hb0 k2; have hc2 := kp_cell k2 hbl hc0))
        all_goals
          have H2 := hid HB.out.2
          generalize (D.write k s).1 = D2 at *
          clear hc0 hc2 hb0 hb1 hd0 hd1 k2 HB
          go_wp2
          go_roundw
          case rel => exact ⟨k + 1, D2, by omega, by go_num, H2.out, hd2, hb2⟩
          case measure => simp [intOf]; omega
    · have hkl : k = len0 := by omega
      subst hkl
      have HS := hid (eit_sync (m := m) HST.out (by omega))
      go_wp2_with fail
      refine (sync_any _ w.heap.size w.heap.size D hops (Nat.le_refl _) hd1).mono ?_
      rintro e W2 ⟨rfl, hd2, k2⟩
      rw [HS.out.1]
      have hb2 := below_kp hb1 k2
      have H2 := hid HS.out.2
      generalize D.sync.1 = D2 at *
      clear hlt hk hd1 hb1 k2 HS HST hops
      go_wp2
      go_loopw [9] (fun i W => ∃ (j : Nat) (E : Dsk), j ≤ len1 ∧ i = .int .i64 j ∧ EitB l m k j E ∧ DiskIs W w.heap.size E ∧ Below w.heap.size w W) (fun i _ => len1 - (intOf i).toNat)
      case atStart => exact ⟨0, _, Nat.zero_le _, rfl, H2.out, hd2, hb2⟩
      case round =>
        obtain ⟨j, E, hj, rfl, hst, hd3, hb3⟩ := hrel
        clear hd2 hb2 H2
        have hops : E.ops < 4000000 := by have := hst.ops; omega
        have HST := hid hst
        clear hst
        by_cases hlt : j < len1
        · obtain ⟨b, off, rfl, hc, hsz, hl, hm⟩ := w1.at j hlt
          have hbl : b < w.heap.size := World.block_lt_of_cell? w _ hc
          unfold maxLen at hm
          have HB := hid (eitb_step HST.out (by omega))
          have hops2 : (E.write j betw).1.ops < 4611686018427387904 := by have := HB.out.1; omega
          generalize m.getD j ByteArray.empty = s at *
          go_wp2_with fail
          refine (write_any _ w.heap.size w.heap.size E j betw (by omega) (Nat.le_refl _) hd3).mono ?_
          rintro e W4 ⟨rfl, hd4, k4⟩
          have hb4 := below_kp hb3 k4
          have hc4 := (hb4.cell (p := ⟨b, off + j, none⟩) hbl).trans hc
          generalize (E.write j betw).2 = e4
          generalize (E.write j betw).1 = E4 at *
          clear hd3 hb3 k4 hops
          go_wp2_with fail
          refine (write_any _ w.heap.size w.heap.size E4 j s hops2 (Nat.le_refl _) hd4).mono ?_
          rintro e W5 ⟨rfl, hd5, k5⟩
          have hb5 := below_kp hb4 k5
          generalize (E4.write j s).2 = e5
          clear hd4 hb4 k5 hc4
          have H5 := hid HB.out.2
          clear HB
          generalize (E4.write j s).1 = E5 at *
          go_wp2
          go_roundw
          case rel => exact ⟨j + 1, E5, by omega, by go_num, H5.out, hd5, hb5⟩
          case measure => simp [intOf]; omega
        · have hjl : j = len1 := by omega
          subst hjl
          go_wp2_with fail
          refine (crash_any _ w.heap.size w.heap.size E keep hkeep (Nat.le_refl _) hd3).mono ?_
          rintro e W4 ⟨rfl, hd4, k4⟩
          have hb4 := below_kp hb3 k4
          have HC := hid (fun i hi => eit_crash HST.out (by omega) keep i hi)
          generalize E.crash keep = E4 at *
          clear hd3 hb3 k4 hops HST hlt hj
          go_wp2
          go_loop [10] (fun i => ∃ n : Nat, n ≤ 256 ∧ i = .int .i64 n) (fun i => 256 - (intOf i).toNat)
          case atStart => exact ⟨0, Nat.zero_le _, rfl⟩
          case round =>
            obtain ⟨n, hn, rfl⟩ := hrel
            by_cases hlt : n < 256
            · have hR := HC.out n hlt
              have ht := kbit_test keep n hkeep
              have hA : (n < k ∧ ((l.getD n ByteArray.empty).size : Int) ≤ 256 ∧ wasK l k n = l.getD n ByteArray.empty ∧ (∃ b off, a0 = some ⟨b, off, none⟩ ∧ W4.cell? ⟨b, off + n, none⟩ = some (.string (l.getD n ByteArray.empty)) ∧ (l.getD n ByteArray.empty).size ≤ 9223372036854775807 ∧ k ≤ cap0 ∧ cap0 ≤ 9223372036854775807)) ∨ (n < k ∧ ¬ ((l.getD n ByteArray.empty).size : Int) ≤ 256 ∧ wasK l k n = ⟨#[]⟩ ∧ (∃ b off, a0 = some ⟨b, off, none⟩ ∧ W4.cell? ⟨b, off + n, none⟩ = some (.string (l.getD n ByteArray.empty)) ∧ (l.getD n ByteArray.empty).size ≤ 9223372036854775807 ∧ k ≤ cap0 ∧ cap0 ≤ 9223372036854775807)) ∨ (¬ n < k ∧ wasK l k n = ⟨#[]⟩) := by
                unfold wasK
                by_cases h1 : n < k
                · by_cases h2 : (l.getD n ByteArray.empty).size ≤ 256
                  · exact Or.inl ⟨h1, by omega, if_pos ⟨h1, h2⟩, w0.later hb4 n h1⟩
                  · exact Or.inr (Or.inl ⟨h1, by omega, if_neg (fun h => h2 h.2), w0.later hb4 n h1⟩)
                · exact Or.inr (Or.inr ⟨h1, if_neg (fun h => h1 h.1)⟩)
              have hB : (n < j ∧ ((m.getD n ByteArray.empty).size : Int) ≤ 256 ∧ isK l m k j n = m.getD n ByteArray.empty ∧ (∃ b off, a1 = some ⟨b, off, none⟩ ∧ W4.cell? ⟨b, off + n, none⟩ = some (.string (m.getD n ByteArray.empty)) ∧ (m.getD n ByteArray.empty).size ≤ 9223372036854775807 ∧ j ≤ cap1 ∧ cap1 ≤ 9223372036854775807)) ∨ (n < j ∧ ¬ ((m.getD n ByteArray.empty).size : Int) ≤ 256 ∧ isK l m k j n = ⟨#[98, 101, 116, 119, 101, 101, 110]⟩ ∧ (∃ b off, a1 = some ⟨b, off, none⟩ ∧ W4.cell? ⟨b, off + n, none⟩ = some (.string (m.getD n ByteArray.empty)) ∧ (m.getD n ByteArray.empty).size ≤ 9223372036854775807 ∧ j ≤ cap1 ∧ cap1 ≤ 9223372036854775807)) ∨ (¬ n < j ∧ isK l m k j n = wasK l k n) := by
                unfold isK
                by_cases h1 : n < j
                · by_cases h2 : (m.getD n ByteArray.empty).size ≤ 256
                  · exact Or.inl ⟨h1, by omega, by rw [if_pos h1, if_pos h2], w1.later hb4 n h1⟩
                  · exact Or.inr (Or.inl ⟨h1, by omega, by rw [if_pos h1, if_neg h2]; rfl, w1.later hb4 n h1⟩)
                · exact Or.inr (Or.inr ⟨h1, if_neg h1⟩)
              generalize isK l m k j n = isn at *
              generalize wasK l k n = was at *
              cases hb : kbit keep n
              all_goals
                rw [hb] at ht hR
                first | rw [if_pos rfl] at hR | rw [if_neg (by simp)] at hR
                have HR := hid hR
                clear hR HC hb
              all_goals rcases hA with ⟨h1, h2, rfl, b0, off0, rfl, hc0, hz0, hq0, hm0⟩ | ⟨h1, h2, rfl, b0, off0, rfl, hc0, hz0, hq0, hm0⟩ | ⟨h1, rfl⟩
              all_goals rcases hB with ⟨g1, g2, rfl, b2, off2, rfl, hc2, hz2, hq2, hm2⟩ | ⟨g1, g2, rfl, b2, off2, rfl, hc2, hz2, hq2, hm2⟩ | ⟨g1, rfl⟩
              all_goals
                clear w0 w1
                try generalize l.getD n ByteArray.empty = s1 at *
                try generalize m.getD n ByteArray.empty = s2 at *
              all_goals
                go_wp2_with fail
                refine (read_any _ _ E4 n hd4).mono ?_
                rintro e W5 ⟨rfl, rfl⟩
                rw [HR.out]
                go_wp2
                go_round
                case rel => exact ⟨n + 1, by omega, by go_num⟩
                case measure => simp [intOf]; omega
            · go_wp2
              go_ret
              exact ⟨rfl, hb4⟩
theorem either_fits (a0 : Option Addr) (len0 cap0 : Nat) (l : List ByteArray) (a1 : Option Addr) (len1 cap1 : Nat) (m : List ByteArray) (q : Int) (w : World) (w0 : IsStrs w a0 len0 cap0 l) (w1 : IsStrs w a1 len1 cap1 m) (hq : (Lit.int .u64 q).wf = true) :
    Calls Try.prog 3 #[.slice a0 len0 cap0, .slice a1 len1 cap1, .int .u64 q] w fun e w' => e = .returned (.bool true) ∧ Below w.heap.size w w' := by
  obtain ⟨keep, rfl, hk⟩ := u64_bounds hq
  exact either_any a0 len0 cap0 l a1 len1 cap1 m keep w w0 w1 hk
end Go.Proofs.Ytchibjdhdbkdhab
