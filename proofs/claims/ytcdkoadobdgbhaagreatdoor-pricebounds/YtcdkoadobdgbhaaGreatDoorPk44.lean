/- CLv, CNums, HNums, S16S, S17A, S17B, S17C, S16R, S16V. -/
import Derived.Test.YtcdkoadobdgbhaaGreatDoorZCLev
import Derived.Deep.RegionWith
import Derived.Test.YtcdkoadobdgbhaaGreatDoorPk41
import Derived.Test.YtcdkoadobdgbhaaGreatDoorPk14
import Derived.Deep.RegionHeld3
import Derived.Test.YtcdkoadobdgbhaaGreatDoorPk23
/- cert: the one denominator of a list. -/
namespace Go.Proofs.YtcdkoadobdgbhaaGreatDoor
open Go.RowKit
set_option linter.unusedVariables false
set_option maxRecDepth 100000
set_option linter.unusedSimpArgs false

/-- v is the list X: its numbers times m, and m. -/
def LIs (w : World) (tv p1 p2 p3 p4 : Value) (X : List Rat) : Prop :=
  ∃ m base C, 0 < m ∧ Lt10 44900 m ∧ X.length ≤ 64 ∧ (∀ x ∈ X, Lt10 700 x) ∧ QIs w (.agg #[p1, p2, p3, p4]) m 5100 ∧ QLs w base tv C (X.map (fun x => x * m)) 5100
theorem LIs.below {w w' : World} {tv p1 p2 p3 p4 : Value} {X : List Rat} (h : LIs w tv p1 p2 p3 p4 X) (b : Below w.heap.size w w') : LIs w' tv p1 p2 p3 p4 X := by
  obtain ⟨m, base, C, h1, h4, h5, h6, h2, h3⟩ := h
  exact ⟨m, base, C, h1, h4, h5, h6, h2.below b, Ls.below (fun h b => h.below b) h3 b⟩
end Go.Proofs.YtcdkoadobdgbhaaGreatDoor
/- cert: the numbers of texts; noughts. -/
namespace Go.Proofs.YtcdkoadobdgbhaaGreatDoor
open Go.RowKit
set_option linter.unusedVariables false
set_option maxRecDepth 100000
set_option linter.unusedSimpArgs false

theorem ztx_lt {s : ByteArray} {z : Int} (h : ZTx s z) : z.natAbs < 10 ^ s.size := by
  rcases h with ⟨_, h1, h2⟩ | ⟨_, t, rfl, h1, h2⟩
  · rw [← h2]; exact num_lt h1
  · rw [← h2, minus_size]
    exact Nat.lt_of_lt_of_le (num_lt h1) (Nat.pow_le_pow_right (by decide) (by omega))
theorem canr_lt {s : ByteArray} {q : Rat} (h : CanR s q) : Lt10 (s.size + 1) q := by
  rcases h.tx with ⟨h1, h2⟩ | ⟨h1, a, b, h2, h3, rfl⟩
  · refine ⟨Nat.lt_of_lt_of_le (ztx_lt h2) (Nat.pow_le_pow_right (by decide) (by omega)), ?_⟩
    have : q.den = 1 := by omega
    rw [this]
    exact Nat.one_lt_pow (by omega) (by decide)
  · rw [slash_size]
    refine ⟨Nat.lt_of_lt_of_le (ztx_lt h2) (Nat.pow_le_pow_right (by decide) (by omega)), ?_⟩
    have h4 := ztx_lt h3
    rw [Int.natAbs_natCast] at h4
    exact Nat.lt_of_lt_of_le h4 (Nat.pow_le_pow_right (by decide) (by omega))
/-- The numbers of these texts. -/
structure Nums (S : List ByteArray) (X : List Rat) : Prop where
  len : X.length = S.length
  is_ : ∀ i (h1 : i < S.length) (h2 : i < X.length), CanR S[i] X[i]
theorem Nums.nil : Nums [] [] := ⟨rfl, fun i h => by simp at h⟩
theorem Nums.push {S : List ByteArray} {X : List Rat} {k : Nat} {q : Rat} (h : Nums (S.take k) X) (hk : k < S.length) (hq : CanR S[k] q) : Nums (S.take (k + 1)) (X ++ [q]) := by
  have hl : X.length = k := by rw [h.len, List.length_take]; omega
  refine ⟨by rw [List.length_append, hl, List.length_take]; simp; omega, fun i h1 h2 => ?_⟩
  have hiS : i < S.length := by rw [List.length_take] at h1; omega
  have hik : i < k + 1 := by rw [List.length_take] at h1; omega
  rw [List.getElem_take]
  by_cases hi : i < k
  · rw [List.getElem_append_left (by omega)]
    have := h.is_ i (by rw [List.length_take]; omega) (by omega)
    rwa [List.getElem_take] at this
  · have e : i = k := by omega
    subst e
    rw [List.getElem_append_right (by omega)]
    simpa [hl] using hq
theorem Nums.lt {S : List ByteArray} {X : List Rat} (h : Nums S X) (hS : ∀ s ∈ S, s.size ≤ 600) : ∀ x ∈ X, Lt10 700 x := fun x hx => by
  obtain ⟨i, hi, rfl⟩ := List.getElem_of_mem hx
  have h1 : i < S.length := by rw [← h.len]; exact hi
  exact (canr_lt (h.is_ i h1 hi)).mono (by have := hS _ (List.getElem_mem h1); omega)
theorem Nums.uniq {S : List ByteArray} {X Y : List Rat} (h : Nums S X) (k : Nums S Y) : X = Y := List.ext_getElem (by rw [h.len, k.len]) (fun i h1 h2 => CanR.inj (h.is_ i (by rw [← h.len]; exact h1) h1) (k.is_ i (by rw [← h.len]; exact h1) h2))
end Go.Proofs.YtcdkoadobdgbhaaGreatDoor
/- cert: the document's Numbers. -/
namespace Go.Proofs.YtcdkoadobdgbhaaGreatDoor
open Go.RowKit
set_option linter.unusedVariables false
set_option maxRecDepth 100000
set_option linter.unusedSimpArgs false

theorem ls_made {I : World → Value → Rat → Nat → Prop} {e : TypeId} {K : Nat} (w : World) (base : Nat) (hb : base ≤ w.heap.size) : Ls I e (w.alloc (.cells #[] e)) base (.slice (some ⟨w.heap.size, 0, none⟩) 0 0) [] [] K :=
  ⟨World.ownsRow_made w #[] 0 hb (Nat.zero_le _) (by simp), rfl, by simp, fun i h1 h2 => by simp at h2⟩
theorem nums_no {S : List ByteArray} {k : Nat} (hk : k < S.length) (h : ∀ q, ¬ CanR S[k] q) : ¬ ∃ X, Nums S X := fun ⟨X, hX⟩ => h _ (hX.is_ k hk (by rw [hX.len]; exact hk))
set_option maxHeartbeats 12800000 in
theorem hNumbers_any (w : World) (sv : Value) (S : List ByteArray) (hs : Strs w sv S) (hsz : ∀ s ∈ S, s.size ≤ 600) (hn : S.length ≤ 1000) :
    Calls Tryz.prog 64 #[sv] w fun e w' =>
      ((∃ X tv C, Nums S X ∧ e = .returned (.tuple #[tv, .int .i64 0]) ∧ TLs w' w.heap.size tv C X 5100) ∨
       ((¬ ∃ X, Nums S X) ∧ e = .returned (.tuple #[.slice none 0 0, .int .i64 10]))) ∧ Below w.heap.size w w' := by
  obtain ⟨i0, hi0, hz0, hz1, hz2⟩ := info_parts info_refRatZ
  obtain ⟨sa, sc, rfl, sl, sm⟩ := hs.slice
  unfold maxLen at sm
  have HS := hid hs
  have HSZ := hid hsz
  clear hs hsz
  have b0 := (Below.refl w.heap.size w).alloc (Nat.le_refl _) (Obj.cells #[] 35)
  have N0 := hid (ls_made (I := TIs) (e := 35) (K := 5100) w w.heap.size (Nat.le_refl _))
  go_enter Tryz.func64, Tryz.ntmps64
  go_wp2
  generalize w.alloc (Obj.cells #[] 35) = W0 at *
  go_loopw [4, 5] (fun l i wr => ∃ (k : Nat) (C : List (List Value)) (X : List Rat), k ≤ S.length ∧ i = .int .i64 (k : Int) ∧ Hid (Nums (S.take k) X) ∧ Hid (TLs wr w.heap.size l C X 5100) ∧ Below w.heap.size w wr) (fun _ i _ => S.length - (intOf i).toNat)
  case atStart => exact ⟨0, [], [], Nat.zero_le _, rfl, Nums.nil, N0, b0⟩
  case round =>
    obtain ⟨k, C, X, hk, rfl, HNU, HL, bw⟩ := hrel
    have hXl : X.length = k := by rw [HNU.out.len, List.length_take]; omega
    obtain ⟨la_, lc, hle, hll, hlm⟩ := HL.out.slice
    subst hle
    have HXL := hid hXl
    have hX64 : X.length ≤ 1000 := by omega
    clear hXl
    by_cases hlt : k < S.length
    · obtain ⟨tb, toff, tcp, te, _, _, hc, _⟩ := (HS.out.below bw).at k hlt
      simp only [Value.slice.injEq] at te
      obtain ⟨rfl, -, rfl⟩ := te
      have hk255 := HSZ.out _ (List.getElem_mem hlt)
      have HPA := hid (t_parse S[k] wr (by omega))
      go_wp2_with fail
      refine HPA.out.mono ?_
      rintro e Y1 ⟨hr, bY1⟩
      clear HPA hc
      rcases hr with ⟨q, v, hcan, rfl, hq⟩ | ⟨hno, rfl⟩
      · obtain ⟨s1, s2, s3, s4, s5, s6, s7, s8, rfl⟩ := hq.form
        have bA := boxed2 (Below.refl Y1.heap.size Y1) (Obj.cells #[.bool s1, .slice s2 s3 s4, .bool s5, .slice s6 s7 s8] 35) (Obj.cells #[.bool s1, .slice s2 s3 s4, .bool s5, .slice s6 s7 s8] 35)
        have n1 := boxed2_first Y1 (Obj.cells #[.bool s1, .slice s2 s3 s4, .bool s5, .slice s6 s7 s8] 35) (Obj.cells #[.bool s1, .slice s2 s3 s4, .bool s5, .slice s6 s7 s8] 35)
        obtain ⟨t0, t1, t2, t3⟩ := four_cell (box_new Y1 (Obj.cells #[.bool s1, .slice s2 s3 s4, .bool s5, .slice s6 s7 s8] 35))
        have bY := chain2 bY1 bA
        have la := Ls.below (fun h b => h.below b) HL.out bY
        have own := la.own
        have hfn : ∀ j u, [Value.bool s1, .slice s2 s3 s4, .bool s5, .slice s6 s7 s8][j]? = some u → ((Y1.alloc (Obj.cells #[.bool s1, .slice s2 s3 s4, .bool s5, .slice s6 s7 s8] 35)).alloc (Obj.cells #[.bool s1, .slice s2 s3 s4, .bool s5, .slice s6 s7 s8] 35)).cell? ((⟨Y1.heap.size + 1, 0, none⟩ : Addr).add j) = some u := by
          have := four_new (Y1.alloc (Obj.cells #[.bool s1, .slice s2 s3 s4, .bool s5, .slice s6 s7 s8] 35)) 35 (.bool s1) (.slice s2 s3 s4) (.bool s5) (.slice s6 s7 s8)
          simpa using this
        have HLA := hid la
        have HQA := hid ((hq.below bA).mono (show S[k].size / 9 + 8 ≤ 5100 by omega))
        have HBY := hid bY
        have hbs : w.heap.size ≤ ((Y1.alloc (Obj.cells #[.bool s1, .slice s2 s3 s4, .bool s5, .slice s6 s7 s8] 35)).alloc (Obj.cells #[.bool s1, .slice s2 s3 s4, .bool s5, .slice s6 s7 s8] 35)).heap.size := Nat.le_trans bw.size bY.size
        have HCN := hid hcan
        clear la bA n1 bY hq hcan bY1
        generalize S[k].size = sz at *
        go_wp2_with (first | (refine wpList_store_fresh rfl 35 _ _ rfl _ _ _ rfl (by simp) rfl 4 info_refRat (by rfl) (by rfl) (by simp [Value.oneCell']) ?_) | (at_builtin; refine wpList_append_own_at _ rfl _ _ 85 rfl w.heap.size 35 i0 (.agg #[.bool false, .slice none 0 0, .bool false, .slice none 0 0]) 4 64 Tryz.underlying85 hi0 hz0 hz1 hz2 rfl (by decide) (.slice la_ X.length lc) X.length C.flatten rfl own ⟨Y1.heap.size + 1, 0, none⟩ 1 1 [.bool s1, .slice s2 s3 s4, .bool s5, .slice s6 s7 s8] rfl rfl hfn (by intro u hu; simp at hu; rcases hu with rfl | rfl | rfl | rfl <;> rfl) (by unfold maxLen; omega) (by omega) hbs ?_))
        intro v' Y5 o5 hg5 _ hat5
        have kg : Kty 35 35 _ Y5 := Kty.of_grown hg5 (fun g hg => own_ty own g hg)
        have hpush := Ls.push HLA.out (w' := Y5) (v' := v') (x0 := .bool s1) (x1 := .slice s2 s3 s4) (x2 := .bool s5) (x3 := .slice s6 s7 s8) (q := q) o5 (fun h => TIs.kty h kg (by decide) (by decide)) HQA.out
        have B5 := (bw.trans (HBY.out.mono bw.size)).grown hg5 hbs (fun g hg => (own.lt g hg).1)
        have HPU := hid hpush
        have HNP := hid (HNU.out.push hlt HCN.out)
        clear hpush kg own hfn o5 hg5 hat5 hbs t0 t1 t2 t3
        go_wp2
        go_roundw
        case rel => exact ⟨k + 1, _, _, by omega, by go_num, HNP, HPU, B5⟩
        case measure => simp [intOf]; omega
      · have bA := (Below.refl Y1.heap.size Y1).alloc (Nat.le_refl _) (Obj.cells #[.bool false, .slice none 0 0, .bool false, .slice none 0 0] 35)
        have bY := chain2 bY1 bA
        have BA := bw.trans (bY.mono bw.size)
        have HNN := hid (nums_no hlt hno)
        clear bA bY bY1 hno
        go_wp2
        go_ret2
        exact ⟨Or.inr ⟨HNN.out, rfl⟩, BA⟩
    · obtain rfl : k = S.length := by omega
      rw [List.take_length] at HNU
      go_wp2
      go_ret2
      exact ⟨Or.inl ⟨X, _, C, HNU.out, rfl, HL.out⟩, bw⟩
end Go.Proofs.YtcdkoadobdgbhaaGreatDoor
/- result: isBetween, isAmong; what an order gains. -/
namespace Go.Proofs.YtcdkoadobdgbhaaGreatDoor
open Go.RowKit
set_option linter.unusedVariables false
set_option maxRecDepth 100000
set_option linter.unusedSimpArgs false

theorem pbetween_any (w : World) (lo n hi : Int) :
    Calls Tryz.prog 105 #[.int .i64 lo, .int .i64 n, .int .i64 hi] w fun e w' => e = .returned (.bool (btw lo n hi)) ∧ w' = w := by
  have hd : btw lo n hi = (decide (lo ≤ n) && decide (n ≤ hi)) := rfl
  rw [hd]
  clear hd
  go_enter Tryz.func105, Tryz.ntmps105
  go_wp2
  all_goals go_ret
  all_goals exact ⟨by first | rfl | (simp_all; done) | (simp_all; omega), rfl⟩
theorem pamong_any (w : World) (n m : Int) (hm : 0 ≤ m) (hm2 : m < 9223372036854775808) :
    Calls Tryz.prog 104 #[.int .i64 n, .int .i64 m] w fun e w' => e = .returned (.bool (btw 0 n (m - 1))) ∧ w' = w := by
  have hw : wrap64 (m - 1) = m - 1 := by simp only [wrap64]; omega
  go_enter Tryz.func104, Tryz.ntmps104
  go_wp2_with (first | (go_at_call 105; refine (pbetween_any _ _ _ _).mono ?_; rintro e Y1 ⟨rfl, rfl⟩) | fail)
  go_ret
  exact ⟨rfl, rfl⟩
/-- What each of an order brings. -/
def gainR (buy : Bool) (own : Int) (p : Rat) : Rat := if buy = true then (own : Rat) - p else p - (own : Rat)
end Go.Proofs.YtcdkoadobdgbhaaGreatDoor
/- result: which steps and blocks may be, one by one. -/
namespace Go.Proofs.YtcdkoadobdgbhaaGreatDoor
open Go.RowKit
set_option linter.unusedVariables false
set_option maxRecDepth 100000
set_option linter.unusedSimpArgs false

theorem within16_any (lo n hi : Int) (w : World) :
    Calls Tryz.prog 55 #[.int .i64 n, .int .i64 lo, .int .i64 hi] w fun e w' => e = .returned (.bool (btw lo n hi)) ∧ w' = w := by
  by_cases h1 : lo ≤ n
  · have t1 : decide (lo ≤ n) = true := decide_eq_true h1
    by_cases h2 : n ≤ hi
    · have t2 : decide (n ≤ hi) = true := decide_eq_true h2
      have e : btw lo n hi = true := by simp [btw, t1, t2]
      rw [e]
      clear e
      go_enter Tryz.func55, Tryz.ntmps55
      go_wp2
      go_ret
      exact ⟨rfl, rfl⟩
    · have t2 : decide (n ≤ hi) = false := decide_eq_false h2
      have e : btw lo n hi = false := by simp [btw, t2]
      rw [e]
      clear e
      go_enter Tryz.func55, Tryz.ntmps55
      go_wp2
      go_ret
      exact ⟨rfl, rfl⟩
  · have t1 : decide (lo ≤ n) = false := decide_eq_false h1
    have e : btw lo n hi = false := by simp [btw, t1]
    rw [e]
    clear e
    go_enter Tryz.func55, Tryz.ntmps55
    go_wp2
    go_ret
    exact ⟨rfl, rfl⟩
/-- Which step may be. -/
def stOk (g : Gr) (zone hour qty price : Int) : Bool := btw 0 zone (g.zones - 1) && btw 0 hour (g.hours - 1) && btw 1 qty 1000 && btw g.low price g.high
set_option maxHeartbeats 3200000 in
theorem stepMay_any (w : World) (g : Gr) (la : Option Addr) (lc : Nat) (ok : gok g = true) (who : ByteArray) (seq zone hour : Int) (buy : Bool) (qty price : Int) :
    Calls Tryz.prog 47 #[.agg #[.int .i64 g.zones, .int .i64 g.hours, .slice la g.lines.length lc, .int .i64 g.low, .int .i64 g.high], .agg #[.string who, .int .i64 seq, .int .i64 zone, .int .i64 hour, .bool buy, .int .i64 qty, .int .i64 price]] w fun e w' => e = .returned (.bool (stOk g zone hour qty price)) ∧ Below w.heap.size w w' := by
  obtain ⟨k1, k2, -, -, -⟩ := gok_iff.1 ok
  have HB := hid (chain2 (ibel w (Obj.cells #[.int .i64 g.zones, .int .i64 g.hours, .slice la g.lines.length lc, .int .i64 g.low, .int .i64 g.high] 25)) (ibel (w.alloc (Obj.cells #[.int .i64 g.zones, .int .i64 g.hours, .slice la g.lines.length lc, .int .i64 g.low, .int .i64 g.high] 25)) (Obj.cells #[.string who, .int .i64 seq, .int .i64 zone, .int .i64 hour, .bool buy, .int .i64 qty, .int .i64 price] 27)))
  have HA := hid (fun W => pamong_any W zone g.zones (by omega) (by omega))
  have HC := hid (fun W => pamong_any W hour g.hours (by omega) (by omega))
  have HQ := hid (fun W => pbetween_any W 1 qty 1000)
  have HP := hid (fun W => pbetween_any W g.low price g.high)
  unfold stOk
  generalize btw 0 zone (g.zones - 1) = R1 at *
  generalize btw 0 hour (g.hours - 1) = R2 at *
  generalize btw 1 qty 1000 = R3 at *
  generalize btw g.low price g.high = R4 at *
  clear k1 k2 ok
  go_enter Tryz.func47, Tryz.ntmps47
  go_wp2_with fail
  refine (HA.out _).mono ?_
  rintro e w1 ⟨rfl, rfl⟩
  cases R1 with
  | false =>
    go_wp2_with fail
    go_ret
    exact ⟨rfl, HB.out⟩
  | true =>
    go_wp2_with fail
    refine (HC.out _).mono ?_
    rintro e w1 ⟨rfl, rfl⟩
    cases R2 with
    | false =>
      go_wp2_with fail
      go_ret
      exact ⟨rfl, HB.out⟩
    | true =>
      go_wp2_with fail
      refine (HQ.out _).mono ?_
      rintro e w1 ⟨rfl, rfl⟩
      cases R3 with
      | false =>
        go_wp2_with fail
        go_ret
        exact ⟨rfl, HB.out⟩
      | true =>
        go_wp2_with fail
        refine (HP.out _).mono ?_
        rintro e w1 ⟨rfl, rfl⟩
        go_wp2_with fail
        go_ret
        exact ⟨by simp, HB.out⟩
/-- Which block may be. -/
def qtyOk (L : List Int) : Bool := L.all (fun q => btw 0 q 1000) && L.any (fun q => decide (0 < q))
def bkOk (g : Gr) (s : Bl) : Bool := btw 0 s.zone (g.zones - 1) && btw g.low s.price g.high && decide ((s.qty.length : Int) = g.hours) && qtyOk s.qty
end Go.Proofs.YtcdkoadobdgbhaaGreatDoor
/- result: the least and the greatest, and the program's blockMay. -/
namespace Go.Proofs.YtcdkoadobdgbhaaGreatDoor
open Go.RowKit
set_option linter.unusedVariables false
set_option maxRecDepth 100000
set_option linter.unusedSimpArgs false

/-- The Min of numbers. -/
def IsMin (m : Int) (L : List Int) : Prop := m ∈ L ∧ ∀ q ∈ L, m ≤ q
theorem IsMin.snoc {m x : Int} {L : List Int} (h : IsMin m L) : IsMin (min m x) (L ++ [x]) := by
  obtain ⟨h1, h2⟩ := h
  refine ⟨?_, fun q hq => ?_⟩
  · rw [List.mem_append, List.mem_singleton]
    by_cases h : m ≤ x
    · exact Or.inl (by rw [show min m x = m by omega]; exact h1)
    · exact Or.inr (by omega)
  · rcases List.mem_append.1 hq with hq | hq
    · have := h2 q hq
      omega
    · rw [List.mem_singleton] at hq
      omega
set_option maxHeartbeats 1600000 in
theorem min16_any (w : World) (v : Value) (L : List Int) (h : Ints w v L) (h0 : 0 < L.length) :
    Calls Tryz.prog 106 #[v] w fun e w' => (∃ m, e = .returned (.int .i64 m) ∧ IsMin m L) ∧ w' = w := by
  obtain ⟨b, off, c, rfl, hl, hm, c0⟩ := h.at 0 h0
  unfold maxLen at hm
  rw [Nat.add_zero] at c0
  obtain ⟨x0, hx0⟩ : ∃ x, Hid (L[0] = x) := ⟨_, hid rfl⟩
  rw [hx0.out] at c0
  have HI : Hid (IsMin x0 (L.take 1)) := hid (by
    rw [List.take_succ_eq_append_getElem h0, hx0.out]
    exact ⟨by simp, fun q hq => by simp at hq; omega⟩)
  have HH := hid h
  clear h
  have hn1 : ¬ L.length < 1 := by omega
  go_enter Tryz.func106, Tryz.ntmps106
  go_wp2_with fail
  go_loopw [3, 4] (fun mv iv wr => ∃ (k : Nat) (m : Int), k ≤ L.length ∧ iv = .int .i64 (k : Int) ∧ mv = .int .i64 m ∧ Hid (IsMin m (L.take k)) ∧ wr = w) (fun _ iv _ => L.length - (intOf iv).toNat)
  case atStart => exact ⟨1, x0, by omega, rfl, rfl, HI, rfl⟩
  case round =>
    obtain ⟨k, m, hk, rfl, rfl, HM, rfl⟩ := hrel
    by_cases hlt : k < L.length
    · obtain ⟨b', off', c', e, -, -, q0⟩ := HH.out.at k hlt
      simp only [Value.slice.injEq, Option.some.injEq, Addr.mk.injEq] at e
      obtain ⟨⟨rfl, rfl, -⟩, -, rfl⟩ := e
      have HT := hid (List.take_succ_eq_append_getElem hlt)
      obtain ⟨x, hx⟩ : ∃ x, Hid (L[k] = x) := ⟨_, hid rfl⟩
      rw [hx.out] at q0 HT
      have HN : Hid (IsMin (min m x) (L.take (k + 1))) := hid (by rw [HT.out]; exact HM.out.snoc)
      go_wp2_with fail
      go_roundw
      case rel => exact ⟨k + 1, min m x, by omega, by go_num, by first | rfl | (go_num), HN, trivial⟩
      case measure => simp [intOf]; omega
    · obtain rfl : k = L.length := by omega
      rw [List.take_of_length_le (Nat.le_refl _)] at HM
      go_wp2_with fail
      go_ret
      exact ⟨⟨m, rfl, HM.out⟩, rfl⟩

/-- The Max of numbers. -/
def IsMax (m : Int) (L : List Int) : Prop := m ∈ L ∧ ∀ q ∈ L, q ≤ m
theorem IsMax.snoc {m x : Int} {L : List Int} (h : IsMax m L) : IsMax (max m x) (L ++ [x]) := by
  obtain ⟨h1, h2⟩ := h
  refine ⟨?_, fun q hq => ?_⟩
  · rw [List.mem_append, List.mem_singleton]
    by_cases h : x ≤ m
    · exact Or.inl (by rw [show max m x = m by omega]; exact h1)
    · exact Or.inr (by omega)
  · rcases List.mem_append.1 hq with hq | hq
    · have := h2 q hq
      omega
    · rw [List.mem_singleton] at hq
      omega
set_option maxHeartbeats 1600000 in
theorem max16_any (w : World) (v : Value) (L : List Int) (h : Ints w v L) (h0 : 0 < L.length) :
    Calls Tryz.prog 107 #[v] w fun e w' => (∃ m, e = .returned (.int .i64 m) ∧ IsMax m L) ∧ w' = w := by
  obtain ⟨b, off, c, rfl, hl, hm, c0⟩ := h.at 0 h0
  unfold maxLen at hm
  rw [Nat.add_zero] at c0
  obtain ⟨x0, hx0⟩ : ∃ x, Hid (L[0] = x) := ⟨_, hid rfl⟩
  rw [hx0.out] at c0
  have HI : Hid (IsMax x0 (L.take 1)) := hid (by
    rw [List.take_succ_eq_append_getElem h0, hx0.out]
    exact ⟨by simp, fun q hq => by simp at hq; omega⟩)
  have HH := hid h
  clear h
  have hn1 : ¬ L.length < 1 := by omega
  go_enter Tryz.func107, Tryz.ntmps107
  go_wp2_with fail
  go_loopw [3, 4] (fun mv iv wr => ∃ (k : Nat) (m : Int), k ≤ L.length ∧ iv = .int .i64 (k : Int) ∧ mv = .int .i64 m ∧ Hid (IsMax m (L.take k)) ∧ wr = w) (fun _ iv _ => L.length - (intOf iv).toNat)
  case atStart => exact ⟨1, x0, by omega, rfl, rfl, HI, rfl⟩
  case round =>
    obtain ⟨k, m, hk, rfl, rfl, HM, rfl⟩ := hrel
    by_cases hlt : k < L.length
    · obtain ⟨b', off', c', e, -, -, q0⟩ := HH.out.at k hlt
      simp only [Value.slice.injEq, Option.some.injEq, Addr.mk.injEq] at e
      obtain ⟨⟨rfl, rfl, -⟩, -, rfl⟩ := e
      have HT := hid (List.take_succ_eq_append_getElem hlt)
      obtain ⟨x, hx⟩ : ∃ x, Hid (L[k] = x) := ⟨_, hid rfl⟩
      rw [hx.out] at q0 HT
      have HN : Hid (IsMax (max m x) (L.take (k + 1))) := hid (by rw [HT.out]; exact HM.out.snoc)
      go_wp2_with fail
      go_roundw
      case rel => exact ⟨k + 1, max m x, by omega, by go_num, by first | rfl | (go_num), HN, trivial⟩
      case measure => simp [intOf]; omega
    · obtain rfl : k = L.length := by omega
      rw [List.take_of_length_le (Nat.le_refl _)] at HM
      go_wp2_with fail
      go_ret
      exact ⟨⟨m, rfl, HM.out⟩, rfl⟩

theorem qtyOk_min {L : List Int} {a b : Int} (ha : IsMin a L) (hb : IsMax b L) : qtyOk L = (decide (0 ≤ a) && btw 1 b 1000) := by
  rw [Bool.eq_iff_iff]
  unfold qtyOk
  simp only [Bool.and_eq_true, List.all_eq_true, List.any_eq_true, decide_eq_true_eq, btw]
  constructor
  · rintro ⟨h1, x, hx, hp⟩
    have k1 := h1 a ha.1
    have k2 := h1 b hb.1
    have k3 := hb.2 x hx
    omega
  · rintro ⟨h1, h2, h3⟩
    refine ⟨fun q hq => ?_, b, hb.1, by omega⟩
    have k1 := ha.2 q hq
    have k2 := hb.2 q hq
    omega
set_option maxHeartbeats 3200000 in
theorem blockMay_any (w : World) (g : Gr) (la : Option Addr) (lc : Nat) (ok : gok g = true) (s : Bl) (hq : Ints w (.slice s.qa s.qty.length s.qc) s.qty) :
    Calls Tryz.prog 48 #[.agg #[.int .i64 g.zones, .int .i64 g.hours, .slice la g.lines.length lc, .int .i64 g.low, .int .i64 g.high], .agg #[.string s.who, .int .i64 s.seq, .int .i64 s.zone, .bool s.buy, .int .i64 s.price, .slice s.qa s.qty.length s.qc, .int .i64 s.parent, .int .i64 s.group]] w fun e w' => e = .returned (.bool (bkOk g s)) ∧ Below w.heap.size w w' := by
  obtain ⟨k1, k2, -, -, -⟩ := gok_iff.1 ok
  have b1 := ibel w (Obj.cells #[.int .i64 g.zones, .int .i64 g.hours, .slice la g.lines.length lc, .int .i64 g.low, .int .i64 g.high] 25)
  have b2 := ibel (w.alloc (Obj.cells #[.int .i64 g.zones, .int .i64 g.hours, .slice la g.lines.length lc, .int .i64 g.low, .int .i64 g.high] 25)) (Obj.cells #[.string s.who, .int .i64 s.seq, .int .i64 s.zone, .bool s.buy, .int .i64 s.price, .slice s.qa s.qty.length s.qc, .int .i64 s.parent, .int .i64 s.group] 80)
  have HB := hid (chain2 b1 b2)
  have x2 := inew (w.alloc (Obj.cells #[.int .i64 g.zones, .int .i64 g.hours, .slice la g.lines.length lc, .int .i64 g.low, .int .i64 g.high] 25)) (Obj.cells #[.string s.who, .int .i64 s.seq, .int .i64 s.zone, .bool s.buy, .int .i64 s.price, .slice s.qa s.qty.length s.qc, .int .i64 s.parent, .int .i64 s.group] 80)
  rw [World.size_alloc] at x2
  have HX := hid (ibx x2 5 (.slice s.qa s.qty.length s.qc) rfl)
  have HQ := hid (hq.below HB.out)
  have HA := hid (fun W => pamong_any W s.zone g.zones (by omega) (by omega))
  have HC := hid (fun W => pbetween_any W g.low s.price g.high)
  have hn2 : ((s.qty.length : Int) != g.hours) = !decide ((s.qty.length : Int) = g.hours) := by
    by_cases h : (s.qty.length : Int) = g.hours
    · rw [decide_eq_true h, h]; simp
    · rw [decide_eq_false h]; simpa using h
  have hpos : decide ((s.qty.length : Int) = g.hours) = true → 0 < s.qty.length := fun h => by
    have := of_decide_eq_true h
    omega
  unfold bkOk
  generalize btw 0 s.zone (g.zones - 1) = R1 at *
  generalize btw g.low s.price g.high = R4 at *
  generalize decide ((s.qty.length : Int) = g.hours) = R5 at *
  have HPOS := hid hpos
  clear k1 k2 ok b1 b2 x2 hq hpos
  go_enter Tryz.func48, Tryz.ntmps48
  go_wp2_with fail
  refine (HA.out _).mono ?_
  rintro e w1 ⟨rfl, rfl⟩
  cases R1 with
  | false =>
    go_wp2_with fail
    go_ret
    exact ⟨rfl, HB.out⟩
  | true =>
    go_wp2_with fail
    refine (HC.out _).mono ?_
    rintro e w1 ⟨rfl, rfl⟩
    cases R4 with
    | false =>
      go_wp2_with fail
      go_ret
      exact ⟨rfl, HB.out⟩
    | true =>
      cases R5 with
      | false =>
        have hn3 : ((s.qty.length : Int) != g.hours) = true := hn2
        clear hn2
        go_wp2_with fail
        go_ret
        exact ⟨rfl, HB.out⟩
      | true =>
        have hn3 : ((s.qty.length : Int) != g.hours) = false := hn2
        clear hn2
        have HMN := hid (min16_any _ _ _ HQ.out (HPOS.out rfl))
        have HMX := hid (max16_any _ _ _ HQ.out (HPOS.out rfl))
        go_wp2_with fail
        refine HMN.out.mono ?_
        rintro e w1 ⟨⟨a, rfl, ha⟩, rfl⟩
        by_cases h0 : 0 ≤ a
        · go_wp2_with fail
          refine HMX.out.mono ?_
          rintro e w1 ⟨⟨b, rfl, hb⟩, rfl⟩
          have HF := hid (show qtyOk s.qty = btw 1 b 1000 by rw [qtyOk_min ha hb, decide_eq_true h0, Bool.true_and])
          have HBT := hid (fun W => pbetween_any W 1 b 1000)
          clear ha hb
          go_wp2_with fail
          refine (HBT.out _).mono ?_
          rintro e w1 ⟨rfl, rfl⟩
          go_wp2_with fail
          go_ret
          exact ⟨by rw [HF.out]; simp, HB.out⟩
        · have HF := hid (show qtyOk s.qty = false by
            apply Bool.eq_false_iff.2
            intro hh
            unfold qtyOk at hh
            simp only [Bool.and_eq_true, List.all_eq_true, btw, decide_eq_true_eq] at hh
            have := hh.1 a ha.1
            omega)
          clear ha
          go_wp2_with fail
          go_ret
          exact ⟨by rw [HF.out]; rfl, HB.out⟩
end Go.Proofs.YtcdkoadobdgbhaaGreatDoor
/- result: names compared. -/
namespace Go.Proofs.YtcdkoadobdgbhaaGreatDoor
open Go.RowKit
set_option linter.unusedVariables false
set_option maxRecDepth 100000
set_option linter.unusedSimpArgs false

theorem isNaNs_any (a : ByteArray) (w : World) : Calls Tryz.prog 163 #[.string a] w fun e w' => e = .returned (.bool false) ∧ w' = w := by
  go_enter Tryz.func163, Tryz.ntmps163
  go_wp2
  go_ret
  exact ⟨rfl, rfl⟩
def cmpT (a b : ByteArray) : Int := if Op.bytesLess a.toList b.toList = true then -1 else if (a.toList == b.toList) = true then 0 else 1
def cmpZ2 (x y : Int) : Int := if x < y then -1 else if y < x then 1 else 0
set_option maxHeartbeats 1600000 in
theorem cmpS_any (a b : ByteArray) (w : World) : Calls Tryz.prog 140 #[.string a, .string b] w fun e w' => e = .returned (.int .i64 (cmpT a b)) ∧ w' = w := by
  unfold cmpT
  cases hL : Op.bytesLess a.toList b.toList with
  | true =>
    go_enter Tryz.func140, Tryz.ntmps140
    go_wp2_with (first | (go_at_call 163; refine (isNaNs_any _ _).mono ?_; rintro e w' ⟨rfl, rfl⟩) | fail)
    go_ret
    exact ⟨rfl, rfl⟩
  | false =>
    cases hE : (a.toList == b.toList) with
    | true =>
      go_enter Tryz.func140, Tryz.ntmps140
      go_wp2_with (first | (go_at_call 163; refine (isNaNs_any _ _).mono ?_; rintro e w' ⟨rfl, rfl⟩) | fail)
      go_ret
      exact ⟨rfl, rfl⟩
    | false =>
      go_enter Tryz.func140, Tryz.ntmps140
      go_wp2_with (first | (go_at_call 163; refine (isNaNs_any _ _).mono ?_; rintro e w' ⟨rfl, rfl⟩) | fail)
      go_ret
      exact ⟨rfl, rfl⟩
theorem cmpI_any (x y : Int) (w : World) : Calls Tryz.prog 141 #[.int .i64 x, .int .i64 y] w fun e w' => e = .returned (.int .i64 (cmpZ2 x y)) ∧ w' = w := by
  refine (Tryz.cmp_Compare_int x y w).mono ?_
  rintro e w' ⟨rfl, rfl⟩
  refine ⟨?_, rfl⟩
  have h : Lib.compareInt x y = cmpZ2 x y := by
    unfold Lib.compareInt cmpZ2
    first | rfl | (repeat' split) <;> first | rfl | omega
  rw [h]
def or2 (x y : Int) : Int := if x = 0 then y else x
theorem two_new (w : World) (x y : Int) : (w.alloc (Obj.cells #[.int .i64 x, .int .i64 y] 3)).cell? ⟨w.heap.size, 0, none⟩ = some (.int .i64 x) ∧ (w.alloc (Obj.cells #[.int .i64 x, .int .i64 y] 3)).cell? ⟨w.heap.size, 1, none⟩ = some (.int .i64 y) :=
  ⟨ibx (inew w _) 0 _ rfl, ibx (inew w _) 1 _ rfl⟩
set_option maxHeartbeats 1600000 in
theorem or2_any (w : World) (b : Nat) (x y : Int) (h : w.cell? ⟨b, 0, none⟩ = some (.int .i64 x) ∧ w.cell? ⟨b, 1, none⟩ = some (.int .i64 y)) :
    Calls Tryz.prog 139 #[.slice (some ⟨b, 0, none⟩) 2 2] w fun e w' => e = .returned (.int .i64 (or2 x y)) ∧ w' = w := by
  obtain ⟨q0, q1⟩ := h
  unfold or2
  have HR := hid (show True ∧ True from ⟨trivial, trivial⟩)
  go_enter Tryz.func139, Tryz.ntmps139
  go_wp2_with fail
  go_loopw [8] (fun iv wr => (iv = .int .i64 0 ∨ iv = .int .i64 1 ∧ x = 0 ∨ iv = .int .i64 2 ∧ x = 0 ∧ y = 0) ∧ wr = w) (fun iv _ => 2 - (intOf iv).toNat)
  case atStart => exact ⟨Or.inl rfl, rfl⟩
  case round =>
    obtain ⟨hi, rfl⟩ := hrel
    rcases hi with rfl | ⟨rfl, h0⟩ | ⟨rfl, h0, h1⟩
    · by_cases hx : x = 0
      · subst hx
        go_wp2_with fail
        go_roundw
        case rel => simp
        case measure => simp [intOf]
      · have hx2 : (x != 0) = true := by simpa using hx
        go_wp2_with fail
        go_ret
        exact ⟨rfl, rfl⟩
    · subst h0
      by_cases hy : y = 0
      · subst hy
        go_wp2_with fail
        go_roundw
        case rel => simp
        case measure => simp [intOf]
      · have hy2 : (y != 0) = true := by simpa using hy
        go_wp2_with fail
        go_ret
        exact ⟨rfl, rfl⟩
    · subst h0 h1
      go_wp2_with fail
      go_ret
      exact ⟨rfl, rfl⟩
set_option maxHeartbeats 3200000 in
theorem compare16_any (a b : ByteArray) (s t : Int) (w : World) :
    Calls Tryz.prog 108 #[.agg #[.string a, .int .i64 s], .agg #[.string b, .int .i64 t]] w fun e w' => e = .returned (.int .i64 (or2 (cmpT a b) (cmpZ2 s t))) ∧ Below w.heap.size w w' := by
  have b1 := ibel w (Obj.cells #[.string a, .int .i64 s] 107)
  have xa := inew w (Obj.cells #[.string a, .int .i64 s] 107)
  have b2 := ibel (w.alloc (Obj.cells #[.string a, .int .i64 s] 107)) (Obj.cells #[.string b, .int .i64 t] 107)
  have xb := inew (w.alloc (Obj.cells #[.string a, .int .i64 s] 107)) (Obj.cells #[.string b, .int .i64 t] 107)
  rw [World.size_alloc] at xb
  have xa := (b2.block _ (lt_of_block xa)).trans xa
  have HB0 := hid (chain2 b1 b2)
  have HC := hid (fun (Y : World) (k : Below ((w.alloc (Obj.cells #[.string a, .int .i64 s] 107)).alloc (Obj.cells #[.string b, .int .i64 t] 107)).heap.size ((w.alloc (Obj.cells #[.string a, .int .i64 s] 107)).alloc (Obj.cells #[.string b, .int .i64 t] 107)) Y) => (⟨ikc k (ibx xa 0 _ rfl), ikc k (ibx xa 1 _ rfl), ikc k (ibx xb 0 _ rfl), ikc k (ibx xb 1 _ rfl)⟩ : Y.cell? ⟨w.heap.size, 0, none⟩ = some (.string a) ∧ Y.cell? ⟨w.heap.size, 1, none⟩ = some (.int .i64 s) ∧ Y.cell? ⟨w.heap.size + 1, 0, none⟩ = some (.string b) ∧ Y.cell? ⟨w.heap.size + 1, 1, none⟩ = some (.int .i64 t)))
  clear b1 b2 xa xb
  go_enter Tryz.func108, Tryz.ntmps108
  go_wp2_with fail
  have F0 : Below ((w.alloc (Obj.cells #[.string a, .int .i64 s] 107)).alloc (Obj.cells #[.string b, .int .i64 t] 107)).heap.size ((w.alloc (Obj.cells #[.string a, .int .i64 s] 107)).alloc (Obj.cells #[.string b, .int .i64 t] 107)) ((w.alloc (Obj.cells #[.string a, .int .i64 s] 107)).alloc (Obj.cells #[.string b, .int .i64 t] 107)).drew := (Below.refl _ _).drew
  generalize (w.alloc (Obj.cells #[.string a, .int .i64 s] 107)).alloc (Obj.cells #[.string b, .int .i64 t] 107) = W2 at *
  refine wp_region_noPanic ?_
  refine wp_region_held_drew (S := fun Y => Y.cell? ⟨w.heap.size, 0, none⟩ = some (.string a) ∧ Y.cell? ⟨w.heap.size, 1, none⟩ = some (.int .i64 s) ∧ Y.cell? ⟨w.heap.size + 1, 0, none⟩ = some (.string b) ∧ Y.cell? ⟨w.heap.size + 1, 1, none⟩ = some (.int .i64 t)) (by kernel_rfl) (HC.out _ F0) (fun hHeld => ?_)
  refine wpAnyH_take (i := 0) (v := ?_) rfl (by kernel_rfl) (by kernel_rfl) (by kernel_rfl) (fun _ _ _ h => h) (Or.inl ⟨by rfl, ?_⟩) (by assumption) ?_
  rotate_left
  · intro w hSw
    (try dsimp only at hSw)
    go_simp
    (try with_reducible rfl)
  (try simp only [List.getElem_toArray, List.getElem_cons_zero, List.getElem_cons_succ, Act.put, List.setIfInBounds_toArray, List.set_cons_zero, List.set_cons_succ])
  refine wpAnyH_take (i := 1) (v := ?_) rfl (by kernel_rfl) (by kernel_rfl) (by kernel_rfl) (fun _ _ _ h => h) (Or.inl ⟨by rfl, ?_⟩) (by assumption) ?_
  rotate_left
  · intro w hSw
    (try dsimp only at hSw)
    go_simp
    (try with_reducible rfl)
  (try simp only [List.getElem_toArray, List.getElem_cons_zero, List.getElem_cons_succ, Act.put, List.setIfInBounds_toArray, List.set_cons_zero, List.set_cons_succ])
  refine wpAnyH_take (i := 2) (v := ?_) rfl (by kernel_rfl) (by kernel_rfl) (by kernel_rfl) (fun _ _ _ h => h) (Or.inl ⟨by rfl, ?_⟩) (by assumption) ?_
  rotate_left
  · intro w hSw
    (try dsimp only at hSw)
    go_simp
    (try with_reducible rfl)
  (try simp only [List.getElem_toArray, List.getElem_cons_zero, List.getElem_cons_succ, Act.put, List.setIfInBounds_toArray, List.set_cons_zero, List.set_cons_succ])
  refine wpAnyH_take (i := 3) (v := ?_) rfl (by kernel_rfl) (by kernel_rfl) (by kernel_rfl) (fun _ _ _ h => h) (Or.inl ⟨by rfl, ?_⟩) (by assumption) ?_
  rotate_left
  · intro w hSw
    (try dsimp only at hSw)
    go_simp
    (try with_reducible rfl)
  (try simp only [List.getElem_toArray, List.getElem_cons_zero, List.getElem_cons_succ, Act.put, List.setIfInBounds_toArray, List.set_cons_zero, List.set_cons_succ])
  refine wpAnyH_take (i := 5) (v := ?_) rfl (by kernel_rfl) (by kernel_rfl) (by kernel_rfl) (fun _ _ _ h => h) (Or.inl ⟨by rfl, ?_⟩) (by assumption) ?_
  rotate_left
  · intro w hSw
    (try dsimp only at hSw)
    go_simp
    (try with_reducible rfl)
  (try simp only [List.getElem_toArray, List.getElem_cons_zero, List.getElem_cons_succ, Act.put, List.setIfInBounds_toArray, List.set_cons_zero, List.set_cons_succ])
  refine wpAnyH_take (i := 6) (v := ?_) rfl (by kernel_rfl) (by kernel_rfl) (by kernel_rfl) (fun _ _ _ h => h) (Or.inl ⟨by rfl, ?_⟩) (by assumption) ?_
  rotate_left
  · intro w hSw
    (try dsimp only at hSw)
    go_simp
    (try with_reducible rfl)
  (try simp only [List.getElem_toArray, List.getElem_cons_zero, List.getElem_cons_succ, Act.put, List.setIfInBounds_toArray, List.set_cons_zero, List.set_cons_succ])
  refine wpAnyH_take (i := 7) (v := ?_) rfl (by kernel_rfl) (by kernel_rfl) (by kernel_rfl) (fun _ _ _ h => h) (Or.inl ⟨by rfl, ?_⟩) (by assumption) ?_
  rotate_left
  · intro w hSw
    (try dsimp only at hSw)
    go_simp
    (try with_reducible rfl)
  (try simp only [List.getElem_toArray, List.getElem_cons_zero, List.getElem_cons_succ, Act.put, List.setIfInBounds_toArray, List.set_cons_zero, List.set_cons_succ])
  refine wpAnyH_take (i := 8) (v := ?_) rfl (by kernel_rfl) (by kernel_rfl) (by kernel_rfl) (fun _ _ _ h => h) (Or.inl ⟨by rfl, ?_⟩) (by assumption) ?_
  rotate_left
  · intro w hSw
    (try dsimp only at hSw)
    go_simp
    (try with_reducible rfl)
  (try simp only [List.getElem_toArray, List.getElem_cons_zero, List.getElem_cons_succ, Act.put, List.setIfInBounds_toArray, List.set_cons_zero, List.set_cons_succ])
  refine wpAnyH_ready (rs := [4]) (by kernel_rfl) (by simp) ?_
  refine AllReadyH.cons (o := _) rfl (fun Kc hKc => ?_) AllReadyH.nil
  go_simp
  go_at_call 140
  refine (cmpS_any a b _).mono ?_
  rintro e w' ⟨rfl, rfl⟩
  dsimp only
  refine hKc.out _ _ (HC.out _ F0) (fun hHeld => ?_)
  clear hKc Kc
  (try simp only [List.getElem_toArray, List.getElem_cons_zero, List.getElem_cons_succ, Act.put, List.setIfInBounds_toArray, List.set_cons_zero, List.set_cons_succ])
  refine wpAnyH_ready (rs := [9]) (by kernel_rfl) (by simp) ?_
  refine AllReadyH.cons (o := _) rfl (fun Kc hKc => ?_) AllReadyH.nil
  go_simp
  go_at_call 141
  refine (cmpI_any s t _).mono ?_
  rintro e w' ⟨rfl, rfl⟩
  dsimp only
  refine hKc.out _ _ (HC.out _ F0) (fun hHeld => ?_)
  clear hKc Kc
  (try simp only [List.getElem_toArray, List.getElem_cons_zero, List.getElem_cons_succ, Act.put, List.setIfInBounds_toArray, List.set_cons_zero, List.set_cons_succ])
  refine wpAnyH_ready (rs := [10]) (by kernel_rfl) (by simp) ?_
  refine AllReadyH.cons (o := _) rfl (fun Kc hKc => ?_) AllReadyH.nil
  go_simp
  refine hKc.out _ _ (HC.out _ (below_alloc' F0 (Nat.le_refl _) _)) (fun hHeld => ?_)
  clear hKc Kc
  (try simp only [List.getElem_toArray, List.getElem_cons_zero, List.getElem_cons_succ, Act.put, List.setIfInBounds_toArray, List.set_cons_zero, List.set_cons_succ])
  refine wpAnyH_ready (rs := [11]) (by kernel_rfl) (by simp) ?_
  refine AllReadyH.cons (o := _) rfl (fun Kc hKc => ?_) AllReadyH.nil
  go_simp
  go_at_call 139
  refine (or2_any _ W2.heap.size (cmpT a b) (cmpZ2 s t) ⟨ikc (Below.refl _ _).drew (two_new W2 _ _).1, ikc (Below.refl _ _).drew (two_new W2 _ _).2⟩).mono ?_
  rintro e w' ⟨rfl, rfl⟩
  dsimp only
  refine hKc.out _ _ (HC.out _ (below_alloc' F0 (Nat.le_refl _) _)) (fun hHeld => ?_)
  clear hKc Kc
  (try simp only [List.getElem_toArray, List.getElem_cons_zero, List.getElem_cons_succ, Act.put, List.setIfInBounds_toArray, List.set_cons_zero, List.set_cons_succ])
  refine wpAnyH_take (i := 12) (v := ?_) rfl (by kernel_rfl) (by kernel_rfl) (by kernel_rfl) (fun _ _ _ h => h) (Or.inl ⟨by rfl, ?_⟩) (by assumption) ?_
  rotate_left
  · intro w hSw
    (try dsimp only at hSw)
    go_simp
    (try with_reducible rfl)
  (try simp only [List.getElem_toArray, List.getElem_cons_zero, List.getElem_cons_succ, Act.put, List.setIfInBounds_toArray, List.set_cons_zero, List.set_cons_succ])
  refine wpAnyH_done (by kernel_rfl) ?_ _
  refine NoPanic.normal ?_

  have HF := hid (below_alloc' F0 (Nat.le_refl _) (Obj.cells #[.int .i64 (cmpT a b), .int .i64 (cmpZ2 s t)] 3))
  go_wp2_with fail
  go_ret
  exact ⟨rfl, HB0.out.trans (HF.out.mono HB0.out.size)⟩
end Go.Proofs.YtcdkoadobdgbhaaGreatDoor
/- result: sums of fractions by halves; what an order gains. -/
namespace Go.Proofs.YtcdkoadobdgbhaaGreatDoor
open Go.RowKit
set_option linter.unusedVariables false
set_option maxRecDepth 100000
set_option linter.unusedSimpArgs false

/-- A sum. -/
def smR : List Rat → Rat
  | [] => 0
  | x :: r => x + smR r
theorem smR_lt {m : Nat} : ∀ {X : List Rat}, (∀ x ∈ X, Lt10 m x) → Lt10 (1 + X.length * (m + 1)) (smR X)
  | [], _ => by simpa [smR] using Lt10.zero
  | x :: r, h => by
    have h1 := h x List.mem_cons_self
    have h2 := smR_lt (X := r) (fun y hy => h y (List.mem_cons_of_mem _ hy))
    refine (h1.add h2).mono ?_
    rw [List.length_cons, Nat.succ_mul]
    omega
theorem smR_fit {X : List Rat} (h : ∀ x ∈ X, Lt10 700 x) (hl : X.length ≤ 256) : Lt10 179457 (smR X) := (smR_lt h).mono (by omega)
theorem QIs.sum {w : World} {v : Value} {X : List Rat} {K : Nat} (n : QIs w v (smR X) K) (h : ∀ x ∈ X, Lt10 700 x) (hl : X.length ≤ 256) : QIs w v (smR X) 20000 := (n.fit (smR_fit h hl)).mono (by decide)
/-- A slice of fractions, wherever it lies. -/
def Rrow (w : World) (v : Value) (X : List Rat) (K : Nat) : Prop :=
  ∃ a c, v = .slice a X.length c ∧ X.length ≤ c ∧ c ≤ maxLen ∧ (X = [] ∨ ∃ b off, a = some ⟨b, off, none⟩ ∧ ∀ i (h : i < X.length), ∃ x0 x1 x2 x3, w.cell? ⟨b, off + i * 4, none⟩ = some x0 ∧ w.cell? ⟨b, off + i * 4 + 1, none⟩ = some x1 ∧ w.cell? ⟨b, off + i * 4 + 2, none⟩ = some x2 ∧ w.cell? ⟨b, off + i * 4 + 3, none⟩ = some x3 ∧ QIs w (.agg #[x0, x1, x2, x3]) X[i] K)
theorem Rrow.below {w w' : World} {v : Value} {X : List Rat} {K : Nat} (h : Rrow w v X K) (k : Below w.heap.size w w') : Rrow w' v X K := by
  obtain ⟨a, c, h1, h2, h3, h4⟩ := h
  refine ⟨a, c, h1, h2, h3, ?_⟩
  rcases h4 with h4 | ⟨b, off, h4, h5⟩
  · exact Or.inl h4
  · refine Or.inr ⟨b, off, h4, fun i hi => ?_⟩
    obtain ⟨x0, x1, x2, x3, g0, g1, g2, g3, hq⟩ := h5 i hi
    exact ⟨x0, x1, x2, x3, ikc k g0, ikc k g1, ikc k g2, ikc k g3, hq.below k⟩
theorem Rrow.mono {w : World} {v : Value} {X : List Rat} {K K' : Nat} (h : Rrow w v X K) (hk : K ≤ K') : Rrow w v X K' := by
  obtain ⟨a, c, h1, h2, h3, h4⟩ := h
  refine ⟨a, c, h1, h2, h3, ?_⟩
  rcases h4 with h4 | ⟨b, off, h4, h5⟩
  · exact Or.inl h4
  · refine Or.inr ⟨b, off, h4, fun i hi => ?_⟩
    obtain ⟨x0, x1, x2, x3, g0, g1, g2, g3, hq⟩ := h5 i hi
    exact ⟨x0, x1, x2, x3, g0, g1, g2, g3, hq.mono hk⟩
theorem Rrow.take {w : World} {b off c : Nat} {X : List Rat} {K : Nat} (h : Rrow w (.slice (some ⟨b, off, none⟩) X.length c) X K) (n : Nat) (hn : n ≤ X.length) : Rrow w (.slice (some ⟨b, off, none⟩) n c) (X.take n) K := by
  obtain ⟨a, c', h1, h2, h3, h4⟩ := h
  simp only [Value.slice.injEq] at h1
  obtain ⟨rfl, -, rfl⟩ := h1
  have hl : (X.take n).length = n := by rw [List.length_take]; omega
  refine ⟨_, c, by rw [hl], by rw [hl]; omega, h3, ?_⟩
  rcases h4 with h4 | ⟨b', off', h4, h5⟩
  · left; rw [h4]; simp
  · simp only [Option.some.injEq, Addr.mk.injEq, and_true] at h4
    obtain ⟨rfl, rfl⟩ := h4
    refine Or.inr ⟨b, off, rfl, fun i hi => ?_⟩
    rw [hl] at hi
    rw [List.getElem_take]
    exact h5 i (by omega)
theorem Rrow.drop {w : World} {b off c : Nat} {X : List Rat} {K : Nat} (h : Rrow w (.slice (some ⟨b, off, none⟩) X.length c) X K) (n : Nat) (hn : n ≤ X.length) : Rrow w (.slice (some ⟨b, off + n * 4, none⟩) (X.length - n) (c - n)) (X.drop n) K := by
  obtain ⟨a, c', h1, h2, h3, h4⟩ := h
  simp only [Value.slice.injEq] at h1
  obtain ⟨rfl, -, rfl⟩ := h1
  have hl : (X.drop n).length = X.length - n := by rw [List.length_drop]
  refine ⟨_, c - n, by rw [hl], by rw [hl]; omega, by omega, ?_⟩
  rcases h4 with h4 | ⟨b', off', h4, h5⟩
  · left; rw [h4]; simp
  · simp only [Option.some.injEq, Addr.mk.injEq, and_true] at h4
    obtain ⟨rfl, rfl⟩ := h4
    refine Or.inr ⟨b, off + n * 4, rfl, fun i hi => ?_⟩
    rw [hl] at hi
    rw [List.getElem_drop]
    have := h5 (n + i) (by omega)
    rwa [show off + (n + i) * 4 = off + n * 4 + i * 4 by rw [Nat.add_mul]; omega] at this
theorem Rrow.at {w : World} {v : Value} {X : List Rat} {K : Nat} (h : Rrow w v X K) (i : Nat) (hi : i < X.length) : ∃ b off c x0 x1 x2 x3, v = .slice (some ⟨b, off, none⟩) X.length c ∧ X.length ≤ c ∧ c ≤ maxLen ∧ w.cell? ⟨b, off + i * 4, none⟩ = some x0 ∧ w.cell? ⟨b, off + i * 4 + 1, none⟩ = some x1 ∧ w.cell? ⟨b, off + i * 4 + 2, none⟩ = some x2 ∧ w.cell? ⟨b, off + i * 4 + 3, none⟩ = some x3 ∧ QIs w (.agg #[x0, x1, x2, x3]) X[i] K := by
  obtain ⟨a, c, h1, h2, h3, h4⟩ := h
  rcases h4 with rfl | ⟨b, off, rfl, h5⟩
  · simp at hi
  · obtain ⟨x0, x1, x2, x3, g⟩ := h5 i hi
    exact ⟨b, off, c, x0, x1, x2, x3, h1, h2, h3, g⟩
end Go.Proofs.YtcdkoadobdgbhaaGreatDoor
/- result: prices in memory; what Surplus tells. -/
namespace Go.Proofs.YtcdkoadobdgbhaaGreatDoor
open Go.RowKit
set_option linter.unusedVariables false
set_option maxRecDepth 100000
set_option linter.unusedSimpArgs false

/-- A slice of slices of texts. -/
def Sss (w : World) (v : Value) (P : List (List ByteArray)) : Prop :=
  ∃ a c, v = .slice a P.length c ∧ P.length ≤ c ∧ c ≤ maxLen ∧ (P = [] ∨ ∃ b off, a = some ⟨b, off, none⟩ ∧ ∀ i (h : i < P.length), ∃ u, w.cell? ⟨b, off + i, none⟩ = some u ∧ Strs w u P[i])
theorem Sss.below {w w' : World} {v : Value} {P : List (List ByteArray)} (h : Sss w v P) (k : Below w.heap.size w w') : Sss w' v P := by
  obtain ⟨a, c, h1, h2, h3, h4⟩ := h
  refine ⟨a, c, h1, h2, h3, ?_⟩
  rcases h4 with h4 | ⟨b, off, h4, h5⟩
  · exact Or.inl h4
  · refine Or.inr ⟨b, off, h4, fun i hi => ?_⟩
    obtain ⟨u, g, hu⟩ := h5 i hi
    exact ⟨u, ikc k g, hu.below k⟩
theorem Sss.slice {w : World} {v : Value} {P : List (List ByteArray)} (h : Sss w v P) : ∃ a c, v = .slice a P.length c ∧ P.length ≤ c ∧ c ≤ maxLen := by
  obtain ⟨a, c, h1, h2, h3, _⟩ := h
  exact ⟨a, c, h1, h2, h3⟩
theorem Sss.at {w : World} {v : Value} {P : List (List ByteArray)} (h : Sss w v P) (i : Nat) (hi : i < P.length) : ∃ b off c ua uc, v = .slice (some ⟨b, off, none⟩) P.length c ∧ w.cell? ⟨b, off + i, none⟩ = some (.slice ua P[i].length uc) ∧ Strs w (.slice ua P[i].length uc) P[i] ∧ P[i].length ≤ uc ∧ uc ≤ maxLen := by
  obtain ⟨a, c, h1, h2, h3, h4⟩ := h
  rcases h4 with rfl | ⟨b, off, rfl, h5⟩
  · simp at hi
  · obtain ⟨u, g, hu⟩ := h5 i hi
    obtain ⟨ua, uc, rfl, q1, q2⟩ := hu.slice
    exact ⟨b, off, c, ua, uc, h1, g, hu, q1, q2⟩
/-- The texts of a zone's prices. -/
def col (P : List (List ByteArray)) (z : Int) : List ByteArray := P.map (fun r => r.getD z.toNat ByteArray.empty)
def Shp (z : Int) (n : Nat) (P : List (List ByteArray)) : Prop := P.length = n ∧ ∀ i (h : i < P.length), 0 ≤ z ∧ z < (P[i].length : Int)
/-- What each hour brings. -/
def gns (buy : Bool) (own : Int) (X : List Rat) (Q : List Int) : List Rat := List.zipWith (fun p (q : Int) => gainR buy own p * (q : Rat)) X Q
/-- What Surplus tells. -/
def SurS (buy : Bool) (own z : Int) (Q : List Int) (P : List (List ByteArray)) (s : ByteArray) (e : Int) : Prop :=
  (¬ Shp z Q.length P ∧ s = ⟨#[]⟩ ∧ e = 120) ∨ (Shp z Q.length P ∧ (¬ ∃ X, Nums (col P z) X) ∧ s = ⟨#[]⟩ ∧ e = 10) ∨ (Shp z Q.length P ∧ ∃ X, Nums (col P z) X ∧ TxR s (smR (gns buy own X Q)) ∧ e = 0)
theorem SurS.uniq {buy : Bool} {own z : Int} {Q : List Int} {P : List (List ByteArray)} {s t : ByteArray} {e f : Int} (h : SurS buy own z Q P s e) (k : SurS buy own z Q P t f) : s = t ∧ e = f := by
  rcases h with ⟨h1, h2, h3⟩ | ⟨h1, h2, h3, h4⟩ | ⟨h1, X, h2, h3, h4⟩ <;> rcases k with ⟨k1, k2, k3⟩ | ⟨k1, k2, k3, k4⟩ | ⟨k1, Y, k2, k3, k4⟩
  · exact ⟨h2.trans k2.symm, h3.trans k3.symm⟩
  · exact absurd k1 h1
  · exact absurd k1 h1
  · exact absurd h1 k1
  · exact ⟨h3.trans k3.symm, h4.trans k4.symm⟩
  · exact absurd ⟨_, k2⟩ h2
  · exact absurd h1 k1
  · exact absurd ⟨_, h2⟩ k2
  · obtain rfl := h2.uniq k2
    exact ⟨h3.inj k3, h4.trans k4.symm⟩
end Go.Proofs.YtcdkoadobdgbhaaGreatDoor
