/- order: a block's quantities. -/
import Derived.Test.YthhikmlbpagknaaDoorKField
import Derived.Test.YthhikmlbpagknaaDoorLNumsF
namespace Go.Proofs.YthhikmlbpagknaaDoor
open Go.RowKit
set_option linter.unusedVariables false
set_option maxRecDepth 100000
set_option linter.unusedSimpArgs false

theorem min_spec (L : List Int) : ∀ a, (∀ q ∈ L, L.foldl min a ≤ q) ∧ L.foldl min a ≤ a ∧ (L.foldl min a = a ∨ L.foldl min a ∈ L) := by
  induction L with
  | nil => intro a; simp
  | cons x L ih =>
    intro a
    have h := ih (min a x)
    simp only [List.foldl_cons, List.mem_cons]
    obtain ⟨h1, h2, h3⟩ := h
    refine ⟨fun q hq => ?_, by omega, ?_⟩
    · rcases hq with rfl | hq
      · omega
      · exact h1 q hq
    · rcases h3 with h3 | h3
      · rcases Int.le_total a x with k | k
        · left; rw [h3]; omega
        · right; left; rw [h3]; omega
      · right; right; exact h3
theorem max_spec (L : List Int) : ∀ a, (∀ q ∈ L, q ≤ L.foldl max a) ∧ a ≤ L.foldl max a ∧ (L.foldl max a = a ∨ L.foldl max a ∈ L) := by
  induction L with
  | nil => intro a; simp
  | cons x L ih =>
    intro a
    have h := ih (max a x)
    simp only [List.foldl_cons, List.mem_cons]
    obtain ⟨h1, h2, h3⟩ := h
    refine ⟨fun q hq => ?_, by omega, ?_⟩
    · rcases hq with rfl | hq
      · omega
      · exact h1 q hq
    · rcases h3 with h3 | h3
      · rcases Int.le_total a x with k | k
        · right; left; rw [h3]; omega
        · left; rw [h3]; omega
      · right; right; exact h3
theorem minmax {L : List Int} (h : L ≠ []) : (∀ q ∈ L, Lib.minOf L ≤ q) ∧ Lib.minOf L ∈ L ∧ (∀ q ∈ L, q ≤ Lib.maxOf L) ∧ Lib.maxOf L ∈ L := by
  match L, h with
  | x :: L, _ =>
    have h1 := min_spec (x :: L) x
    have h2 := max_spec (x :: L) x
    refine ⟨h1.1, ?_, h2.1, ?_⟩
    · rcases h1.2.2 with k | k
      · show List.foldl min x (x :: L) ∈ _; rw [k]; simp
      · exact k
    · rcases h2.2.2 with k | k
      · show List.foldl max x (x :: L) ∈ _; rw [k]; simp
      · exact k
theorem qty_bad {L : List Int} (h : L ≠ []) : qtyBad L = true ↔ Lib.minOf L < 0 ∨ Lib.maxOf L < 1 ∨ 1000 < Lib.maxOf L := by
  obtain ⟨h1, h2, h3, h4⟩ := minmax h
  unfold qtyBad
  simp only [Bool.or_eq_true, List.any_eq_true, decide_eq_true_eq, Bool.not_eq_true', List.any_eq_false]
  constructor
  · rintro (⟨q, hq, k | k⟩ | k)
    · left; have := h1 q hq; omega
    · right; right; have := h3 q hq; omega
    · right; left; have := k _ h4; omega
  · rintro (k | k | k)
    · exact Or.inl ⟨_, h2, Or.inl k⟩
    · exact Or.inr (fun q hq => by have := h3 q hq; omega)
    · exact Or.inl ⟨_, h4, Or.inr k⟩
theorem numsL_ne {x : ByteArray} (h : numsE x = 0) : numsL x ≠ [] := by
  rw [numsL_ok h]
  intro k
  have := congrArg List.length k
  rw [List.length_map, parts_len] at this
  simp at this
theorem numsE_ways (x : ByteArray) : numsE x = 0 ∨ numsE x = 81 ∨ numsE x = 82 := by
  unfold numsE
  split
  · exact Or.inr (Or.inl rfl)
  · split
    · exact Or.inr (Or.inr rfl)
    · exact Or.inl rfl
set_option maxHeartbeats 3200000 in
theorem fquant_word (A : Nat → Prop) (w : World) (fb : Nat) (g : Gd) (lv : Value) (x : ByteArray) (L : List ByteArray) (e : Int) (h : FAt A w fb g lv (x :: L) e) (hm : Mx w) (h0 : fb ≠ 0) (n : Int) (hE : numsE x = n) (hn : n = 81 ∨ n = 82) :
    Calls Tryd.prog 106 #[.pointer (some ⟨fb, 0, none⟩)] w fun r w' => (∃ v, r = .returned v ∧ Ints w' v (numsL x) ∧ Fresh w.heap.size v) ∧ FAt A w' fb g lv L (orE e 92) ∧ Kx (fun b => b = fb) w w' := by
  have hx : x.size ≤ 200 := by obtain ⟨v, _, _, _, _, h4⟩ := h; exact h4 x (by simp)
  have hfb := h.grid.2.2.2.2.2
  have hN := next_any A w fb g lv x L e h
  have hU := fun v hm => numbersF_any x v (by omega) hm
  have hR := fun v f (k : FAt A v fb g lv L e) => refuse_any A v fb g lv L e f k
  have hO : orE e 0 = e := by unfold orE; split <;> omega
  clear h
  rw [hE] at hU
  go_enter Tryd.func106, Tryd.ntmps106
  go_wp2_with fail
  refine hN.mono ?_
  rintro r1 w1 ⟨rfl, f1, k1⟩
  have hm1 : Mx w1 := by
    obtain ⟨m, hm⟩ := hm
    exact ⟨m, k1.cell hm (fun k => h0 k.symm)⟩
  have hs1 := k1.size
  go_wp2_with fail
  refine (hU w1 hm1).mono ?_
  rintro r2 w2 ⟨⟨v, rfl, i2, n2⟩, b2⟩
  have f2 := f1.kx b2
  have k2 : Kx (fun b => b = fb) w w2 := k1.trans (Kx.of_below b2)
  obtain ⟨a, c, hv, hlc, hcm⟩ := i2.slice
  subst hv
  unfold maxLen at hcm
  obtain ⟨_, gh, _, _, _, hfb2⟩ := f2.grid
  clear hm hm1 hN hU f1 k1 b2
  generalize hl : numsL x = NL at *
  have hn' : (n != 0) = true := by rcases hn with rfl | rfl <;> rfl
  have hn0 : ¬ n = 0 := by omega
  clear hn
  go_wp2_with fail
  refine (hR w2 92 f2).mono ?_
  rintro r3 w3 ⟨rfl, f3, k3⟩
  have i3 : Ints w3 (.slice a (NL).length c) (NL) := Row1.kx i2 k3 (fun b off n c' e' k => by have := n2 b off n c' e'; omega)
  go_wp2
  go_ret
  refine ⟨⟨_, rfl, ?_, n2.mono (by omega)⟩, f3, k2.trans k3⟩
  rw [hl]; exact i3
set_option maxHeartbeats 3200000 in
theorem fquant_many (A : Nat → Prop) (w : World) (fb : Nat) (g : Gd) (lv : Value) (x : ByteArray) (L : List ByteArray) (e : Int) (h : FAt A w fb g lv (x :: L) e) (hm : Mx w) (h0 : fb ≠ 0) (hE : numsE x = 0) (hL : ¬ ((numsL x).length : Int) = g.hours) :
    Calls Tryd.prog 106 #[.pointer (some ⟨fb, 0, none⟩)] w fun r w' => (∃ v, r = .returned v ∧ Ints w' v (numsL x) ∧ Fresh w.heap.size v) ∧ FAt A w' fb g lv L (orE e 91) ∧ Kx (fun b => b = fb) w w' := by
  have hx : x.size ≤ 200 := by obtain ⟨v, _, _, _, _, h4⟩ := h; exact h4 x (by simp)
  have hfb := h.grid.2.2.2.2.2
  have hN := next_any A w fb g lv x L e h
  have hU := fun v hm => numbersF_any x v (by omega) hm
  have hR := fun v f (k : FAt A v fb g lv L e) => refuse_any A v fb g lv L e f k
  have hO : orE e 0 = e := by unfold orE; split <;> omega
  clear h
  rw [hE] at hU
  go_enter Tryd.func106, Tryd.ntmps106
  go_wp2_with fail
  refine hN.mono ?_
  rintro r1 w1 ⟨rfl, f1, k1⟩
  have hm1 : Mx w1 := by
    obtain ⟨m, hm⟩ := hm
    exact ⟨m, k1.cell hm (fun k => h0 k.symm)⟩
  have hs1 := k1.size
  go_wp2_with fail
  refine (hU w1 hm1).mono ?_
  rintro r2 w2 ⟨⟨v, rfl, i2, n2⟩, b2⟩
  have f2 := f1.kx b2
  have k2 : Kx (fun b => b = fb) w w2 := k1.trans (Kx.of_below b2)
  obtain ⟨a, c, hv, hlc, hcm⟩ := i2.slice
  subst hv
  unfold maxLen at hcm
  obtain ⟨_, gh, _, _, _, hfb2⟩ := f2.grid
  clear hm hm1 hN hU f1 k1 b2
  generalize hl : numsL x = NL at *
  go_wp2_with fail
  refine (hR w2 91 f2).mono ?_
  rintro r3 w3 ⟨rfl, f3, k3⟩
  have i3 : Ints w3 (.slice a (NL).length c) (NL) := Row1.kx i2 k3 (fun b off n c' e' k => by have := n2 b off n c' e'; omega)
  go_wp2
  go_ret
  refine ⟨⟨_, rfl, ?_, n2.mono (by omega)⟩, f3, k2.trans k3⟩
  rw [hl]; exact i3
set_option maxHeartbeats 3200000 in
theorem fquant_min (A : Nat → Prop) (w : World) (fb : Nat) (g : Gd) (lv : Value) (x : ByteArray) (L : List ByteArray) (e : Int) (h : FAt A w fb g lv (x :: L) e) (hm : Mx w) (h0 : fb ≠ 0) (hE : numsE x = 0) (hL : ((numsL x).length : Int) = g.hours) (h3 : Lib.minOf (numsL x) < 0) :
    Calls Tryd.prog 106 #[.pointer (some ⟨fb, 0, none⟩)] w fun r w' => (∃ v, r = .returned v ∧ Ints w' v (numsL x) ∧ Fresh w.heap.size v) ∧ FAt A w' fb g lv L (orE e 95) ∧ Kx (fun b => b = fb) w w' := by
  have hx : x.size ≤ 200 := by obtain ⟨v, _, _, _, _, h4⟩ := h; exact h4 x (by simp)
  have hfb := h.grid.2.2.2.2.2
  have hN := next_any A w fb g lv x L e h
  have hU := fun v hm => numbersF_any x v (by omega) hm
  have hR := fun v f (k : FAt A v fb g lv L e) => refuse_any A v fb g lv L e f k
  have hO : orE e 0 = e := by unfold orE; split <;> omega
  clear h
  rw [hE] at hU
  go_enter Tryd.func106, Tryd.ntmps106
  go_wp2_with fail
  refine hN.mono ?_
  rintro r1 w1 ⟨rfl, f1, k1⟩
  have hm1 : Mx w1 := by
    obtain ⟨m, hm⟩ := hm
    exact ⟨m, k1.cell hm (fun k => h0 k.symm)⟩
  have hs1 := k1.size
  go_wp2_with fail
  refine (hU w1 hm1).mono ?_
  rintro r2 w2 ⟨⟨v, rfl, i2, n2⟩, b2⟩
  have f2 := f1.kx b2
  have k2 : Kx (fun b => b = fb) w w2 := k1.trans (Kx.of_below b2)
  obtain ⟨a, c, hv, hlc, hcm⟩ := i2.slice
  subst hv
  unfold maxLen at hcm
  obtain ⟨_, gh, _, _, _, hfb2⟩ := f2.grid
  clear hm hm1 hN hU f1 k1 b2
  have hne := numsL_ne hE
  have hlen : 0 < (numsL x).length := List.length_pos_iff.2 hne
  obtain ⟨b', off', c', hv, -, -, -⟩ := i2.at 0 hlen
  simp only [Value.slice.injEq] at hv
  obtain ⟨rfl, _, rfl⟩ := hv
  have hc : ∀ j, j < (numsL x).length → w2.cell? ⟨b', off' + j, none⟩ = some (.int .i64 ((numsL x).getD j 0)) := by
    intro j hj
    obtain ⟨b1, o1, c1, e1, _, _, f1⟩ := i2.at j hj
    simp only [Value.slice.injEq, Option.some.injEq, Addr.mk.injEq, and_true] at e1
    obtain ⟨⟨rfl, rfl⟩, _, rfl⟩ := e1
    rw [f1]; simp [List.getD_eq_getElem?_getD, hj]
  have hMin := Tryd.slices_Min_int b' off' (numsL x).length c (numsL x) w2 hlen (Nat.le_refl _) (by omega) hc
  have hMax := Tryd.slices_Max_int b' off' (numsL x).length c (numsL x) w2 hlen (Nat.le_refl _) (by omega) hc
  rw [List.take_length] at hMin hMax
  clear hc hlen hne
  have HL := hid hL
  clear hL
  rw [← HL.out] at gh
  generalize Lib.minOf (numsL x) = mi at *
  generalize Lib.maxOf (numsL x) = ma at *
  generalize hl : numsL x = NL at *
  go_wp2_with fail
  refine hMin.mono ?_
  rintro r3 w3 ⟨rfl, rfl⟩
  go_wp2_with fail
  refine (hR _ 95 f2).mono ?_
  rintro r3 w4 ⟨rfl, f3, k3⟩
  have i3 : Ints w4 (.slice (some ⟨b', off', none⟩) NL.length c) NL := Row1.kx i2 k3 (fun b off n c' e' k => by have := n2 b off n c' e'; omega)
  go_wp2
  go_ret
  refine ⟨⟨_, rfl, ?_, n2.mono (by omega)⟩, f3, k2.trans k3⟩
  rw [hl]; exact i3
set_option maxHeartbeats 3200000 in
theorem fquant_low (A : Nat → Prop) (w : World) (fb : Nat) (g : Gd) (lv : Value) (x : ByteArray) (L : List ByteArray) (e : Int) (h : FAt A w fb g lv (x :: L) e) (hm : Mx w) (h0 : fb ≠ 0) (hE : numsE x = 0) (hL : ((numsL x).length : Int) = g.hours) (h3 : ¬ Lib.minOf (numsL x) < 0) (h4 : Lib.maxOf (numsL x) < 1) :
    Calls Tryd.prog 106 #[.pointer (some ⟨fb, 0, none⟩)] w fun r w' => (∃ v, r = .returned v ∧ Ints w' v (numsL x) ∧ Fresh w.heap.size v) ∧ FAt A w' fb g lv L (orE e 95) ∧ Kx (fun b => b = fb) w w' := by
  have hx : x.size ≤ 200 := by obtain ⟨v, _, _, _, _, h4⟩ := h; exact h4 x (by simp)
  have hfb := h.grid.2.2.2.2.2
  have hN := next_any A w fb g lv x L e h
  have hU := fun v hm => numbersF_any x v (by omega) hm
  have hR := fun v f (k : FAt A v fb g lv L e) => refuse_any A v fb g lv L e f k
  have hO : orE e 0 = e := by unfold orE; split <;> omega
  clear h
  rw [hE] at hU
  go_enter Tryd.func106, Tryd.ntmps106
  go_wp2_with fail
  refine hN.mono ?_
  rintro r1 w1 ⟨rfl, f1, k1⟩
  have hm1 : Mx w1 := by
    obtain ⟨m, hm⟩ := hm
    exact ⟨m, k1.cell hm (fun k => h0 k.symm)⟩
  have hs1 := k1.size
  go_wp2_with fail
  refine (hU w1 hm1).mono ?_
  rintro r2 w2 ⟨⟨v, rfl, i2, n2⟩, b2⟩
  have f2 := f1.kx b2
  have k2 : Kx (fun b => b = fb) w w2 := k1.trans (Kx.of_below b2)
  obtain ⟨a, c, hv, hlc, hcm⟩ := i2.slice
  subst hv
  unfold maxLen at hcm
  obtain ⟨_, gh, _, _, _, hfb2⟩ := f2.grid
  clear hm hm1 hN hU f1 k1 b2
  have hne := numsL_ne hE
  have hlen : 0 < (numsL x).length := List.length_pos_iff.2 hne
  obtain ⟨b', off', c', hv, -, -, -⟩ := i2.at 0 hlen
  simp only [Value.slice.injEq] at hv
  obtain ⟨rfl, _, rfl⟩ := hv
  have hc : ∀ j, j < (numsL x).length → w2.cell? ⟨b', off' + j, none⟩ = some (.int .i64 ((numsL x).getD j 0)) := by
    intro j hj
    obtain ⟨b1, o1, c1, e1, _, _, f1⟩ := i2.at j hj
    simp only [Value.slice.injEq, Option.some.injEq, Addr.mk.injEq, and_true] at e1
    obtain ⟨⟨rfl, rfl⟩, _, rfl⟩ := e1
    rw [f1]; simp [List.getD_eq_getElem?_getD, hj]
  have hMin := Tryd.slices_Min_int b' off' (numsL x).length c (numsL x) w2 hlen (Nat.le_refl _) (by omega) hc
  have hMax := Tryd.slices_Max_int b' off' (numsL x).length c (numsL x) w2 hlen (Nat.le_refl _) (by omega) hc
  rw [List.take_length] at hMin hMax
  clear hc hlen hne
  have HL := hid hL
  clear hL
  rw [← HL.out] at gh
  generalize Lib.minOf (numsL x) = mi at *
  generalize Lib.maxOf (numsL x) = ma at *
  generalize hl : numsL x = NL at *
  go_wp2_with fail
  refine hMin.mono ?_
  rintro r3 w3 ⟨rfl, rfl⟩
  go_wp2_with fail
  refine hMax.mono ?_
  rintro r3 w3 ⟨rfl, rfl⟩
  go_wp2_with fail
  refine (hR _ 95 f2).mono ?_
  rintro r3 w4 ⟨rfl, f3, k3⟩
  have i3 : Ints w4 (.slice (some ⟨b', off', none⟩) NL.length c) NL := Row1.kx i2 k3 (fun b off n c' e' k => by have := n2 b off n c' e'; omega)
  go_wp2
  go_ret
  refine ⟨⟨_, rfl, ?_, n2.mono (by omega)⟩, f3, k2.trans k3⟩
  rw [hl]; exact i3
set_option maxHeartbeats 3200000 in
theorem fquant_high (A : Nat → Prop) (w : World) (fb : Nat) (g : Gd) (lv : Value) (x : ByteArray) (L : List ByteArray) (e : Int) (h : FAt A w fb g lv (x :: L) e) (hm : Mx w) (h0 : fb ≠ 0) (hE : numsE x = 0) (hL : ((numsL x).length : Int) = g.hours) (h3 : ¬ Lib.minOf (numsL x) < 0) (h4 : ¬ Lib.maxOf (numsL x) < 1) (h5 : 1000 < Lib.maxOf (numsL x)) :
    Calls Tryd.prog 106 #[.pointer (some ⟨fb, 0, none⟩)] w fun r w' => (∃ v, r = .returned v ∧ Ints w' v (numsL x) ∧ Fresh w.heap.size v) ∧ FAt A w' fb g lv L (orE e 95) ∧ Kx (fun b => b = fb) w w' := by
  have hx : x.size ≤ 200 := by obtain ⟨v, _, _, _, _, h4⟩ := h; exact h4 x (by simp)
  have hfb := h.grid.2.2.2.2.2
  have hN := next_any A w fb g lv x L e h
  have hU := fun v hm => numbersF_any x v (by omega) hm
  have hR := fun v f (k : FAt A v fb g lv L e) => refuse_any A v fb g lv L e f k
  have hO : orE e 0 = e := by unfold orE; split <;> omega
  clear h
  rw [hE] at hU
  go_enter Tryd.func106, Tryd.ntmps106
  go_wp2_with fail
  refine hN.mono ?_
  rintro r1 w1 ⟨rfl, f1, k1⟩
  have hm1 : Mx w1 := by
    obtain ⟨m, hm⟩ := hm
    exact ⟨m, k1.cell hm (fun k => h0 k.symm)⟩
  have hs1 := k1.size
  go_wp2_with fail
  refine (hU w1 hm1).mono ?_
  rintro r2 w2 ⟨⟨v, rfl, i2, n2⟩, b2⟩
  have f2 := f1.kx b2
  have k2 : Kx (fun b => b = fb) w w2 := k1.trans (Kx.of_below b2)
  obtain ⟨a, c, hv, hlc, hcm⟩ := i2.slice
  subst hv
  unfold maxLen at hcm
  obtain ⟨_, gh, _, _, _, hfb2⟩ := f2.grid
  clear hm hm1 hN hU f1 k1 b2
  have hne := numsL_ne hE
  have hlen : 0 < (numsL x).length := List.length_pos_iff.2 hne
  obtain ⟨b', off', c', hv, -, -, -⟩ := i2.at 0 hlen
  simp only [Value.slice.injEq] at hv
  obtain ⟨rfl, _, rfl⟩ := hv
  have hc : ∀ j, j < (numsL x).length → w2.cell? ⟨b', off' + j, none⟩ = some (.int .i64 ((numsL x).getD j 0)) := by
    intro j hj
    obtain ⟨b1, o1, c1, e1, _, _, f1⟩ := i2.at j hj
    simp only [Value.slice.injEq, Option.some.injEq, Addr.mk.injEq, and_true] at e1
    obtain ⟨⟨rfl, rfl⟩, _, rfl⟩ := e1
    rw [f1]; simp [List.getD_eq_getElem?_getD, hj]
  have hMin := Tryd.slices_Min_int b' off' (numsL x).length c (numsL x) w2 hlen (Nat.le_refl _) (by omega) hc
  have hMax := Tryd.slices_Max_int b' off' (numsL x).length c (numsL x) w2 hlen (Nat.le_refl _) (by omega) hc
  rw [List.take_length] at hMin hMax
  clear hc hlen hne
  have HL := hid hL
  clear hL
  rw [← HL.out] at gh
  generalize Lib.minOf (numsL x) = mi at *
  generalize Lib.maxOf (numsL x) = ma at *
  generalize hl : numsL x = NL at *
  go_wp2_with fail
  refine hMin.mono ?_
  rintro r3 w3 ⟨rfl, rfl⟩
  go_wp2_with fail
  refine hMax.mono ?_
  rintro r3 w3 ⟨rfl, rfl⟩
  go_wp2_with fail
  refine hMax.mono ?_
  rintro r3 w3 ⟨rfl, rfl⟩
  go_wp2_with fail
  refine (hR _ 95 f2).mono ?_
  rintro r3 w4 ⟨rfl, f3, k3⟩
  have i3 : Ints w4 (.slice (some ⟨b', off', none⟩) NL.length c) NL := Row1.kx i2 k3 (fun b off n c' e' k => by have := n2 b off n c' e'; omega)
  go_wp2
  go_ret
  refine ⟨⟨_, rfl, ?_, n2.mono (by omega)⟩, f3, k2.trans k3⟩
  rw [hl]; exact i3
set_option maxHeartbeats 3200000 in
theorem fquant_ok (A : Nat → Prop) (w : World) (fb : Nat) (g : Gd) (lv : Value) (x : ByteArray) (L : List ByteArray) (e : Int) (h : FAt A w fb g lv (x :: L) e) (hm : Mx w) (h0 : fb ≠ 0) (hE : numsE x = 0) (hL : ((numsL x).length : Int) = g.hours) (h3 : ¬ Lib.minOf (numsL x) < 0) (h4 : ¬ Lib.maxOf (numsL x) < 1) (h5 : ¬ 1000 < Lib.maxOf (numsL x)) :
    Calls Tryd.prog 106 #[.pointer (some ⟨fb, 0, none⟩)] w fun r w' => (∃ v, r = .returned v ∧ Ints w' v (numsL x) ∧ Fresh w.heap.size v) ∧ FAt A w' fb g lv L e ∧ Kx (fun b => b = fb) w w' := by
  have hx : x.size ≤ 200 := by obtain ⟨v, _, _, _, _, h4⟩ := h; exact h4 x (by simp)
  have hfb := h.grid.2.2.2.2.2
  have hN := next_any A w fb g lv x L e h
  have hU := fun v hm => numbersF_any x v (by omega) hm
  have hR := fun v f (k : FAt A v fb g lv L e) => refuse_any A v fb g lv L e f k
  have hO : orE e 0 = e := by unfold orE; split <;> omega
  clear h
  rw [hE] at hU
  go_enter Tryd.func106, Tryd.ntmps106
  go_wp2_with fail
  refine hN.mono ?_
  rintro r1 w1 ⟨rfl, f1, k1⟩
  have hm1 : Mx w1 := by
    obtain ⟨m, hm⟩ := hm
    exact ⟨m, k1.cell hm (fun k => h0 k.symm)⟩
  have hs1 := k1.size
  go_wp2_with fail
  refine (hU w1 hm1).mono ?_
  rintro r2 w2 ⟨⟨v, rfl, i2, n2⟩, b2⟩
  have f2 := f1.kx b2
  have k2 : Kx (fun b => b = fb) w w2 := k1.trans (Kx.of_below b2)
  obtain ⟨a, c, hv, hlc, hcm⟩ := i2.slice
  subst hv
  unfold maxLen at hcm
  obtain ⟨_, gh, _, _, _, hfb2⟩ := f2.grid
  clear hm hm1 hN hU f1 k1 b2
  have hne := numsL_ne hE
  have hlen : 0 < (numsL x).length := List.length_pos_iff.2 hne
  obtain ⟨b', off', c', hv, -, -, -⟩ := i2.at 0 hlen
  simp only [Value.slice.injEq] at hv
  obtain ⟨rfl, _, rfl⟩ := hv
  have hc : ∀ j, j < (numsL x).length → w2.cell? ⟨b', off' + j, none⟩ = some (.int .i64 ((numsL x).getD j 0)) := by
    intro j hj
    obtain ⟨b1, o1, c1, e1, _, _, f1⟩ := i2.at j hj
    simp only [Value.slice.injEq, Option.some.injEq, Addr.mk.injEq, and_true] at e1
    obtain ⟨⟨rfl, rfl⟩, _, rfl⟩ := e1
    rw [f1]; simp [List.getD_eq_getElem?_getD, hj]
  have hMin := Tryd.slices_Min_int b' off' (numsL x).length c (numsL x) w2 hlen (Nat.le_refl _) (by omega) hc
  have hMax := Tryd.slices_Max_int b' off' (numsL x).length c (numsL x) w2 hlen (Nat.le_refl _) (by omega) hc
  rw [List.take_length] at hMin hMax
  clear hc hlen hne
  have HL := hid hL
  clear hL
  rw [← HL.out] at gh
  generalize Lib.minOf (numsL x) = mi at *
  generalize Lib.maxOf (numsL x) = ma at *
  generalize hl : numsL x = NL at *
  go_wp2_with fail
  refine hMin.mono ?_
  rintro r3 w3 ⟨rfl, rfl⟩
  go_wp2_with fail
  refine hMax.mono ?_
  rintro r3 w3 ⟨rfl, rfl⟩
  go_wp2_with fail
  refine hMax.mono ?_
  rintro r3 w3 ⟨rfl, rfl⟩
  go_wp2
  go_ret
  refine ⟨⟨_, rfl, ?_, n2.mono (by omega)⟩, f2, k2⟩
  rw [hl]; exact i2
theorem fquant_any (A : Nat → Prop) (w : World) (fb : Nat) (g : Gd) (lv : Value) (x : ByteArray) (L : List ByteArray) (e : Int) (h : FAt A w fb g lv (x :: L) e) (hm : Mx w) (h0 : fb ≠ 0) :
    Calls Tryd.prog 106 #[.pointer (some ⟨fb, 0, none⟩)] w fun r w' => (∃ v, r = .returned v ∧ Ints w' v (numsL x) ∧ Fresh w.heap.size v) ∧ FAt A w' fb g lv L (orE e (qF x g.hours)) ∧ Kx (fun b => b = fb) w w' := by
  have hF : qF x g.hours = if numsE x ≠ 0 then 92 else if ((numsL x).length : Int) ≠ g.hours then 91 else if qtyBad (numsL x) = true then 95 else 0 := rfl
  have hO : orE e 0 = e := by unfold orE; split <;> omega
  rcases numsE_ways x with hE | hE
  · rw [if_neg (by simp [hE])] at hF
    by_cases hL : ((numsL x).length : Int) = g.hours
    · rw [if_neg (by simp [hL])] at hF
      have hq := qty_bad (numsL_ne hE)
      by_cases h3 : Lib.minOf (numsL x) < 0
      · rw [if_pos (hq.2 (Or.inl h3))] at hF
        rw [hF]; exact fquant_min A w fb g lv x L e h hm h0 hE hL h3
      by_cases h4 : Lib.maxOf (numsL x) < 1
      · rw [if_pos (hq.2 (Or.inr (Or.inl h4)))] at hF
        rw [hF]; exact fquant_low A w fb g lv x L e h hm h0 hE hL h3 h4
      by_cases h5 : 1000 < Lib.maxOf (numsL x)
      · rw [if_pos (hq.2 (Or.inr (Or.inr h5)))] at hF
        rw [hF]; exact fquant_high A w fb g lv x L e h hm h0 hE hL h3 h4 h5
      · rw [if_neg (fun k => by rcases hq.1 k with k | k | k <;> contradiction)] at hF
        rw [hF, hO]; exact fquant_ok A w fb g lv x L e h hm h0 hE hL h3 h4 h5
    · rw [if_pos (by simpa using hL)] at hF
      rw [hF]; exact fquant_many A w fb g lv x L e h hm h0 hE hL
  · rw [if_pos (by rcases hE with k | k <;> rw [k] <;> omega)] at hF
    rw [hF]; exact fquant_word A w fb g lv x L e h hm h0 _ rfl hE
end Go.Proofs.YthhikmlbpagknaaDoor
