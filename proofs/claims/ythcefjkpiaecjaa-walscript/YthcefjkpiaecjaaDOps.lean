/- The disk: begin, Write, Sync, Read, Ops, Dead, Cut, Fail, Crash, Power, New. -/
import Derived.Test.YthcefjkpiaecjaaDBegin
import Derived.Maps.AppendAt
namespace Go.Proofs.Ythcefjkpiaecjaa
open Go.RowKit
set_option linter.unusedVariables false
set_option maxRecDepth 100000
set_option linter.unusedSimpArgs false

set_option maxHeartbeats 1000000 in
theorem begin_any (w : World) (S : Nat → Prop) (B b : Nat) (D : Dsk) (sl : Value) (ho : D.ops < 4611686018427387904) (hS : S b) (hB : B ≤ b) (h : DiskAt w b D sl) :
    Calls Try.prog 35 #[.pointer (some ⟨b, 0, none⟩)] w fun e w' => e = .returned (.int .i64 D.begin.2) ∧ (∃ sl', DiskAt w' b D.begin.1 sl' ∧ (sl' = sl ∨ sl' = .slice none 0 0)) ∧ Kf S B w w' := by
  have hg := h.good
  have hlt : B ≤ w.heap.size := by have := lt_of_block h.blk; omega
  have c1 := cell_at h.blk 513 _ (dl_tail h.good.wl h.good.ll sl 1)
  have c2 := cell_at h.blk 514 _ (dl_tail h.good.wl h.good.ll sl 2)
  have c3 := cell_at h.blk 515 _ (dl_tail h.good.wl h.good.ll sl 3)
  have c4 := cell_at h.blk 516 _ (dl_tail h.good.wl h.good.ll sl 4)
  have c5 := cell_at h.blk 517 _ (dl_tail h.good.wl h.good.ll sl 5)
  have c6 := cell_at h.blk 518 _ (dl_tail h.good.wl h.good.ll sl 6)
  have c7 := cell_at h.blk 519 _ (dl_tail h.good.wl h.good.ll sl 7)
  have c8 := cell_at h.blk 520 _ (dl_tail h.good.wl h.good.ll sl 8)
  have f1 := free_at h.blk
  cases hd : D.dead
  · rw [hd] at c2
    cases hf : D.fl
    · rw [hf] at c3
      go_enter Try.func35, Try.ntmps35
      go_wp2_with fail
      refine (due_any w D.cg D.cl).mono ?_
      rintro e w1 ⟨rfl, hb1⟩
      have h1 := h.below hb1
      have k1 : Kf S B w w1 := Kf.of_below hb1 hlt
      cases hcut : (D.cg && D.cl == 0)
      · have g8 := (hb1.cell (p := ⟨b, 518, none⟩) (lt_of_block h.blk)).trans c6
        have g9 := (hb1.cell (p := ⟨b, 519, none⟩) (lt_of_block h.blk)).trans c7
        have hlt1 : B ≤ w1.heap.size := by have := hb1.size; omega
        clear c1 c2 c3 c4 c5 c6 c7 c8 f1
        go_wp2_with fail
        refine (due_any w1 D.fg D.fk).mono ?_
        rintro e w2 ⟨rfl, hb2⟩
        have h2 := h1.below hb2
        have k2 := k1.below hlt1 hb2
        have hlt2 : B ≤ w2.heap.size := by have := hb2.size; omega
        clear h h1 g8 g9 hb1 k1
        have c1 := cell_at h2.blk 513 _ (dl_tail h2.good.wl h2.good.ll sl 1)
        have c3 := cell_at h2.blk 515 _ (dl_tail h2.good.wl h2.good.ll sl 3)
        have c4 := cell_at h2.blk 516 _ (dl_tail h2.good.wl h2.good.ll sl 4)
        have c5 := cell_at h2.blk 517 _ (dl_tail h2.good.wl h2.good.ll sl 5)
        have f1 := free_at h2.blk
        cases hfail : (D.fg && D.fk == 0)
        · have E : D.begin = ({ D with ops := D.ops + 1, cl := D.cl - 1, fk := D.fk - 1 }, 0) := by simp [Dsk.begin, hd, hf, hcut, hfail]
          have G := h2.good.begin
          rw [E] at G
          have HE := hid E
          clear E
          have hc0 : D.cg = true → D.cl ≠ 0 := by intro e1 e2; simp [e1, e2] at hcut
          have hf0 : D.fg = true → D.fk ≠ 0 := by intro e1 e2; simp [e1, e2] at hfail
          have d3 := h2.da.set 1 (.int .i64 ((D.ops + 1 : Nat) : Int))
          have k3 := k2.set (k := 513) hS hB (.int .i64 ((D.ops + 1 : Nat) : Int))
          rw [Int.natCast_add, Int.cast_ofNat_Int] at d3 k3
          clear hcut hfail
          go_wp2_with fail
          generalize w2.setCell ⟨b, 513, none⟩ (.int .i64 ((D.ops : Int) + 1)) = w3 at *
          clear c1 c3 c4 c5 f1 h2 k2
          refine (less_any w3 D.cg D.cl hg.c0 hc0 hg.cl).mono ?_
          rintro e w4 ⟨rfl, hb4⟩
          have hlt3 : B ≤ w3.heap.size := by have := k3.size; omega
          have d4 := d3.below hb4
          have k4 := k3.below hlt3 hb4
          have hlt4 : B ≤ w4.heap.size := by have := hb4.size; omega
          clear d3 k3 hb4
          have c4 := d4.cell 4 _ rfl
          have c5 := d4.cell 5 _ rfl
          have c6 := d4.cell 6 _ rfl
          have c7 := d4.cell 7 _ rfl
          have f1 := d4.free
          have d5 := (d4.set 4 (.bool D.cg)).set 5 (.int .i64 ((D.cl - 1 : Nat) : Int))
          have k5 := (k4.set (k := 516) hS hB (.bool D.cg)).set (k := 517) hS hB (.int .i64 ((D.cl - 1 : Nat) : Int))
          generalize D.cl - 1 = C at *
          go_wp2_with fail
          generalize (w4.setCell ⟨b, 516, none⟩ (.bool D.cg)).setCell ⟨b, 517, none⟩ (.int .i64 (C : Int)) = w5 at *
          clear c4 c5 c6 c7 f1 d4 k4
          refine (less_any w5 D.fg D.fk hg.f0 hf0 hg.fk).mono ?_
          rintro e w6 ⟨rfl, hb6⟩
          have hlt5 : B ≤ w5.heap.size := by have := k5.size; omega
          have d6 := d5.below hb6
          have k6 := k5.below hlt5 hb6
          clear d5 k5 hb6
          have c6 := d6.cell 6 _ rfl
          have c7 := d6.cell 7 _ rfl
          have f1 := d6.free
          have d7 := (d6.set 6 (.bool D.fg)).set 7 (.int .i64 ((D.fk - 1 : Nat) : Int))
          have k7 := (k6.set (k := 518) hS hB (.bool D.fg)).set (k := 519) hS hB (.int .i64 ((D.fk - 1 : Nat) : Int))
          generalize D.fk - 1 = C' at *
          go_wp2
          go_ret
          rw [HE.out]
          exact ⟨rfl, ⟨sl, d7.disk (D := { D with ops := D.ops + 1, cl := C, fk := C' }) G, Or.inl rfl⟩, k7⟩
        · have E : D.begin = ({ D with fl := true }, 42) := by simp [Dsk.begin, hd, hf, hcut, hfail]
          have G := h2.good.begin
          rw [E] at G
          have HE := hid E
          clear E
          go_wp2
          go_ret
          rw [HE.out]
          exact ⟨rfl, ⟨sl, (h2.da.set 3 (.bool true)).disk (D := { D with fl := true }) G, Or.inl rfl⟩, k2.set hS hB _⟩
      · have g8 := (hb1.cell (p := ⟨b, 520, none⟩) (lt_of_block h.blk)).trans c8
        clear c1 c2 c3 c4 c5 c6 c7 c8 f1
        go_wp2_with fail
        refine (lose_any w1 S B b D sl D.keep h.good.kp hS hB h1).mono ?_
        rintro e w2 ⟨rfl, h2, k2⟩
        go_wp2
        go_ret
        rw [show D.begin = (D.lose D.keep, 43) by simp [Dsk.begin, hd, hf, hcut]]
        exact ⟨rfl, ⟨_, h2, Or.inr rfl⟩, k1.trans k2⟩
    · rw [hf] at c3
      go_enter Try.func35, Try.ntmps35
      go_wp2
      go_ret
      rw [show D.begin = (D, 42) by simp [Dsk.begin, hd, hf]]
      exact ⟨rfl, ⟨sl, h, Or.inl rfl⟩, Kf.refl _ _ _⟩
  · rw [hd] at c2
    go_enter Try.func35, Try.ntmps35
    go_wp2
    go_ret
    rw [show D.begin = (D, 43) by simp [Dsk.begin, hd]]
    exact ⟨rfl, ⟨sl, h, Or.inl rfl⟩, Kf.refl _ _ _⟩
end Go.Proofs.Ythcefjkpiaecjaa
