/- grid: sameGrid. -/
import Derived.Test.YteelnimchlgdmaaDoorT14E
import Derived.Test.YteelnimchlgdmaaDoorT14D
import Derived.Test.YteelnimchlgdmaaDoorIHeavy
namespace Go.Proofs.YteelnimchlgdmaaDoor
open Go.RowKit
set_option linter.unusedVariables false
set_option maxRecDepth 100000
set_option linter.unusedSimpArgs false

set_option maxHeartbeats 3200000 in
theorem same14g_any (w : World) (g : Gr) (la lb : Option Addr) (lc ld : Nat) (h : Lns w (.slice la g.lines.length lc) g.lines) (h2 : Lns w (.slice lb g.lines.length ld) g.lines) :
    Calls Tryd.prog 8 #[.agg #[.int .i64 g.zones, .int .i64 g.hours, .slice la g.lines.length lc, .int .i64 g.low, .int .i64 g.high], .agg #[.int .i64 g.zones, .int .i64 g.hours, .slice lb g.lines.length ld, .int .i64 g.low, .int .i64 g.high]] w fun e w' => e = .returned (.bool true) ∧ Below w.heap.size w w' := by
  obtain ⟨Z, H, lo, hi, S⟩ := g
  simp only at h h2 ⊢
  obtain ⟨x1, x2, e, hl, hm⟩ := h.slice
  simp only [Value.slice.injEq] at e
  obtain ⟨rfl, -, rfl⟩ := e
  obtain ⟨x3, x4, e, hl2, hm2⟩ := h2.slice
  simp only [Value.slice.injEq] at e
  obtain ⟨rfl, -, rfl⟩ := e
  unfold maxLen at hm hm2
  have b1 := ibel w (Obj.cells #[.int .i64 Z, .int .i64 H, .slice la S.length lc, .int .i64 lo, .int .i64 hi] 24)
  have xa := inew w (Obj.cells #[.int .i64 Z, .int .i64 H, .slice la S.length lc, .int .i64 lo, .int .i64 hi] 24)
  have b2 := ibel (w.alloc (Obj.cells #[.int .i64 Z, .int .i64 H, .slice la S.length lc, .int .i64 lo, .int .i64 hi] 24)) (Obj.cells #[.int .i64 Z, .int .i64 H, .slice lb S.length ld, .int .i64 lo, .int .i64 hi] 24)
  have xb := inew (w.alloc (Obj.cells #[.int .i64 Z, .int .i64 H, .slice la S.length lc, .int .i64 lo, .int .i64 hi] 24)) (Obj.cells #[.int .i64 Z, .int .i64 H, .slice lb S.length ld, .int .i64 lo, .int .i64 hi] 24)
  rw [World.size_alloc] at xb
  have xa := (b2.block _ (lt_of_block xa)).trans xa
  have b12 := chain2 b1 b2
  have HB0 := hid b12
  have HL1 := hid (h.below b12)
  have HL2 := hid (h2.below b12)
  have HC2 := hid (fun (Y : World) (b : Below ((w.alloc (Obj.cells #[.int .i64 Z, .int .i64 H, .slice la S.length lc, .int .i64 lo, .int .i64 hi] 24)).alloc (Obj.cells #[.int .i64 Z, .int .i64 H, .slice lb S.length ld, .int .i64 lo, .int .i64 hi] 24)).heap.size ((w.alloc (Obj.cells #[.int .i64 Z, .int .i64 H, .slice la S.length lc, .int .i64 lo, .int .i64 hi] 24)).alloc (Obj.cells #[.int .i64 Z, .int .i64 H, .slice lb S.length ld, .int .i64 lo, .int .i64 hi] 24)) Y) => (⟨ikc b (ibx xa 2 (.slice la S.length lc) rfl), ikc b (ibx xb 2 (.slice lb S.length ld) rfl)⟩ : Y.cell? ⟨w.heap.size, 2, none⟩ = some (.slice la S.length lc) ∧ Y.cell? ⟨w.heap.size + 1, 2, none⟩ = some (.slice lb S.length ld)))
  clear b1 b2 b12 xa xb h h2
  go_enter Tryd.func8, Tryd.ntmps8
  go_wp2_with fail
  generalize (w.alloc (Obj.cells #[.int .i64 Z, .int .i64 H, .slice la S.length lc, .int .i64 lo, .int .i64 hi] 24)).alloc (Obj.cells #[.int .i64 Z, .int .i64 H, .slice lb S.length ld, .int .i64 lo, .int .i64 hi] 24) = W2 at *
  go_loopw [5] (fun iv wr => ∃ k : Nat, k ≤ S.length ∧ iv = .int .i64 (k : Int) ∧ Hid (Below W2.heap.size W2 wr)) (fun iv _ => S.length - (intOf iv).toNat)
  case atStart => exact ⟨0, Nat.zero_le _, rfl, Below.refl _ _⟩
  case round =>
    obtain ⟨k, hk, rfl, HF⟩ := hrel
    obtain ⟨c1, c2⟩ := HC2.out wr HF.out
    by_cases hlt : k < S.length
    · obtain ⟨xb, xo, xc, e, -, -, q0, q1, q2⟩ := (HL1.out.below HF.out).at k hlt
      simp only [Value.slice.injEq] at e
      obtain ⟨rfl, -, rfl⟩ := e
      obtain ⟨yb, yo, yc, e, -, -, r0, r1, r2⟩ := (HL2.out.below HF.out).at k hlt
      simp only [Value.slice.injEq] at e
      obtain ⟨rfl, -, rfl⟩ := e
      obtain ⟨l, HL⟩ : ∃ l, Hid (S[k] = l) := ⟨_, hid rfl⟩
      rw [HL.out] at q0 q1 q2 r0 r1 r2
      have HC := hid (fun (Y : World) (b : Below wr.heap.size wr Y) => (⟨ikc b c1, ikc b c2, ikc b q0, ikc b q1, ikc b q2, ikc b r0, ikc b r1, ikc b r2⟩ : Y.cell? ⟨w.heap.size, 2, none⟩ = some (.slice (some ⟨xb, xo, none⟩) S.length lc) ∧ Y.cell? ⟨w.heap.size + 1, 2, none⟩ = some (.slice (some ⟨yb, yo, none⟩) S.length ld) ∧ Y.cell? ⟨xb, xo + k * 3, none⟩ = some (.int .i64 l.f) ∧ Y.cell? ⟨xb, xo + k * 3 + 1, none⟩ = some (.int .i64 l.t) ∧ Y.cell? ⟨xb, xo + k * 3 + 2, none⟩ = some (.int .i64 l.c) ∧ Y.cell? ⟨yb, yo + k * 3, none⟩ = some (.int .i64 l.f) ∧ Y.cell? ⟨yb, yo + k * 3 + 1, none⟩ = some (.int .i64 l.t) ∧ Y.cell? ⟨yb, yo + k * 3 + 2, none⟩ = some (.int .i64 l.c)))
      have HFD := hid HF.out.drew
      clear q0 q1 q2 r0 r1 r2 HF
      go_wp2_with fail
      refine wp_region_noPanic ?_
      refine wp_region_held_drew (S := fun Y => Y.cell? ⟨w.heap.size, 2, none⟩ = some (.slice (some ⟨xb, xo, none⟩) S.length lc) ∧ Y.cell? ⟨w.heap.size + 1, 2, none⟩ = some (.slice (some ⟨yb, yo, none⟩) S.length ld) ∧ Y.cell? ⟨xb, xo + k * 3, none⟩ = some (.int .i64 l.f) ∧ Y.cell? ⟨xb, xo + k * 3 + 1, none⟩ = some (.int .i64 l.t) ∧ Y.cell? ⟨xb, xo + k * 3 + 2, none⟩ = some (.int .i64 l.c) ∧ Y.cell? ⟨yb, yo + k * 3, none⟩ = some (.int .i64 l.f) ∧ Y.cell? ⟨yb, yo + k * 3 + 1, none⟩ = some (.int .i64 l.t) ∧ Y.cell? ⟨yb, yo + k * 3 + 2, none⟩ = some (.int .i64 l.c)) (by kernel_rfl) (HC.out _ (Below.refl _ _).drew) (fun hHeld => ?_)
      refine wpAnyH_take (i := 0) (v := ?_) rfl (by kernel_rfl) (by kernel_rfl) (by kernel_rfl) (fun _ _ _ h => h) (Or.inl ⟨by rfl, ?_⟩) (by assumption) ?_
      rotate_left
      · intro w hSw
        (try dsimp only at hSw)
        go_simp
        (try with_reducible rfl)
      (try simp only [List.getElem_toArray, List.getElem_cons_zero, List.getElem_cons_succ, Act.put, List.setIfInBounds_toArray, List.set_cons_zero, List.set_cons_succ])
      refine wpAnyH_take (i := 1) (v := ?_) rfl (by kernel_rfl) (by kernel_rfl) (by kernel_rfl) (fun _ _ _ h => h) (Or.inl ⟨by rfl, ?_⟩) (by assumption) ?_
      rotate_left
      · intro w hSw
        (try dsimp only at hSw)
        go_simp
        (try with_reducible rfl)
      (try simp only [List.getElem_toArray, List.getElem_cons_zero, List.getElem_cons_succ, Act.put, List.setIfInBounds_toArray, List.set_cons_zero, List.set_cons_succ])
      refine wpAnyH_take (i := 2) (v := ?_) rfl (by kernel_rfl) (by kernel_rfl) (by kernel_rfl) (fun _ _ _ h => h) (Or.inl ⟨by rfl, ?_⟩) (by assumption) ?_
      rotate_left
      · intro w hSw
        (try dsimp only at hSw)
        go_simp
        (try with_reducible rfl)
      (try simp only [List.getElem_toArray, List.getElem_cons_zero, List.getElem_cons_succ, Act.put, List.setIfInBounds_toArray, List.set_cons_zero, List.set_cons_succ])
      refine wpAnyH_take (i := 3) (v := ?_) rfl (by kernel_rfl) (by kernel_rfl) (by kernel_rfl) (fun _ _ _ h => h) (Or.inl ⟨by rfl, ?_⟩) (by assumption) ?_
      rotate_left
      · intro w hSw
        (try dsimp only at hSw)
        go_simp
        (try with_reducible rfl)
      (try simp only [List.getElem_toArray, List.getElem_cons_zero, List.getElem_cons_succ, Act.put, List.setIfInBounds_toArray, List.set_cons_zero, List.set_cons_succ])
      refine wpAnyH_take (i := 4) (v := ?_) rfl (by kernel_rfl) (by kernel_rfl) (by kernel_rfl) (fun _ _ _ h => h) (Or.inl ⟨by rfl, ?_⟩) (by assumption) ?_
      rotate_left
      · intro w hSw
        (try dsimp only at hSw)
        go_simp
        (try with_reducible rfl)
      (try simp only [List.getElem_toArray, List.getElem_cons_zero, List.getElem_cons_succ, Act.put, List.setIfInBounds_toArray, List.set_cons_zero, List.set_cons_succ])
      refine wpAnyH_take (i := 5) (v := ?_) rfl (by kernel_rfl) (by kernel_rfl) (by kernel_rfl) (fun _ _ _ h => h) (Or.inl ⟨by rfl, ?_⟩) (by assumption) ?_
      rotate_left
      · intro w hSw
        (try dsimp only at hSw)
        go_simp
        (try with_reducible rfl)
      (try simp only [List.getElem_toArray, List.getElem_cons_zero, List.getElem_cons_succ, Act.put, List.setIfInBounds_toArray, List.set_cons_zero, List.set_cons_succ])
      refine wpAnyH_take (i := 6) (v := ?_) rfl (by kernel_rfl) (by kernel_rfl) (by kernel_rfl) (fun _ _ _ h => h) (Or.inl ⟨by rfl, ?_⟩) (by assumption) ?_
      rotate_left
      · intro w hSw
        (try dsimp only at hSw)
        go_simp
        (try with_reducible rfl)
      (try simp only [List.getElem_toArray, List.getElem_cons_zero, List.getElem_cons_succ, Act.put, List.setIfInBounds_toArray, List.set_cons_zero, List.set_cons_succ])
      refine wpAnyH_take (i := 7) (v := ?_) rfl (by kernel_rfl) (by kernel_rfl) (by kernel_rfl) (fun _ _ _ h => h) (Or.inl ⟨by rfl, ?_⟩) (by assumption) ?_
      rotate_left
      · intro w hSw
        (try dsimp only at hSw)
        go_simp
        (try with_reducible rfl)
      (try simp only [List.getElem_toArray, List.getElem_cons_zero, List.getElem_cons_succ, Act.put, List.setIfInBounds_toArray, List.set_cons_zero, List.set_cons_succ])
      refine wpAnyH_take (i := 8) (v := ?_) rfl (by kernel_rfl) (by kernel_rfl) (by kernel_rfl) (fun _ _ _ h => h) (Or.inl ⟨by rfl, ?_⟩) (by assumption) ?_
      rotate_left
      · intro w hSw
        (try dsimp only at hSw)
        go_simp
        (try with_reducible rfl)
      (try simp only [List.getElem_toArray, List.getElem_cons_zero, List.getElem_cons_succ, Act.put, List.setIfInBounds_toArray, List.set_cons_zero, List.set_cons_succ])
      refine wpAnyH_take (i := 9) (v := ?_) rfl (by kernel_rfl) (by kernel_rfl) (by kernel_rfl) (fun _ _ _ h => h) (Or.inl ⟨by rfl, ?_⟩) (by assumption) ?_
      rotate_left
      · intro w hSw
        (try dsimp only at hSw)
        go_simp
        (try with_reducible rfl)
      (try simp only [List.getElem_toArray, List.getElem_cons_zero, List.getElem_cons_succ, Act.put, List.setIfInBounds_toArray, List.set_cons_zero, List.set_cons_succ])
      refine wpAnyH_take (i := 10) (v := ?_) rfl (by kernel_rfl) (by kernel_rfl) (by kernel_rfl) (fun _ _ _ h => h) (Or.inl ⟨by rfl, ?_⟩) (by assumption) ?_
      rotate_left
      · intro w hSw
        (try dsimp only at hSw)
        go_simp
        (try with_reducible rfl)
      (try simp only [List.getElem_toArray, List.getElem_cons_zero, List.getElem_cons_succ, Act.put, List.setIfInBounds_toArray, List.set_cons_zero, List.set_cons_succ])
      refine wpAnyH_done (by kernel_rfl) ?_ _
      refine NoPanic.normal ?_

      go_wp2_with fail
      go_roundw
      case rel => exact ⟨k + 1, by omega, by go_num, HFD⟩
      case measure => simp [intOf]; omega
    · obtain rfl : k = S.length := by omega
      go_wp2_with fail
      go_ret
      exact ⟨rfl, HB0.out.trans (HF.out.mono HB0.out.size)⟩
theorem zero_lns (w : World) : Lns w (.slice none 0 0) [] := ⟨none, 0, rfl, Nat.le_refl _, Nat.zero_le _, Or.inl rfl⟩
theorem zero_gr (w : World) : Lns w (.slice none (⟨0, 0, 0, 0, []⟩ : Gr).lines.length 0) (⟨0, 0, 0, 0, []⟩ : Gr).lines := zero_lns w
/-- Two answers to one text. -/
theorem gpsr_two {s : ByteArray} {e1 e2 : Ending} {w1 w2 w' : World} (h1 : GPsr s e1 w1) (h2 : GPsr s e2 w2) (b1 : Below w1.heap.size w1 w') (b2 : Below w2.heap.size w2 w') :
    ∃ (G : Gr) (la lb : Option Addr) (lc ld : Nat) (n : Int), e1 = .returned (.tuple #[.agg #[.int .i64 G.zones, .int .i64 G.hours, .slice la G.lines.length lc, .int .i64 G.low, .int .i64 G.high], .int .i64 n]) ∧ e2 = .returned (.tuple #[.agg #[.int .i64 G.zones, .int .i64 G.hours, .slice lb G.lines.length ld, .int .i64 G.low, .int .i64 G.high], .int .i64 n]) ∧
      Lns w' (.slice la G.lines.length lc) G.lines ∧ Lns w' (.slice lb G.lines.length ld) G.lines ∧ (n = 0 ∧ gok G = true ∧ prt G = s ∧ (∀ x ∈ nms G, I64b x) ∨ n = 51) := by
  rcases h1 with ⟨L, p, la, lc, rfl, l1⟩ | ⟨no, rfl⟩
  · rcases h2 with ⟨M, q, lb, ld, rfl, l2⟩ | ⟨no, rfl⟩
    · obtain rfl := p.uniq q
      refine ⟨grd L, la, lb, lc, ld, 0, rfl, rfl, l1.below b1, l2.below b2, Or.inl ⟨rfl, p.2.2.2.2.2, p.prt, fun x hx => ?_⟩⟩
      rw [nms_grd p.2.2.2.1 p.2.2.2.2.1] at hx
      have := p.2.2.1 x hx
      unfold I64b
      omega
    · exact absurd p (no L)
  · rcases h2 with ⟨M, q, lb, ld, rfl, l2⟩ | ⟨no', rfl⟩
    · exact absurd q (no M)
    · exact ⟨⟨0, 0, 0, 0, []⟩, none, none, 0, 0, 51, rfl, rfl, zero_lns _, zero_lns _, Or.inr rfl⟩
/-- What is printed is read. -/
theorem gpsr_back {g : Gr} {e : Ending} {w : World} (h : GPsr (prt g) e w) (ok : gok g = true) : ∃ la lc, e = .returned (.tuple #[.agg #[.int .i64 g.zones, .int .i64 g.hours, .slice la g.lines.length lc, .int .i64 g.low, .int .i64 g.high], .int .i64 0]) ∧ Lns w (.slice la g.lines.length lc) g.lines := by
  rcases h with ⟨L, p, la, lc, rfl, l⟩ | ⟨no, _⟩
  · obtain rfl := p.uniq (psr_prt ok)
    rw [grd_nms] at l ⊢
    exact ⟨la, lc, rfl, l⟩
  · exact absurd (psr_prt ok) (no _)
end Go.Proofs.YteelnimchlgdmaaDoor
