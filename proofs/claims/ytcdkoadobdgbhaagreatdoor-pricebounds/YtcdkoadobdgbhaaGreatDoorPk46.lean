/- S17E, S17F, P17M, P17O, S17G. -/
import Derived.Test.YtcdkoadobdgbhaaGreatDoorPk44
import Derived.Test.YtcdkoadobdgbhaaGreatDoorZS16N
import Derived.Test.YtcdkoadobdgbhaaGreatDoorZK15M
import Derived.Test.YtcdkoadobdgbhaaGreatDoorPk15
/- result: rises, of blocks. -/
namespace Go.Proofs.YtcdkoadobdgbhaaGreatDoor
open Go.RowKit
set_option linter.unusedVariables false
set_option maxRecDepth 100000
set_option linter.unusedSimpArgs false

/-- What the names of two neighbours compare to. -/
def nmC (x y : Bl) : Int := or2 (cmpT x.who y.who) (cmpZ2 x.seq y.seq)
/-- Each name is above the one ahead. -/
def Rises (S : List Bl) : Prop := ∀ i, ∀ h : i + 1 < S.length, nmC S[i] S[i + 1] < 0
set_option maxHeartbeats 6400000 in
theorem risesB_any (w : World) (v : Value) (S : List Bl) (h : Bks w v S) (hS : S.length ≤ 1000000) :
    Calls Tryz.prog 51 #[v, .func (.func 52) #[] #[]] w fun e w' => (∃ R : Bool, e = .returned (.bool R) ∧ (R = true ↔ Rises S)) ∧ Below w.heap.size w w' := by
  obtain ⟨a, c, rfl, hl, hm⟩ := h.slice
  unfold maxLen at hm
  have HH := hid h
  clear h
  go_enter Tryz.func51, Tryz.ntmps51
  go_wp2_with fail
  go_loopw [9] (fun iv wr => ∃ k : Nat, k ≤ S.length ∧ iv = .int .i64 (k : Int) ∧ Hid (∀ i, i < k → ∀ h : i + 1 < S.length, nmC S[i] S[i + 1] < 0) ∧ Hid (Below w.heap.size w wr)) (fun iv _ => S.length - (intOf iv).toNat)
  case atStart => exact ⟨0, Nat.zero_le _, rfl, fun i hi => by omega, Below.refl _ _⟩
  case round =>
    obtain ⟨k, hk, rfl, HR, HF⟩ := hrel
    by_cases hlt : k + 1 < S.length
    · have hlt' : (k : Int) < (S.length : Int) - 1 := by omega
      obtain ⟨k1, HK1⟩ : ∃ n, Hid (n = k + 1) := ⟨_, rfl⟩
      have hk1 : k1 < S.length := by rw [HK1.out]; exact hlt
      have hk0 : k < S.length := by omega
      have wr1 : IntKind.i64.wrap ((k : Int) + 1) = (k1 : Int) := by rw [HK1.out]; simp [IntKind.wrap, IntKind.bits, IntKind.signed]; omega
      obtain ⟨sb, so, sc, e, hx, -⟩ := (HH.out.below HF.out).at k hk0
      simp only [Value.slice.injEq] at e
      obtain ⟨rfl, -, rfl⟩ := e
      obtain ⟨sb', so', sc', e, hy, -⟩ := (HH.out.below HF.out).at (k + 1) hlt
      simp only [Value.slice.injEq, Option.some.injEq, Addr.mk.injEq] at e
      obtain ⟨⟨rfl, rfl, -⟩, -, -⟩ := e
      obtain ⟨x, HX⟩ : ∃ x, Hid (S[k] = x) := ⟨_, hid rfl⟩
      obtain ⟨y, HY⟩ : ∃ y, Hid (S[k + 1] = y) := ⟨_, hid rfl⟩
      rw [HX.out] at hx
      rw [HY.out, ← HK1.out] at hy
      have HXX := hid hx
      have HYY := hid hy
      clear hx hy
      have HC := hid (fun (Y : World) (b : Below wr.heap.size wr Y) => (by
        obtain ⟨a0, a1, a2, a3, a4, a5, a6, a7⟩ := HXX.out.below b
        obtain ⟨b0, b1, b2, b3, b4, b5, b6, b7⟩ := HYY.out.below b
        exact ⟨a0, a1, a2, a3, a4, a5, a6, a7, b0, b1, b2, b3, b4, b5, b6, b7⟩ : Y.cell? ⟨sb, so + k * 8, none⟩ = some (.string x.who) ∧ Y.cell? ⟨sb, so + k * 8 + 1, none⟩ = some (.int .i64 x.seq) ∧ Y.cell? ⟨sb, so + k * 8 + 2, none⟩ = some (.int .i64 x.zone) ∧ Y.cell? ⟨sb, so + k * 8 + 3, none⟩ = some (.bool x.buy) ∧ Y.cell? ⟨sb, so + k * 8 + 4, none⟩ = some (.int .i64 x.price) ∧ Y.cell? ⟨sb, so + k * 8 + 5, none⟩ = some (.slice x.qa x.qty.length x.qc) ∧ Y.cell? ⟨sb, so + k * 8 + 6, none⟩ = some (.int .i64 x.parent) ∧ Y.cell? ⟨sb, so + k * 8 + 7, none⟩ = some (.int .i64 x.group) ∧ Y.cell? ⟨sb, so + k1 * 8, none⟩ = some (.string y.who) ∧ Y.cell? ⟨sb, so + k1 * 8 + 1, none⟩ = some (.int .i64 y.seq) ∧ Y.cell? ⟨sb, so + k1 * 8 + 2, none⟩ = some (.int .i64 y.zone) ∧ Y.cell? ⟨sb, so + k1 * 8 + 3, none⟩ = some (.bool y.buy) ∧ Y.cell? ⟨sb, so + k1 * 8 + 4, none⟩ = some (.int .i64 y.price) ∧ Y.cell? ⟨sb, so + k1 * 8 + 5, none⟩ = some (.slice y.qa y.qty.length y.qc) ∧ Y.cell? ⟨sb, so + k1 * 8 + 6, none⟩ = some (.int .i64 y.parent) ∧ Y.cell? ⟨sb, so + k1 * 8 + 7, none⟩ = some (.int .i64 y.group)))
      have HN := hid (fun W => blockName_any W x)
      have HM := hid (fun W => blockName_any W y)
      have HQ := hid (fun W => compare16_any x.who y.who x.seq y.seq W)
      obtain ⟨c, HCC⟩ : ∃ c, Hid (nmC x y = c) := ⟨_, hid rfl⟩
      have HQ2 : Hid (∀ W, Calls Tryz.prog 108 #[.agg #[.string x.who, .int .i64 x.seq], .agg #[.string y.who, .int .i64 y.seq]] W fun e w' => e = .returned (.int .i64 c) ∧ Below W.heap.size W w') := hid (by rw [← HCC.out]; exact HQ.out)
      have F0 : Below wr.heap.size wr wr.drew := (Below.refl _ _).drew
      by_cases hc : 0 ≤ c
      · have HNO := hid (show ¬ Rises S from fun hr => by
          have := hr k hlt
          rw [HX.out, HY.out, HCC.out] at this
          omega)
        go_wp2_with fail
        refine wp_region_noPanic ?_
        refine wp_region_held_drew (S := fun Y => Y.cell? ⟨sb, so + k * 8, none⟩ = some (.string x.who) ∧ Y.cell? ⟨sb, so + k * 8 + 1, none⟩ = some (.int .i64 x.seq) ∧ Y.cell? ⟨sb, so + k * 8 + 2, none⟩ = some (.int .i64 x.zone) ∧ Y.cell? ⟨sb, so + k * 8 + 3, none⟩ = some (.bool x.buy) ∧ Y.cell? ⟨sb, so + k * 8 + 4, none⟩ = some (.int .i64 x.price) ∧ Y.cell? ⟨sb, so + k * 8 + 5, none⟩ = some (.slice x.qa x.qty.length x.qc) ∧ Y.cell? ⟨sb, so + k * 8 + 6, none⟩ = some (.int .i64 x.parent) ∧ Y.cell? ⟨sb, so + k * 8 + 7, none⟩ = some (.int .i64 x.group) ∧ Y.cell? ⟨sb, so + k1 * 8, none⟩ = some (.string y.who) ∧ Y.cell? ⟨sb, so + k1 * 8 + 1, none⟩ = some (.int .i64 y.seq) ∧ Y.cell? ⟨sb, so + k1 * 8 + 2, none⟩ = some (.int .i64 y.zone) ∧ Y.cell? ⟨sb, so + k1 * 8 + 3, none⟩ = some (.bool y.buy) ∧ Y.cell? ⟨sb, so + k1 * 8 + 4, none⟩ = some (.int .i64 y.price) ∧ Y.cell? ⟨sb, so + k1 * 8 + 5, none⟩ = some (.slice y.qa y.qty.length y.qc) ∧ Y.cell? ⟨sb, so + k1 * 8 + 6, none⟩ = some (.int .i64 y.parent) ∧ Y.cell? ⟨sb, so + k1 * 8 + 7, none⟩ = some (.int .i64 y.group)) (by kernel_rfl) (HC.out _ F0) (fun hHeld => ?_)
        refine wpAnyH_take (i := 0) (v := ?_) rfl (by kernel_rfl) (by kernel_rfl) (by kernel_rfl) (fun _ _ _ h => h) (Or.inl ⟨by rfl, ?_⟩) (by assumption) ?_
        rotate_left
        · intro w hSw
          (try dsimp only at hSw)
          go_simp
          (try with_reducible rfl)
        (try simp only [List.getElem_toArray, List.getElem_cons_zero, List.getElem_cons_succ, Act.put, List.setIfInBounds_toArray, List.set_cons_zero, List.set_cons_succ])
        refine wpAnyH_take (i := 1) (v := ?_) rfl (by kernel_rfl) (by kernel_rfl) (by kernel_rfl) (fun _ _ _ h => h) (Or.inl ⟨by rfl, ?_⟩) (by assumption) ?_
        rotate_left
        · intro w hSw
          (try dsimp only at hSw)
          go_simp
          (try with_reducible rfl)
        (try simp only [List.getElem_toArray, List.getElem_cons_zero, List.getElem_cons_succ, Act.put, List.setIfInBounds_toArray, List.set_cons_zero, List.set_cons_succ])
        refine wpAnyH_take (i := 2) (v := ?_) rfl (by kernel_rfl) (by kernel_rfl) (by kernel_rfl) (fun _ _ _ h => h) (Or.inl ⟨by rfl, ?_⟩) (by assumption) ?_
        rotate_left
        · intro w hSw
          (try dsimp only at hSw)
          go_simp
          (try with_reducible rfl)
        (try simp only [List.getElem_toArray, List.getElem_cons_zero, List.getElem_cons_succ, Act.put, List.setIfInBounds_toArray, List.set_cons_zero, List.set_cons_succ])
        refine wpAnyH_take (i := 3) (v := ?_) rfl (by kernel_rfl) (by kernel_rfl) (by kernel_rfl) (fun _ _ _ h => h) (Or.inl ⟨by rfl, ?_⟩) (by assumption) ?_
        rotate_left
        · intro w hSw
          (try dsimp only at hSw)
          go_simp
          (try with_reducible rfl)
        (try simp only [List.getElem_toArray, List.getElem_cons_zero, List.getElem_cons_succ, Act.put, List.setIfInBounds_toArray, List.set_cons_zero, List.set_cons_succ])
        refine wpAnyH_take (i := 4) (v := ?_) rfl (by kernel_rfl) (by kernel_rfl) (by kernel_rfl) (fun _ _ _ h => h) (Or.inl ⟨by rfl, ?_⟩) (by assumption) ?_
        rotate_left
        · intro w hSw
          (try dsimp only at hSw)
          go_simp
          (try with_reducible rfl)
        (try simp only [List.getElem_toArray, List.getElem_cons_zero, List.getElem_cons_succ, Act.put, List.setIfInBounds_toArray, List.set_cons_zero, List.set_cons_succ])
        refine wpAnyH_take (i := 6) (v := ?_) rfl (by kernel_rfl) (by kernel_rfl) (by kernel_rfl) (fun _ _ _ h => h) (Or.inl ⟨by rfl, ?_⟩) (by assumption) ?_
        rotate_left
        · intro w hSw
          (try dsimp only at hSw)
          go_simp
          (try with_reducible rfl)
        (try simp only [List.getElem_toArray, List.getElem_cons_zero, List.getElem_cons_succ, Act.put, List.setIfInBounds_toArray, List.set_cons_zero, List.set_cons_succ])
        refine wpAnyH_take (i := 7) (v := ?_) rfl (by kernel_rfl) (by kernel_rfl) (by kernel_rfl) (fun _ _ _ h => h) (Or.inl ⟨by rfl, ?_⟩) (by assumption) ?_
        rotate_left
        · intro w hSw
          (try dsimp only at hSw)
          go_simp
          (try with_reducible rfl)
        (try simp only [List.getElem_toArray, List.getElem_cons_zero, List.getElem_cons_succ, Act.put, List.setIfInBounds_toArray, List.set_cons_zero, List.set_cons_succ])
        refine wpAnyH_take (i := 8) (v := ?_) rfl (by kernel_rfl) (by kernel_rfl) (by kernel_rfl) (fun _ _ _ h => h) (Or.inl ⟨by rfl, ?_⟩) (by assumption) ?_
        rotate_left
        · intro w hSw
          (try dsimp only at hSw)
          go_simp
          (try with_reducible rfl)
        (try simp only [List.getElem_toArray, List.getElem_cons_zero, List.getElem_cons_succ, Act.put, List.setIfInBounds_toArray, List.set_cons_zero, List.set_cons_succ])
        refine wpAnyH_take (i := 9) (v := ?_) rfl (by kernel_rfl) (by kernel_rfl) (by kernel_rfl) (fun _ _ _ h => h) (Or.inl ⟨by rfl, ?_⟩) (by assumption) ?_
        rotate_left
        · intro w hSw
          (try dsimp only at hSw)
          go_simp
          (try with_reducible rfl)
        (try simp only [List.getElem_toArray, List.getElem_cons_zero, List.getElem_cons_succ, Act.put, List.setIfInBounds_toArray, List.set_cons_zero, List.set_cons_succ])
        refine wpAnyH_take (i := 10) (v := ?_) rfl (by kernel_rfl) (by kernel_rfl) (by kernel_rfl) (fun _ _ _ h => h) (Or.inl ⟨by rfl, ?_⟩) (by assumption) ?_
        rotate_left
        · intro w hSw
          (try dsimp only at hSw)
          go_simp
          (try with_reducible rfl)
        (try simp only [List.getElem_toArray, List.getElem_cons_zero, List.getElem_cons_succ, Act.put, List.setIfInBounds_toArray, List.set_cons_zero, List.set_cons_succ])
        refine wpAnyH_take (i := 11) (v := ?_) rfl (by kernel_rfl) (by kernel_rfl) (by kernel_rfl) (fun _ _ _ h => h) (Or.inl ⟨by rfl, ?_⟩) (by assumption) ?_
        rotate_left
        · intro w hSw
          (try dsimp only at hSw)
          go_simp
          (try with_reducible rfl)
        (try simp only [List.getElem_toArray, List.getElem_cons_zero, List.getElem_cons_succ, Act.put, List.setIfInBounds_toArray, List.set_cons_zero, List.set_cons_succ])
        refine wpAnyH_ready (rs := [5]) (by kernel_rfl) (by simp) ?_
        refine AllReadyH.cons (o := _) rfl (fun Kc hKc => ?_) AllReadyH.nil
        go_simp
        go_at_call 52
        refine (HN.out _).mono ?_
        rintro e w' ⟨rfl, hb⟩
        have F1 := chain2 F0 hb
        dsimp only
        refine hKc.out _ _ (HC.out _ F1) (fun hHeld => ?_)
        clear hKc Kc
        (try simp only [List.getElem_toArray, List.getElem_cons_zero, List.getElem_cons_succ, Act.put, List.setIfInBounds_toArray, List.set_cons_zero, List.set_cons_succ])
        refine wpAnyH_ready (rs := [12]) (by kernel_rfl) (by simp) ?_
        refine AllReadyH.cons (o := _) rfl (fun Kc hKc => ?_) AllReadyH.nil
        go_simp
        go_at_call 52
        refine (HM.out _).mono ?_
        rintro e w' ⟨rfl, hb⟩
        have F2 := chain2 F1 hb
        dsimp only
        refine hKc.out _ _ (HC.out _ F2) (fun hHeld => ?_)
        clear hKc Kc
        (try simp only [List.getElem_toArray, List.getElem_cons_zero, List.getElem_cons_succ, Act.put, List.setIfInBounds_toArray, List.set_cons_zero, List.set_cons_succ])
        refine wpAnyH_ready (rs := [13]) (by kernel_rfl) (by simp) ?_
        refine AllReadyH.cons (o := _) rfl (fun Kc hKc => ?_) AllReadyH.nil
        go_simp
        go_at_call 108
        refine (HQ2.out _).mono ?_
        rintro e w' ⟨rfl, hb⟩
        have F3 := chain2 F2 hb
        dsimp only
        refine hKc.out _ _ (HC.out _ F3) (fun hHeld => ?_)
        clear hKc Kc
        (try simp only [List.getElem_toArray, List.getElem_cons_zero, List.getElem_cons_succ, Act.put, List.setIfInBounds_toArray, List.set_cons_zero, List.set_cons_succ])
        refine wpAnyH_take (i := 14) (v := ?_) rfl (by kernel_rfl) (by kernel_rfl) (by kernel_rfl) (fun _ _ _ h => h) (Or.inl ⟨by rfl, ?_⟩) (by assumption) ?_
        rotate_left
        · intro w hSw
          (try dsimp only at hSw)
          go_simp
          (try with_reducible rfl)
        (try simp only [List.getElem_toArray, List.getElem_cons_zero, List.getElem_cons_succ, Act.put, List.setIfInBounds_toArray, List.set_cons_zero, List.set_cons_succ])
        refine wpAnyH_done (by kernel_rfl) ?_ _
        refine NoPanic.normal ?_

        have HB := hid (HF.out.trans (F3.mono HF.out.size))
        go_wp2_with fail
        go_ret
        exact ⟨⟨false, rfl, by simp [HNO.out]⟩, HB.out⟩
      · have HNX : Hid (∀ i, i < k + 1 → ∀ h : i + 1 < S.length, nmC S[i] S[i + 1] < 0) := hid (fun i hi h => by
          by_cases e : i = k
          · subst e
            rw [HX.out, HY.out, HCC.out]
            omega
          · exact HR.out i (by omega) h)
        go_wp2_with fail
        refine wp_region_noPanic ?_
        refine wp_region_held_drew (S := fun Y => Y.cell? ⟨sb, so + k * 8, none⟩ = some (.string x.who) ∧ Y.cell? ⟨sb, so + k * 8 + 1, none⟩ = some (.int .i64 x.seq) ∧ Y.cell? ⟨sb, so + k * 8 + 2, none⟩ = some (.int .i64 x.zone) ∧ Y.cell? ⟨sb, so + k * 8 + 3, none⟩ = some (.bool x.buy) ∧ Y.cell? ⟨sb, so + k * 8 + 4, none⟩ = some (.int .i64 x.price) ∧ Y.cell? ⟨sb, so + k * 8 + 5, none⟩ = some (.slice x.qa x.qty.length x.qc) ∧ Y.cell? ⟨sb, so + k * 8 + 6, none⟩ = some (.int .i64 x.parent) ∧ Y.cell? ⟨sb, so + k * 8 + 7, none⟩ = some (.int .i64 x.group) ∧ Y.cell? ⟨sb, so + k1 * 8, none⟩ = some (.string y.who) ∧ Y.cell? ⟨sb, so + k1 * 8 + 1, none⟩ = some (.int .i64 y.seq) ∧ Y.cell? ⟨sb, so + k1 * 8 + 2, none⟩ = some (.int .i64 y.zone) ∧ Y.cell? ⟨sb, so + k1 * 8 + 3, none⟩ = some (.bool y.buy) ∧ Y.cell? ⟨sb, so + k1 * 8 + 4, none⟩ = some (.int .i64 y.price) ∧ Y.cell? ⟨sb, so + k1 * 8 + 5, none⟩ = some (.slice y.qa y.qty.length y.qc) ∧ Y.cell? ⟨sb, so + k1 * 8 + 6, none⟩ = some (.int .i64 y.parent) ∧ Y.cell? ⟨sb, so + k1 * 8 + 7, none⟩ = some (.int .i64 y.group)) (by kernel_rfl) (HC.out _ F0) (fun hHeld => ?_)
        refine wpAnyH_take (i := 0) (v := ?_) rfl (by kernel_rfl) (by kernel_rfl) (by kernel_rfl) (fun _ _ _ h => h) (Or.inl ⟨by rfl, ?_⟩) (by assumption) ?_
        rotate_left
        · intro w hSw
          (try dsimp only at hSw)
          go_simp
          (try with_reducible rfl)
        (try simp only [List.getElem_toArray, List.getElem_cons_zero, List.getElem_cons_succ, Act.put, List.setIfInBounds_toArray, List.set_cons_zero, List.set_cons_succ])
        refine wpAnyH_take (i := 1) (v := ?_) rfl (by kernel_rfl) (by kernel_rfl) (by kernel_rfl) (fun _ _ _ h => h) (Or.inl ⟨by rfl, ?_⟩) (by assumption) ?_
        rotate_left
        · intro w hSw
          (try dsimp only at hSw)
          go_simp
          (try with_reducible rfl)
        (try simp only [List.getElem_toArray, List.getElem_cons_zero, List.getElem_cons_succ, Act.put, List.setIfInBounds_toArray, List.set_cons_zero, List.set_cons_succ])
        refine wpAnyH_take (i := 2) (v := ?_) rfl (by kernel_rfl) (by kernel_rfl) (by kernel_rfl) (fun _ _ _ h => h) (Or.inl ⟨by rfl, ?_⟩) (by assumption) ?_
        rotate_left
        · intro w hSw
          (try dsimp only at hSw)
          go_simp
          (try with_reducible rfl)
        (try simp only [List.getElem_toArray, List.getElem_cons_zero, List.getElem_cons_succ, Act.put, List.setIfInBounds_toArray, List.set_cons_zero, List.set_cons_succ])
        refine wpAnyH_take (i := 3) (v := ?_) rfl (by kernel_rfl) (by kernel_rfl) (by kernel_rfl) (fun _ _ _ h => h) (Or.inl ⟨by rfl, ?_⟩) (by assumption) ?_
        rotate_left
        · intro w hSw
          (try dsimp only at hSw)
          go_simp
          (try with_reducible rfl)
        (try simp only [List.getElem_toArray, List.getElem_cons_zero, List.getElem_cons_succ, Act.put, List.setIfInBounds_toArray, List.set_cons_zero, List.set_cons_succ])
        refine wpAnyH_take (i := 4) (v := ?_) rfl (by kernel_rfl) (by kernel_rfl) (by kernel_rfl) (fun _ _ _ h => h) (Or.inl ⟨by rfl, ?_⟩) (by assumption) ?_
        rotate_left
        · intro w hSw
          (try dsimp only at hSw)
          go_simp
          (try with_reducible rfl)
        (try simp only [List.getElem_toArray, List.getElem_cons_zero, List.getElem_cons_succ, Act.put, List.setIfInBounds_toArray, List.set_cons_zero, List.set_cons_succ])
        refine wpAnyH_take (i := 6) (v := ?_) rfl (by kernel_rfl) (by kernel_rfl) (by kernel_rfl) (fun _ _ _ h => h) (Or.inl ⟨by rfl, ?_⟩) (by assumption) ?_
        rotate_left
        · intro w hSw
          (try dsimp only at hSw)
          go_simp
          (try with_reducible rfl)
        (try simp only [List.getElem_toArray, List.getElem_cons_zero, List.getElem_cons_succ, Act.put, List.setIfInBounds_toArray, List.set_cons_zero, List.set_cons_succ])
        refine wpAnyH_take (i := 7) (v := ?_) rfl (by kernel_rfl) (by kernel_rfl) (by kernel_rfl) (fun _ _ _ h => h) (Or.inl ⟨by rfl, ?_⟩) (by assumption) ?_
        rotate_left
        · intro w hSw
          (try dsimp only at hSw)
          go_simp
          (try with_reducible rfl)
        (try simp only [List.getElem_toArray, List.getElem_cons_zero, List.getElem_cons_succ, Act.put, List.setIfInBounds_toArray, List.set_cons_zero, List.set_cons_succ])
        refine wpAnyH_take (i := 8) (v := ?_) rfl (by kernel_rfl) (by kernel_rfl) (by kernel_rfl) (fun _ _ _ h => h) (Or.inl ⟨by rfl, ?_⟩) (by assumption) ?_
        rotate_left
        · intro w hSw
          (try dsimp only at hSw)
          go_simp
          (try with_reducible rfl)
        (try simp only [List.getElem_toArray, List.getElem_cons_zero, List.getElem_cons_succ, Act.put, List.setIfInBounds_toArray, List.set_cons_zero, List.set_cons_succ])
        refine wpAnyH_take (i := 9) (v := ?_) rfl (by kernel_rfl) (by kernel_rfl) (by kernel_rfl) (fun _ _ _ h => h) (Or.inl ⟨by rfl, ?_⟩) (by assumption) ?_
        rotate_left
        · intro w hSw
          (try dsimp only at hSw)
          go_simp
          (try with_reducible rfl)
        (try simp only [List.getElem_toArray, List.getElem_cons_zero, List.getElem_cons_succ, Act.put, List.setIfInBounds_toArray, List.set_cons_zero, List.set_cons_succ])
        refine wpAnyH_take (i := 10) (v := ?_) rfl (by kernel_rfl) (by kernel_rfl) (by kernel_rfl) (fun _ _ _ h => h) (Or.inl ⟨by rfl, ?_⟩) (by assumption) ?_
        rotate_left
        · intro w hSw
          (try dsimp only at hSw)
          go_simp
          (try with_reducible rfl)
        (try simp only [List.getElem_toArray, List.getElem_cons_zero, List.getElem_cons_succ, Act.put, List.setIfInBounds_toArray, List.set_cons_zero, List.set_cons_succ])
        refine wpAnyH_take (i := 11) (v := ?_) rfl (by kernel_rfl) (by kernel_rfl) (by kernel_rfl) (fun _ _ _ h => h) (Or.inl ⟨by rfl, ?_⟩) (by assumption) ?_
        rotate_left
        · intro w hSw
          (try dsimp only at hSw)
          go_simp
          (try with_reducible rfl)
        (try simp only [List.getElem_toArray, List.getElem_cons_zero, List.getElem_cons_succ, Act.put, List.setIfInBounds_toArray, List.set_cons_zero, List.set_cons_succ])
        refine wpAnyH_ready (rs := [5]) (by kernel_rfl) (by simp) ?_
        refine AllReadyH.cons (o := _) rfl (fun Kc hKc => ?_) AllReadyH.nil
        go_simp
        go_at_call 52
        refine (HN.out _).mono ?_
        rintro e w' ⟨rfl, hb⟩
        have F1 := chain2 F0 hb
        dsimp only
        refine hKc.out _ _ (HC.out _ F1) (fun hHeld => ?_)
        clear hKc Kc
        (try simp only [List.getElem_toArray, List.getElem_cons_zero, List.getElem_cons_succ, Act.put, List.setIfInBounds_toArray, List.set_cons_zero, List.set_cons_succ])
        refine wpAnyH_ready (rs := [12]) (by kernel_rfl) (by simp) ?_
        refine AllReadyH.cons (o := _) rfl (fun Kc hKc => ?_) AllReadyH.nil
        go_simp
        go_at_call 52
        refine (HM.out _).mono ?_
        rintro e w' ⟨rfl, hb⟩
        have F2 := chain2 F1 hb
        dsimp only
        refine hKc.out _ _ (HC.out _ F2) (fun hHeld => ?_)
        clear hKc Kc
        (try simp only [List.getElem_toArray, List.getElem_cons_zero, List.getElem_cons_succ, Act.put, List.setIfInBounds_toArray, List.set_cons_zero, List.set_cons_succ])
        refine wpAnyH_ready (rs := [13]) (by kernel_rfl) (by simp) ?_
        refine AllReadyH.cons (o := _) rfl (fun Kc hKc => ?_) AllReadyH.nil
        go_simp
        go_at_call 108
        refine (HQ2.out _).mono ?_
        rintro e w' ⟨rfl, hb⟩
        have F3 := chain2 F2 hb
        dsimp only
        refine hKc.out _ _ (HC.out _ F3) (fun hHeld => ?_)
        clear hKc Kc
        (try simp only [List.getElem_toArray, List.getElem_cons_zero, List.getElem_cons_succ, Act.put, List.setIfInBounds_toArray, List.set_cons_zero, List.set_cons_succ])
        refine wpAnyH_take (i := 14) (v := ?_) rfl (by kernel_rfl) (by kernel_rfl) (by kernel_rfl) (fun _ _ _ h => h) (Or.inl ⟨by rfl, ?_⟩) (by assumption) ?_
        rotate_left
        · intro w hSw
          (try dsimp only at hSw)
          go_simp
          (try with_reducible rfl)
        (try simp only [List.getElem_toArray, List.getElem_cons_zero, List.getElem_cons_succ, Act.put, List.setIfInBounds_toArray, List.set_cons_zero, List.set_cons_succ])
        refine wpAnyH_done (by kernel_rfl) ?_ _
        refine NoPanic.normal ?_

        have HB := hid (HF.out.trans (F3.mono HF.out.size))
        clear F0 F1 F2 F3 hb hHeld
        go_wp2_with fail
        go_roundw
        case rel => exact ⟨k1, Nat.le_of_lt hk1, by first | rfl | (rw [← wr1]; go_num) | go_num, hid (by rw [HK1.out]; exact HNX.out), HB⟩
        case measure =>
          have hK := HK1.out
          simp [intOf]
          omega
    · have hge : (S.length : Int) - 1 ≤ (k : Int) := by omega
      have HYES := hid (show Rises S from fun i h => HR.out i (by omega) h)
      go_wp2_with fail
      go_ret
      exact ⟨⟨true, rfl, by simp [HYES.out]⟩, HF.out⟩
end Go.Proofs.YtcdkoadobdgbhaaGreatDoor
/- result: stepName; rises, of steps. -/
namespace Go.Proofs.YtcdkoadobdgbhaaGreatDoor
open Go.RowKit
set_option linter.unusedVariables false
set_option maxRecDepth 100000
set_option linter.unusedSimpArgs false

set_option maxHeartbeats 800000 in
theorem stepName_any (w : World) (s : Sp) :
    Calls Tryz.prog 50 #[.agg #[.string s.who, .int .i64 s.seq, .int .i64 s.zone, .int .i64 s.hour, .bool s.buy, .int .i64 s.qty, .int .i64 s.price]] w fun e w' => e = .returned (.agg #[.string s.who, .int .i64 s.seq]) ∧ Below w.heap.size w w' := by
  have b0 := ibel w (Obj.cells #[.string s.who, .int .i64 s.seq, .int .i64 s.zone, .int .i64 s.hour, .bool s.buy, .int .i64 s.qty, .int .i64 s.price] 27)
  have x0 := inew w (Obj.cells #[.string s.who, .int .i64 s.seq, .int .i64 s.zone, .int .i64 s.hour, .bool s.buy, .int .i64 s.qty, .int .i64 s.price] 27)
  have z0 := ibx x0 0 (.string s.who) rfl
  have z1 := ibx x0 1 (.int .i64 s.seq) rfl
  have b1 := b0.alloc (by simp) (Obj.cells #[.string s.who, .int .i64 s.seq] 107)
  have x1 := inew (w.alloc (Obj.cells #[.string s.who, .int .i64 s.seq, .int .i64 s.zone, .int .i64 s.hour, .bool s.buy, .int .i64 s.qty, .int .i64 s.price] 27)) (Obj.cells #[.string s.who, .int .i64 s.seq] 107)
  have y0 := ibx x1 0 _ rfl
  have y1 := ibx x1 1 _ rfl
  have HY := hid (And.intro y0 y1)
  have HB := hid b1
  clear x0 b0 b1 x1 y0 y1
  go_enter Tryz.func50, Tryz.ntmps50
  go_wp2_with fail
  have hy0 := HY.out.1
  have hy1 := HY.out.2
  simp only [World.size_alloc] at hy0 hy1
  exact bodyPost_ret (v := .agg #[.string s.who, .int .i64 s.seq]) (by simp [results, Tryz.results50, go_sem, hy0, hy1]) rfl ⟨rfl, HB.out⟩
/-- What the names of two neighbours compare to. -/
def nmS (x y : Sp) : Int := or2 (cmpT x.who y.who) (cmpZ2 x.seq y.seq)
/-- Each name is above the one ahead. -/
def RisesS (S : List Sp) : Prop := ∀ i, ∀ h : i + 1 < S.length, nmS S[i] S[i + 1] < 0
set_option maxHeartbeats 6400000 in
theorem risesS_any (w : World) (v : Value) (S : List Sp) (h : Sps w v S) (hS : S.length ≤ 1000000) :
    Calls Tryz.prog 49 #[v, .func (.func 50) #[] #[]] w fun e w' => (∃ R : Bool, e = .returned (.bool R) ∧ (R = true ↔ RisesS S)) ∧ Below w.heap.size w w' := by
  obtain ⟨a, c, rfl, hl, hm⟩ := h.slice
  unfold maxLen at hm
  have HH := hid h
  clear h
  go_enter Tryz.func49, Tryz.ntmps49
  go_wp2_with fail
  go_loopw [9] (fun iv wr => ∃ k : Nat, k ≤ S.length ∧ iv = .int .i64 (k : Int) ∧ Hid (∀ i, i < k → ∀ h : i + 1 < S.length, nmS S[i] S[i + 1] < 0) ∧ Hid (Below w.heap.size w wr)) (fun iv _ => S.length - (intOf iv).toNat)
  case atStart => exact ⟨0, Nat.zero_le _, rfl, fun i hi => by omega, Below.refl _ _⟩
  case round =>
    obtain ⟨k, hk, rfl, HR, HF⟩ := hrel
    by_cases hlt : k + 1 < S.length
    · have hlt' : (k : Int) < (S.length : Int) - 1 := by omega
      obtain ⟨k1, HK1⟩ : ∃ n, Hid (n = k + 1) := ⟨_, rfl⟩
      have hk1 : k1 < S.length := by rw [HK1.out]; exact hlt
      have hk0 : k < S.length := by omega
      have wr1 : IntKind.i64.wrap ((k : Int) + 1) = (k1 : Int) := by rw [HK1.out]; simp [IntKind.wrap, IntKind.bits, IntKind.signed]; omega
      obtain ⟨sb, so, sc, e, hx⟩ := (HH.out.below HF.out).at k hk0
      simp only [Value.slice.injEq] at e
      obtain ⟨rfl, -, rfl⟩ := e
      obtain ⟨sb', so', sc', e, hy⟩ := (HH.out.below HF.out).at (k + 1) hlt
      simp only [Value.slice.injEq, Option.some.injEq, Addr.mk.injEq] at e
      obtain ⟨⟨rfl, rfl, -⟩, -, -⟩ := e
      obtain ⟨x, HX⟩ : ∃ x, Hid (S[k] = x) := ⟨_, hid rfl⟩
      obtain ⟨y, HY⟩ : ∃ y, Hid (S[k + 1] = y) := ⟨_, hid rfl⟩
      rw [HX.out] at hx
      rw [HY.out, ← HK1.out] at hy
      have HXX := hid hx
      have HYY := hid hy
      clear hx hy
      have HC := hid (fun (Y : World) (b : Below wr.heap.size wr Y) => (by
        obtain ⟨a0, a1, a2, a3, a4, a5, a6⟩ := HXX.out.below b
        obtain ⟨b0, b1, b2, b3, b4, b5, b6⟩ := HYY.out.below b
        exact ⟨a0, a1, a2, a3, a4, a5, a6, b0, b1, b2, b3, b4, b5, b6⟩ : Y.cell? ⟨sb, so + k * 7, none⟩ = some (.string x.who) ∧ Y.cell? ⟨sb, so + k * 7 + 1, none⟩ = some (.int .i64 x.seq) ∧ Y.cell? ⟨sb, so + k * 7 + 2, none⟩ = some (.int .i64 x.zone) ∧ Y.cell? ⟨sb, so + k * 7 + 3, none⟩ = some (.int .i64 x.hour) ∧ Y.cell? ⟨sb, so + k * 7 + 4, none⟩ = some (.bool x.buy) ∧ Y.cell? ⟨sb, so + k * 7 + 5, none⟩ = some (.int .i64 x.qty) ∧ Y.cell? ⟨sb, so + k * 7 + 6, none⟩ = some (.int .i64 x.price) ∧ Y.cell? ⟨sb, so + k1 * 7, none⟩ = some (.string y.who) ∧ Y.cell? ⟨sb, so + k1 * 7 + 1, none⟩ = some (.int .i64 y.seq) ∧ Y.cell? ⟨sb, so + k1 * 7 + 2, none⟩ = some (.int .i64 y.zone) ∧ Y.cell? ⟨sb, so + k1 * 7 + 3, none⟩ = some (.int .i64 y.hour) ∧ Y.cell? ⟨sb, so + k1 * 7 + 4, none⟩ = some (.bool y.buy) ∧ Y.cell? ⟨sb, so + k1 * 7 + 5, none⟩ = some (.int .i64 y.qty) ∧ Y.cell? ⟨sb, so + k1 * 7 + 6, none⟩ = some (.int .i64 y.price)))
      have HN := hid (fun W => stepName_any W x)
      have HM := hid (fun W => stepName_any W y)
      have HQ := hid (fun W => compare16_any x.who y.who x.seq y.seq W)
      obtain ⟨c, HCC⟩ : ∃ c, Hid (nmS x y = c) := ⟨_, hid rfl⟩
      have HQ2 : Hid (∀ W, Calls Tryz.prog 108 #[.agg #[.string x.who, .int .i64 x.seq], .agg #[.string y.who, .int .i64 y.seq]] W fun e w' => e = .returned (.int .i64 c) ∧ Below W.heap.size W w') := hid (by rw [← HCC.out]; exact HQ.out)
      have F0 : Below wr.heap.size wr wr.drew := (Below.refl _ _).drew
      by_cases hc : 0 ≤ c
      · have HNO := hid (show ¬ RisesS S from fun hr => by
          have := hr k hlt
          rw [HX.out, HY.out, HCC.out] at this
          omega)
        go_wp2_with fail
        refine wp_region_noPanic ?_
        refine wp_region_held_drew (S := fun Y => Y.cell? ⟨sb, so + k * 7, none⟩ = some (.string x.who) ∧ Y.cell? ⟨sb, so + k * 7 + 1, none⟩ = some (.int .i64 x.seq) ∧ Y.cell? ⟨sb, so + k * 7 + 2, none⟩ = some (.int .i64 x.zone) ∧ Y.cell? ⟨sb, so + k * 7 + 3, none⟩ = some (.int .i64 x.hour) ∧ Y.cell? ⟨sb, so + k * 7 + 4, none⟩ = some (.bool x.buy) ∧ Y.cell? ⟨sb, so + k * 7 + 5, none⟩ = some (.int .i64 x.qty) ∧ Y.cell? ⟨sb, so + k * 7 + 6, none⟩ = some (.int .i64 x.price) ∧ Y.cell? ⟨sb, so + k1 * 7, none⟩ = some (.string y.who) ∧ Y.cell? ⟨sb, so + k1 * 7 + 1, none⟩ = some (.int .i64 y.seq) ∧ Y.cell? ⟨sb, so + k1 * 7 + 2, none⟩ = some (.int .i64 y.zone) ∧ Y.cell? ⟨sb, so + k1 * 7 + 3, none⟩ = some (.int .i64 y.hour) ∧ Y.cell? ⟨sb, so + k1 * 7 + 4, none⟩ = some (.bool y.buy) ∧ Y.cell? ⟨sb, so + k1 * 7 + 5, none⟩ = some (.int .i64 y.qty) ∧ Y.cell? ⟨sb, so + k1 * 7 + 6, none⟩ = some (.int .i64 y.price)) (by kernel_rfl) (HC.out _ F0) (fun hHeld => ?_)
        refine wpAnyH_take (i := 0) (v := ?_) rfl (by kernel_rfl) (by kernel_rfl) (by kernel_rfl) (fun _ _ _ h => h) (Or.inl ⟨by rfl, ?_⟩) (by assumption) ?_
        rotate_left
        · intro w hSw
          (try dsimp only at hSw)
          go_simp
          (try with_reducible rfl)
        (try simp only [List.getElem_toArray, List.getElem_cons_zero, List.getElem_cons_succ, Act.put, List.setIfInBounds_toArray, List.set_cons_zero, List.set_cons_succ])
        refine wpAnyH_take (i := 1) (v := ?_) rfl (by kernel_rfl) (by kernel_rfl) (by kernel_rfl) (fun _ _ _ h => h) (Or.inl ⟨by rfl, ?_⟩) (by assumption) ?_
        rotate_left
        · intro w hSw
          (try dsimp only at hSw)
          go_simp
          (try with_reducible rfl)
        (try simp only [List.getElem_toArray, List.getElem_cons_zero, List.getElem_cons_succ, Act.put, List.setIfInBounds_toArray, List.set_cons_zero, List.set_cons_succ])
        refine wpAnyH_take (i := 2) (v := ?_) rfl (by kernel_rfl) (by kernel_rfl) (by kernel_rfl) (fun _ _ _ h => h) (Or.inl ⟨by rfl, ?_⟩) (by assumption) ?_
        rotate_left
        · intro w hSw
          (try dsimp only at hSw)
          go_simp
          (try with_reducible rfl)
        (try simp only [List.getElem_toArray, List.getElem_cons_zero, List.getElem_cons_succ, Act.put, List.setIfInBounds_toArray, List.set_cons_zero, List.set_cons_succ])
        refine wpAnyH_take (i := 3) (v := ?_) rfl (by kernel_rfl) (by kernel_rfl) (by kernel_rfl) (fun _ _ _ h => h) (Or.inl ⟨by rfl, ?_⟩) (by assumption) ?_
        rotate_left
        · intro w hSw
          (try dsimp only at hSw)
          go_simp
          (try with_reducible rfl)
        (try simp only [List.getElem_toArray, List.getElem_cons_zero, List.getElem_cons_succ, Act.put, List.setIfInBounds_toArray, List.set_cons_zero, List.set_cons_succ])
        refine wpAnyH_take (i := 4) (v := ?_) rfl (by kernel_rfl) (by kernel_rfl) (by kernel_rfl) (fun _ _ _ h => h) (Or.inl ⟨by rfl, ?_⟩) (by assumption) ?_
        rotate_left
        · intro w hSw
          (try dsimp only at hSw)
          go_simp
          (try with_reducible rfl)
        (try simp only [List.getElem_toArray, List.getElem_cons_zero, List.getElem_cons_succ, Act.put, List.setIfInBounds_toArray, List.set_cons_zero, List.set_cons_succ])
        refine wpAnyH_take (i := 6) (v := ?_) rfl (by kernel_rfl) (by kernel_rfl) (by kernel_rfl) (fun _ _ _ h => h) (Or.inl ⟨by rfl, ?_⟩) (by assumption) ?_
        rotate_left
        · intro w hSw
          (try dsimp only at hSw)
          go_simp
          (try with_reducible rfl)
        (try simp only [List.getElem_toArray, List.getElem_cons_zero, List.getElem_cons_succ, Act.put, List.setIfInBounds_toArray, List.set_cons_zero, List.set_cons_succ])
        refine wpAnyH_take (i := 7) (v := ?_) rfl (by kernel_rfl) (by kernel_rfl) (by kernel_rfl) (fun _ _ _ h => h) (Or.inl ⟨by rfl, ?_⟩) (by assumption) ?_
        rotate_left
        · intro w hSw
          (try dsimp only at hSw)
          go_simp
          (try with_reducible rfl)
        (try simp only [List.getElem_toArray, List.getElem_cons_zero, List.getElem_cons_succ, Act.put, List.setIfInBounds_toArray, List.set_cons_zero, List.set_cons_succ])
        refine wpAnyH_take (i := 8) (v := ?_) rfl (by kernel_rfl) (by kernel_rfl) (by kernel_rfl) (fun _ _ _ h => h) (Or.inl ⟨by rfl, ?_⟩) (by assumption) ?_
        rotate_left
        · intro w hSw
          (try dsimp only at hSw)
          go_simp
          (try with_reducible rfl)
        (try simp only [List.getElem_toArray, List.getElem_cons_zero, List.getElem_cons_succ, Act.put, List.setIfInBounds_toArray, List.set_cons_zero, List.set_cons_succ])
        refine wpAnyH_take (i := 9) (v := ?_) rfl (by kernel_rfl) (by kernel_rfl) (by kernel_rfl) (fun _ _ _ h => h) (Or.inl ⟨by rfl, ?_⟩) (by assumption) ?_
        rotate_left
        · intro w hSw
          (try dsimp only at hSw)
          go_simp
          (try with_reducible rfl)
        (try simp only [List.getElem_toArray, List.getElem_cons_zero, List.getElem_cons_succ, Act.put, List.setIfInBounds_toArray, List.set_cons_zero, List.set_cons_succ])
        refine wpAnyH_take (i := 10) (v := ?_) rfl (by kernel_rfl) (by kernel_rfl) (by kernel_rfl) (fun _ _ _ h => h) (Or.inl ⟨by rfl, ?_⟩) (by assumption) ?_
        rotate_left
        · intro w hSw
          (try dsimp only at hSw)
          go_simp
          (try with_reducible rfl)
        (try simp only [List.getElem_toArray, List.getElem_cons_zero, List.getElem_cons_succ, Act.put, List.setIfInBounds_toArray, List.set_cons_zero, List.set_cons_succ])
        refine wpAnyH_take (i := 11) (v := ?_) rfl (by kernel_rfl) (by kernel_rfl) (by kernel_rfl) (fun _ _ _ h => h) (Or.inl ⟨by rfl, ?_⟩) (by assumption) ?_
        rotate_left
        · intro w hSw
          (try dsimp only at hSw)
          go_simp
          (try with_reducible rfl)
        (try simp only [List.getElem_toArray, List.getElem_cons_zero, List.getElem_cons_succ, Act.put, List.setIfInBounds_toArray, List.set_cons_zero, List.set_cons_succ])
        refine wpAnyH_ready (rs := [5]) (by kernel_rfl) (by simp) ?_
        refine AllReadyH.cons (o := _) rfl (fun Kc hKc => ?_) AllReadyH.nil
        go_simp
        go_at_call 50
        refine (HN.out _).mono ?_
        rintro e w' ⟨rfl, hb⟩
        have F1 := chain2 F0 hb
        dsimp only
        refine hKc.out _ _ (HC.out _ F1) (fun hHeld => ?_)
        clear hKc Kc
        (try simp only [List.getElem_toArray, List.getElem_cons_zero, List.getElem_cons_succ, Act.put, List.setIfInBounds_toArray, List.set_cons_zero, List.set_cons_succ])
        refine wpAnyH_ready (rs := [12]) (by kernel_rfl) (by simp) ?_
        refine AllReadyH.cons (o := _) rfl (fun Kc hKc => ?_) AllReadyH.nil
        go_simp
        go_at_call 50
        refine (HM.out _).mono ?_
        rintro e w' ⟨rfl, hb⟩
        have F2 := chain2 F1 hb
        dsimp only
        refine hKc.out _ _ (HC.out _ F2) (fun hHeld => ?_)
        clear hKc Kc
        (try simp only [List.getElem_toArray, List.getElem_cons_zero, List.getElem_cons_succ, Act.put, List.setIfInBounds_toArray, List.set_cons_zero, List.set_cons_succ])
        refine wpAnyH_ready (rs := [13]) (by kernel_rfl) (by simp) ?_
        refine AllReadyH.cons (o := _) rfl (fun Kc hKc => ?_) AllReadyH.nil
        go_simp
        go_at_call 108
        refine (HQ2.out _).mono ?_
        rintro e w' ⟨rfl, hb⟩
        have F3 := chain2 F2 hb
        dsimp only
        refine hKc.out _ _ (HC.out _ F3) (fun hHeld => ?_)
        clear hKc Kc
        (try simp only [List.getElem_toArray, List.getElem_cons_zero, List.getElem_cons_succ, Act.put, List.setIfInBounds_toArray, List.set_cons_zero, List.set_cons_succ])
        refine wpAnyH_take (i := 14) (v := ?_) rfl (by kernel_rfl) (by kernel_rfl) (by kernel_rfl) (fun _ _ _ h => h) (Or.inl ⟨by rfl, ?_⟩) (by assumption) ?_
        rotate_left
        · intro w hSw
          (try dsimp only at hSw)
          go_simp
          (try with_reducible rfl)
        (try simp only [List.getElem_toArray, List.getElem_cons_zero, List.getElem_cons_succ, Act.put, List.setIfInBounds_toArray, List.set_cons_zero, List.set_cons_succ])
        refine wpAnyH_done (by kernel_rfl) ?_ _
        refine NoPanic.normal ?_

        have HB := hid (HF.out.trans (F3.mono HF.out.size))
        go_wp2_with fail
        go_ret
        exact ⟨⟨false, rfl, by simp [HNO.out]⟩, HB.out⟩
      · have HNX : Hid (∀ i, i < k + 1 → ∀ h : i + 1 < S.length, nmS S[i] S[i + 1] < 0) := hid (fun i hi h => by
          by_cases e : i = k
          · subst e
            rw [HX.out, HY.out, HCC.out]
            omega
          · exact HR.out i (by omega) h)
        go_wp2_with fail
        refine wp_region_noPanic ?_
        refine wp_region_held_drew (S := fun Y => Y.cell? ⟨sb, so + k * 7, none⟩ = some (.string x.who) ∧ Y.cell? ⟨sb, so + k * 7 + 1, none⟩ = some (.int .i64 x.seq) ∧ Y.cell? ⟨sb, so + k * 7 + 2, none⟩ = some (.int .i64 x.zone) ∧ Y.cell? ⟨sb, so + k * 7 + 3, none⟩ = some (.int .i64 x.hour) ∧ Y.cell? ⟨sb, so + k * 7 + 4, none⟩ = some (.bool x.buy) ∧ Y.cell? ⟨sb, so + k * 7 + 5, none⟩ = some (.int .i64 x.qty) ∧ Y.cell? ⟨sb, so + k * 7 + 6, none⟩ = some (.int .i64 x.price) ∧ Y.cell? ⟨sb, so + k1 * 7, none⟩ = some (.string y.who) ∧ Y.cell? ⟨sb, so + k1 * 7 + 1, none⟩ = some (.int .i64 y.seq) ∧ Y.cell? ⟨sb, so + k1 * 7 + 2, none⟩ = some (.int .i64 y.zone) ∧ Y.cell? ⟨sb, so + k1 * 7 + 3, none⟩ = some (.int .i64 y.hour) ∧ Y.cell? ⟨sb, so + k1 * 7 + 4, none⟩ = some (.bool y.buy) ∧ Y.cell? ⟨sb, so + k1 * 7 + 5, none⟩ = some (.int .i64 y.qty) ∧ Y.cell? ⟨sb, so + k1 * 7 + 6, none⟩ = some (.int .i64 y.price)) (by kernel_rfl) (HC.out _ F0) (fun hHeld => ?_)
        refine wpAnyH_take (i := 0) (v := ?_) rfl (by kernel_rfl) (by kernel_rfl) (by kernel_rfl) (fun _ _ _ h => h) (Or.inl ⟨by rfl, ?_⟩) (by assumption) ?_
        rotate_left
        · intro w hSw
          (try dsimp only at hSw)
          go_simp
          (try with_reducible rfl)
        (try simp only [List.getElem_toArray, List.getElem_cons_zero, List.getElem_cons_succ, Act.put, List.setIfInBounds_toArray, List.set_cons_zero, List.set_cons_succ])
        refine wpAnyH_take (i := 1) (v := ?_) rfl (by kernel_rfl) (by kernel_rfl) (by kernel_rfl) (fun _ _ _ h => h) (Or.inl ⟨by rfl, ?_⟩) (by assumption) ?_
        rotate_left
        · intro w hSw
          (try dsimp only at hSw)
          go_simp
          (try with_reducible rfl)
        (try simp only [List.getElem_toArray, List.getElem_cons_zero, List.getElem_cons_succ, Act.put, List.setIfInBounds_toArray, List.set_cons_zero, List.set_cons_succ])
        refine wpAnyH_take (i := 2) (v := ?_) rfl (by kernel_rfl) (by kernel_rfl) (by kernel_rfl) (fun _ _ _ h => h) (Or.inl ⟨by rfl, ?_⟩) (by assumption) ?_
        rotate_left
        · intro w hSw
          (try dsimp only at hSw)
          go_simp
          (try with_reducible rfl)
        (try simp only [List.getElem_toArray, List.getElem_cons_zero, List.getElem_cons_succ, Act.put, List.setIfInBounds_toArray, List.set_cons_zero, List.set_cons_succ])
        refine wpAnyH_take (i := 3) (v := ?_) rfl (by kernel_rfl) (by kernel_rfl) (by kernel_rfl) (fun _ _ _ h => h) (Or.inl ⟨by rfl, ?_⟩) (by assumption) ?_
        rotate_left
        · intro w hSw
          (try dsimp only at hSw)
          go_simp
          (try with_reducible rfl)
        (try simp only [List.getElem_toArray, List.getElem_cons_zero, List.getElem_cons_succ, Act.put, List.setIfInBounds_toArray, List.set_cons_zero, List.set_cons_succ])
        refine wpAnyH_take (i := 4) (v := ?_) rfl (by kernel_rfl) (by kernel_rfl) (by kernel_rfl) (fun _ _ _ h => h) (Or.inl ⟨by rfl, ?_⟩) (by assumption) ?_
        rotate_left
        · intro w hSw
          (try dsimp only at hSw)
          go_simp
          (try with_reducible rfl)
        (try simp only [List.getElem_toArray, List.getElem_cons_zero, List.getElem_cons_succ, Act.put, List.setIfInBounds_toArray, List.set_cons_zero, List.set_cons_succ])
        refine wpAnyH_take (i := 6) (v := ?_) rfl (by kernel_rfl) (by kernel_rfl) (by kernel_rfl) (fun _ _ _ h => h) (Or.inl ⟨by rfl, ?_⟩) (by assumption) ?_
        rotate_left
        · intro w hSw
          (try dsimp only at hSw)
          go_simp
          (try with_reducible rfl)
        (try simp only [List.getElem_toArray, List.getElem_cons_zero, List.getElem_cons_succ, Act.put, List.setIfInBounds_toArray, List.set_cons_zero, List.set_cons_succ])
        refine wpAnyH_take (i := 7) (v := ?_) rfl (by kernel_rfl) (by kernel_rfl) (by kernel_rfl) (fun _ _ _ h => h) (Or.inl ⟨by rfl, ?_⟩) (by assumption) ?_
        rotate_left
        · intro w hSw
          (try dsimp only at hSw)
          go_simp
          (try with_reducible rfl)
        (try simp only [List.getElem_toArray, List.getElem_cons_zero, List.getElem_cons_succ, Act.put, List.setIfInBounds_toArray, List.set_cons_zero, List.set_cons_succ])
        refine wpAnyH_take (i := 8) (v := ?_) rfl (by kernel_rfl) (by kernel_rfl) (by kernel_rfl) (fun _ _ _ h => h) (Or.inl ⟨by rfl, ?_⟩) (by assumption) ?_
        rotate_left
        · intro w hSw
          (try dsimp only at hSw)
          go_simp
          (try with_reducible rfl)
        (try simp only [List.getElem_toArray, List.getElem_cons_zero, List.getElem_cons_succ, Act.put, List.setIfInBounds_toArray, List.set_cons_zero, List.set_cons_succ])
        refine wpAnyH_take (i := 9) (v := ?_) rfl (by kernel_rfl) (by kernel_rfl) (by kernel_rfl) (fun _ _ _ h => h) (Or.inl ⟨by rfl, ?_⟩) (by assumption) ?_
        rotate_left
        · intro w hSw
          (try dsimp only at hSw)
          go_simp
          (try with_reducible rfl)
        (try simp only [List.getElem_toArray, List.getElem_cons_zero, List.getElem_cons_succ, Act.put, List.setIfInBounds_toArray, List.set_cons_zero, List.set_cons_succ])
        refine wpAnyH_take (i := 10) (v := ?_) rfl (by kernel_rfl) (by kernel_rfl) (by kernel_rfl) (fun _ _ _ h => h) (Or.inl ⟨by rfl, ?_⟩) (by assumption) ?_
        rotate_left
        · intro w hSw
          (try dsimp only at hSw)
          go_simp
          (try with_reducible rfl)
        (try simp only [List.getElem_toArray, List.getElem_cons_zero, List.getElem_cons_succ, Act.put, List.setIfInBounds_toArray, List.set_cons_zero, List.set_cons_succ])
        refine wpAnyH_take (i := 11) (v := ?_) rfl (by kernel_rfl) (by kernel_rfl) (by kernel_rfl) (fun _ _ _ h => h) (Or.inl ⟨by rfl, ?_⟩) (by assumption) ?_
        rotate_left
        · intro w hSw
          (try dsimp only at hSw)
          go_simp
          (try with_reducible rfl)
        (try simp only [List.getElem_toArray, List.getElem_cons_zero, List.getElem_cons_succ, Act.put, List.setIfInBounds_toArray, List.set_cons_zero, List.set_cons_succ])
        refine wpAnyH_ready (rs := [5]) (by kernel_rfl) (by simp) ?_
        refine AllReadyH.cons (o := _) rfl (fun Kc hKc => ?_) AllReadyH.nil
        go_simp
        go_at_call 50
        refine (HN.out _).mono ?_
        rintro e w' ⟨rfl, hb⟩
        have F1 := chain2 F0 hb
        dsimp only
        refine hKc.out _ _ (HC.out _ F1) (fun hHeld => ?_)
        clear hKc Kc
        (try simp only [List.getElem_toArray, List.getElem_cons_zero, List.getElem_cons_succ, Act.put, List.setIfInBounds_toArray, List.set_cons_zero, List.set_cons_succ])
        refine wpAnyH_ready (rs := [12]) (by kernel_rfl) (by simp) ?_
        refine AllReadyH.cons (o := _) rfl (fun Kc hKc => ?_) AllReadyH.nil
        go_simp
        go_at_call 50
        refine (HM.out _).mono ?_
        rintro e w' ⟨rfl, hb⟩
        have F2 := chain2 F1 hb
        dsimp only
        refine hKc.out _ _ (HC.out _ F2) (fun hHeld => ?_)
        clear hKc Kc
        (try simp only [List.getElem_toArray, List.getElem_cons_zero, List.getElem_cons_succ, Act.put, List.setIfInBounds_toArray, List.set_cons_zero, List.set_cons_succ])
        refine wpAnyH_ready (rs := [13]) (by kernel_rfl) (by simp) ?_
        refine AllReadyH.cons (o := _) rfl (fun Kc hKc => ?_) AllReadyH.nil
        go_simp
        go_at_call 108
        refine (HQ2.out _).mono ?_
        rintro e w' ⟨rfl, hb⟩
        have F3 := chain2 F2 hb
        dsimp only
        refine hKc.out _ _ (HC.out _ F3) (fun hHeld => ?_)
        clear hKc Kc
        (try simp only [List.getElem_toArray, List.getElem_cons_zero, List.getElem_cons_succ, Act.put, List.setIfInBounds_toArray, List.set_cons_zero, List.set_cons_succ])
        refine wpAnyH_take (i := 14) (v := ?_) rfl (by kernel_rfl) (by kernel_rfl) (by kernel_rfl) (fun _ _ _ h => h) (Or.inl ⟨by rfl, ?_⟩) (by assumption) ?_
        rotate_left
        · intro w hSw
          (try dsimp only at hSw)
          go_simp
          (try with_reducible rfl)
        (try simp only [List.getElem_toArray, List.getElem_cons_zero, List.getElem_cons_succ, Act.put, List.setIfInBounds_toArray, List.set_cons_zero, List.set_cons_succ])
        refine wpAnyH_done (by kernel_rfl) ?_ _
        refine NoPanic.normal ?_

        have HB := hid (HF.out.trans (F3.mono HF.out.size))
        clear F0 F1 F2 F3 hb hHeld
        go_wp2_with fail
        go_roundw
        case rel => exact ⟨k1, Nat.le_of_lt hk1, by first | rfl | (rw [← wr1]; go_num) | go_num, hid (by rw [HK1.out]; exact HNX.out), HB⟩
        case measure =>
          have hK := HK1.out
          simp [intOf]
          omega
    · have hge : (S.length : Int) - 1 ≤ (k : Int) := by omega
      have HYES := hid (show RisesS S from fun i h => HR.out i (by omega) h)
      go_wp2_with fail
      go_ret
      exact ⟨⟨true, rfl, by simp [HYES.out]⟩, HF.out⟩
end Go.Proofs.YtcdkoadobdgbhaaGreatDoor
/- price: the bounds of a price (the numbers), and what may be taken. -/
namespace Go.Proofs.YtcdkoadobdgbhaaGreatDoor
open Go.RowKit
set_option linter.unusedVariables false
set_option maxRecDepth 100000
set_option linter.unusedSimpArgs false

/-- Each step is within the limits. -/
def stAll (g : Gr) (S : List Sp) : Bool := S.all (fun s => stOk g s.zone s.hour s.qty s.price)
theorem stAll_take {g : Gr} {S : List Sp} {k : Nat} (h : k < S.length) : stAll g (S.take (k + 1)) = (stAll g (S.take k) && stOk g S[k].zone S[k].hour S[k].qty S[k].price) := by
  unfold stAll
  rw [List.take_succ_eq_append_getElem h, List.all_append]
  simp
theorem stAll_no {g : Gr} {S : List Sp} {k : Nat} (h : k < S.length) (hk : stOk g S[k].zone S[k].hour S[k].qty S[k].price = false) : stAll g S = false := by
  unfold stAll
  rw [List.all_eq_false]
  exact ⟨S[k], List.getElem_mem h, by rw [hk]; simp⟩
theorem stAll_at {g : Gr} {S : List Sp} (h : stAll g S = true) {k : Nat} (hk : k < S.length) : stOk g S[k].zone S[k].hour S[k].qty S[k].price = true := List.all_eq_true.1 h _ (List.getElem_mem hk)
/-- Which steps there may be. -/
structure OkS (g : Gr) (S : List Sp) : Prop where
  g_ : gok g = true
  len : S.length ≤ 32
  all : stAll g S = true
  rise : RisesS S
/-- So much may be taken. -/
structure Takes (S : List Sp) (X : List Rat) : Prop where
  len : X.length = S.length
  is_ : ∀ i (h : i < S.length) (hx : i < X.length), 0 ≤ X[i] ∧ X[i] ≤ (S[i].qty : Rat)
/-- What a step asks of a price. -/
def bstep (h z : Int) (b : Int × Int) (s : Sp) (q : Rat) : Int × Int :=
  if s.hour = h ∧ s.zone = z then
    (if (if s.buy = true then q ≠ (s.qty : Rat) else 0 < q) then max b.1 s.price else b.1,
     if (if s.buy = true then 0 < q else q ≠ (s.qty : Rat)) then min b.2 s.price else b.2)
  else b
def bndN (h z lo hi : Int) (S : List Sp) (X : List Rat) : Nat → Int × Int
  | 0 => (lo, hi)
  | k + 1 => match S[k]?, X[k]? with
    | some s, some q => bstep h z (bndN h z lo hi S X k) s q
    | _, _ => bndN h z lo hi S X k
theorem bndN_succ {h z lo hi : Int} {S : List Sp} {X : List Rat} {k : Nat} (hk : k < S.length) (hx : k < X.length) : bndN h z lo hi S X (k + 1) = bstep h z (bndN h z lo hi S X k) S[k] X[k] := by
  simp only [bndN, List.getElem?_eq_getElem hk, List.getElem?_eq_getElem hx]
/-- What is answered. -/
def bndE (b : Int × Int) : Int × Int × Bool := if b.2 < b.1 then (0, 0, false) else (b.1, b.2, true)
def Asked (g : Gr) (S : List Sp) (X : List ByteArray) (h z : Int) (Q : List Rat) : Prop := Nums X Q ∧ OkS g S ∧ Takes S Q ∧ (0 ≤ h ∧ h < g.hours) ∧ (0 ≤ z ∧ z < g.zones)
def PBnd (g : Gr) (S : List Sp) (X : List ByteArray) (h z : Int) (r : Int × Int × Bool) : Prop :=
  (∃ Q, Asked g S X h z Q ∧ r = bndE (bndN h z g.low g.high S Q S.length)) ∨ ((¬ ∃ Q, Asked g S X h z Q) ∧ r = (0, 0, false))
theorem PBnd.uniq {g : Gr} {S : List Sp} {X : List ByteArray} {h z : Int} {r t : Int × Int × Bool} (a : PBnd g S X h z r) (b : PBnd g S X h z t) : r = t := by
  rcases a with ⟨Q, a1, rfl⟩ | ⟨a1, rfl⟩
  · rcases b with ⟨P, b1, rfl⟩ | ⟨b1, rfl⟩
    · rw [a1.1.uniq b1.1]
    · exact absurd ⟨Q, a1⟩ b1
  · rcases b with ⟨P, b1, rfl⟩ | ⟨b1, rfl⟩
    · exact absurd ⟨P, b1⟩ a1
    · rfl
end Go.Proofs.YtcdkoadobdgbhaaGreatDoor
/- result: Orders. -/
namespace Go.Proofs.YtcdkoadobdgbhaaGreatDoor
open Go.RowKit
set_option linter.unusedVariables false
set_option maxRecDepth 100000
set_option linter.unusedSimpArgs false

/-- Which blocks there may be, but for their parents. -/
structure OkB (g : Gr) (B : List Bl) : Prop where
  len : B.length ≤ 12
  all : B.all (bkOk g) = true
  rise : Rises B
theorem bkAll_take {g : Gr} {B : List Bl} {k : Nat} (h : k < B.length) : (B.take (k + 1)).all (bkOk g) = ((B.take k).all (bkOk g) && bkOk g B[k]) := by
  rw [List.take_succ_eq_append_getElem h, List.all_append]
  simp
theorem bkAll_no {g : Gr} {B : List Bl} {k : Nat} (h : k < B.length) (hk : bkOk g B[k] = false) : B.all (bkOk g) = false := by
  rw [List.all_eq_false]
  exact ⟨B[k], List.getElem_mem h, by rw [hk]; simp⟩
theorem Bks.ints {w : World} {v : Value} {S : List Bl} (h : Bks w v S) (i : Nat) (hi : i < S.length) : Ints w (.slice S[i].qa S[i].qty.length S[i].qc) S[i].qty := by
  obtain ⟨a, c, h1, h2, h3, h4⟩ := h
  rcases h4 with rfl | ⟨b, off, rfl, h5⟩
  · simp at hi
  · exact (h5 i hi).2.2
theorem OkB.nil (g : Gr) : OkB g [] := ⟨by simp, rfl, fun i h => by simp at h⟩
set_option maxHeartbeats 6400000 in
theorem orders16_any (w : World) (g : Gr) (la : Option Addr) (lc : Nat) (sv bv : Value) (S : List Sp) (B : List Bl) (hl : Lns w (.slice la g.lines.length lc) g.lines) (hs : Sps w sv S) (hb : Bks w bv B) (PE : Bool)
    (hpe : ∀ Y, Below w.heap.size w Y → Calls Tryz.prog 53 #[bv] Y fun e w' => e = .returned (.bool PE) ∧ Below Y.heap.size Y w') :
    Calls Tryz.prog 14 #[.agg #[.int .i64 g.zones, .int .i64 g.hours, .slice la g.lines.length lc, .int .i64 g.low, .int .i64 g.high], sv, bv] w fun e w' => (∃ R : Bool, e = .returned (.bool R) ∧ (R = true ↔ (OkS g S ∧ OkB g B ∧ PE = true))) ∧ Below w.heap.size w w' := by
  obtain ⟨sa, sc, rfl, sl, sm⟩ := hs.slice
  obtain ⟨ba, bc, rfl, bl, bm⟩ := hb.slice
  unfold maxLen at sm bm
  have b0 := ibel w (Obj.cells #[.int .i64 g.zones, .int .i64 g.hours, .slice la g.lines.length lc, .int .i64 g.low, .int .i64 g.high] 25)
  have x0 := inew w (Obj.cells #[.int .i64 g.zones, .int .i64 g.hours, .slice la g.lines.length lc, .int .i64 g.low, .int .i64 g.high] 25)
  have z0 := ibx x0 0 _ rfl
  have z1 := ibx x0 1 _ rfl
  have z2 := ibx x0 2 _ rfl
  have z3 := ibx x0 3 _ rfl
  have z4 := ibx x0 4 _ rfl
  have HB0 := hid b0
  have HS := hid hs
  have HBK := hid hb
  have HCK := hid (icheck_any (w.alloc (Obj.cells #[.int .i64 g.zones, .int .i64 g.hours, .slice la g.lines.length lc, .int .i64 g.low, .int .i64 g.high] 25)) g la lc (hl.below b0))
  have HPE := hid hpe
  clear hl hs hb hpe b0 x0
  cases hg : gok g with
  | false =>
    have HNO := hid (show ¬ (OkS g S ∧ OkB g B ∧ PE = true) from fun h => by have := h.1.g_; rw [hg] at this; cases this)
    rw [show errG g = 140 by unfold errG; rw [hg]; rfl] at HCK
    go_enter Tryz.func14, Tryz.ntmps14
    go_wp2_with fail
    refine HCK.out.mono ?_
    rintro e X1 ⟨rfl, hb1⟩
    have HBF := hid (chain2 HB0.out hb1)
    clear hb1
    go_wp2_with fail
    go_ret
    exact ⟨⟨false, rfl, by simp [HNO.out]⟩, HBF.out⟩
  | true =>
  rw [show errG g = 0 by unfold errG; rw [hg]; rfl] at HCK
  have HG := hid hg
  clear hg
  by_cases h32 : S.length ≤ 32
  case neg =>
    have hd : decide ((32 : Int) < (S.length : Int)) = true := decide_eq_true (by omega)
    have HNO := hid (show ¬ (OkS g S ∧ OkB g B ∧ PE = true) from fun h => h32 h.1.len)
    clear h32
    go_enter Tryz.func14, Tryz.ntmps14
    go_wp2_with fail
    refine HCK.out.mono ?_
    rintro e X1 ⟨rfl, hb1⟩
    have HBF := hid (chain2 HB0.out hb1)
    clear hb1
    go_wp2_with fail
    go_ret
    exact ⟨⟨false, rfl, by simp [HNO.out]⟩, HBF.out⟩
  have hd : decide ((32 : Int) < (S.length : Int)) = false := decide_eq_false (by omega)
  by_cases h12 : B.length ≤ 12
  case neg =>
    have hd2 : decide ((12 : Int) < (B.length : Int)) = true := decide_eq_true (by omega)
    have HNO := hid (show ¬ (OkS g S ∧ OkB g B ∧ PE = true) from fun h => h12 h.2.1.len)
    clear h12
    go_enter Tryz.func14, Tryz.ntmps14
    go_wp2_with fail
    refine HCK.out.mono ?_
    rintro e X1 ⟨rfl, hb1⟩
    have HBF := hid (chain2 HB0.out hb1)
    clear hb1
    go_wp2_with fail
    go_ret
    exact ⟨⟨false, rfl, by simp [HNO.out]⟩, HBF.out⟩
  have hd2 : decide ((12 : Int) < (B.length : Int)) = false := decide_eq_false (by omega)
  have H32 := hid h32
  have H12 := hid h12
  go_enter Tryz.func14, Tryz.ntmps14
  go_wp2_with fail
  refine HCK.out.mono ?_
  rintro e X1 ⟨rfl, hb1⟩
  have HB1 := hid (chain2 HB0.out hb1)
  replace z0 := ikc hb1 z0
  replace z1 := ikc hb1 z1
  replace z2 := ikc hb1 z2
  replace z3 := ikc hb1 z3
  replace z4 := ikc hb1 z4
  have HZ := hid (fun (Y : World) (b : Below X1.heap.size X1 Y) => (⟨ikc b z0, ikc b z1, ikc b z2, ikc b z3, ikc b z4⟩ : Y.cell? ⟨w.heap.size, 0, none⟩ = some (.int .i64 g.zones) ∧ Y.cell? ⟨w.heap.size, 1, none⟩ = some (.int .i64 g.hours) ∧ Y.cell? ⟨w.heap.size, 2, none⟩ = some (.slice la g.lines.length lc) ∧ Y.cell? ⟨w.heap.size, 3, none⟩ = some (.int .i64 g.low) ∧ Y.cell? ⟨w.heap.size, 4, none⟩ = some (.int .i64 g.high)))
  clear hb1 z0 z1 z2 z3 z4 HB0 HCK
  go_wp2_with fail
  clear hd hd2
  go_loopw [26] (fun i wr => ∃ k : Nat, k ≤ S.length ∧ i = .int .i64 (k : Int) ∧ Hid (stAll g (S.take k) = true) ∧ Hid (Below X1.heap.size X1 wr)) (fun i _ => S.length - (intOf i).toNat)
  case atStart => exact ⟨0, Nat.zero_le _, rfl, hid rfl, hid (Below.refl _ _)⟩
  case round =>
    obtain ⟨k, hk, rfl, HAL, HBW⟩ := hrel
    by_cases hlt : k < S.length
    · have HBR := hid (HB1.out.trans (HBW.out.mono HB1.out.size))
      obtain ⟨sb, so, sc', e, g0, g1, g2, g3, g4, g5, g6⟩ := (HS.out.below HBR.out).at k hlt
      simp only [Value.slice.injEq] at e
      obtain ⟨rfl, -, rfl⟩ := e
      have HTK := hid (stAll_take (g := g) hlt)
      have HNX := hid (fun h => stAll_no (g := g) hlt h)
      have hli : (0 : Int) ≤ (k : Int) ∧ (k : Int) < (S.length : Int) := by omega
      generalize S[k] = s at *
      have bS := ibel wr (Obj.cells #[.string s.who, .int .i64 s.seq, .int .i64 s.zone, .int .i64 s.hour, .bool s.buy, .int .i64 s.qty, .int .i64 s.price] 27)
      have xS := inew wr (Obj.cells #[.string s.who, .int .i64 s.seq, .int .i64 s.zone, .int .i64 s.hour, .bool s.buy, .int .i64 s.qty, .int .i64 s.price] 27)
      obtain ⟨z0, z1, z2, z3, z4⟩ := HZ.out _ (HBW.out.trans (bS.mono HBW.out.size))
      have u0 := ibx xS 0 _ rfl
      have u1 := ibx xS 1 _ rfl
      have u2 := ibx xS 2 _ rfl
      have u3 := ibx xS 3 _ rfl
      have u4 := ibx xS 4 _ rfl
      have u5 := ibx xS 5 _ rfl
      have u6 := ibx xS 6 _ rfl
      have HBS := hid (HBW.out.trans (bS.mono HBW.out.size))
      clear xS bS
      have HMAY := hid (stepMay_any (wr.alloc (Obj.cells #[.string s.who, .int .i64 s.seq, .int .i64 s.zone, .int .i64 s.hour, .bool s.buy, .int .i64 s.qty, .int .i64 s.price] 27)) g la lc HG.out s.who s.seq s.zone s.hour s.buy s.qty s.price)
      obtain ⟨R, HR⟩ : ∃ R, Hid (stOk g s.zone s.hour s.qty s.price = R) := ⟨_, hid rfl⟩
      rw [HR.out] at HMAY HTK HNX
      go_wp2_with fail
      refine HMAY.out.mono ?_
      rintro e Y1 ⟨rfl, hb1⟩
      have HB2 := hid (HBS.out.trans (hb1.mono HBS.out.size))
      clear hb1 HMAY z0 z1 z2 z3 z4 u0 u1 u2 u3 u4 u5 u6 g0 g1 g2 g3 g4 g5 g6
      cases R with
      | false =>
        have HNO := hid (show ¬ (OkS g S ∧ OkB g B ∧ PE = true) from fun h => by have := h.1.all; rw [HNX.out rfl] at this; cases this)
        have HBF := hid (HB1.out.trans (HB2.out.mono HB1.out.size))
        go_wp2_with fail
        go_ret
        exact ⟨⟨false, rfl, by simp [HNO.out]⟩, HBF.out⟩
      | true =>
        have HA2 := hid (show stAll g (S.take (k + 1)) = true by rw [HTK.out, HAL.out]; rfl)
        go_wp2_with fail
        go_roundw
        case rel => exact ⟨k + 1, by omega, by go_num, HA2, HB2⟩
        case measure => simp [intOf]; omega
    · obtain rfl : k = S.length := by omega
      rw [List.take_length] at HAL
      have HBX := hid (HB1.out.trans (HBW.out.mono HB1.out.size))
      clear hk
      go_wp2_with fail
      go_loopw [37] (fun i wr => ∃ k : Nat, k ≤ B.length ∧ i = .int .i64 (k : Int) ∧ Hid ((B.take k).all (bkOk g) = true) ∧ Hid (Below X1.heap.size X1 wr)) (fun i _ => B.length - (intOf i).toNat)
      case atStart => exact ⟨0, Nat.zero_le _, rfl, hid rfl, HBW⟩
      case round =>
        obtain ⟨k, hk, rfl, HBA, HBW⟩ := hrel
        have HBR := hid (HB1.out.trans (HBW.out.mono HB1.out.size))
        by_cases hlt : k < B.length
        · obtain ⟨sb, so, sc', e, ⟨g0, g1, g2, g3, g4, g5, g6, g7⟩, hft⟩ := (HBK.out.below HBR.out).at k hlt
          simp only [Value.slice.injEq] at e
          obtain ⟨rfl, -, rfl⟩ := e
          have HQI := hid ((HBK.out.below HBR.out).ints k hlt)
          have HTK := hid (bkAll_take (g := g) hlt)
          have HNX := hid (fun h => bkAll_no (g := g) hlt h)
          have hli : (0 : Int) ≤ (k : Int) ∧ (k : Int) < (B.length : Int) := by omega
          clear hft
          generalize B[k] = s at *
          have bS := ibel wr (Obj.cells #[.string s.who, .int .i64 s.seq, .int .i64 s.zone, .bool s.buy, .int .i64 s.price, .slice s.qa s.qty.length s.qc, .int .i64 s.parent, .int .i64 s.group] 80)
          have xS := inew wr (Obj.cells #[.string s.who, .int .i64 s.seq, .int .i64 s.zone, .bool s.buy, .int .i64 s.price, .slice s.qa s.qty.length s.qc, .int .i64 s.parent, .int .i64 s.group] 80)
          obtain ⟨z0, z1, z2, z3, z4⟩ := HZ.out _ (HBW.out.trans (bS.mono HBW.out.size))
          have u0 := ibx xS 0 _ rfl
          have u1 := ibx xS 1 _ rfl
          have u2 := ibx xS 2 _ rfl
          have u3 := ibx xS 3 _ rfl
          have u4 := ibx xS 4 _ rfl
          have u5 := ibx xS 5 _ rfl
          have u6 := ibx xS 6 _ rfl
          have u7 := ibx xS 7 _ rfl
          have HBS := hid (HBW.out.trans (bS.mono HBW.out.size))
          have HMAY := hid (blockMay_any (wr.alloc (Obj.cells #[.string s.who, .int .i64 s.seq, .int .i64 s.zone, .bool s.buy, .int .i64 s.price, .slice s.qa s.qty.length s.qc, .int .i64 s.parent, .int .i64 s.group] 80)) g la lc HG.out s (HQI.out.below bS))
          clear xS bS HQI
          obtain ⟨R, HR⟩ : ∃ R, Hid (bkOk g s = R) := ⟨_, hid rfl⟩
          rw [HR.out] at HMAY HTK HNX
          go_wp2_with fail
          refine HMAY.out.mono ?_
          rintro e Y1 ⟨rfl, hb1⟩
          have HB2 := hid (HBS.out.trans (hb1.mono HBS.out.size))
          clear hb1 HMAY z0 z1 z2 z3 z4 u0 u1 u2 u3 u4 u5 u6 u7 g0 g1 g2 g3 g4 g5 g6 g7
          cases R with
          | false =>
            have HNO := hid (show ¬ (OkS g S ∧ OkB g B ∧ PE = true) from fun h => by have := h.2.1.all; rw [HNX.out rfl] at this; cases this)
            have HBF := hid (HB1.out.trans (HB2.out.mono HB1.out.size))
            go_wp2_with fail
            go_ret
            exact ⟨⟨false, rfl, by simp [HNO.out]⟩, HBF.out⟩
          | true =>
            have HA2 := hid (show (B.take (k + 1)).all (bkOk g) = true by rw [HTK.out, HBA.out]; rfl)
            go_wp2_with fail
            go_roundw
            case rel => exact ⟨k + 1, by omega, by go_num, HA2, HB2⟩
            case measure => simp [intOf]; omega
        · obtain rfl : k = B.length := by omega
          rw [List.take_length] at HBA
          clear hk
          have HRS := hid (risesS_any wr _ S (HS.out.below HBR.out) (by have := H32.out; omega))
          go_wp2_with fail
          refine HRS.out.mono ?_
          rintro e Y1 ⟨⟨R1, rfl, hr1⟩, hb1⟩
          have HB2 := hid (HBR.out.trans (hb1.mono HBR.out.size))
          have HR1 := hid hr1
          clear hb1 hr1 HRS
          cases R1 with
          | false =>
            have HNO := hid (show ¬ (OkS g S ∧ OkB g B ∧ PE = true) from fun h => by have := HR1.out.2 h.1.rise; cases this)
            have HBF := HB2
            go_wp2_with fail
            go_ret
            exact ⟨⟨false, rfl, by simp [HNO.out]⟩, HBF.out⟩
          | true =>
          have HOS := hid (show OkS g S from ⟨HG.out, H32.out, HAL.out, HR1.out.1 rfl⟩)
          have HRB := hid (risesB_any Y1 _ B (HBK.out.below HB2.out) (by have := H12.out; omega))
          go_wp2_with fail
          refine HRB.out.mono ?_
          rintro e Y2 ⟨⟨R2, rfl, hr2⟩, hb2⟩
          have HB3 := hid (HB2.out.trans (hb2.mono HB2.out.size))
          have HR2 := hid hr2
          clear hb2 hr2 HRB
          cases R2 with
          | false =>
            have HNO := hid (show ¬ (OkS g S ∧ OkB g B ∧ PE = true) from fun h => by have := HR2.out.2 h.2.1.rise; cases this)
            have HBF := HB3
            go_wp2_with fail
            go_ret
            exact ⟨⟨false, rfl, by simp [HNO.out]⟩, HBF.out⟩
          | true =>
          have HOB := hid (show OkB g B from ⟨H12.out, HBA.out, HR2.out.1 rfl⟩)
          have HPP := hid (HPE.out Y2 HB3.out)
          go_wp2_with fail
          refine HPP.out.mono ?_
          rintro e Y3 ⟨rfl, hb3⟩
          have HBF := hid (HB3.out.trans (hb3.mono HB3.out.size))
          clear hb3 HPP
          go_wp2_with fail
          go_ret
          exact ⟨⟨PE, rfl, by simp [HOS.out, HOB.out]⟩, HBF.out⟩
end Go.Proofs.YtcdkoadobdgbhaaGreatDoor
/- result: names compared, the document's way. -/
namespace Go.Proofs.YtcdkoadobdgbhaaGreatDoor
open Go.RowKit
set_option linter.unusedVariables false
set_option linter.unusedSimpArgs false

theorem less_irrefl : ∀ l : List UInt8, Op.bytesLess l l = false
  | [] => rfl
  | a :: r => by
    have h := less_irrefl r
    simp [Op.bytesLess, h]
/-- A name is above the one ahead: so says the document, and so says compare. -/
theorem nm_iff (a b : ByteArray) (s t : Int) : or2 (cmpT a b) (cmpZ2 s t) < 0 ↔ ¬ ((Op.bytesLess a.toList b.toList = false ∧ (a.toList == b.toList) = false) ∨ ((a.toList == b.toList) = true ∧ t ≤ s)) := by
  unfold or2 cmpT cmpZ2
  by_cases hl : Op.bytesLess a.toList b.toList = true
  · have he : (a.toList == b.toList) = false := by
      rw [beq_eq_false_iff_ne]
      intro e
      rw [e, less_irrefl] at hl
      cases hl
    simp [hl, he]
  · have hl2 : Op.bytesLess a.toList b.toList = false := by simpa using hl
    cases he : (a.toList == b.toList) with
    | true =>
      simp only [hl2, he]
      by_cases h1 : s < t
      · simp [h1]
      · by_cases h2 : t < s
        · simp [h1, h2]
        · simp [h1, h2]
    | false => simp [hl2, he]
end Go.Proofs.YtcdkoadobdgbhaaGreatDoor
