/- grid: the document's Digits and Print. -/
import Derived.Test.YteelnimchlgdmaaDoorT14P
import Derived.Test.YteelnimchlgdmaaDoorRText
import Derived.Test.YteelnimchlgdmaaDoorROf
import Derived.Deep.RegionHeld3
namespace Go.Proofs.YteelnimchlgdmaaDoor
open Go.RowKit
set_option linter.unusedVariables false
set_option maxRecDepth 100000
set_option linter.unusedSimpArgs false

theorem txtI_neg (u : Nat) (hu : 1 ≤ u) : txtI (-(u : Int)) = ⟨#[45]⟩ ++ ⟨(Lib.decDigits u).toArray⟩ := by
  unfold txtI
  rw [itoa_min u hu]
  apply bl_inj
  rw [bl_app]
  rfl
theorem txtI_pos (u : Nat) : txtI (u : Int) = ⟨(Lib.decDigits u).toArray⟩ := by unfold txtI; rw [itoa_pos]
theorem dec_is {s : ByteArray} {u : Nat} (h : Txt s) (e : num s = u) : s = ⟨(Lib.decDigits u).toArray⟩ := num_inj h (txt_dec u).1 (by rw [e, (txt_dec u).2])
set_option maxHeartbeats 1600000 in
theorem digits_any (n : Int) (hn : I64b n) (w : World) :
    Calls Tryd.prog 20 #[.int .i64 n] w fun e w' => e = .returned (.string (txtI n)) ∧ Below w.heap.size w w' := by
  have ⟨h1, h2⟩ := hn
  by_cases h0 : n < 0
  · obtain ⟨u, rfl⟩ : ∃ u : Nat, n = -((u : Int) + 1) := ⟨(-n).toNat - 1, by omega⟩
    have HT := hid (show txtI (-((u : Int) + 1)) = _ from txtI_neg (u + 1) (by omega))
    rw [HT.out]
    have e1 : IntKind.i64.wrap (-((u : Int) + 1) + 1) = -(u : Int) := by simp [IntKind.wrap, IntKind.bits, IntKind.signed]; omega
    have e2 : IntKind.i64.wrap (u : Int) = (u : Int) := by simp [IntKind.wrap, IntKind.bits, IntKind.signed]; omega
    have e3 : IntKind.u64.wrap (u : Int) = (u : Int) := w64 _ (by omega) (by omega)
    have e4 : IntKind.u64.wrap ((u : Int) + 1) = ((u + 1 : Nat) : Int) := w64 _ (by omega) (by omega)
    have HR := hid (fun W => rof_any (u + 1) (by omega) W)
    go_enter Tryd.func20, Tryd.ntmps20
    have HR1 := HR.out w
    rw [show ((u + 1 : Nat) : Int) = (u : Int) + 1 by omega] at HR1
    have HR2 := hid HR1
    clear HR HR1
    go_wp2_with fail
    refine HR2.out.mono ?_
    rintro e w1 ⟨v, rfl, hv, b1⟩
    have HB := hid b1
    have HV := hid hv
    clear b1 hv HR2
    go_wp2_with fail
    refine (rtext_any w1 v (u + 1) 3 (by omega) HV.out).mono ?_
    rintro e w2 ⟨⟨t, rfl, ht, hu⟩, b2⟩
    have HD := hid (dec_is ht hu)
    rw [← HD.out] at HT
    have hsz : t.size ≤ 20 := by
      have h := itoa_len20 _ hn
      rw [HT.out, ByteArray.size_append] at h
      have h1 : ({ data := #[45] } : ByteArray).size = 1 := rfl
      omega
    have HB2 := hid (chain2 HB.out b2)
    clear ht hu b2 HT hn
    go_wp2
    go_ret
    exact ⟨by rw [← HD.out]; rfl, HB2.out⟩
  · obtain ⟨u, rfl⟩ : ∃ u : Nat, n = (u : Int) := ⟨n.toNat, by omega⟩
    rw [txtI_pos]
    have e3 : IntKind.u64.wrap (u : Int) = (u : Int) := w64 _ (by omega) (by omega)
    go_enter Tryd.func20, Tryd.ntmps20
    go_wp2_with fail
    refine (rof_any u (by omega) w).mono ?_
    rintro e w1 ⟨v, rfl, hv, b1⟩
    have HB := hid b1
    have HV := hid hv
    clear b1 hv
    go_wp2_with fail
    refine (rtext_any w1 v u 3 (by omega) HV.out).mono ?_
    rintro e w2 ⟨⟨t, rfl, ht, hu⟩, b2⟩
    rw [dec_is ht hu]
    have HB2 := hid (chain2 HB.out b2)
    clear ht hu b2
    go_wp2
    go_ret
    exact ⟨rfl, HB2.out⟩
theorem join_snoc (L : List Int) (n : Int) : joinB (wds (L ++ [n])) = joinB (wds L) ++ ⟨#[32]⟩ ++ txtI n := by
  rw [wds_snoc]
  apply bl_inj
  rw [join_bl, List.map_append, List.map_singleton, jn_snoc 32 _ _ (by simp [wds]), bl_app, bl_app, join_bl]
  simp
  rfl
theorem ln3_of {S : List Ln} {l : Ln} (h : l ∈ S) : l.f ∈ ln3 S ∧ l.t ∈ ln3 S ∧ l.c ∈ ln3 S := by
  induction S with
  | nil => simp at h
  | cons a r ih =>
    rw [ln3]
    rcases List.mem_cons.1 h with rfl | h
    · simp
    · obtain ⟨i1, i2, i3⟩ := ih h
      simp [i1, i2, i3]
theorem join_four (a b c d : Int) : ((((((({ data := #[103, 114, 105, 100, 32] } : ByteArray) ++ txtI a ++ { data := #[32] }) ++ txtI b) ++ { data := #[32] }) ++ txtI c) ++ { data := #[32] }) ++ txtI d) = joinB (wds [a, b, c, d]) := by
  rw [show [a, b, c, d] = (([] ++ [a]) ++ [b]) ++ [c] ++ [d] from rfl, join_snoc, join_snoc, join_snoc, join_snoc]
  have e : joinB (wds []) ++ ({ data := #[32] } : ByteArray) = { data := #[103, 114, 105, 100, 32] } := by decide
  rw [e]
theorem join_three (L : List Int) (a b c : Int) : ((((((joinB (wds L) ++ ({ data := #[32] } : ByteArray)) ++ txtI a) ++ { data := #[32] }) ++ txtI b) ++ { data := #[32] }) ++ txtI c) = joinB (wds (L ++ [a, b, c])) := by
  rw [show L ++ [a, b, c] = ((L ++ [a]) ++ [b]) ++ [c] by simp, join_snoc, join_snoc, join_snoc]
set_option maxHeartbeats 6400000 in
theorem gmprint_any (w : World) (g : Gr) (la : Option Addr) (lc : Nat) (h : Lns w (.slice la g.lines.length lc) g.lines) (hn : g.lines.length ≤ 256) (h64 : ∀ n ∈ nms g, I64b n) :
    Calls Tryd.prog 10 #[.agg #[.int .i64 g.zones, .int .i64 g.hours, .slice la g.lines.length lc, .int .i64 g.low, .int .i64 g.high]] w fun e w' => e = .returned (.string (prt g)) ∧ Below w.heap.size w w' := by
  have HTN := hid (show nms g = [g.zones, g.hours, g.low, g.high] ++ ln3 g.lines from rfl)
  have HP := hid (show prt g = joinB (wds (nms g)) from rfl)
  rw [HP.out, HTN.out]
  rw [HTN.out] at h64
  clear HP HTN
  obtain ⟨Z, H, lo, hi, S⟩ := g
  simp only at h h64 hn ⊢
  have HZ1 := hid (h64 Z (by simp))
  have HZ2 := hid (h64 H (by simp))
  have HZ3 := hid (h64 lo (by simp))
  have HZ4 := hid (h64 hi (by simp))
  obtain ⟨x1, x2, e, hl, hm⟩ := h.slice
  simp only [Value.slice.injEq] at e
  obtain ⟨rfl, -, rfl⟩ := e
  unfold maxLen at hm
  have b1 := ibel w (Obj.cells #[.int .i64 Z, .int .i64 H, .slice la S.length lc, .int .i64 lo, .int .i64 hi] 24)
  have xg := inew w (Obj.cells #[.int .i64 Z, .int .i64 H, .slice la S.length lc, .int .i64 lo, .int .i64 hi] 24)
  have HB0 := hid b1
  have HL0 := hid (h.below b1)
  have HC := hid (fun (Y : World) (b : Below (w.alloc (Obj.cells #[.int .i64 Z, .int .i64 H, .slice la S.length lc, .int .i64 lo, .int .i64 hi] 24)).heap.size (w.alloc (Obj.cells #[.int .i64 Z, .int .i64 H, .slice la S.length lc, .int .i64 lo, .int .i64 hi] 24)) Y) => (⟨ikc b (ibx xg 0 _ rfl), ikc b (ibx xg 1 _ rfl), ikc b (ibx xg 3 _ rfl), ikc b (ibx xg 4 _ rfl)⟩ : Y.cell? ⟨w.heap.size, 0, none⟩ = some (.int .i64 Z) ∧ Y.cell? ⟨w.heap.size, 1, none⟩ = some (.int .i64 H) ∧ Y.cell? ⟨w.heap.size, 3, none⟩ = some (.int .i64 lo) ∧ Y.cell? ⟨w.heap.size, 4, none⟩ = some (.int .i64 hi)))
  have HC2 := hid (fun (Y : World) (b : Below (w.alloc (Obj.cells #[.int .i64 Z, .int .i64 H, .slice la S.length lc, .int .i64 lo, .int .i64 hi] 24)).heap.size (w.alloc (Obj.cells #[.int .i64 Z, .int .i64 H, .slice la S.length lc, .int .i64 lo, .int .i64 hi] 24)) Y) => ikc b (ibx xg 2 (.slice la S.length lc) rfl))
  have s1 : (txtI Z).size ≤ 21 := itoa_len20 _ HZ1.out
  have s2 : (txtI H).size ≤ 21 := itoa_len20 _ HZ2.out
  have s3 : (txtI lo).size ≤ 21 := itoa_len20 _ HZ3.out
  have s4 : (txtI hi).size ≤ 21 := itoa_len20 _ HZ4.out
  clear b1 xg h
  go_enter Tryd.func10, Tryd.ntmps10
  go_wp2_with fail
  have F0 : Below (w.alloc (Obj.cells #[.int .i64 Z, .int .i64 H, .slice la S.length lc, .int .i64 lo, .int .i64 hi] 24)).heap.size (w.alloc (Obj.cells #[.int .i64 Z, .int .i64 H, .slice la S.length lc, .int .i64 lo, .int .i64 hi] 24)) (w.alloc (Obj.cells #[.int .i64 Z, .int .i64 H, .slice la S.length lc, .int .i64 lo, .int .i64 hi] 24)).drew := (Below.refl _ _).drew
  generalize w.alloc (Obj.cells #[.int .i64 Z, .int .i64 H, .slice la S.length lc, .int .i64 lo, .int .i64 hi] 24) = W1 at *
  refine wp_region_noPanic ?_
  refine wp_region_held_drew (S := fun Y => Y.cell? ⟨w.heap.size, 0, none⟩ = some (.int .i64 Z) ∧ Y.cell? ⟨w.heap.size, 1, none⟩ = some (.int .i64 H) ∧ Y.cell? ⟨w.heap.size, 3, none⟩ = some (.int .i64 lo) ∧ Y.cell? ⟨w.heap.size, 4, none⟩ = some (.int .i64 hi)) (by kernel_rfl) (HC.out _ F0) (fun hHeld => ?_)
  refine wpAnyH_take (i := 0) (v := ?_) rfl (by kernel_rfl) (by kernel_rfl) (by kernel_rfl) (fun _ _ _ h => h) (Or.inl ⟨by rfl, ?_⟩) (by assumption) ?_
  rotate_left
  · intro w hSw
    (try dsimp only at hSw)
    go_simp
    (try with_reducible rfl)
  (try simp only [List.getElem_toArray, List.getElem_cons_zero, List.getElem_cons_succ, Act.put, List.setIfInBounds_toArray, List.set_cons_zero, List.set_cons_succ])
  refine wpAnyH_take (i := 1) (v := ?_) rfl (by kernel_rfl) (by kernel_rfl) (by kernel_rfl) (fun _ _ _ h => h) (Or.inl ⟨by rfl, ?_⟩) (by assumption) ?_
  rotate_left
  · intro w hSw
    (try dsimp only at hSw)
    go_simp
    (try with_reducible rfl)
  (try simp only [List.getElem_toArray, List.getElem_cons_zero, List.getElem_cons_succ, Act.put, List.setIfInBounds_toArray, List.set_cons_zero, List.set_cons_succ])
  refine wpAnyH_take (i := 5) (v := ?_) rfl (by kernel_rfl) (by kernel_rfl) (by kernel_rfl) (fun _ _ _ h => h) (Or.inl ⟨by rfl, ?_⟩) (by assumption) ?_
  rotate_left
  · intro w hSw
    (try dsimp only at hSw)
    go_simp
    (try with_reducible rfl)
  (try simp only [List.getElem_toArray, List.getElem_cons_zero, List.getElem_cons_succ, Act.put, List.setIfInBounds_toArray, List.set_cons_zero, List.set_cons_succ])
  refine wpAnyH_take (i := 6) (v := ?_) rfl (by kernel_rfl) (by kernel_rfl) (by kernel_rfl) (fun _ _ _ h => h) (Or.inl ⟨by rfl, ?_⟩) (by assumption) ?_
  rotate_left
  · intro w hSw
    (try dsimp only at hSw)
    go_simp
    (try with_reducible rfl)
  (try simp only [List.getElem_toArray, List.getElem_cons_zero, List.getElem_cons_succ, Act.put, List.setIfInBounds_toArray, List.set_cons_zero, List.set_cons_succ])
  refine wpAnyH_take (i := 10) (v := ?_) rfl (by kernel_rfl) (by kernel_rfl) (by kernel_rfl) (fun _ _ _ h => h) (Or.inl ⟨by rfl, ?_⟩) (by assumption) ?_
  rotate_left
  · intro w hSw
    (try dsimp only at hSw)
    go_simp
    (try with_reducible rfl)
  (try simp only [List.getElem_toArray, List.getElem_cons_zero, List.getElem_cons_succ, Act.put, List.setIfInBounds_toArray, List.set_cons_zero, List.set_cons_succ])
  refine wpAnyH_take (i := 11) (v := ?_) rfl (by kernel_rfl) (by kernel_rfl) (by kernel_rfl) (fun _ _ _ h => h) (Or.inl ⟨by rfl, ?_⟩) (by assumption) ?_
  rotate_left
  · intro w hSw
    (try dsimp only at hSw)
    go_simp
    (try with_reducible rfl)
  (try simp only [List.getElem_toArray, List.getElem_cons_zero, List.getElem_cons_succ, Act.put, List.setIfInBounds_toArray, List.set_cons_zero, List.set_cons_succ])
  refine wpAnyH_take (i := 15) (v := ?_) rfl (by kernel_rfl) (by kernel_rfl) (by kernel_rfl) (fun _ _ _ h => h) (Or.inl ⟨by rfl, ?_⟩) (by assumption) ?_
  rotate_left
  · intro w hSw
    (try dsimp only at hSw)
    go_simp
    (try with_reducible rfl)
  (try simp only [List.getElem_toArray, List.getElem_cons_zero, List.getElem_cons_succ, Act.put, List.setIfInBounds_toArray, List.set_cons_zero, List.set_cons_succ])
  refine wpAnyH_take (i := 16) (v := ?_) rfl (by kernel_rfl) (by kernel_rfl) (by kernel_rfl) (fun _ _ _ h => h) (Or.inl ⟨by rfl, ?_⟩) (by assumption) ?_
  rotate_left
  · intro w hSw
    (try dsimp only at hSw)
    go_simp
    (try with_reducible rfl)
  (try simp only [List.getElem_toArray, List.getElem_cons_zero, List.getElem_cons_succ, Act.put, List.setIfInBounds_toArray, List.set_cons_zero, List.set_cons_succ])
  refine wpAnyH_ready (rs := [2]) (by kernel_rfl) (by simp) ?_
  refine AllReadyH.cons (o := _) rfl (fun Kc hKc => ?_) AllReadyH.nil
  go_simp
  go_at_call 20
  refine (digits_any Z HZ1.out _).mono ?_
  rintro e w' ⟨rfl, hb⟩
  have F1 := chain2 F0 hb
  dsimp only
  refine hKc.out _ _ (HC.out _ F1) (fun hHeld => ?_)
  clear hKc Kc
  (try simp only [List.getElem_toArray, List.getElem_cons_zero, List.getElem_cons_succ, Act.put, List.setIfInBounds_toArray, List.set_cons_zero, List.set_cons_succ])
  refine wpAnyH_take (i := 3) (v := ?_) rfl (by kernel_rfl) (by kernel_rfl) (by kernel_rfl) (fun _ _ _ h => h) (Or.inl ⟨by rfl, ?_⟩) (by assumption) ?_
  rotate_left
  · intro w hSw
    (try dsimp only at hSw)
    go_simp
    (try rw [if_neg (by (try simp only [ByteArray.size_append]); omega)])
    (try with_reducible rfl)
  (try simp only [List.getElem_toArray, List.getElem_cons_zero, List.getElem_cons_succ, Act.put, List.setIfInBounds_toArray, List.set_cons_zero, List.set_cons_succ])
  refine wpAnyH_take (i := 4) (v := ?_) rfl (by kernel_rfl) (by kernel_rfl) (by kernel_rfl) (fun _ _ _ h => h) (Or.inl ⟨by rfl, ?_⟩) (by assumption) ?_
  rotate_left
  · intro w hSw
    (try dsimp only at hSw)
    go_simp
    (try rw [if_neg (by (try simp only [ByteArray.size_append]); omega)])
    (try with_reducible rfl)
  (try simp only [List.getElem_toArray, List.getElem_cons_zero, List.getElem_cons_succ, Act.put, List.setIfInBounds_toArray, List.set_cons_zero, List.set_cons_succ])
  refine wpAnyH_ready (rs := [7]) (by kernel_rfl) (by simp) ?_
  refine AllReadyH.cons (o := _) rfl (fun Kc hKc => ?_) AllReadyH.nil
  go_simp
  go_at_call 20
  refine (digits_any H HZ2.out _).mono ?_
  rintro e w' ⟨rfl, hb⟩
  have F2 := chain2 F1 hb
  dsimp only
  refine hKc.out _ _ (HC.out _ F2) (fun hHeld => ?_)
  clear hKc Kc
  (try simp only [List.getElem_toArray, List.getElem_cons_zero, List.getElem_cons_succ, Act.put, List.setIfInBounds_toArray, List.set_cons_zero, List.set_cons_succ])
  refine wpAnyH_take (i := 8) (v := ?_) rfl (by kernel_rfl) (by kernel_rfl) (by kernel_rfl) (fun _ _ _ h => h) (Or.inl ⟨by rfl, ?_⟩) (by assumption) ?_
  rotate_left
  · intro w hSw
    (try dsimp only at hSw)
    go_simp
    (try rw [if_neg (by (try simp only [ByteArray.size_append]); omega)])
    (try with_reducible rfl)
  (try simp only [List.getElem_toArray, List.getElem_cons_zero, List.getElem_cons_succ, Act.put, List.setIfInBounds_toArray, List.set_cons_zero, List.set_cons_succ])
  refine wpAnyH_take (i := 9) (v := ?_) rfl (by kernel_rfl) (by kernel_rfl) (by kernel_rfl) (fun _ _ _ h => h) (Or.inl ⟨by rfl, ?_⟩) (by assumption) ?_
  rotate_left
  · intro w hSw
    (try dsimp only at hSw)
    go_simp
    (try rw [if_neg (by (try simp only [ByteArray.size_append]); omega)])
    (try with_reducible rfl)
  (try simp only [List.getElem_toArray, List.getElem_cons_zero, List.getElem_cons_succ, Act.put, List.setIfInBounds_toArray, List.set_cons_zero, List.set_cons_succ])
  refine wpAnyH_ready (rs := [12]) (by kernel_rfl) (by simp) ?_
  refine AllReadyH.cons (o := _) rfl (fun Kc hKc => ?_) AllReadyH.nil
  go_simp
  go_at_call 20
  refine (digits_any lo HZ3.out _).mono ?_
  rintro e w' ⟨rfl, hb⟩
  have F3 := chain2 F2 hb
  dsimp only
  refine hKc.out _ _ (HC.out _ F3) (fun hHeld => ?_)
  clear hKc Kc
  (try simp only [List.getElem_toArray, List.getElem_cons_zero, List.getElem_cons_succ, Act.put, List.setIfInBounds_toArray, List.set_cons_zero, List.set_cons_succ])
  refine wpAnyH_take (i := 13) (v := ?_) rfl (by kernel_rfl) (by kernel_rfl) (by kernel_rfl) (fun _ _ _ h => h) (Or.inl ⟨by rfl, ?_⟩) (by assumption) ?_
  rotate_left
  · intro w hSw
    (try dsimp only at hSw)
    go_simp
    (try rw [if_neg (by (try simp only [ByteArray.size_append]); omega)])
    (try with_reducible rfl)
  (try simp only [List.getElem_toArray, List.getElem_cons_zero, List.getElem_cons_succ, Act.put, List.setIfInBounds_toArray, List.set_cons_zero, List.set_cons_succ])
  refine wpAnyH_take (i := 14) (v := ?_) rfl (by kernel_rfl) (by kernel_rfl) (by kernel_rfl) (fun _ _ _ h => h) (Or.inl ⟨by rfl, ?_⟩) (by assumption) ?_
  rotate_left
  · intro w hSw
    (try dsimp only at hSw)
    go_simp
    (try rw [if_neg (by (try simp only [ByteArray.size_append]); omega)])
    (try with_reducible rfl)
  (try simp only [List.getElem_toArray, List.getElem_cons_zero, List.getElem_cons_succ, Act.put, List.setIfInBounds_toArray, List.set_cons_zero, List.set_cons_succ])
  refine wpAnyH_ready (rs := [17]) (by kernel_rfl) (by simp) ?_
  refine AllReadyH.cons (o := _) rfl (fun Kc hKc => ?_) AllReadyH.nil
  go_simp
  go_at_call 20
  refine (digits_any hi HZ4.out _).mono ?_
  rintro e w' ⟨rfl, hb⟩
  have F4 := chain2 F3 hb
  dsimp only
  refine hKc.out _ _ (HC.out _ F4) (fun hHeld => ?_)
  clear hKc Kc
  (try simp only [List.getElem_toArray, List.getElem_cons_zero, List.getElem_cons_succ, Act.put, List.setIfInBounds_toArray, List.set_cons_zero, List.set_cons_succ])
  refine wpAnyH_take (i := 18) (v := ?_) rfl (by kernel_rfl) (by kernel_rfl) (by kernel_rfl) (fun _ _ _ h => h) (Or.inl ⟨by rfl, ?_⟩) (by assumption) ?_
  rotate_left
  · intro w hSw
    (try dsimp only at hSw)
    go_simp
    (try rw [if_neg (by (try simp only [ByteArray.size_append]); omega)])
    (try with_reducible rfl)
  (try simp only [List.getElem_toArray, List.getElem_cons_zero, List.getElem_cons_succ, Act.put, List.setIfInBounds_toArray, List.set_cons_zero, List.set_cons_succ])
  refine wpAnyH_take (i := 19) (v := ?_) rfl (by kernel_rfl) (by kernel_rfl) (by kernel_rfl) (fun _ _ _ h => h) (Or.inl ⟨by rfl, ?_⟩) (by assumption) ?_
  rotate_left
  · intro w hSw
    (try dsimp only at hSw)
    go_simp
    (try with_reducible rfl)
  (try simp only [List.getElem_toArray, List.getElem_cons_zero, List.getElem_cons_succ, Act.put, List.setIfInBounds_toArray, List.set_cons_zero, List.set_cons_succ])
  refine wpAnyH_done (by kernel_rfl) ?_ _
  refine NoPanic.normal ?_

  rw [join_four]
  have HF := hid F4
  clear F0 F1 F2 F3 F4 hb hHeld HZ1 HZ2 HZ3 HZ4 s1 s2 s3 s4
  rename_i w5
  go_wp2_with fail
  go_loopw [3, 4] (fun sv iv wr => ∃ k : Nat, k ≤ S.length ∧ iv = .int .i64 (k : Int) ∧ sv = .string (joinB (wds ([Z, H, lo, hi] ++ ln3 (S.take k)))) ∧ Hid (Below W1.heap.size W1 wr)) (fun _ iv _ => S.length - (intOf iv).toNat)
  case atStart => exact ⟨0, Nat.zero_le _, rfl, rfl, HF⟩
  case round =>
    clear HF
    obtain ⟨k, hk, rfl, rfl, HF⟩ := hrel
    have c2 := HC2.out wr HF.out
    by_cases hlt : k < S.length
    · obtain ⟨sb, so, sc', e, g0, g1, q0, q1, q2⟩ := (HL0.out.below HF.out).at k hlt
      simp only [Value.slice.injEq] at e
      obtain ⟨rfl, -, rfl⟩ := e
      have HT := hid (List.take_succ_eq_append_getElem hlt)
      have HMM := hid (List.getElem_mem hlt)
      obtain ⟨l, HL⟩ : ∃ l, Hid (S[k] = l) := ⟨_, hid rfl⟩
      rw [HL.out] at q0 q1 q2 HT HMM
      have HZ1 := hid (h64 l.f (by simp [ln3_of HMM.out]))
      have HZ2 := hid (h64 l.t (by simp [ln3_of HMM.out]))
      have HZ3 := hid (h64 l.c (by simp [ln3_of HMM.out]))
      have HC := hid (fun (Y : World) (b : Below wr.heap.size wr Y) => (⟨ikc b c2, ikc b q0, ikc b q1, ikc b q2⟩ : Y.cell? ⟨w.heap.size, 2, none⟩ = some (.slice (some ⟨sb, so, none⟩) S.length lc) ∧ Y.cell? ⟨sb, so + k * 3, none⟩ = some (.int .i64 l.f) ∧ Y.cell? ⟨sb, so + k * 3 + 1, none⟩ = some (.int .i64 l.t) ∧ Y.cell? ⟨sb, so + k * 3 + 2, none⟩ = some (.int .i64 l.c)))
      obtain ⟨J, HJ⟩ : ∃ J, Hid (joinB (wds ([Z, H, lo, hi] ++ ln3 (S.take k))) = J) := ⟨_, hid rfl⟩
      have sJ : J.size ≤ 20000 := by
        rw [← HJ.out]
        have h := prt_few (L := [Z, H, lo, hi] ++ ln3 (S.take k)) (fun n hn' => h64 n (by
          rcases List.mem_append.1 hn' with h | h
          · exact List.mem_append_left _ h
          · refine List.mem_append_right _ ?_
            obtain ⟨l', hl', e⟩ := ln3_mem h
            have := ln3_of (List.mem_of_mem_take hl')
            rcases e with rfl | rfl | rfl
            · exact this.1
            · exact this.2.1
            · exact this.2.2))
        rw [← join_bl, bl_len, List.length_append, ln3_len, List.length_take] at h
        simp only [List.length_cons, List.length_nil] at h
        omega
      have s1 : (txtI l.f).size ≤ 21 := itoa_len20 _ HZ1.out
      have s2 : (txtI l.t).size ≤ 21 := itoa_len20 _ HZ2.out
      have s3 : (txtI l.c).size ≤ 21 := itoa_len20 _ HZ3.out
      rw [HJ.out]
      have F0 : Below wr.heap.size wr wr.drew := (Below.refl _ _).drew
      go_wp2_with fail
      refine wp_region_noPanic ?_
      refine wp_region_held_drew (S := fun Y => Y.cell? ⟨w.heap.size, 2, none⟩ = some (.slice (some ⟨sb, so, none⟩) S.length lc) ∧ Y.cell? ⟨sb, so + k * 3, none⟩ = some (.int .i64 l.f) ∧ Y.cell? ⟨sb, so + k * 3 + 1, none⟩ = some (.int .i64 l.t) ∧ Y.cell? ⟨sb, so + k * 3 + 2, none⟩ = some (.int .i64 l.c)) (by kernel_rfl) (HC.out _ F0) (fun hHeld => ?_)
      refine wpAnyH_take (i := 0) (v := ?_) rfl (by kernel_rfl) (by kernel_rfl) (by kernel_rfl) (fun _ _ _ h => h) (Or.inl ⟨by rfl, ?_⟩) (by assumption) ?_
      rotate_left
      · intro w hSw
        (try dsimp only at hSw)
        go_simp
        (try with_reducible rfl)
      (try simp only [List.getElem_toArray, List.getElem_cons_zero, List.getElem_cons_succ, Act.put, List.setIfInBounds_toArray, List.set_cons_zero, List.set_cons_succ])
      refine wpAnyH_take (i := 1) (v := ?_) rfl (by kernel_rfl) (by kernel_rfl) (by kernel_rfl) (fun _ _ _ h => h) (Or.inl ⟨by rfl, ?_⟩) (by assumption) ?_
      rotate_left
      · intro w hSw
        (try dsimp only at hSw)
        go_simp
        (try rw [if_neg (by (try simp only [ByteArray.size_append]); omega)])
        (try with_reducible rfl)
      (try simp only [List.getElem_toArray, List.getElem_cons_zero, List.getElem_cons_succ, Act.put, List.setIfInBounds_toArray, List.set_cons_zero, List.set_cons_succ])
      refine wpAnyH_take (i := 2) (v := ?_) rfl (by kernel_rfl) (by kernel_rfl) (by kernel_rfl) (fun _ _ _ h => h) (Or.inl ⟨by rfl, ?_⟩) (by assumption) ?_
      rotate_left
      · intro w hSw
        (try dsimp only at hSw)
        go_simp
        (try with_reducible rfl)
      (try simp only [List.getElem_toArray, List.getElem_cons_zero, List.getElem_cons_succ, Act.put, List.setIfInBounds_toArray, List.set_cons_zero, List.set_cons_succ])
      refine wpAnyH_take (i := 3) (v := ?_) rfl (by kernel_rfl) (by kernel_rfl) (by kernel_rfl) (fun _ _ _ h => h) (Or.inl ⟨by rfl, ?_⟩) (by assumption) ?_
      rotate_left
      · intro w hSw
        (try dsimp only at hSw)
        go_simp
        (try with_reducible rfl)
      (try simp only [List.getElem_toArray, List.getElem_cons_zero, List.getElem_cons_succ, Act.put, List.setIfInBounds_toArray, List.set_cons_zero, List.set_cons_succ])
      refine wpAnyH_take (i := 4) (v := ?_) rfl (by kernel_rfl) (by kernel_rfl) (by kernel_rfl) (fun _ _ _ h => h) (Or.inl ⟨by rfl, ?_⟩) (by assumption) ?_
      rotate_left
      · intro w hSw
        (try dsimp only at hSw)
        go_simp
        (try with_reducible rfl)
      (try simp only [List.getElem_toArray, List.getElem_cons_zero, List.getElem_cons_succ, Act.put, List.setIfInBounds_toArray, List.set_cons_zero, List.set_cons_succ])
      refine wpAnyH_take (i := 5) (v := ?_) rfl (by kernel_rfl) (by kernel_rfl) (by kernel_rfl) (fun _ _ _ h => h) (Or.inl ⟨by rfl, ?_⟩) (by assumption) ?_
      rotate_left
      · intro w hSw
        (try dsimp only at hSw)
        go_simp
        (try with_reducible rfl)
      (try simp only [List.getElem_toArray, List.getElem_cons_zero, List.getElem_cons_succ, Act.put, List.setIfInBounds_toArray, List.set_cons_zero, List.set_cons_succ])
      refine wpAnyH_take (i := 6) (v := ?_) rfl (by kernel_rfl) (by kernel_rfl) (by kernel_rfl) (fun _ _ _ h => h) (Or.inl ⟨by rfl, ?_⟩) (by assumption) ?_
      rotate_left
      · intro w hSw
        (try dsimp only at hSw)
        go_simp
        (try with_reducible rfl)
      (try simp only [List.getElem_toArray, List.getElem_cons_zero, List.getElem_cons_succ, Act.put, List.setIfInBounds_toArray, List.set_cons_zero, List.set_cons_succ])
      refine wpAnyH_take (i := 7) (v := ?_) rfl (by kernel_rfl) (by kernel_rfl) (by kernel_rfl) (fun _ _ _ h => h) (Or.inl ⟨by rfl, ?_⟩) (by assumption) ?_
      rotate_left
      · intro w hSw
        (try dsimp only at hSw)
        go_simp
        (try with_reducible rfl)
      (try simp only [List.getElem_toArray, List.getElem_cons_zero, List.getElem_cons_succ, Act.put, List.setIfInBounds_toArray, List.set_cons_zero, List.set_cons_succ])
      refine wpAnyH_take (i := 11) (v := ?_) rfl (by kernel_rfl) (by kernel_rfl) (by kernel_rfl) (fun _ _ _ h => h) (Or.inl ⟨by rfl, ?_⟩) (by assumption) ?_
      rotate_left
      · intro w hSw
        (try dsimp only at hSw)
        go_simp
        (try with_reducible rfl)
      (try simp only [List.getElem_toArray, List.getElem_cons_zero, List.getElem_cons_succ, Act.put, List.setIfInBounds_toArray, List.set_cons_zero, List.set_cons_succ])
      refine wpAnyH_take (i := 12) (v := ?_) rfl (by kernel_rfl) (by kernel_rfl) (by kernel_rfl) (fun _ _ _ h => h) (Or.inl ⟨by rfl, ?_⟩) (by assumption) ?_
      rotate_left
      · intro w hSw
        (try dsimp only at hSw)
        go_simp
        (try with_reducible rfl)
      (try simp only [List.getElem_toArray, List.getElem_cons_zero, List.getElem_cons_succ, Act.put, List.setIfInBounds_toArray, List.set_cons_zero, List.set_cons_succ])
      refine wpAnyH_take (i := 13) (v := ?_) rfl (by kernel_rfl) (by kernel_rfl) (by kernel_rfl) (fun _ _ _ h => h) (Or.inl ⟨by rfl, ?_⟩) (by assumption) ?_
      rotate_left
      · intro w hSw
        (try dsimp only at hSw)
        go_simp
        (try with_reducible rfl)
      (try simp only [List.getElem_toArray, List.getElem_cons_zero, List.getElem_cons_succ, Act.put, List.setIfInBounds_toArray, List.set_cons_zero, List.set_cons_succ])
      refine wpAnyH_take (i := 14) (v := ?_) rfl (by kernel_rfl) (by kernel_rfl) (by kernel_rfl) (fun _ _ _ h => h) (Or.inl ⟨by rfl, ?_⟩) (by assumption) ?_
      rotate_left
      · intro w hSw
        (try dsimp only at hSw)
        go_simp
        (try with_reducible rfl)
      (try simp only [List.getElem_toArray, List.getElem_cons_zero, List.getElem_cons_succ, Act.put, List.setIfInBounds_toArray, List.set_cons_zero, List.set_cons_succ])
      refine wpAnyH_take (i := 15) (v := ?_) rfl (by kernel_rfl) (by kernel_rfl) (by kernel_rfl) (fun _ _ _ h => h) (Or.inl ⟨by rfl, ?_⟩) (by assumption) ?_
      rotate_left
      · intro w hSw
        (try dsimp only at hSw)
        go_simp
        (try with_reducible rfl)
      (try simp only [List.getElem_toArray, List.getElem_cons_zero, List.getElem_cons_succ, Act.put, List.setIfInBounds_toArray, List.set_cons_zero, List.set_cons_succ])
      refine wpAnyH_take (i := 16) (v := ?_) rfl (by kernel_rfl) (by kernel_rfl) (by kernel_rfl) (fun _ _ _ h => h) (Or.inl ⟨by rfl, ?_⟩) (by assumption) ?_
      rotate_left
      · intro w hSw
        (try dsimp only at hSw)
        go_simp
        (try with_reducible rfl)
      (try simp only [List.getElem_toArray, List.getElem_cons_zero, List.getElem_cons_succ, Act.put, List.setIfInBounds_toArray, List.set_cons_zero, List.set_cons_succ])
      refine wpAnyH_take (i := 20) (v := ?_) rfl (by kernel_rfl) (by kernel_rfl) (by kernel_rfl) (fun _ _ _ h => h) (Or.inl ⟨by rfl, ?_⟩) (by assumption) ?_
      rotate_left
      · intro w hSw
        (try dsimp only at hSw)
        go_simp
        (try with_reducible rfl)
      (try simp only [List.getElem_toArray, List.getElem_cons_zero, List.getElem_cons_succ, Act.put, List.setIfInBounds_toArray, List.set_cons_zero, List.set_cons_succ])
      refine wpAnyH_take (i := 21) (v := ?_) rfl (by kernel_rfl) (by kernel_rfl) (by kernel_rfl) (fun _ _ _ h => h) (Or.inl ⟨by rfl, ?_⟩) (by assumption) ?_
      rotate_left
      · intro w hSw
        (try dsimp only at hSw)
        go_simp
        (try with_reducible rfl)
      (try simp only [List.getElem_toArray, List.getElem_cons_zero, List.getElem_cons_succ, Act.put, List.setIfInBounds_toArray, List.set_cons_zero, List.set_cons_succ])
      refine wpAnyH_take (i := 22) (v := ?_) rfl (by kernel_rfl) (by kernel_rfl) (by kernel_rfl) (fun _ _ _ h => h) (Or.inl ⟨by rfl, ?_⟩) (by assumption) ?_
      rotate_left
      · intro w hSw
        (try dsimp only at hSw)
        go_simp
        (try with_reducible rfl)
      (try simp only [List.getElem_toArray, List.getElem_cons_zero, List.getElem_cons_succ, Act.put, List.setIfInBounds_toArray, List.set_cons_zero, List.set_cons_succ])
      refine wpAnyH_take (i := 23) (v := ?_) rfl (by kernel_rfl) (by kernel_rfl) (by kernel_rfl) (fun _ _ _ h => h) (Or.inl ⟨by rfl, ?_⟩) (by assumption) ?_
      rotate_left
      · intro w hSw
        (try dsimp only at hSw)
        go_simp
        (try with_reducible rfl)
      (try simp only [List.getElem_toArray, List.getElem_cons_zero, List.getElem_cons_succ, Act.put, List.setIfInBounds_toArray, List.set_cons_zero, List.set_cons_succ])
      refine wpAnyH_take (i := 24) (v := ?_) rfl (by kernel_rfl) (by kernel_rfl) (by kernel_rfl) (fun _ _ _ h => h) (Or.inl ⟨by rfl, ?_⟩) (by assumption) ?_
      rotate_left
      · intro w hSw
        (try dsimp only at hSw)
        go_simp
        (try with_reducible rfl)
      (try simp only [List.getElem_toArray, List.getElem_cons_zero, List.getElem_cons_succ, Act.put, List.setIfInBounds_toArray, List.set_cons_zero, List.set_cons_succ])
      refine wpAnyH_take (i := 25) (v := ?_) rfl (by kernel_rfl) (by kernel_rfl) (by kernel_rfl) (fun _ _ _ h => h) (Or.inl ⟨by rfl, ?_⟩) (by assumption) ?_
      rotate_left
      · intro w hSw
        (try dsimp only at hSw)
        go_simp
        (try with_reducible rfl)
      (try simp only [List.getElem_toArray, List.getElem_cons_zero, List.getElem_cons_succ, Act.put, List.setIfInBounds_toArray, List.set_cons_zero, List.set_cons_succ])
      refine wpAnyH_ready (rs := [8]) (by kernel_rfl) (by simp) ?_
      refine AllReadyH.cons (o := _) rfl (fun Kc hKc => ?_) AllReadyH.nil
      go_simp
      go_at_call 20
      refine (digits_any l.f HZ1.out _).mono ?_
      rintro e w' ⟨rfl, hb⟩
      have F1 := chain2 F0 hb
      dsimp only
      refine hKc.out _ _ (HC.out _ F1) (fun hHeld => ?_)
      clear hKc Kc
      (try simp only [List.getElem_toArray, List.getElem_cons_zero, List.getElem_cons_succ, Act.put, List.setIfInBounds_toArray, List.set_cons_zero, List.set_cons_succ])
      refine wpAnyH_take (i := 9) (v := ?_) rfl (by kernel_rfl) (by kernel_rfl) (by kernel_rfl) (fun _ _ _ h => h) (Or.inl ⟨by rfl, ?_⟩) (by assumption) ?_
      rotate_left
      · intro w hSw
        (try dsimp only at hSw)
        go_simp
        (try rw [if_neg (by (try simp only [ByteArray.size_append]); omega)])
        (try with_reducible rfl)
      (try simp only [List.getElem_toArray, List.getElem_cons_zero, List.getElem_cons_succ, Act.put, List.setIfInBounds_toArray, List.set_cons_zero, List.set_cons_succ])
      refine wpAnyH_take (i := 10) (v := ?_) rfl (by kernel_rfl) (by kernel_rfl) (by kernel_rfl) (fun _ _ _ h => h) (Or.inl ⟨by rfl, ?_⟩) (by assumption) ?_
      rotate_left
      · intro w hSw
        (try dsimp only at hSw)
        go_simp
        (try rw [if_neg (by (try simp only [ByteArray.size_append]); omega)])
        (try with_reducible rfl)
      (try simp only [List.getElem_toArray, List.getElem_cons_zero, List.getElem_cons_succ, Act.put, List.setIfInBounds_toArray, List.set_cons_zero, List.set_cons_succ])
      refine wpAnyH_ready (rs := [17]) (by kernel_rfl) (by simp) ?_
      refine AllReadyH.cons (o := _) rfl (fun Kc hKc => ?_) AllReadyH.nil
      go_simp
      go_at_call 20
      refine (digits_any l.t HZ2.out _).mono ?_
      rintro e w' ⟨rfl, hb⟩
      have F2 := chain2 F1 hb
      dsimp only
      refine hKc.out _ _ (HC.out _ F2) (fun hHeld => ?_)
      clear hKc Kc
      (try simp only [List.getElem_toArray, List.getElem_cons_zero, List.getElem_cons_succ, Act.put, List.setIfInBounds_toArray, List.set_cons_zero, List.set_cons_succ])
      refine wpAnyH_take (i := 18) (v := ?_) rfl (by kernel_rfl) (by kernel_rfl) (by kernel_rfl) (fun _ _ _ h => h) (Or.inl ⟨by rfl, ?_⟩) (by assumption) ?_
      rotate_left
      · intro w hSw
        (try dsimp only at hSw)
        go_simp
        (try rw [if_neg (by (try simp only [ByteArray.size_append]); omega)])
        (try with_reducible rfl)
      (try simp only [List.getElem_toArray, List.getElem_cons_zero, List.getElem_cons_succ, Act.put, List.setIfInBounds_toArray, List.set_cons_zero, List.set_cons_succ])
      refine wpAnyH_take (i := 19) (v := ?_) rfl (by kernel_rfl) (by kernel_rfl) (by kernel_rfl) (fun _ _ _ h => h) (Or.inl ⟨by rfl, ?_⟩) (by assumption) ?_
      rotate_left
      · intro w hSw
        (try dsimp only at hSw)
        go_simp
        (try rw [if_neg (by (try simp only [ByteArray.size_append]); omega)])
        (try with_reducible rfl)
      (try simp only [List.getElem_toArray, List.getElem_cons_zero, List.getElem_cons_succ, Act.put, List.setIfInBounds_toArray, List.set_cons_zero, List.set_cons_succ])
      refine wpAnyH_ready (rs := [26]) (by kernel_rfl) (by simp) ?_
      refine AllReadyH.cons (o := _) rfl (fun Kc hKc => ?_) AllReadyH.nil
      go_simp
      go_at_call 20
      refine (digits_any l.c HZ3.out _).mono ?_
      rintro e w' ⟨rfl, hb⟩
      have F3 := chain2 F2 hb
      dsimp only
      refine hKc.out _ _ (HC.out _ F3) (fun hHeld => ?_)
      clear hKc Kc
      (try simp only [List.getElem_toArray, List.getElem_cons_zero, List.getElem_cons_succ, Act.put, List.setIfInBounds_toArray, List.set_cons_zero, List.set_cons_succ])
      refine wpAnyH_take (i := 27) (v := ?_) rfl (by kernel_rfl) (by kernel_rfl) (by kernel_rfl) (fun _ _ _ h => h) (Or.inl ⟨by rfl, ?_⟩) (by assumption) ?_
      rotate_left
      · intro w hSw
        (try dsimp only at hSw)
        go_simp
        (try rw [if_neg (by (try simp only [ByteArray.size_append]); omega)])
        (try with_reducible rfl)
      (try simp only [List.getElem_toArray, List.getElem_cons_zero, List.getElem_cons_succ, Act.put, List.setIfInBounds_toArray, List.set_cons_zero, List.set_cons_succ])
      refine wpAnyH_take (i := 28) (v := ?_) rfl (by kernel_rfl) (by kernel_rfl) (by kernel_rfl) (fun _ _ _ h => h) (Or.inl ⟨by rfl, ?_⟩) (by assumption) ?_
      rotate_left
      · intro w hSw
        (try dsimp only at hSw)
        go_simp
        (try with_reducible rfl)
      (try simp only [List.getElem_toArray, List.getElem_cons_zero, List.getElem_cons_succ, Act.put, List.setIfInBounds_toArray, List.set_cons_zero, List.set_cons_succ])
      refine wpAnyH_done (by kernel_rfl) ?_ _
      refine NoPanic.normal ?_

      rw [← HJ.out, join_three, List.append_assoc, ← ln3_snoc, ← HT.out]
      have HF3 := hid (chain2 HF.out F3)
      clear F0 F1 F2 F3 hb hHeld HZ1 HZ2 HZ3 HF q0 q1 q2 c2 s1 s2 s3 sJ
      obtain ⟨J', HJ'⟩ : ∃ J, Hid (joinB (wds ([Z, H, lo, hi] ++ ln3 (S.take (k + 1)))) = J) := ⟨_, hid rfl⟩
      rw [HJ'.out]
      go_wp2_with fail
      go_roundw
      case rel => exact ⟨k + 1, by omega, by go_num, by rw [HJ'.out], HF3⟩
      case measure => simp [intOf]; omega
    · obtain rfl : k = S.length := by omega
      rw [List.take_of_length_le (Nat.le_refl _)]
      obtain ⟨J, HJ⟩ : ∃ J, Hid (joinB (wds ([Z, H, lo, hi] ++ ln3 S)) = J) := ⟨_, hid rfl⟩
      rw [HJ.out]
      go_wp2_with fail
      go_ret
      exact ⟨by show Ending.returned (.string J) = _; rw [← HJ.out]; rfl, HB0.out.trans (HF.out.mono HB0.out.size)⟩
end Go.Proofs.YteelnimchlgdmaaDoor
