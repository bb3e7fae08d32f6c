/- market: variables. -/
import Derived.Test.YtlkcfgjhgmpbcaaK15I
import Derived.Laws.EntriesVeiled
namespace Go.Proofs.Ytlkcfgjhgmpbcaa
open Go.RowKit Go.Shelf
attribute [local go_sem] Oper.semAt_some
set_option linter.unusedVariables false
set_option maxRecDepth 100000
set_option linter.unusedSimpArgs false

theorem Vw.grown {w w' : World} {base b7 : Nat} {X : List Vr} {lv : Value} {row : Option Nat} (h : Vw w base b7 X lv) (hg : w.grownBy w' row) (hr : ∀ r, row = some r → ∃ o : Obj, w.heap[r]? = some o ∧ o.isCells = false) : Vw w' base b7 X lv := by
  have ne : ∀ g c t fz, w.heap[g]? = some (.cells c t fz) → some g ≠ row := fun g c t fz hc e => by
    obtain ⟨o, ho, hoc⟩ := hr g e.symm
    rw [hc] at ho
    cases ho
    cases hoc
  refine ⟨(hg.block b7 (lt_of_block h.box) (ne _ _ _ _ h.box)).trans h.box, ⟨World.ownsRow.kept h.row.own hg ?_, h.row.n_⟩⟩
  cases hl : lv.ownBlock with
  | none => exact .inl rfl
  | some g =>
    obtain ⟨c, fz, hc⟩ := own_kindN h.row.own g hl
    exact .inr (ne _ _ _ _ hc)
def sVw (s : Sp) : Vr := if s.buy = true then ⟨s.zone, -1, 0, s.qty, s.price⟩ else ⟨-1, s.zone, 0, s.qty, wrap64 (-s.price)⟩
theorem sVw_eq {s : Sp} (h : rgS s = true) : sVw s = sVr s := by
  obtain ⟨_, _, h3, h4⟩ := rgS_iff.1 h
  unfold sVw sVr
  by_cases e : s.buy = true
  · rw [if_pos e, if_pos e]
  · rw [if_neg e, if_neg e, show wrap64 (-s.price) = -s.price by simp only [wrap64]; omega]
theorem Kq.upto {S : Nat → Prop} {a b c : World} {b7 : Nat} {lv : Value} (h : Kq (fun k => k = b7) a b) (k : Kq (fun k => k = b7 ∨ lv.ownBlock = some k) b c) (hr : ∀ g, lv.ownBlock = some g → a.heap.size ≤ g) : Kq (fun k => k = b7) a c :=
  ⟨k.os.trans h.os, k.tape.trans h.tape, k.output.trans h.output, Nat.le_trans h.size k.size, fun i hi hn => (k.block i (Nat.lt_of_lt_of_le hi h.size) (fun e => by
    rcases e with e | e
    · exact hn e
    · have := hr i e; omega)).trans (h.block i hi hn)⟩
theorem sVr_buy {s : Sp} (h : s.buy = true) : sVr s = ⟨s.zone, -1, 0, s.qty, s.price⟩ := by unfold sVr; rw [if_pos h]
theorem sVr_sell {s : Sp} (h : s.buy = false) : sVr s = ⟨-1, s.zone, 0, s.qty, -s.price⟩ := by unfold sVr; rw [if_neg (by rw [h]; decide)]
set_option maxHeartbeats 6400000 in
theorem variables_any (w : World) (Z Hs lo hi H : Int) (la : Option Addr) (lc : Nat) (L : List Ln) (hL : Lns w (.slice la L.length lc) L) (sa : Option Addr) (sc : Nat) (S : List Sp) (hs : Sps w (.slice sa S.length sc) S) (hS : S.length ≤ 64) (hL3 : L.length ≤ 3) (hR : ∀ s ∈ S, rgS s = true) (hC : ∀ l ∈ L, 0 ≤ l.c ∧ l.c ≤ 1000) :
    Calls Try.prog 13 #[.agg #[.int .i64 Z, .int .i64 Hs, .slice la L.length lc, .int .i64 lo, .int .i64 hi], .slice sa S.length sc, .int .i64 H] w fun e w' => ∃ lv, e = .returned lv ∧ Wr vrV 5 48 w' w.heap.size lv (vrs Z H S L) ∧ Below w.heap.size w w' := by
  obtain ⟨la', lc', le, ll, lm⟩ := hL.slice
  simp only [Value.slice.injEq] at le
  obtain ⟨rfl, -, rfl⟩ := le
  obtain ⟨sa', sc', se, sl, sm⟩ := hs.slice
  simp only [Value.slice.injEq] at se
  obtain ⟨rfl, -, rfl⟩ := se
  unfold maxLen at lm sm
  refine (callsIn_wide (n := 3)).1 ?_
  refine callsIn_of_wp_marks Try.func13 rfl trivial ?_ rfl
  simp only [Try.ntmps13, List.size_toArray, List.length_cons, List.length_nil, Nat.reduceAdd, Nat.reduceSub, Array.replicate_succ, Array.replicate_zero, List.push_toArray, List.append_toArray, List.nil_append, List.cons_append]
  have b1 := ibel w (Obj.cells #[.int .i64 Z, .int .i64 Hs, .slice la L.length lc, .int .i64 lo, .int .i64 hi] 24)
  have x1 := inew w (Obj.cells #[.int .i64 Z, .int .i64 Hs, .slice la L.length lc, .int .i64 lo, .int .i64 hi] 24)
  have z1 := ibx x1 0 (.int .i64 Z) rfl
  have z2 := ibx x1 1 (.int .i64 Hs) rfl
  have z3 := ibx x1 2 (.slice la L.length lc) rfl
  have z4 := ibx x1 3 (.int .i64 lo) rfl
  have z5 := ibx x1 4 (.int .i64 hi) rfl
  generalize hW1 : w.alloc (Obj.cells #[.int .i64 Z, .int .i64 Hs, .slice la L.length lc, .int .i64 lo, .int .i64 hi] 24) = W1 at *
  have s1 : W1.heap.size = w.heap.size + 1 := by rw [← hW1]; simp
  have b2 := ibel W1 (Obj.cells #[.slice none 0 0] 45)
  have x2 := inew W1 (Obj.cells #[.slice none 0 0] 45)
  have b3 := ibel (W1.alloc (Obj.cells #[.slice none 0 0] 45)) (Obj.cells #[(.func (.func 22) #[] #[.pointer (some ⟨w.heap.size + 1, 0, none⟩)])] 55)
  have x3 := inew (W1.alloc (Obj.cells #[.slice none 0 0] 45)) (Obj.cells #[(.func (.func 22) #[] #[.pointer (some ⟨w.heap.size + 1, 0, none⟩)])] 55)
  have z3' := ikc b3 (ikc b2 z3)
  have x2' := (b3.block _ (by simp)).trans x2
  have y3 := ibx x3 0 (.func (.func 22) #[] #[.pointer (some ⟨w.heap.size + 1, 0, none⟩)]) rfl
  simp only [World.size_alloc, s1] at x2' y3
  have BW3 := chain2 (chain2 b1 b2) b3
  have z1' := ikc b3 (ikc b2 z1)
  have z2' := ikc b3 (ikc b2 z2)
  have z4' := ikc b3 (ikc b2 z4)
  have z5' := ikc b3 (ikc b2 z5)
  gi_wp2
  generalize hW3 : (W1.alloc (Obj.cells #[.slice none 0 0] 45)).alloc (Obj.cells #[(.func (.func 22) #[] #[.pointer (some ⟨w.heap.size + 1, 0, none⟩)])] 55) = W3 at *
  have s3 : W3.heap.size = w.heap.size + 3 := by rw [← hW3]; simp [s1]
  clear hW1 hW3 b1 b2 b3 x1 x2 x3 z1 z2 z3 z4 z5 s1
  refine ⟨trivial, ?_⟩
  refine (callsIn_wide.2 (ofHour_any W3 Z Hs lo hi H la L.length lc sa S.length sc)).mono ?_
  rintro e W4 ⟨rfl, k1, k2, k3, k4, b4⟩
  have BW4 := chain2 BW3 b4
  have hs4 := hs.below BW4
  have q7 := (b4.block _ (lt_of_block x2')).trans x2'
  have q8 := ikc b4 y3
  have q3 := ikc b4 z3'
  have l7 := lt_of_block q7
  have HSR := hid hR
  have HSC := hid hC
  have HLH : Hid ((ofH Z H S).length ≤ 64) := hid (Nat.le_trans (List.length_filter_le _ _) hS)
  have HMEM := hid (fun (s : Sp) (h : s ∈ ofH Z H S) => show s ∈ S from (List.mem_filter.1 h).1)
  have HLW := hid (fun (Y : World) (k : Kq (fun k => k = w.heap.size + 1) W4 Y) => show Below w.heap.size w Y from BW4.trans (k.below (by have := BW4.size; omega) (fun j hj e => by omega)))
  have HLL := hid (fun (Y : World) (b : Below w.heap.size w Y) => hL.below b)
  clear x2' y3 z3' z1' z2' z4' z5' b4 hR hC hL BW3
  have HS3 := hid s3
  clear s3
  gi_wp2
  have s3 := HS3.out
  have HST := hid (ofHour1_stops 2 W4 (W3.heap.size + 1) (W3.heap.size + 2) W3.heap.size (w.heap.size + 1) Z H S (.slice sa S.length sc) hs4 k1 k2 k3 (by omega) (by omega) (by omega) (fun b off n c hne e => by
    simp only [Value.slice.injEq] at e
    obtain ⟨rfl, -, -⟩ := e
    have h1 := hs.lt hne
    omega))
  have HF := hid (fun (Y : World) (k : Kq (fun k => k = w.heap.size + 1) W4 Y) => show Y.cell? ⟨w.heap.size + 1 + 1, 0, none⟩ = some (.func (.func 22) #[] #[.pointer (some ⟨w.heap.size + 1, 0, none⟩)]) ∧ Y.cell? ⟨w.heap.size, 2, none⟩ = some (.slice la L.length lc) from
    ⟨k.cell q8 (by simp only; omega), k.cell q3 (by simp only; omega)⟩)
  clear hs4 k1 k2 k3 q8 q3 s3 hs
  refine wpIn_rangeFunc_ownH rfl (by omega) (gf := 26) (lb := #[.pointer (some ⟨W3.heap.size + 1, 0, none⟩), .pointer (some ⟨W3.heap.size + 2, 0, none⟩), .pointer (some ⟨W3.heap.size, 0, none⟩)]) rfl trivial (enters_of Try.func26 (by kernel_rfl) rfl)
    HST.out (fun h k => h.trans k) (fun W l o o' hl ho hoc _ => (Kq.refl _ W).grown (grownBy_putObj' W l o') (fun g e => by cases e; exact Or.inl (Or.inr hl))) (Below.refl _ _) (fun _ => rfl)
    (fun pre W => ∃ lv, Vw W W4.heap.size (w.heap.size + 1) (pre.map sVw) lv ∧ Kq (fun k => k = w.heap.size + 1) W4 W)
    (fun cd pre W => False)
    (fun pre A A' row ⟨lv, h1, h2⟩ hg hr => ⟨lv, h1.grown hg (fun r e => (hr r e).2), h2.grown hg (fun g e => Or.inr (hr g e).1)⟩)
    (fun cd pre A A' row h hg hr => h)
    ⟨_, ⟨q7, Wr.none vrV_len _ _⟩, Kq.refl _ _⟩
    (fun x a' W => ∃ bx, W4.heap.size ≤ bx ∧ W.heap[bx]? = some (.cells #[.string x.who, .int .i64 x.seq, .int .i64 x.zone, .int .i64 x.hour, .bool x.buy, .int .i64 x.qty, .int .i64 x.price] 44 (0, 0)) ∧ a' = { tmps := #[.agg #[.int .i64 Z, .int .i64 Hs, .slice la L.length lc, .int .i64 lo, .int .i64 hi], .slice sa S.length sc, .int .i64 H, .pointer (some ⟨w.heap.size, 0, none⟩), undef, undef, .slice none 0 0, .pointer (some ⟨w.heap.size + 1, 0, none⟩), .pointer (some ⟨w.heap.size + 1 + 1, 0, none⟩), .pointer (some ⟨bx, 0, none⟩), undef, undef, (.func (.func 22) #[] #[.pointer (some ⟨w.heap.size + 1, 0, none⟩)]), .agg #[.int .i64 Z, .int .i64 Hs, .slice la L.length lc, .int .i64 lo, .int .i64 hi], .slice sa S.length sc, .int .i64 H, (.func (.func 26) #[] #[.pointer (some ⟨W3.heap.size + 1, 0, none⟩), .pointer (some ⟨W3.heap.size + 2, 0, none⟩), .pointer (some ⟨W3.heap.size, 0, none⟩)]), .agg #[.string x.who, .int .i64 x.seq, .int .i64 x.zone, .int .i64 x.hour, .bool x.buy, .int .i64 x.qty, .int .i64 x.price], undef, undef, undef, undef, undef, undef, undef, undef, undef, undef, undef, undef, undef, undef, undef, undef, undef, undef, undef, undef, undef, undef, undef, undef, undef, undef, undef, undef, undef, undef, undef, undef, undef, undef, undef, undef, undef, undef, undef, undef, undef, undef, undef, undef], defers := [] })
    (fun x a' _ A A' row ⟨bx, h1, h2, h3⟩ hg hr => ⟨bx, h1, (hg.block bx (lt_of_block h2) (fun e => by
      obtain ⟨_, o, ho, hoc⟩ := hr bx e.symm
      rw [h2] at ho
      cases ho
      cases hoc)).trans h2, h3⟩) ?assign ?body ?done ?stop
  case assign =>
    rintro l pre x W K ⟨lv, hv, hk⟩ hK
    dsimp only [encsS]
    have bX := ibel W (Obj.cells #[.string x.who, .int .i64 x.seq, .int .i64 x.zone, .int .i64 x.hour, .bool x.buy, .int .i64 x.qty, .int .i64 x.price] 44)
    have x1 := inew W (Obj.cells #[.string x.who, .int .i64 x.seq, .int .i64 x.zone, .int .i64 x.hour, .bool x.buy, .int .i64 x.qty, .int .i64 x.price] 44)
    have HKK := hid (hK { tmps := #[.agg #[.int .i64 Z, .int .i64 Hs, .slice la L.length lc, .int .i64 lo, .int .i64 hi], .slice sa S.length sc, .int .i64 H, .pointer (some ⟨w.heap.size, 0, none⟩), undef, undef, .slice none 0 0, .pointer (some ⟨w.heap.size + 1, 0, none⟩), .pointer (some ⟨w.heap.size + 1 + 1, 0, none⟩), .pointer (some ⟨W.heap.size, 0, none⟩), undef, undef, (.func (.func 22) #[] #[.pointer (some ⟨w.heap.size + 1, 0, none⟩)]), .agg #[.int .i64 Z, .int .i64 Hs, .slice la L.length lc, .int .i64 lo, .int .i64 hi], .slice sa S.length sc, .int .i64 H, (.func (.func 26) #[] #[.pointer (some ⟨W3.heap.size + 1, 0, none⟩), .pointer (some ⟨W3.heap.size + 2, 0, none⟩), .pointer (some ⟨W3.heap.size, 0, none⟩)]), .agg #[.string x.who, .int .i64 x.seq, .int .i64 x.zone, .int .i64 x.hour, .bool x.buy, .int .i64 x.qty, .int .i64 x.price], undef, undef, undef, undef, undef, undef, undef, undef, undef, undef, undef, undef, undef, undef, undef, undef, undef, undef, undef, undef, undef, undef, undef, undef, undef, undef, undef, undef, undef, undef, undef, undef, undef, undef, undef, undef, undef, undef, undef, undef, undef, undef, undef, undef], defers := [] } (W.alloc (Obj.cells #[.string x.who, .int .i64 x.seq, .int .i64 x.zone, .int .i64 x.hour, .bool x.buy, .int .i64 x.qty, .int .i64 x.price] 44)) ((KeepsOthers.alloc W _).from _) (Kq.of_below bX) ⟨lv, hv.kept (Kq.of_below (S := fun _ => False) bX) id (fun _ _ => id), hk.alloc _⟩ ⟨W.heap.size, hk.size, x1, rfl⟩)
    clear hK bX x1
    gi_wp2
    exact HKK.out
  case body =>
    rintro lp pre x a' W hlp hrec ⟨lv, hv, hk⟩ ⟨bx, hbx, hbc, rfl⟩ hlen
    have p2 := ibx hbc 2 (.int .i64 x.zone) rfl
    have p5 := ibx hbc 5 (.int .i64 x.qty) rfl
    have p4 := ibx hbc 4 (.bool x.buy) rfl
    have p6 := ibx hbc 6 (.int .i64 x.price) rfl
    obtain ⟨f1, _⟩ := HF.out W hk
    have l8 := (HF.out W hk).1
    have HLEN : Hid ((pre.map sVw).length ≤ 4096) := hid (by rw [List.length_map]; have := HLH.out; omega)
    have HSZ : Hid (W4.heap.size ≤ W.drew.heap.size) := hid hk.size
    have HRB := hid (fun (g : Nat) (h : lv.ownBlock = some g) => (hv.row.own.lt g h).1)
    have HCL := hid (fun (g : Nat) (h : g = w.heap.size + 1 ∨ lv.ownBlock = some g) => show ∃ c t fz, W.heap[g]? = some (.cells c t fz) from by
      rcases h with rfl | h
      · exact ⟨_, _, _, hv.box⟩
      · obtain ⟨c, fz, hc⟩ := own_kindN hv.row.own g h
        exact ⟨_, _, _, hc⟩)
    have HNB : Hid (bx ≠ w.heap.size + 1 ∧ lv.ownBlock ≠ some bx) := hid ⟨by omega, fun e => by
      obtain ⟨c, fz, hc⟩ := own_kindN hv.row.own bx e
      rw [hbc] at hc
      simp at hc⟩
    have h8 : w.heap.size + 1 + 1 < W4.heap.size := by have := HS3.out; omega
    have HN8 : Hid (¬ (w.heap.size + 1 + 1 = w.heap.size + 1 ∨ lv.ownBlock = some (w.heap.size + 1 + 1))) := hid (fun h => by
      rcases h with h | h
      · omega
      · have := (hv.row.own.lt _ h).1; omega)
    clear hlp hrec hlen l8 hbc
    cases hbuy : x.buy with
    | true =>
      rw [hbuy] at p4
      have HSV := hid (show sVw x = ⟨x.zone, -1, 0, x.qty, bgtw true x.price⟩ by unfold sVw bgtw; rw [if_pos hbuy, if_pos rfl])
      have HCE := hid (show (W.drew.cell? ⟨w.heap.size + 1 + 1, 0, none⟩ = some (.func (.func 22) #[] #[.pointer (some ⟨w.heap.size + 1, 0, none⟩)]) ∧ W.drew.cell? ⟨bx, 2, none⟩ = some (.int .i64 x.zone) ∧ W.drew.cell? ⟨bx, 5, none⟩ = some (.int .i64 x.qty) ∧ W.drew.cell? ⟨bx, 4, none⟩ = some (.bool true) ∧ W.drew.cell? ⟨bx, 6, none⟩ = some (.int .i64 x.price)) from ⟨f1, p2, p5, p4, p6⟩)
      have HVD := hid (show Vw W.drew W4.heap.size (w.heap.size + 1) (pre.map sVw) lv from ⟨hv.box, ⟨hv.row.own.drew, hv.row.n_⟩⟩)
      have HC2 := hid (fun (Y : World) (k : Kq (fun k => k = w.heap.size + 1 ∨ lv.ownBlock = some k) W.drew Y) => show (Y.cell? ⟨w.heap.size + 1 + 1, 0, none⟩ = some (.func (.func 22) #[] #[.pointer (some ⟨w.heap.size + 1, 0, none⟩)]) ∧ Y.cell? ⟨bx, 2, none⟩ = some (.int .i64 x.zone) ∧ Y.cell? ⟨bx, 5, none⟩ = some (.int .i64 x.qty) ∧ Y.cell? ⟨bx, 4, none⟩ = some (.bool true) ∧ Y.cell? ⟨bx, 6, none⟩ = some (.int .i64 x.price)) from ⟨k.cell HCE.out.1 HN8.out, k.cell HCE.out.2.1 (by rintro (h | h); exact HNB.out.1 h; exact HNB.out.2 h), k.cell HCE.out.2.2.1 (by rintro (h | h); exact HNB.out.1 h; exact HNB.out.2 h), k.cell HCE.out.2.2.2.1 (by rintro (h | h); exact HNB.out.1 h; exact HNB.out.2 h), k.cell HCE.out.2.2.2.2 (by rintro (h | h); exact HNB.out.1 h; exact HNB.out.2 h)⟩)
      clear f1 p2 p5 p6
      gi_wp2
      refine region_held_round (S := fun Y => Y.cell? ⟨w.heap.size + 1 + 1, 0, none⟩ = some (.func (.func 22) #[] #[.pointer (some ⟨w.heap.size + 1, 0, none⟩)]) ∧ Y.cell? ⟨bx, 2, none⟩ = some (.int .i64 x.zone) ∧ Y.cell? ⟨bx, 5, none⟩ = some (.int .i64 x.qty) ∧ Y.cell? ⟨bx, 4, none⟩ = some (.bool true) ∧ Y.cell? ⟨bx, 6, none⟩ = some (.int .i64 x.price)) (by kernel_rfl) (by kernel_rfl) (by rintro ⟨a, w, h⟩; exact h) (HCE.out) (fun hHeld => ?_)
      refine wpAnyH_take (i := 0) (v := ?_) rfl (by kernel_rfl) (by kernel_rfl) (by kernel_rfl) (fun _ _ _ h => h) (Or.inl ⟨by rfl, ?_⟩) (by assumption) ?_
      rotate_left
      · intro w hSw
        (try dsimp only at hSw)
        go_simp
        (try with_reducible rfl)
      (try simp only [List.getElem_toArray, List.getElem_cons_zero, List.getElem_cons_succ, Act.put, List.setIfInBounds_toArray, List.set_cons_zero, List.set_cons_succ])
      refine wpAnyH_take (i := 1) (v := ?_) rfl (by kernel_rfl) (by kernel_rfl) (by kernel_rfl) (fun _ _ _ h => h) (Or.inl ⟨by rfl, ?_⟩) (by assumption) ?_
      rotate_left
      · intro w hSw
        (try dsimp only at hSw)
        go_simp
        (try with_reducible rfl)
      (try simp only [List.getElem_toArray, List.getElem_cons_zero, List.getElem_cons_succ, Act.put, List.setIfInBounds_toArray, List.set_cons_zero, List.set_cons_succ])
      refine wpAnyH_take (i := 2) (v := ?_) rfl (by kernel_rfl) (by kernel_rfl) (by kernel_rfl) (fun _ _ _ h => h) (Or.inl ⟨by rfl, ?_⟩) (by assumption) ?_
      rotate_left
      · intro w hSw
        (try dsimp only at hSw)
        go_simp
        (try with_reducible rfl)
      (try simp only [List.getElem_toArray, List.getElem_cons_zero, List.getElem_cons_succ, Act.put, List.setIfInBounds_toArray, List.set_cons_zero, List.set_cons_succ])
      refine wpAnyH_take (i := 3) (v := ?_) rfl (by kernel_rfl) (by kernel_rfl) (by kernel_rfl) (fun _ _ _ h => h) (Or.inl ⟨by rfl, ?_⟩) (by assumption) ?_
      rotate_left
      · intro w hSw
        (try dsimp only at hSw)
        go_simp
        (try with_reducible rfl)
      (try simp only [List.getElem_toArray, List.getElem_cons_zero, List.getElem_cons_succ, Act.put, List.setIfInBounds_toArray, List.set_cons_zero, List.set_cons_succ])
      refine wpAnyH_take (i := 4) (v := ?_) rfl (by kernel_rfl) (by kernel_rfl) (by kernel_rfl) (fun _ _ _ h => h) (Or.inl ⟨by rfl, ?_⟩) (by assumption) ?_
      rotate_left
      · intro w hSw
        (try dsimp only at hSw)
        go_simp
        (try with_reducible rfl)
      (try simp only [List.getElem_toArray, List.getElem_cons_zero, List.getElem_cons_succ, Act.put, List.setIfInBounds_toArray, List.set_cons_zero, List.set_cons_succ])
      refine wpAnyH_take (i := 5) (v := ?_) rfl (by kernel_rfl) (by kernel_rfl) (by kernel_rfl) (fun _ _ _ h => h) (Or.inl ⟨by rfl, ?_⟩) (by assumption) ?_
      rotate_left
      · intro w hSw
        (try dsimp only at hSw)
        go_simp
        (try with_reducible rfl)
      (try simp only [List.getElem_toArray, List.getElem_cons_zero, List.getElem_cons_succ, Act.put, List.setIfInBounds_toArray, List.set_cons_zero, List.set_cons_succ])
      refine wpAnyH_take (i := 6) (v := ?_) rfl (by kernel_rfl) (by kernel_rfl) (by kernel_rfl) (fun _ _ _ h => h) (Or.inl ⟨by rfl, ?_⟩) (by assumption) ?_
      rotate_left
      · intro w hSw
        (try dsimp only at hSw)
        go_simp
        (try with_reducible rfl)
      (try simp only [List.getElem_toArray, List.getElem_cons_zero, List.getElem_cons_succ, Act.put, List.setIfInBounds_toArray, List.set_cons_zero, List.set_cons_succ])
      refine wpAnyH_take (i := 7) (v := ?_) rfl (by kernel_rfl) (by kernel_rfl) (by kernel_rfl) (fun _ _ _ h => h) (Or.inl ⟨by rfl, ?_⟩) (by assumption) ?_
      rotate_left
      · intro w hSw
        (try dsimp only at hSw)
        go_simp
        (try with_reducible rfl)
      (try simp only [List.getElem_toArray, List.getElem_cons_zero, List.getElem_cons_succ, Act.put, List.setIfInBounds_toArray, List.set_cons_zero, List.set_cons_succ])
      refine wpAnyH_take (i := 8) (v := ?_) rfl (by kernel_rfl) (by kernel_rfl) (by kernel_rfl) (fun _ _ _ h => h) (Or.inl ⟨by rfl, ?_⟩) (by assumption) ?_
      rotate_left
      · intro w hSw
        (try dsimp only at hSw)
        go_simp
        (try with_reducible rfl)
      (try simp only [List.getElem_toArray, List.getElem_cons_zero, List.getElem_cons_succ, Act.put, List.setIfInBounds_toArray, List.set_cons_zero, List.set_cons_succ])
      refine wpAnyH_ready (rs := [9]) (by kernel_rfl) (by simp) ?_
      refine AllReadyH.cons (o := _) rfl (fun Kc hKc => ?_) AllReadyH.nil
      go_simp
      (go_at_call 24; refine (bought_any _ _ _).mono ?_; rintro e Y1 ⟨rfl, rfl⟩)
      dsimp only
      refine hKc.out _ _ (hHeld) (fun hHeld => ?_)
      clear hKc Kc
      (try simp only [List.getElem_toArray, List.getElem_cons_zero, List.getElem_cons_succ, Act.put, List.setIfInBounds_toArray, List.set_cons_zero, List.set_cons_succ])
      refine wpAnyH_ready (rs := [10]) (by kernel_rfl) (by simp) ?_
      refine AllReadyH.cons (o := _) rfl (fun Kc hKc => ?_) AllReadyH.nil
      go_simp
      (go_at_call 22; refine (lay_any _ W4.heap.size (w.heap.size + 1) (pre.map sVw) lv ⟨x.zone, -1, 0, x.qty, bgtw true x.price⟩ HVD.out HLEN.out HSZ.out).mono ?_; rintro e Y2 ⟨⟨u, rfl⟩, lv', hV2, hK2⟩)
      dsimp only
      refine hKc.out _ _ (HC2.out _ hK2) (fun hHeld => ?_)
      clear hKc Kc
      (try simp only [List.getElem_toArray, List.getElem_cons_zero, List.getElem_cons_succ, Act.put, List.setIfInBounds_toArray, List.set_cons_zero, List.set_cons_succ])
      refine wpAnyH_done (by kernel_rfl) ?_ _
      have hk2 : Kq (fun k => k = w.heap.size + 1 ∨ lv.ownBlock = some k) W Y2 := ⟨hK2.os, hK2.tape, hK2.output, hK2.size, hK2.block⟩
      have hX : (pre ++ [x]).map sVw = pre.map sVw ++ [⟨x.zone, -1, 0, x.qty, bgtw true x.price⟩] := by rw [List.map_append, List.map_cons, List.map_nil, HSV.out]
      have kf := (hk2.others HCL.out).from W4.heap.size
      have kk := hk2.weak (S' := fun k => k = w.heap.size + 1 ∨ W4.heap.size ≤ k) (fun k _ h => h.imp id (fun h => (HRB.out k h)))
      rw [← hX] at hV2
      gi_wp2
      exact ⟨kf, kk, lv', hV2, Kq.upto (S := fun _ => True) hk hk2 HRB.out⟩
    | false =>
      rw [hbuy] at p4
      have HSV := hid (show sVw x = ⟨-1, x.zone, 0, x.qty, bgtw false x.price⟩ by unfold sVw bgtw; rw [if_neg (by rw [hbuy]; decide), if_neg (by decide)])
      have HCE := hid (show (W.drew.cell? ⟨w.heap.size + 1 + 1, 0, none⟩ = some (.func (.func 22) #[] #[.pointer (some ⟨w.heap.size + 1, 0, none⟩)]) ∧ W.drew.cell? ⟨bx, 2, none⟩ = some (.int .i64 x.zone) ∧ W.drew.cell? ⟨bx, 5, none⟩ = some (.int .i64 x.qty) ∧ W.drew.cell? ⟨bx, 4, none⟩ = some (.bool false) ∧ W.drew.cell? ⟨bx, 6, none⟩ = some (.int .i64 x.price)) from ⟨f1, p2, p5, p4, p6⟩)
      have HVD := hid (show Vw W.drew W4.heap.size (w.heap.size + 1) (pre.map sVw) lv from ⟨hv.box, ⟨hv.row.own.drew, hv.row.n_⟩⟩)
      have HC2 := hid (fun (Y : World) (k : Kq (fun k => k = w.heap.size + 1 ∨ lv.ownBlock = some k) W.drew Y) => show (Y.cell? ⟨w.heap.size + 1 + 1, 0, none⟩ = some (.func (.func 22) #[] #[.pointer (some ⟨w.heap.size + 1, 0, none⟩)]) ∧ Y.cell? ⟨bx, 2, none⟩ = some (.int .i64 x.zone) ∧ Y.cell? ⟨bx, 5, none⟩ = some (.int .i64 x.qty) ∧ Y.cell? ⟨bx, 4, none⟩ = some (.bool false) ∧ Y.cell? ⟨bx, 6, none⟩ = some (.int .i64 x.price)) from ⟨k.cell HCE.out.1 HN8.out, k.cell HCE.out.2.1 (by rintro (h | h); exact HNB.out.1 h; exact HNB.out.2 h), k.cell HCE.out.2.2.1 (by rintro (h | h); exact HNB.out.1 h; exact HNB.out.2 h), k.cell HCE.out.2.2.2.1 (by rintro (h | h); exact HNB.out.1 h; exact HNB.out.2 h), k.cell HCE.out.2.2.2.2 (by rintro (h | h); exact HNB.out.1 h; exact HNB.out.2 h)⟩)
      clear f1 p2 p5 p6
      gi_wp2
      refine region_held_round (S := fun Y => Y.cell? ⟨w.heap.size + 1 + 1, 0, none⟩ = some (.func (.func 22) #[] #[.pointer (some ⟨w.heap.size + 1, 0, none⟩)]) ∧ Y.cell? ⟨bx, 2, none⟩ = some (.int .i64 x.zone) ∧ Y.cell? ⟨bx, 5, none⟩ = some (.int .i64 x.qty) ∧ Y.cell? ⟨bx, 4, none⟩ = some (.bool false) ∧ Y.cell? ⟨bx, 6, none⟩ = some (.int .i64 x.price)) (by kernel_rfl) (by kernel_rfl) (by rintro ⟨a, w, h⟩; exact h) (HCE.out) (fun hHeld => ?_)
      refine wpAnyH_take (i := 0) (v := ?_) rfl (by kernel_rfl) (by kernel_rfl) (by kernel_rfl) (fun _ _ _ h => h) (Or.inl ⟨by rfl, ?_⟩) (by assumption) ?_
      rotate_left
      · intro w hSw
        (try dsimp only at hSw)
        go_simp
        (try with_reducible rfl)
      (try simp only [List.getElem_toArray, List.getElem_cons_zero, List.getElem_cons_succ, Act.put, List.setIfInBounds_toArray, List.set_cons_zero, List.set_cons_succ])
      refine wpAnyH_take (i := 1) (v := ?_) rfl (by kernel_rfl) (by kernel_rfl) (by kernel_rfl) (fun _ _ _ h => h) (Or.inl ⟨by rfl, ?_⟩) (by assumption) ?_
      rotate_left
      · intro w hSw
        (try dsimp only at hSw)
        go_simp
        (try with_reducible rfl)
      (try simp only [List.getElem_toArray, List.getElem_cons_zero, List.getElem_cons_succ, Act.put, List.setIfInBounds_toArray, List.set_cons_zero, List.set_cons_succ])
      refine wpAnyH_take (i := 2) (v := ?_) rfl (by kernel_rfl) (by kernel_rfl) (by kernel_rfl) (fun _ _ _ h => h) (Or.inl ⟨by rfl, ?_⟩) (by assumption) ?_
      rotate_left
      · intro w hSw
        (try dsimp only at hSw)
        go_simp
        (try with_reducible rfl)
      (try simp only [List.getElem_toArray, List.getElem_cons_zero, List.getElem_cons_succ, Act.put, List.setIfInBounds_toArray, List.set_cons_zero, List.set_cons_succ])
      refine wpAnyH_take (i := 3) (v := ?_) rfl (by kernel_rfl) (by kernel_rfl) (by kernel_rfl) (fun _ _ _ h => h) (Or.inl ⟨by rfl, ?_⟩) (by assumption) ?_
      rotate_left
      · intro w hSw
        (try dsimp only at hSw)
        go_simp
        (try with_reducible rfl)
      (try simp only [List.getElem_toArray, List.getElem_cons_zero, List.getElem_cons_succ, Act.put, List.setIfInBounds_toArray, List.set_cons_zero, List.set_cons_succ])
      refine wpAnyH_take (i := 4) (v := ?_) rfl (by kernel_rfl) (by kernel_rfl) (by kernel_rfl) (fun _ _ _ h => h) (Or.inl ⟨by rfl, ?_⟩) (by assumption) ?_
      rotate_left
      · intro w hSw
        (try dsimp only at hSw)
        go_simp
        (try with_reducible rfl)
      (try simp only [List.getElem_toArray, List.getElem_cons_zero, List.getElem_cons_succ, Act.put, List.setIfInBounds_toArray, List.set_cons_zero, List.set_cons_succ])
      refine wpAnyH_take (i := 5) (v := ?_) rfl (by kernel_rfl) (by kernel_rfl) (by kernel_rfl) (fun _ _ _ h => h) (Or.inl ⟨by rfl, ?_⟩) (by assumption) ?_
      rotate_left
      · intro w hSw
        (try dsimp only at hSw)
        go_simp
        (try with_reducible rfl)
      (try simp only [List.getElem_toArray, List.getElem_cons_zero, List.getElem_cons_succ, Act.put, List.setIfInBounds_toArray, List.set_cons_zero, List.set_cons_succ])
      refine wpAnyH_take (i := 6) (v := ?_) rfl (by kernel_rfl) (by kernel_rfl) (by kernel_rfl) (fun _ _ _ h => h) (Or.inl ⟨by rfl, ?_⟩) (by assumption) ?_
      rotate_left
      · intro w hSw
        (try dsimp only at hSw)
        go_simp
        (try with_reducible rfl)
      (try simp only [List.getElem_toArray, List.getElem_cons_zero, List.getElem_cons_succ, Act.put, List.setIfInBounds_toArray, List.set_cons_zero, List.set_cons_succ])
      refine wpAnyH_take (i := 7) (v := ?_) rfl (by kernel_rfl) (by kernel_rfl) (by kernel_rfl) (fun _ _ _ h => h) (Or.inl ⟨by rfl, ?_⟩) (by assumption) ?_
      rotate_left
      · intro w hSw
        (try dsimp only at hSw)
        go_simp
        (try with_reducible rfl)
      (try simp only [List.getElem_toArray, List.getElem_cons_zero, List.getElem_cons_succ, Act.put, List.setIfInBounds_toArray, List.set_cons_zero, List.set_cons_succ])
      refine wpAnyH_take (i := 8) (v := ?_) rfl (by kernel_rfl) (by kernel_rfl) (by kernel_rfl) (fun _ _ _ h => h) (Or.inl ⟨by rfl, ?_⟩) (by assumption) ?_
      rotate_left
      · intro w hSw
        (try dsimp only at hSw)
        go_simp
        (try with_reducible rfl)
      (try simp only [List.getElem_toArray, List.getElem_cons_zero, List.getElem_cons_succ, Act.put, List.setIfInBounds_toArray, List.set_cons_zero, List.set_cons_succ])
      refine wpAnyH_ready (rs := [9]) (by kernel_rfl) (by simp) ?_
      refine AllReadyH.cons (o := _) rfl (fun Kc hKc => ?_) AllReadyH.nil
      go_simp
      (go_at_call 24; refine (bought_any _ _ _).mono ?_; rintro e Y1 ⟨rfl, rfl⟩)
      dsimp only
      refine hKc.out _ _ (hHeld) (fun hHeld => ?_)
      clear hKc Kc
      (try simp only [List.getElem_toArray, List.getElem_cons_zero, List.getElem_cons_succ, Act.put, List.setIfInBounds_toArray, List.set_cons_zero, List.set_cons_succ])
      refine wpAnyH_ready (rs := [10]) (by kernel_rfl) (by simp) ?_
      refine AllReadyH.cons (o := _) rfl (fun Kc hKc => ?_) AllReadyH.nil
      go_simp
      (go_at_call 22; refine (lay_any _ W4.heap.size (w.heap.size + 1) (pre.map sVw) lv ⟨-1, x.zone, 0, x.qty, bgtw false x.price⟩ HVD.out HLEN.out HSZ.out).mono ?_; rintro e Y2 ⟨⟨u, rfl⟩, lv', hV2, hK2⟩)
      dsimp only
      refine hKc.out _ _ (HC2.out _ hK2) (fun hHeld => ?_)
      clear hKc Kc
      (try simp only [List.getElem_toArray, List.getElem_cons_zero, List.getElem_cons_succ, Act.put, List.setIfInBounds_toArray, List.set_cons_zero, List.set_cons_succ])
      refine wpAnyH_done (by kernel_rfl) ?_ _
      have hk2 : Kq (fun k => k = w.heap.size + 1 ∨ lv.ownBlock = some k) W Y2 := ⟨hK2.os, hK2.tape, hK2.output, hK2.size, hK2.block⟩
      have hX : (pre ++ [x]).map sVw = pre.map sVw ++ [⟨-1, x.zone, 0, x.qty, bgtw false x.price⟩] := by rw [List.map_append, List.map_cons, List.map_nil, HSV.out]
      have kf := (hk2.others HCL.out).from W4.heap.size
      have kk := hk2.weak (S' := fun k => k = w.heap.size + 1 ∨ W4.heap.size ≤ k) (fun k _ h => h.imp id (fun h => (HRB.out k h)))
      rw [← hX] at hV2
      gi_wp2
      exact ⟨kf, kk, lv', hV2, Kq.upto (S := fun _ => True) hk hk2 HRB.out⟩
  case stop =>
    rintro Db cd pre W hD hpre h hK
    exact absurd h id
  case done =>
    rintro Db xs W hD rfl ⟨lv, hv, hk⟩ hK
    have hmap : (ofH Z H S).map sVw = (ofH Z H S).map sVr := List.map_congr_left (fun s h => sVw_eq (HSR.out s (HMEM.out s h)))
    rw [hmap] at hv
    have HXL : Hid (((ofH Z H S).map sVr).length ≤ 64) := hid (by rw [List.length_map]; exact HLH.out)
    have HVR : Hid (vrs Z H S L = (ofH Z H S).map sVr ++ L.map lVr) := hid rfl
    obtain ⟨f1, f2⟩ := HF.out W hk
    have h8 : w.heap.size + 1 + 1 < W4.heap.size := by have := HS3.out; omega
    clear hmap HSR HMEM HLH HST
    generalize (ofH Z H S).map sVr = XS at *
    have f7 := cell_at (L := [_]) hv.box 0 _ rfl
    gi_wp2
    gi_loopw [45] (fun iv wr => ∃ k : Nat, k ≤ L.length ∧ iv = .int .i64 (k : Int) ∧ (∃ lv, Vw wr W4.heap.size (w.heap.size + 1) (XS ++ (L.take k).map lVr) lv) ∧ Kq (fun k => k = w.heap.size + 1) W4 wr ∧ wr.heap[Db]? = some (.deferred (some []))) (fun iv wr => L.length - (intOf iv).toNat)
    case atStart => exact ⟨0, Nat.zero_le _, rfl, ⟨lv, by simpa using hv⟩, hk, hK⟩
    case round =>
      clear hv hk hK f1 f2 f7
      obtain ⟨k, hkl, rfl, ⟨lv, hv⟩, hk, hK⟩ := hrel
      obtain ⟨f1, f2⟩ := HF.out wr hk
      have f7 := cell_at (L := [_]) hv.box 0 _ rfl
      by_cases hlt : k < L.length
      · obtain ⟨b, off, c, e, _, _, q0, q1, q2⟩ := (HLL.out wr (HLW.out wr hk)).at k hlt
        simp only [Value.slice.injEq] at e
        obtain ⟨rfl, -, rfl⟩ := e
        have HTK := hid (show (L.take (k + 1)).map lVr = (L.take k).map lVr ++ [lVr L[k]] by rw [List.take_succ_eq_append_getElem hlt, List.map_append]; rfl)
        have hcb := HSC.out _ (List.getElem_mem hlt)
        generalize L[k] = l at *
        have hw1 : IntKind.i64.wrap (-l.c) = -l.c := by rw [IntKind.wrap_i64]; omega
        have hw2 : wrap64 (-l.c) = -l.c := by simp only [wrap64]; omega
        have bX := ibel wr (Obj.cells #[.int .i64 l.f, .int .i64 l.t, .int .i64 l.c] 42)
        have x1 := inew wr (Obj.cells #[.int .i64 l.f, .int .i64 l.t, .int .i64 l.c] 42)
        have p0 := ibx x1 0 (.int .i64 l.f) rfl
        have p1 := ibx x1 1 (.int .i64 l.t) rfl
        have p2 := ibx x1 2 (.int .i64 l.c) rfl
        have g1 := ikc bX f1
        have hvX : Vw (wr.alloc (Obj.cells #[.int .i64 l.f, .int .i64 l.t, .int .i64 l.c] 42)) W4.heap.size (w.heap.size + 1) (XS ++ (L.take k).map lVr) lv := hv.kept (Kq.of_below (S := fun _ => False) bX) id (fun _ _ => id)
        have hkX := hk.alloc (Obj.cells #[.int .i64 l.f, .int .i64 l.t, .int .i64 l.c] 42)
        have hKX := (bX.block Db (lt_of_block hK)).trans hK
        have HLAY := hid (lay_any _ W4.heap.size (w.heap.size + 1) _ lv (lVr l) hvX (by rw [List.length_append, List.length_map, List.length_take]; have := HXL.out; omega) hkX.size)
        have HRB := hid (fun (g : Nat) (h : lv.ownBlock = some g) => (hvX.row.own.lt g h).1)
        have HDB : Hid (∀ Y, Kq (fun k => k = w.heap.size + 1 ∨ lv.ownBlock = some k) (wr.alloc (Obj.cells #[.int .i64 l.f, .int .i64 l.t, .int .i64 l.c] 42)) Y → Y.heap[Db]? = some (.deferred (some []))) := hid (fun Y kq => (kq.block Db (lt_of_block hKX) (fun h => by
          rcases h with h | h
          · rw [h, hvX.box] at hKX; cases hKX
          · obtain ⟨c', fz', hc'⟩ := own_kindN hvX.row.own Db h
            rw [hc'] at hKX; cases hKX)).trans hKX)
        clear bX x1 hv hk hK hvX hcb f7
        gi_wp2
        refine ⟨trivial, ?_⟩
        refine (callsIn_wide.2 HLAY.out).mono ?_
        rintro e Y ⟨⟨u, rfl⟩, lv', hV2, hK2⟩
        have hk2 := Kq.upto (S := fun _ => True) hkX hK2 HRB.out
        have hK2 := HDB.out Y hK2
        rw [List.append_assoc, ← HTK.out] at hV2
        gi_wp2
        go_roundw
        case rel => exact ⟨k + 1, by omega, by go_num, ⟨lv', hV2⟩, hk2, hK2⟩
        case measure => simp [intOf]; omega
      · obtain rfl : k = L.length := by omega
        rw [List.take_length, ← HVR.out] at hv
        gi_wp2
        refine ⟨by simp, .inl ⟨_, _, rfl, run_takeDeferred hK, ?_⟩⟩
        have hv2 := hv.grown (grownBy_putObj' _ Db (.deferred none)) (fun r e => by cases e; exact ⟨_, hK, rfl⟩)
        have hk2 := hk.grown (grownBy_putObj' _ Db (.deferred none)) (fun r e => by cases e; exact Or.inr hD)
        refine ⟨lv, ?_, lv, rfl, ⟨own_mono hv2.row.own (by omega), hv2.row.n_⟩, HLW.out _ hk2⟩
        simp [results, Try.f13, go_sem]
end Go.Proofs.Ytlkcfgjhgmpbcaa
