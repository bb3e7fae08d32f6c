/- UPivR, UPivV. -/
import Derived.Test.YtgojlegknlalpaaGreatDoorZUClr
import Derived.Test.YtgojlegknlalpaaGreatDoorPk36
/- tableau: Pivot: rows that are stored anew, and the plain rows behind it. -/
namespace Go.Proofs.YtgojlegknlalpaaGreatDoor
open Go.RowKit
set_option linter.unusedVariables false
set_option maxRecDepth 100000
set_option linter.unusedSimpArgs false

theorem flat_len6 : ∀ (C : List (List Value)), (∀ c ∈ C, c.length = 6) → C.flatten.length = C.length * 6
  | [], _ => rfl
  | x :: T, h => by
    rw [List.flatten_cons, List.length_append, flat_len6 T (fun c hc => h c (List.mem_cons_of_mem _ hc)), h x List.mem_cons_self, List.length_cons]
    omega
theorem set_six {C : List (List Value)} (h : ∀ c ∈ C, c.length = 6) (i : Nat) {y0 y1 y2 y3 y4 y5 : Value} : ∀ c ∈ C.set i [y0, y1, y2, y3, y4, y5], c.length = 6 := fun c hc => by
  rcases List.mem_or_eq_of_mem_set hc with k | k
  · exact h c k
  · subst k; rfl
theorem flat_set5 (C : List (List Value)) (h : ∀ c ∈ C, c.length = 6) (i : Nat) (hi : i < C.length) (y0 y1 y2 y3 y4 y5 : Value) (h5 : (C[i])[5]? = some y5) :
    (((((C.flatten.set (i * 6) y0).set (i * 6 + 1) y1).set (i * 6 + 2) y2).set (i * 6 + 3) y3).set (i * 6 + 4) y4) = (C.set i [y0, y1, y2, y3, y4, y5]).flatten := by
  have h' := set_six h i (y0 := y0) (y1 := y1) (y2 := y2) (y3 := y3) (y4 := y4) (y5 := y5)
  apply List.ext_getElem?
  intro p
  obtain ⟨k, j, hj, rfl⟩ : ∃ k j, j < 6 ∧ p = k * 6 + j := ⟨p / 6, p % 6, Nat.mod_lt _ (by omega), by omega⟩
  have hL := flat_len6 C h
  by_cases hk : k < C.length
  · rw [six_at (C.set i [y0, y1, y2, y3, y4, y5]) h' k j (by simpa using hk) hj]
    simp only [List.getElem?_set, List.length_set, hL]
    by_cases e : i = k
    · subst e
      have e0 : (C.set i [y0, y1, y2, y3, y4, y5])[i]'(by simpa using hk) = [y0, y1, y2, y3, y4, y5] := by simp
      rw [e0]
      match j, hj with
      | 0, _ => simp; omega
      | 1, _ => simp; omega
      | 2, _ => simp; omega
      | 3, _ => simp; omega
      | 4, _ => simp; omega
      | 5, _ =>
        rw [if_neg (by omega), if_neg (by omega), if_neg (by omega), if_neg (by omega), if_neg (by omega), six_at C h i 5 hi (by omega), h5]
        rfl
    · have e0 : (C.set i [y0, y1, y2, y3, y4, y5])[k]'(by simpa using hk) = C[k] := by simp [List.getElem_set, e]
      rw [e0, if_neg (by omega), if_neg (by omega), if_neg (by omega), if_neg (by omega), if_neg (by omega)]
      exact six_at C h k j hk hj
  · rw [List.getElem?_eq_none (by simp [hL]; omega), List.getElem?_eq_none (by rw [flat_len6 _ h']; simp; omega)]
theorem flat_set6 (C : List (List Value)) (h : ∀ c ∈ C, c.length = 6) (i : Nat) (hi : i < C.length) (y0 y1 y2 y3 y4 y5 : Value) :
    ((((((C.flatten.set (i * 6) y0).set (i * 6 + 1) y1).set (i * 6 + 2) y2).set (i * 6 + 3) y3).set (i * 6 + 4) y4).set (i * 6 + 5) y5) = (C.set i [y0, y1, y2, y3, y4, y5]).flatten := by
  have h' := set_six h i (y0 := y0) (y1 := y1) (y2 := y2) (y3 := y3) (y4 := y4) (y5 := y5)
  apply List.ext_getElem?
  intro p
  obtain ⟨k, j, hj, rfl⟩ : ∃ k j, j < 6 ∧ p = k * 6 + j := ⟨p / 6, p % 6, Nat.mod_lt _ (by omega), by omega⟩
  have hL := flat_len6 C h
  by_cases hk : k < C.length
  · rw [six_at (C.set i [y0, y1, y2, y3, y4, y5]) h' k j (by simpa using hk) hj]
    simp only [List.getElem?_set, List.length_set, hL]
    by_cases e : i = k
    · subst e
      have e0 : (C.set i [y0, y1, y2, y3, y4, y5])[i]'(by simpa using hk) = [y0, y1, y2, y3, y4, y5] := by simp
      rw [e0]
      match j, hj with
      | 0, _ => simp; omega
      | 1, _ => simp; omega
      | 2, _ => simp; omega
      | 3, _ => simp; omega
      | 4, _ => simp; omega
      | 5, _ => simp; omega
    · have e0 : (C.set i [y0, y1, y2, y3, y4, y5])[k]'(by simpa using hk) = C[k] := by simp [List.getElem_set, e]
      rw [e0, if_neg (by omega), if_neg (by omega), if_neg (by omega), if_neg (by omega), if_neg (by omega), if_neg (by omega)]
      exact six_at C h k j hk hj
  · rw [List.getElem?_eq_none (by simp [hL]; omega), List.getElem?_eq_none (by rw [flat_len6 _ h']; simp; omega)]
/-- All old blocks but g are as they were. -/
structure Bg (g : Nat) (w w' : World) : Prop where
  os : w'.os = w.os
  tape : w'.tape = w.tape
  output : w'.output = w.output
  size : w.heap.size ≤ w'.heap.size
  block : ∀ k, k < w.heap.size → k ≠ g → w'.heap[k]? = w.heap[k]?
theorem Bg.refl (g : Nat) (w : World) : Bg g w w := ⟨rfl, rfl, rfl, Nat.le_refl _, fun _ _ _ => rfl⟩
theorem Bg.of_below {g : Nat} {w w' : World} (b : Below w.heap.size w w') : Bg g w w' := ⟨b.os, b.tape, b.output, b.size, fun k hk _ => b.block k hk⟩
theorem Bg.trans {g : Nat} {a b c : World} (h : Bg g a b) (k : Bg g b c) : Bg g a c :=
  ⟨k.os.trans h.os, k.tape.trans h.tape, k.output.trans h.output, Nat.le_trans h.size k.size, fun i hi hn => (k.block i (Nat.lt_of_lt_of_le hi h.size) hn).trans (h.block i hi hn)⟩
theorem Bg.set {g : Nat} {a b : World} (h : Bg g a b) (o : Nat) (u : Value) : Bg g a (b.setCell ⟨g, o, none⟩ u) :=
  ⟨h.os, h.tape, h.output, by simpa [World.setCell] using h.size, fun i hi hn => (Below.heap_setCell b ⟨g, o, none⟩ u i hn).trans (h.block i hi hn)⟩
theorem Bg.drew {g : Nat} {a b : World} (h : Bg g a b) : Bg g a b.drew := ⟨h.os, h.tape, h.output, h.size, h.block⟩
theorem Bg.box {g : Nat} {w w' : World} {b : Nat} {o : Obj} (h : Bg g w w') (hb : w.heap[b]? = some o) (hn : b ≠ g) : w'.heap[b]? = some o := (h.block b (lt_of_block hb) hn).trans hb
theorem Bg.kty {g : Nat} {w w' : World} {c : Array Value} {fz : Nat × Nat} (h : Bg g w w') (hg : w.heap[g]? = some (.cells c 64 fz)) : Kty 64 64 w w' :=
  ⟨fun k hk h1 _ => h.block k hk (fun e => by subst e; exact h1 _ _ hg)⟩
theorem ULi.fit {w : World} {tv p1 p2 p3 p4 : Value} {T : List Int} {b : Int} {K m : Nat} (hm : m ≠ 0) (h : ULi w tv p1 p2 p3 p4 T b K) (hT : ∀ t ∈ T, t.natAbs < 10 ^ m) (hb : b.natAbs < 10 ^ m) : ULi w tv p1 p2 p3 p4 T b (m / 9 + 1) := by
  obtain ⟨base, C, h1, h2, h3⟩ := h
  refine ⟨base, C, h1, fitI hm h2 hb, ⟨h3.own, h3.len, h3.four, fun i k1 k2 => ?_⟩⟩
  have := h3.is_ i k1 k2
  simp only [List.getElem_map] at this ⊢
  exact fitI hm this (hT _ (List.getElem_mem _))
theorem UBs.mono {w : World} {base : Nat} {v : Value} {C : List (List Value)} {A : List URw} {K K' : Nat} (h : UBs w base v C A K) (hk : K ≤ K') : UBs w base v C A K' :=
  ⟨h.own, h.len, h.six, fun i h1 h2 => by
    obtain ⟨tv, p1, p2, p3, p4, e, hl⟩ := h.is_ i h1 h2
    exact ⟨tv, p1, p2, p3, p4, e, hl.mono hk⟩⟩
/-- The block of rows. -/
theorem UBs.cells {w : World} {base g n rc : Nat} {C : List (List Value)} {A : List URw} {K : Nat} (h : UBs w base (.slice (some ⟨g, 0, none⟩) n rc) C A K) : ∃ c, w.heap[g]? = some (.cells c 64 (0, 0)) := by
  rcases h.own.2 with ⟨e, _⟩ | ⟨g', cap, cur, e, hb, hh, _⟩
  · simp at e
  · simp only [Value.slice.injEq, Option.some.injEq, Addr.mk.injEq] at e
    obtain ⟨⟨rfl, -⟩, -⟩ := e
    exact ⟨_, hh⟩
theorem UBs.bg {w w' : World} {base g n rc : Nat} {C : List (List Value)} {A : List URw} {K : Nat} (h : UBs w base (.slice (some ⟨g, 0, none⟩) n rc) C A K) (b : Bg g w w') : ∀ i (h1 : i < C.length) (h2 : i < A.length), ∃ tv p1 p2 p3 p4, C[i] = [tv, p1, p2, p3, p4, .int .i64 (A[i]).2.2] ∧ ULi w' tv p1 p2 p3 p4 (A[i]).1 (A[i]).2.1 K := fun i h1 h2 => by
  obtain ⟨c, hc⟩ := h.cells
  obtain ⟨tv, p1, p2, p3, p4, e, hl⟩ := h.is_ i h1 h2
  exact ⟨tv, p1, p2, p3, p4, e, hl.kty (b.kty hc) (by decide) (by decide) (by decide) (by decide)⟩
theorem osetU {w : World} {base : Nat} {e : TypeId} {size : Nat} {v : Value} {n : Nat} {xs : List Value} (h : w.ownsRow base e size v n xs) {g : Nat} (hv : v.ownBlock = some g) (k : Nat) (u : Value) :
    (w.setCell ⟨g, k, none⟩ u).ownsRow base e size v n (xs.set k u) := by
  obtain ⟨h1, h2⟩ := h
  refine ⟨by simpa using h1, ?_⟩
  rcases h2 with ⟨rfl, _⟩ | ⟨g', cap, cur, rfl, hb, hh, q1, q2, q3, q4⟩
  · cases hv
  · simp only [Value.ownBlock, Option.some.injEq] at hv
    subst hv
    refine Or.inr ⟨g', cap, cur.setIfInBounds k u, rfl, hb, ?_, q1, q2, by simpa using q3, ?_⟩
    · rw [setCell_eq_setRow w g' k cur e (0, 0) u hh]
      exact setRow_heap w g' cur _ e (0, 0) hh
    · rw [Array.toList_setIfInBounds, List.take_set, q4]
/-- A row's list is stored; its basis stays. -/
theorem UBs.put5 {w : World} {base g n rc : Nat} {C : List (List Value)} {A : List URw} {K : Nat} (h : UBs w base (.slice (some ⟨g, 0, none⟩) n rc) C A K) (i : Nat) (hi : i < A.length) {tv p1 p2 p3 p4 : Value} {T : List Int} {b : Int} (hq : ULi w tv p1 p2 p3 p4 T b K) :
    UBs (((((w.setCell ⟨g, i * 6, none⟩ tv).setCell ⟨g, i * 6 + 1, none⟩ p1).setCell ⟨g, i * 6 + 2, none⟩ p2).setCell ⟨g, i * 6 + 3, none⟩ p3).setCell ⟨g, i * 6 + 4, none⟩ p4) base (.slice (some ⟨g, 0, none⟩) n rc) (C.set i [tv, p1, p2, p3, p4, .int .i64 (A[i]).2.2]) (A.set i (T, b, (A[i]).2.2)) K := by
  have hiC : i < C.length := by rw [h.len]; exact hi
  obtain ⟨c, hc⟩ := h.cells
  have bg := ((((Bg.refl g w).set (i * 6) tv).set (i * 6 + 1) p1).set (i * 6 + 2) p2).set (i * 6 + 3) p3 |>.set (i * 6 + 4) p4
  have kt := bg.kty hc
  obtain ⟨_, _, _, _, _, eC, _⟩ := h.is_ i hiC hi
  have own := osetU (osetU (osetU (osetU (osetU h.own (g := g) rfl (i * 6) tv) (g := g) rfl (i * 6 + 1) p1) (g := g) rfl (i * 6 + 2) p2) (g := g) rfl (i * 6 + 3) p3) (g := g) rfl (i * 6 + 4) p4
  rw [flat_set5 C h.six i hiC tv p1 p2 p3 p4 (.int .i64 (A[i]).2.2) (by rw [eC]; rfl)] at own
  refine ⟨by rw [List.length_set]; exact own, by simp [h.len], set_six h.six i, fun k h1 h2 => ?_⟩
  by_cases e : i = k
  · subst e
    simp only [List.getElem_set_self]
    exact ⟨tv, p1, p2, p3, p4, rfl, hq.kty kt (by decide) (by decide) (by decide) (by decide)⟩
  · simp only [List.getElem_set_ne e]
    obtain ⟨t, q1, q2, q3, q4, e1, hl⟩ := h.is_ k (by simpa using h1) (by simpa using h2)
    exact ⟨t, q1, q2, q3, q4, e1, hl.kty kt (by decide) (by decide) (by decide) (by decide)⟩
/-- A row is stored, with its basis. -/
theorem UBs.put6 {w : World} {base g n rc : Nat} {C : List (List Value)} {A : List URw} {K : Nat} (h : UBs w base (.slice (some ⟨g, 0, none⟩) n rc) C A K) (i : Nat) (hi : i < A.length) {tv p1 p2 p3 p4 : Value} {T : List Int} {b c0 : Int} (hq : ULi w tv p1 p2 p3 p4 T b K) :
    UBs ((((((w.setCell ⟨g, i * 6, none⟩ tv).setCell ⟨g, i * 6 + 1, none⟩ p1).setCell ⟨g, i * 6 + 2, none⟩ p2).setCell ⟨g, i * 6 + 3, none⟩ p3).setCell ⟨g, i * 6 + 4, none⟩ p4).setCell ⟨g, i * 6 + 5, none⟩ (.int .i64 c0)) base (.slice (some ⟨g, 0, none⟩) n rc) (C.set i [tv, p1, p2, p3, p4, .int .i64 c0]) (A.set i (T, b, c0)) K := by
  have hiC : i < C.length := by rw [h.len]; exact hi
  obtain ⟨c, hc⟩ := h.cells
  have bg := (((((Bg.refl g w).set (i * 6) tv).set (i * 6 + 1) p1).set (i * 6 + 2) p2).set (i * 6 + 3) p3 |>.set (i * 6 + 4) p4) |>.set (i * 6 + 5) (.int .i64 c0)
  have kt := bg.kty hc
  have own := osetU (osetU (osetU (osetU (osetU (osetU h.own (g := g) rfl (i * 6) tv) (g := g) rfl (i * 6 + 1) p1) (g := g) rfl (i * 6 + 2) p2) (g := g) rfl (i * 6 + 3) p3) (g := g) rfl (i * 6 + 4) p4) (g := g) rfl (i * 6 + 5) (.int .i64 c0)
  rw [flat_set6 C h.six i hiC tv p1 p2 p3 p4 (.int .i64 c0)] at own
  refine ⟨by rw [List.length_set]; exact own, by simp [h.len], set_six h.six i, fun k h1 h2 => ?_⟩
  by_cases e : i = k
  · subst e
    simp only [List.getElem_set_self]
    exact ⟨tv, p1, p2, p3, p4, rfl, hq.kty kt (by decide) (by decide) (by decide) (by decide)⟩
  · simp only [List.getElem_set_ne e]
    obtain ⟨t, q1, q2, q3, q4, e1, hl⟩ := h.is_ k (by simpa using h1) (by simpa using h2)
    exact ⟨t, q1, q2, q3, q4, e1, hl.kty kt (by decide) (by decide) (by decide) (by decide)⟩
/-- A row behind the pivot (row i, column k, the pivot's list pT over pb). -/
def pivR (i k : Nat) (pT : List Int) (pb : Int) (j : Nat) (a : URw) : URw := if j = i then a else ((clr a.1 a.2.1 pT pb (a.1.getD k 0)).1, (clr a.1 a.2.1 pT pb (a.1.getD k 0)).2, a.2.2)
/-- The rows, the first n of them cleared. -/
def pivN (A : List URw) (i k : Nat) (pT : List Int) (pb : Int) : Nat → List URw
  | 0 => A
  | n + 1 => (pivN A i k pT pb n).set n (pivR i k pT pb n (A.getD n ([], 0, 0)))
theorem pivN_len (A : List URw) (i k : Nat) (pT : List Int) (pb : Int) (n : Nat) : (pivN A i k pT pb n).length = A.length := by
  induction n with
  | zero => rfl
  | succ n ih => simp only [pivN]; rw [List.length_set, ih]
theorem pivN_at (A : List URw) (i k : Nat) (pT : List Int) (pb : Int) : ∀ (n j : Nat) (h : j < (pivN A i k pT pb n).length) (h2 : j < A.length), (pivN A i k pT pb n)[j] = if j < n then pivR i k pT pb j A[j] else A[j]
  | 0, j, h, h2 => by simp [pivN]
  | n + 1, j, h, h2 => by
    have hl : j < (pivN A i k pT pb n).length := by rw [pivN_len]; exact h2
    have ih := pivN_at A i k pT pb n j hl h2
    simp only [pivN]
    rw [List.getElem_set]
    by_cases e : n = j
    · subst e
      rw [if_pos rfl, if_pos (by omega)]
      simp [List.getD_eq_getElem?_getD, h2]
    · rw [if_neg e, ih]
      by_cases q : j < n
      · rw [if_pos q, if_pos (by omega)]
      · rw [if_neg q, if_neg (by omega)]
/-- The rows behind a pivot. -/
def pivA (A : List URw) (i k : Nat) : List URw :=
  (pivN A i k (lowT (A.getD i ([], 0, 0)).1 ((A.getD i ([], 0, 0)).1.getD k 0)) (lowB (A.getD i ([], 0, 0)).1 ((A.getD i ([], 0, 0)).1.getD k 0)) A.length).set i (lowT (A.getD i ([], 0, 0)).1 ((A.getD i ([], 0, 0)).1.getD k 0), lowB (A.getD i ([], 0, 0)).1 ((A.getD i ([], 0, 0)).1.getD k 0), (k : Int))
end Go.Proofs.YtgojlegknlalpaaGreatDoor
/- tableau: what a pivot makes of the numbers. -/
namespace Go.Proofs.YtgojlegknlalpaaGreatDoor
open Go.RowKit
set_option linter.unusedVariables false
set_option linter.unusedSimpArgs false

/-- The number of a row in a column. -/
def vl (a : URw) (x : Nat) : Rat := ((a.1.getD x 0 : Int) : Rat) / ((a.2.1 : Int) : Rat)
/-- Rows of one width, over numbers above 0, all below 10^m. -/
structure PInv (A : List URw) (c m : Nat) : Prop where
  len : ∀ a ∈ A, a.1.length = c
  pos : ∀ a ∈ A, 0 < a.2.1
  abs : ∀ a ∈ A, (∀ t ∈ a.1, t.natAbs < 10 ^ m) ∧ a.2.1.natAbs < 10 ^ m
theorem pivA_len (A : List URw) (i k : Nat) : (pivA A i k).length = A.length := by unfold pivA; rw [List.length_set, pivN_len]
theorem getD_at {α : Type} {L : List α} {d : α} {i : Nat} (h : i < L.length) : L.getD i d = L[i] := by simp [List.getD_eq_getElem?_getD, h]
theorem pivA_at {A : List URw} {i k j : Nat} (hi : i < A.length) (hj : j < A.length) (h : j < (pivA A i k).length) :
    (pivA A i k)[j] = if j = i then (lowT (A[i]).1 ((A[i]).1.getD k 0), lowB (A[i]).1 ((A[i]).1.getD k 0), (k : Int)) else ((clr (A[j]).1 (A[j]).2.1 (lowT (A[i]).1 ((A[i]).1.getD k 0)) (lowB (A[i]).1 ((A[i]).1.getD k 0)) ((A[j]).1.getD k 0)).1, (clr (A[j]).1 (A[j]).2.1 (lowT (A[i]).1 ((A[i]).1.getD k 0)) (lowB (A[i]).1 ((A[i]).1.getD k 0)) ((A[j]).1.getD k 0)).2, (A[j]).2.2) := by
  have hd : pivA A i k = (pivN A i k (lowT (A.getD i ([], 0, 0)).1 ((A.getD i ([], 0, 0)).1.getD k 0)) (lowB (A.getD i ([], 0, 0)).1 ((A.getD i ([], 0, 0)).1.getD k 0)) A.length).set i (lowT (A.getD i ([], 0, 0)).1 ((A.getD i ([], 0, 0)).1.getD k 0), lowB (A.getD i ([], 0, 0)).1 ((A.getD i ([], 0, 0)).1.getD k 0), (k : Int)) := rfl
  rw [List.getElem_of_eq hd, List.getElem_set]
  by_cases e : i = j
  · subst e
    rw [if_pos rfl, if_pos rfl, getD_at hi]
  · rw [if_neg e, if_neg (fun q => e q.symm), pivN_at A i k _ _ _ j (by rw [pivN_len]; exact hj) hj, if_pos hj, getD_at hi]
    unfold pivR
    rw [if_neg (fun q => e q.symm)]
theorem pivA_inv {A : List URw} {i k c m : Nat} (h : PInv A c m) (hi : i < A.length) (hk : k < c) (hne : (A[i]).1.getD k 0 ≠ 0) : PInv (pivA A i k) c (2 * m + 1) := by
  have li := h.len _ (List.getElem_mem hi)
  have ai := h.abs _ (List.getElem_mem hi)
  have hki : k < (A[i]).1.length := by rw [li]; exact hk
  have hmem : (A[i]).1.getD k 0 ∈ (A[i]).1 := by rw [getD_at hki]; exact List.getElem_mem hki
  have hpT := lowT_abs (A[i]).1 hne ai.1
  have hpB := lowB_abs (A[i]).1 hne (ai.1 _ hmem)
  have hpp := lowB_pos (A[i]).1 hne
  have all : ∀ a ∈ pivA A i k, a.1.length = c ∧ 0 < a.2.1 ∧ (∀ t ∈ a.1, t.natAbs < 10 ^ (2 * m + 1)) ∧ a.2.1.natAbs < 10 ^ (2 * m + 1) := fun a ha => by
    obtain ⟨j, hj, rfl⟩ := List.getElem_of_mem ha
    have hjA : j < A.length := by rw [pivA_len] at hj; exact hj
    rw [pivA_at hi hjA hj]
    by_cases e : j = i
    · rw [if_pos e]
      exact ⟨by rw [lowT_len, li], hpp, fun t ht => Nat.lt_of_lt_of_le (hpT t ht) (pow_le2 m), Nat.lt_of_lt_of_le hpB (pow_le2 m)⟩
    · rw [if_neg e]
      have lj := h.len _ (List.getElem_mem hjA)
      have pj := h.pos _ (List.getElem_mem hjA)
      have aj := h.abs _ (List.getElem_mem hjA)
      have hkj : k < (A[j]).1.length := by rw [lj]; exact hk
      have hta : ((A[j]).1.getD k 0).natAbs < 10 ^ m := by rw [getD_at hkj]; exact aj.1 _ (List.getElem_mem hkj)
      obtain ⟨q1, q2⟩ := clr_abs pj hpp aj.1 hpT aj.2 hpB hta
      exact ⟨by rw [clr_len (by rw [lowT_len, li, lj]), lj], clr_pos pj, q1, q2⟩
  exact ⟨fun a ha => (all a ha).1, fun a ha => (all a ha).2.1, fun a ha => (all a ha).2.2⟩
theorem vl_rv (a : URw) (x : Nat) (h : x < a.1.length) (h2 : x < (rv a.1 a.2.1).length) : (rv a.1 a.2.1)[x] = vl a x := by
  rw [rv_at _ _ _ _ h]
  unfold vl
  rw [getD_at h]
/-- The pivot's row. -/
theorem pivA_row {A : List URw} {i k c m : Nat} (h : PInv A c m) (hi : i < A.length) (hk : k < c) (hne : (A[i]).1.getD k 0 ≠ 0) (x : Nat) (hx : x < c) (hp : i < (pivA A i k).length) : vl (pivA A i k)[i] x = vl A[i] x / vl A[i] k := by
  have li := h.len _ (List.getElem_mem hi)
  have pi := h.pos _ (List.getElem_mem hi)
  have hxi : x < (A[i]).1.length := by rw [li]; exact hx
  have hki : k < (A[i]).1.length := by rw [li]; exact hk
  rw [pivA_at hi hi hp, if_pos rfl]
  have e := low_val (A[i]).1 hne x (by rw [lowT_len]; exact hxi) hxi
  unfold vl
  simp only
  rw [getD_at (show x < (lowT (A[i]).1 ((A[i]).1.getD k 0)).length by rw [lowT_len]; exact hxi), e, getD_at hxi]
  have hb : (((A[i]).2.1 : Int) : Rat) ≠ 0 := int_ne pi
  have hn : (((A[i]).1.getD k 0 : Int) : Rat) ≠ 0 := fun q => hne (by exact_mod_cast q)
  grind
/-- Each other row. -/
theorem pivA_other {A : List URw} {i j k c m : Nat} (h : PInv A c m) (hi : i < A.length) (hj : j < A.length) (hij : j ≠ i) (hk : k < c) (hne : (A[i]).1.getD k 0 ≠ 0) (x : Nat) (hx : x < c) (hp : j < (pivA A i k).length) : vl (pivA A i k)[j] x = vl A[j] x - vl A[i] x / vl A[i] k * vl A[j] k := by
  have li := h.len _ (List.getElem_mem hi)
  have lj := h.len _ (List.getElem_mem hj)
  have pj := h.pos _ (List.getElem_mem hj)
  have hip : i < (pivA A i k).length := by rw [pivA_len]; exact hi
  have er := pivA_row h hi hk hne x hx hip
  rw [pivA_at hi hi hip, if_pos rfl] at er
  rw [pivA_at hi hj hp, if_neg hij]
  have hpp := lowB_pos (A[i]).1 hne
  have hl : (lowT (A[i]).1 ((A[i]).1.getD k 0)).length = (A[j]).1.length := by rw [lowT_len, li, lj]
  have ev := clr_val (ta := (A[j]).1.getD k 0) hl pj hpp
  have hcl : (clr (A[j]).1 (A[j]).2.1 (lowT (A[i]).1 ((A[i]).1.getD k 0)) (lowB (A[i]).1 ((A[i]).1.getD k 0)) ((A[j]).1.getD k 0)).1.length = c := by rw [clr_len hl, lj]
  rw [← vl_rv (_, _, _) x (by simp only; rw [hcl]; exact hx) (by simp only; rw [rv_len, hcl]; exact hx)]
  simp only
  rw [List.getElem_of_eq ev, List.getElem_zipWith, vl_rv (A[j]) x (by rw [lj]; exact hx), vl_rv (lowT (A[i]).1 ((A[i]).1.getD k 0), lowB (A[i]).1 ((A[i]).1.getD k 0), (k : Int)) x (by simp only; rw [hl, lj]; exact hx), er]
  rfl
/-- Its own column. -/
theorem pivA_col {A : List URw} {i j k c m : Nat} (h : PInv A c m) (hi : i < A.length) (hj : j < A.length) (hk : k < c) (hne : (A[i]).1.getD k 0 ≠ 0) (hp : j < (pivA A i k).length) : vl (pivA A i k)[j] k = if j = i then 1 else 0 := by
  have pi := h.pos _ (List.getElem_mem hi)
  have hb : (((A[i]).2.1 : Int) : Rat) ≠ 0 := int_ne pi
  have hn : (((A[i]).1.getD k 0 : Int) : Rat) ≠ 0 := fun q => hne (by exact_mod_cast q)
  have hv : vl A[i] k ≠ 0 := by unfold vl; grind
  by_cases e : j = i
  · subst e
    rw [if_pos rfl, pivA_row h hi hk hne k hk hp]
    grind
  · rw [if_neg e, pivA_other h hi hj e hk hne k hk hp]
    grind
theorem pivA_basis {A : List URw} {i j k : Nat} (hi : i < A.length) (hj : j < A.length) (hp : j < (pivA A i k).length) : ((pivA A i k)[j]).2.2 = if j = i then (k : Int) else (A[j]).2.2 := by
  rw [pivA_at hi hj hp]
  by_cases e : j = i
  · rw [if_pos e, if_pos e]
  · rw [if_neg e, if_neg e]
end Go.Proofs.YtgojlegknlalpaaGreatDoor
