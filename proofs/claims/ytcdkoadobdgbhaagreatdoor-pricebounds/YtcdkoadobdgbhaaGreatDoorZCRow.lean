/- cert: lists of fractions in memory. -/
import Derived.Test.YtcdkoadobdgbhaaGreatDoorPk41
import Derived.Test.YtcdkoadobdgbhaaGreatDoorPk16
import Derived.Maps.AppendAt
namespace Go.Proofs.YtcdkoadobdgbhaaGreatDoor
open Go.RowKit
set_option linter.unusedVariables false
set_option maxRecDepth 100000
set_option linter.unusedSimpArgs false

section
variable {P : Program}
theorem wpList_store_fresh {ops : Array Oper} {rest : List Oper} {o : Oper} {a : Act} {w : World} {Q : Exit → Act → World → Prop} (hgd : o.guard = none) (t : TypeId) (x y : Operand) (ho : o.op = .store t x y)
    (c c' : Array Value) (b : Nat) (hx : a.eval x = .pointer (some ⟨b, 0, none⟩)) (hb : b = w.heap.size) (hy : a.eval y = .agg c') (n : Nat) (hi : (P.info? t).map (·.size) = some n) (hn : c'.size = n) (hs : c.size = n) (h1 : c'.all (·.oneCell') = true)
    (h : wpList P ops Q rest (a.put o.dst undef) (w.alloc (.cells c' t))) : wpList P ops Q (o :: rest) a (w.alloc (.cells c t)) :=
  wpList_plain hgd fun K hK => by
    subst hb
    rw [← hn] at hi hs
    unfold Oper.wp execOp
    simp only [ho, hx, hy, Instr.storeAt, Instr.sureAddr, Sem.run_bind, Sem.run_pure, Result.andThen_ok, run_storeVar_new w t c c' hi hs h1]
    exact hK _ _ h
end
theorem info_Rat : (Tryz.prog.info? 73).map (·.size) = some 4 := by kernel_rfl
theorem info_refRat : (Tryz.prog.info? 35).map (·.size) = some 4 := by kernel_rfl
theorem info_refRatZ : (Tryz.prog.info? 35).map (fun i => (i.zero, i.size, i.bytes)) = some (some (.agg #[.bool false, .slice none 0 0, .bool false, .slice none 0 0]), 4, 64) := by kernel_rfl
/-- What is of other types than t is as it was. -/
structure Kty (t1 t2 : TypeId) (w w' : World) : Prop where
  block : ∀ k, k < w.heap.size → (∀ c fz, w.heap[k]? ≠ some (.cells c t1 fz)) → (∀ c fz, w.heap[k]? ≠ some (.cells c t2 fz)) → w'.heap[k]? = w.heap[k]?
theorem Kty.of_below {t1 t2 : TypeId} {w w' : World} (b : Below w.heap.size w w') : Kty t1 t2 w w' := ⟨fun k hk _ _ => b.block k hk⟩
theorem Kty.of_grown {t1 t2 : TypeId} {w w' : World} {row : Option Nat} (hg : w.grownBy w' row) (hr : ∀ g, row = some g → ∃ c fz, w.heap[g]? = some (.cells c t1 fz)) : Kty t1 t2 w w' :=
  ⟨fun k hk h1 _ => hg.block k hk (fun e => by obtain ⟨c, fz, hc⟩ := hr k e.symm; exact h1 c fz hc)⟩
theorem NatIs.kty {t1 t2 : TypeId} {w w' : World} {v : Value} {n K : Nat} (h : NatIs w v n K) (k : Kty t1 t2 w w') (h1 : 213 ≠ t1) (h2 : 213 ≠ t2) : NatIs w' v n K := by
  obtain ⟨sl, L, e1, ho, r⟩ := h
  refine ⟨sl, L, e1, ⟨ho.1, ?_⟩, r⟩
  rcases ho.2 with hn | ⟨g, cap, cur, rfl, hb, hgg, rest⟩
  · exact .inl hn
  · refine .inr ⟨g, cap, cur, rfl, hb, ?_, rest⟩
    rw [k.block g (lt_of_block hgg) (fun c fz e => by rw [hgg] at e; simp only [Option.some.injEq, Obj.cells.injEq] at e; exact h1 e.2.1) (fun c fz e => by rw [hgg] at e; simp only [Option.some.injEq, Obj.cells.injEq] at e; exact h2 e.2.1)]
    exact hgg
theorem RefIs.kty {t1 t2 : TypeId} {w w' : World} {v : Value} {n K : Nat} (h : RefIs w v n K) (k : Kty t1 t2 w w') (h1 : 3 ≠ t1) (h2 : 3 ≠ t2) : RefIs w' v n K := by
  obtain ⟨sl, L, e1, ho, r⟩ := h
  refine ⟨sl, L, e1, ⟨ho.1, ?_⟩, r⟩
  rcases ho.2 with hn | ⟨g, cap, cur, rfl, hb, hgg, rest⟩
  · exact .inl hn
  · refine .inr ⟨g, cap, cur, rfl, hb, ?_, rest⟩
    rw [k.block g (lt_of_block hgg) (fun c fz e => by rw [hgg] at e; simp only [Option.some.injEq, Obj.cells.injEq] at e; exact h1 e.2.1) (fun c fz e => by rw [hgg] at e; simp only [Option.some.injEq, Obj.cells.injEq] at e; exact h2 e.2.1)]
    exact hgg
theorem QIs.kty {t1 t2 : TypeId} {w w' : World} {v : Value} {q : Rat} {K : Nat} (h : QIs w v q K) (k : Kty t1 t2 w w') (h1 : 213 ≠ t1) (h2 : 213 ≠ t2) : QIs w' v q K := by
  obtain ⟨a1, l1, c1, a2, l2, c2, e, ⟨b1, x1, y1, f1, n1⟩, ⟨b2, x2, y2, f2, n2⟩⟩ := h
  exact ⟨a1, l1, c1, a2, l2, c2, e, ⟨b1, x1, y1, f1, n1.kty k h1 h2⟩, ⟨b2, x2, y2, f2, n2.kty k h1 h2⟩⟩
theorem TIs.kty {t1 t2 : TypeId} {w w' : World} {v : Value} {q : Rat} {K : Nat} (h : TIs w v q K) (k : Kty t1 t2 w w') (h1 : 3 ≠ t1) (h2 : 3 ≠ t2) : TIs w' v q K := by
  obtain ⟨a1, l1, c1, a2, l2, c2, m, e, ⟨b1, x1, y1, f1, n1⟩, ⟨b2, x2, y2, f2, n2⟩, hd⟩ := h
  exact ⟨a1, l1, c1, a2, l2, c2, m, e, ⟨b1, x1, y1, f1, n1.kty k h1 h2⟩, ⟨b2, x2, y2, f2, n2.kty k h1 h2⟩, hd⟩
/-- Four cells each. -/
theorem four_at : ∀ (C : List (List Value)), (∀ c ∈ C, c.length = 4) → ∀ (k j : Nat) (hk : k < C.length), j < 4 → C.flatten[k * 4 + j]? = (C[k])[j]?
  | [], _, k, j, hk, _ => by simp at hk
  | x :: T, h, 0, j, _, hj => by
    rw [List.flatten_cons, Nat.zero_mul, Nat.zero_add, List.getElem?_append_left (by rw [h x List.mem_cons_self]; exact hj)]
    rfl
  | x :: T, h, k + 1, j, hk, hj => by
    have h1 : (k + 1) * 4 = k * 4 + 4 := Nat.succ_mul k 4
    have hx := h x List.mem_cons_self
    rw [List.flatten_cons, List.getElem?_append_right (by rw [hx]; omega), hx, show (k + 1) * 4 + j - 4 = k * 4 + j by omega, four_at T (fun c hc => h c (List.mem_cons_of_mem _ hc)) k j (by simpa using hk) hj]
    rfl
/-- A row of four-cell values, each of which is the number at its place. -/
structure Ls (I : World → Value → Rat → Nat → Prop) (e : TypeId) (w : World) (base : Nat) (v : Value) (C : List (List Value)) (X : List Rat) (K : Nat) : Prop where
  own : w.ownsRow base e 4 v X.length C.flatten
  len : C.length = X.length
  four : ∀ c ∈ C, c.length = 4
  is_ : ∀ i (h1 : i < C.length) (h2 : i < X.length), I w (.agg (C[i]).toArray) X[i] K
section
variable {I : World → Value → Rat → Nat → Prop} {e : TypeId} {w w' : World} {base : Nat} {v v' : Value} {C : List (List Value)} {X : List Rat} {K : Nat}
theorem Ls.below (hI : ∀ {w w' : World} {v : Value} {q : Rat} {K : Nat}, I w v q K → Below w.heap.size w w' → I w' v q K) (h : Ls I e w base v C X K) (b : Below w.heap.size w w') : Ls I e w' base v C X K :=
  ⟨⟨h.own.1, by
    rcases h.own.2 with hn | ⟨g, cap, cur, rfl, hb, hgg, rest⟩
    · exact .inl hn
    · exact .inr ⟨g, cap, cur, rfl, hb, (b.block g (lt_of_block hgg)).trans hgg, rest⟩⟩, h.len, h.four, fun i h1 h2 => hI (h.is_ i h1 h2) b⟩
theorem Ls.slice (h : Ls I e w base v C X K) : ∃ a c, v = .slice a X.length c ∧ X.length ≤ c ∧ c ≤ 9223372036854775807 := by
  rcases h.own.2 with ⟨e0, hz⟩ | ⟨g, cap, cur, e0, hb, hh, q1, q2, _⟩
  · exact ⟨none, 0, by rw [e0, hz], by omega, by omega⟩
  · unfold maxLen at q2
    exact ⟨_, cap, e0, q1, by omega⟩
theorem Ls.at (h : Ls I e w base v C X K) (i : Nat) (hi : i < X.length) : ∃ g c x0 x1 x2 x3, v = .slice (some ⟨g, 0, none⟩) X.length c ∧ base ≤ g ∧ w.cell? ⟨g, i * 4, none⟩ = some x0 ∧ w.cell? ⟨g, i * 4 + 1, none⟩ = some x1 ∧ w.cell? ⟨g, i * 4 + 2, none⟩ = some x2 ∧ w.cell? ⟨g, i * 4 + 3, none⟩ = some x3 ∧ I w (.agg #[x0, x1, x2, x3]) X[i] K := by
  have hiC : i < C.length := by rw [h.len]; exact hi
  have h4 := h.four _ (List.getElem_mem hiC)
  obtain ⟨x0, x1, x2, x3, hx⟩ : ∃ x0 x1 x2 x3, C[i] = [x0, x1, x2, x3] := by
    match hc : C[i], h4 with
    | [x0, x1, x2, x3], _ => exact ⟨x0, x1, x2, x3, rfl⟩
  have hI := h.is_ i hiC hi
  rw [hx] at hI
  rcases h.own.2 with ⟨e0, hz⟩ | ⟨g, cap, cur, e0, hb, hh, q1, q2, _⟩
  · omega
  · have key : ∀ j u, [x0, x1, x2, x3][j]? = some u → w.cell? ⟨g, i * 4 + j, none⟩ = some u := fun j u hu => by
      have hj : j < 4 := by simpa using (List.getElem?_eq_some_iff.1 hu).1
      have := h.own.cells (g := g) (by rw [e0]; rfl) (i * 4 + j) u (by rw [four_at C h.four i j hiC hj, hx]; exact hu)
      rw [add_off, Nat.zero_add] at this
      exact this
    exact ⟨g, cap, x0, x1, x2, x3, e0, hb, key 0 x0 rfl, key 1 x1 rfl, key 2 x2 rfl, key 3 x3 rfl, hI⟩
theorem Ls.push (h : Ls I e w base v C X K) {x0 x1 x2 x3 : Value} {q : Rat} (ho : w'.ownsRow base e 4 v' (X.length + 1) (C.flatten ++ [x0, x1, x2, x3])) (hI : ∀ {v : Value} {q : Rat}, I w v q K → I w' v q K) (hq : I w (.agg #[x0, x1, x2, x3]) q K) : Ls I e w' base v' (C ++ [[x0, x1, x2, x3]]) (X ++ [q]) K := by
  have hl := h.len
  refine ⟨by rw [List.length_append, List.flatten_append]; simpa using ho, by simp [hl], fun c hc => ?_, fun i h1 h2 => ?_⟩
  · rcases List.mem_append.1 hc with hc | hc
    · exact h.four c hc
    · simp only [List.mem_singleton] at hc
      subst hc; rfl
  · by_cases hi : i < X.length
    · rw [List.getElem_append_left (by omega), List.getElem_append_left hi]
      exact hI (h.is_ i (by omega) hi)
    · have hiX : i = X.length := by simp at h2; omega
      subst hiX
      rw [List.getElem_append_right (by omega), List.getElem_append_right (by omega)]
      simp only [hl, Nat.sub_self, List.getElem_cons_zero]
      exact hI hq
theorem Ls.none (w : World) (base : Nat) : Ls I e w base (.slice none 0 0) [] [] K := ⟨⟨rfl, .inl ⟨rfl, rfl⟩⟩, rfl, by simp, fun i h1 h2 => by simp at h2⟩
theorem Ls.mono {K' : Nat} (hI : ∀ {v : Value} {q : Rat}, I w v q K → I w v q K') (h : Ls I e w base v C X K) : Ls I e w base v C X K' := ⟨h.own, h.len, h.four, fun i h1 h2 => hI (h.is_ i h1 h2)⟩
end
/-- The program's list, and the document's. -/
abbrev QLs := Ls QIs 73
abbrev TLs := Ls TIs 35
end Go.Proofs.YtcdkoadobdgbhaaGreatDoor
