/- BookOrder: the document's book whole. -/
import Derived.Test.YtbkobimbdiogfaaBRefN
import Derived.Laws.OwnMore
import Derived.Maps.AppendAt
namespace Go.Proofs.Ytbkobimbdiogfaa
open Go.RowKit Go.MapKept
set_option linter.unusedVariables false
set_option maxRecDepth 100000
set_option linter.unusedSimpArgs false

section
variable {P : Program} {w : World}
/-- append of nothing. -/
theorem run_append_nothing (base : Nat) (t ty e : TypeId) (i : TypeInfo) (size : Nat) (ht : P.underlying t = some (.slice e)) (hi : P.info? e = some i)
    (v : Value) (n : Nat) (xs : List Value) (hown : w.ownsRow base e size v n xs) (c : Nat) :
    (Builtin.append_ #[t, t] ty #[v, .slice none 0 c]).run P w = .ok v w := by
  rcases hown.2 with ⟨rfl, rfl⟩ | ⟨g, cap, cur, rfl, _, _, hnc, _⟩
  · simp [Builtin.append_, run_underlying ht, sizeOf, typeInfo, hi, Builtin.lenOf, Builtin.firstCells]
  · simp [Builtin.append_, run_underlying ht, sizeOf, typeInfo, hi, Builtin.lenOf, Builtin.firstCells, hnc, storeCells]
/-- What may be appended: these cells. -/
def SrcOf (w : World) (size m : Nat) (news : List Value) (u : Value) : Prop :=
  (m = 0 ∧ news = [] ∧ ∃ c, u = .slice none 0 c) ∨ ∃ ad c, u = .slice (some ad) m c ∧ news.length = m * size ∧ ∀ j u, news[j]? = some u → w.cell? (ad.add j) = some u
theorem wpList_append_src {ops : Array Oper} {rest : List Oper} {o : Oper} {a : Act} {Q : Exit → Act → World → Prop} (hgd : o.guard = none) (s x : Operand) (t : TypeId)
    (ho : o.op = .call { callee := .builtin .append, args := #[s, x], argTypes := #[t, t] })
    (base : Nat) (e : TypeId) (i : TypeInfo) (z : Value) (size bytes : Nat) (ht : P.underlying t = some (.slice e)) (hi : P.info? e = some i) (hz : i.zero = some z)
    (hsize : i.size = size) (hby : i.bytes = bytes) (hzs : z.cells.size = size) (hsz : 0 < size)
    (v : Value) (n : Nat) (xs : List Value) (hs : a.eval s = v) (hown : w.ownsRow base e size v n xs)
    (m : Nat) (news : List Value) (u : Value) (hx : a.eval x = u) (hsrc : SrcOf w size m news u) (h1 : ∀ u ∈ news, u.oneCell' = true)
    (h63 : n + m ≤ maxLen) (hbytes : (n + m) * bytes ≤ 140737488355328) (hbase : base ≤ w.heap.size)
    (h : ∀ v' w', w'.ownsRow base e size v' (n + m) (xs ++ news) → w.grownBy w' v.ownBlock → (v'.ownBlock = v.ownBlock ∨ v'.ownBlock = some w.heap.size) → wpList P ops Q rest (a.put o.dst v') w') :
    wpList P ops Q (o :: rest) a w := by
  rcases hsrc with ⟨rfl, rfl, c, rfl⟩ | ⟨ad, c, rfl, hl, hc⟩
  · refine wpList_plain hgd fun K hK => ?_
    have hr := run_append_nothing (P := P) (w := w) base t o.type e i size ht hi v n xs hown c
    unfold Oper.wp execOp
    simp only [ho, resolve, invoke, builtin, Sem.run_bind, Sem.run_pure, Result.andThen_ok, List.map_toArray, List.map_cons, List.map_nil, hs, hx, hr]
    exact hK _ _ (h v w (by simpa using hown) ⟨rfl, rfl, rfl, Nat.le_refl _, fun _ _ _ => rfl⟩ (Or.inl rfl))
  · exact wpList_append_own_at _ hgd s x t ho base e i z size bytes ht hi hz hsize hby hzs hsz v n xs hs hown ad m c news hx hl hc h1 h63 hbytes hbase (fun v' w' x1 x2 _ x4 => h v' w' x1 x2 x4)
end
theorem own_set {w : World} {base : Nat} {e : TypeId} {size : Nat} {v : Value} {n : Nat} {xs : List Value} (h : w.ownsRow base e size v n xs) {g : Nat} (hv : v.ownBlock = some g) (k : Nat) (hk : k < xs.length) (u : Value) :
    (w.setCell ⟨g, k, none⟩ u).ownsRow base e size v n (xs.set k u) := by
  obtain ⟨h1, h2⟩ := h
  refine ⟨by simpa using h1, ?_⟩
  rcases h2 with ⟨rfl, _⟩ | ⟨g', cap, cur, rfl, hb, hh, q1, q2, q3, q4⟩
  · cases hv
  · simp only [Value.ownBlock, Option.some.injEq] at hv
    subst hv
    refine Or.inr ⟨g', cap, cur.setIfInBounds k u, rfl, hb, ?_, q1, q2, by simpa using q3, ?_⟩
    · rw [setCell_eq_setRow w g' k cur e (0, 0) u hh]
      exact setRow_heap w g' cur _ e (0, 0) hh
    · rw [Array.toList_setIfInBounds, List.take_set, q4]
def rowR (who : ByteArray) (R : Rf) : List Value := R.flatMap (onC who)
theorem onC_len (who : ByteArray) (e : Kb × Bool) : (onC who e).length = 20 := rfl
theorem rowR_len (who : ByteArray) : ∀ R : Rf, (rowR who R).length = R.length * 20
  | [] => rfl
  | e :: R => by
    have ih := rowR_len who R
    unfold rowR at ih ⊢
    rw [List.flatMap_cons, List.length_append, ih, onC_len, List.length_cons]; omega
theorem rowR_app (who : ByteArray) (R : Rf) (e : Kb × Bool) : rowR who (R ++ [e]) = rowR who R ++ onC who e := by simp [rowR]
theorem rowR_at (who : ByteArray) : ∀ (R : Rf) (k j : Nat) (hk : k < R.length), j < 20 → (rowR who R)[k * 20 + j]? = (onC who R[k])[j]?
  | [], k, j, hk, _ => by simp at hk
  | x :: T, 0, j, _, hj => by
    unfold rowR
    rw [List.flatMap_cons, Nat.zero_mul, Nat.zero_add, List.getElem?_append_left (by rw [onC_len]; exact hj)]
    rfl
  | x :: T, k + 1, j, hk, hj => by
    have h1 : (k + 1) * 20 = k * 20 + 20 := Nat.succ_mul k 20
    have ih := rowR_at who T k j (by simpa using hk) hj
    unfold rowR at ih ⊢
    rw [List.flatMap_cons, List.getElem?_append_right (by rw [onC_len]; omega), onC_len, show (k + 1) * 20 + j - 20 = k * 20 + j by omega, ih]
    rfl
theorem rowR_gone (who : ByteArray) : ∀ (R : Rf) (i : Nat) (hi : i < R.length), (rowR who R).set (i * 20 + 19) (.bool true) = rowR who (R.set i ((R[i]).1, true))
  | [], i, hi => by simp at hi
  | x :: T, 0, _ => by
    unfold rowR
    rw [List.flatMap_cons, List.set_append_left _ _ (by rw [onC_len]; omega)]
    rfl
  | x :: T, i + 1, hi => by
    have ih := rowR_gone who T i (by simpa using hi)
    unfold rowR at ih ⊢
    rw [List.flatMap_cons, List.set_append_right _ _ (by rw [onC_len]; omega), onC_len, show (i + 1) * 20 + 19 - 20 = i * 20 + 19 by omega, ih]
    rfl
theorem onC_one (who : ByteArray) (e : Kb × Bool) (hq : ∃ a n c, e.1.qv = .slice a n c) : ∀ u ∈ onC who e, u.oneCell' = true := by
  obtain ⟨a, n, c, hq⟩ := hq
  intro u hu
  unfold onC kbC at hu
  rw [hq] at hu
  simp at hu
  rcases hu with rfl | rfl | rfl | rfl | rfl | rfl | rfl | rfl | rfl | rfl | rfl | rfl | rfl | rfl | rfl | rfl | rfl | rfl | rfl | rfl <;> rfl
theorem KbFits.form {w : World} {z : Kb} (h : KbFits w z) : ∃ a n c, z.qv = .slice a n c := by
  obtain ⟨a, c, e, _⟩ := h.ints.slice
  exact ⟨a, _, c, e⟩
/-- The document's book, in blocks of P. -/
structure RBx (P : Nat → Prop) (w : World) (bb : Nat) (who : ByteArray) (a : Option Addr) (cap : Nat) (R : Rf) : Prop where
  blk : w.heap[bb]? = some (.cells #[.slice a R.length cap] 45 (0, 0))
  own : w.ownsRow 0 84 20 (.slice a R.length cap) R.length (rowR who R)
  len : R.length ≤ 24
  fits : ∀ e ∈ R, KbFits w e.1
  locks : ∀ e ∈ R, e.1.kind = 1 → 1 ≤ e.1.cents ∧ e.1.cents ≤ 1000000000
  plt : ∀ i, P i → i < w.heap.size
  inb : P bb
  ina : ∀ g, a = some ⟨g, 0, none⟩ → P g
  inq : ∀ e ∈ R, e.1.Q = [] ∨ ∀ b off n c, e.1.qv = .slice (some ⟨b, off, none⟩) n c → P b
section
variable {P : Nat → Prop} {w w' : World} {bb : Nat} {who : ByteArray} {a : Option Addr} {cap : Nat} {R : Rf}
theorem RBx.rb (h : RBx P w bb who a cap R) : RB w bb who a cap R := by
  have hc : R.length ≤ cap ∧ cap ≤ 9223372036854775807 := by
    rcases h.own.2 with ⟨e, h0⟩ | ⟨g, cap', cur, e, _, _, q1, q2, _⟩
    · simp only [Value.slice.injEq] at e; omega
    · simp only [Value.slice.injEq] at e
      unfold maxLen at q2
      omega
  refine ⟨h.blk, h.len, hc, fun i hi => ?_, h.fits⟩
  rcases h.own.2 with ⟨e, h0⟩ | ⟨g, cap', cur, e, _, hh, q1, q2, q3, q4⟩
  · omega
  · simp only [Value.slice.injEq] at e
    obtain ⟨rfl, _, rfl⟩ := e
    refine ⟨g, rfl, fun j u hu => ?_⟩
    have hj : j < 20 := by
      have := (List.getElem?_eq_some_iff.1 hu).1
      rwa [onC_len] at this
    rw [h.own.cellAt (i * 20 + j) (by omega), rowR_at who R i j hi hj]
    exact hu
theorem kbfits_kx {T : Nat → Prop} {z : Kb} (h : KbFits w z) (k : Kx T w w') (hq : z.Q = [] ∨ ∀ b off n c, z.qv = .slice (some ⟨b, off, none⟩) n c → ¬ T b) : KbFits w' z := by
  refine { h with ints := ?_ }
  rcases hq with hq | hq
  · have h1 := h.ints
    rw [hq] at h1 ⊢
    obtain ⟨a, c, e1, e2, e3, _⟩ := h1
    exact ⟨a, c, e1, e2, e3, Or.inl rfl⟩
  · exact Row1.kx h.ints k hq
theorem RBx.kx {T : Nat → Prop} (h : RBx P w bb who a cap R) (k : Kx T w w') (hT : ∀ i, P i → ¬ T i) : RBx P w' bb who a cap R := by
  refine { h with plt := fun i hi => Nat.lt_of_lt_of_le (h.plt i hi) k.size, blk := k.blk h.blk (hT bb h.inb), own := ⟨h.own.1, ?_⟩, fits := fun e he => kbfits_kx (h.fits e he) k ?_ }
  · rcases h.own.2 with h2 | ⟨g, cap', cur, e, hb, hh, r⟩
    · exact Or.inl h2
    · have e' := e
      simp only [Value.slice.injEq] at e'
      exact Or.inr ⟨g, cap', cur, e, hb, k.blk hh (hT g (h.ina g e'.1)), r⟩
  · rcases h.inq e he with h2 | h2
    · exact Or.inl h2
    · exact Or.inr fun b off n c e => hT b (h2 b off n c e)
theorem RBx.below (h : RBx P w bb who a cap R) (k : Below w.heap.size w w') : RBx P w' bb who a cap R := h.kx (T := fun _ => False) (Kx.of_below k) (fun _ _ h => h)
theorem RBx.mono {P' : Nat → Prop} (h : RBx P w bb who a cap R) (hp : ∀ i, P i → P' i) (hlt : ∀ i, P' i → i < w.heap.size) : RBx P' w bb who a cap R :=
  { h with plt := hlt, inb := hp _ h.inb, ina := fun g e => hp g (h.ina g e), inq := fun e he => (h.inq e he).imp id (fun h2 b off n c e => hp b (h2 b off n c e)) }
end
theorem lock_bound : ∀ R : Rf, (∀ e ∈ R, e.1.kind = 1 → 1 ≤ e.1.cents ∧ e.1.cents ≤ 1000000000) → 0 ≤ lockR R ∧ lockR R ≤ 1000000000 * (R.length : Int)
  | [], _ => by simp [lockR]
  | e :: R, h => by
    have ih := lock_bound R (fun x hx => h x (List.mem_cons_of_mem _ hx))
    have h1 := h e List.mem_cons_self
    unfold lockR at ih ⊢
    rw [List.map_cons, List.sum_cons, List.length_cons]
    by_cases hk : e.1.kind = 1
    · rw [if_pos hk]
      have := h1 hk
      omega
    · rw [if_neg hk]; omega
theorem RBx.hb {P : Nat → Prop} {w : World} {bb : Nat} {who : ByteArray} {a : Option Addr} {cap : Nat} {R : Rf} (h : RBx P w bb who a cap R) : ∀ k, k ≤ R.length → 0 ≤ lockR (R.take k) ∧ lockR (R.take k) ≤ 24000000000 := by
  intro k hk
  have := lock_bound (R.take k) (fun e he => h.locks e (List.mem_of_mem_take he))
  rw [List.length_take] at this
  have := h.len
  omega
theorem kbC_who (z : Kb) (who : ByteArray) (qv : Value) : kbC { z with swho := who, bwho := who, qv := qv } = #[.int .i64 z.kind, .int .i64 z.cents, .int .i64 z.seq, .string who, .int .i64 z.sseq, .int .i64 z.szone, .int .i64 z.shour, .bool z.sbuy, .int .i64 z.sqty, .int .i64 z.sprice, .string who, .int .i64 z.bseq, .int .i64 z.bzone, .bool z.bbuy, .int .i64 z.bprice, qv, .int .i64 z.parent, .int .i64 z.group] := rfl
end Go.Proofs.Ytbkobimbdiogfaa
