/- append of a slice. -/
import Derived.Test.YtgojlegknlalpaaGreatDoorPk35
import Derived.Test.YtgojlegknlalpaaGreatDoorZLBase
import Derived.Laws.OwnMore
import Derived.Maps.AppendAt
namespace Go.Proofs.YtgojlegknlalpaaGreatDoor
open Go.RowKit
set_option linter.unusedVariables false
set_option maxRecDepth 100000
set_option linter.unusedSimpArgs false

section
variable {P : Program} {w : World}
/-- append of nothing. -/
theorem run_append_nothing (base : Nat) (t ty e : TypeId) (i : TypeInfo) (size : Nat) (ht : P.underlying t = some (.slice e)) (hi : P.info? e = some i)
    (v : Value) (n : Nat) (xs : List Value) (hown : w.ownsRow base e size v n xs) (c : Nat) :
    (Builtin.append_ #[t, t] ty #[v, .slice none 0 c]).run P w = .ok v w := by
  rcases hown.2 with ⟨rfl, rfl⟩ | ⟨g, cap, cur, rfl, _, _, hnc, _⟩
  · simp [Builtin.append_, run_underlying ht, sizeOf, typeInfo, hi, Builtin.lenOf, Builtin.firstCells]
  · simp [Builtin.append_, run_underlying ht, sizeOf, typeInfo, hi, Builtin.lenOf, Builtin.firstCells, hnc, storeCells]
/-- What may be appended: these cells. -/
def SrcOf (w : World) (size m : Nat) (news : List Value) (u : Value) : Prop :=
  (m = 0 ∧ news = [] ∧ ∃ c, u = .slice none 0 c) ∨ ∃ ad c, u = .slice (some ad) m c ∧ news.length = m * size ∧ ∀ j u, news[j]? = some u → w.cell? (ad.add j) = some u
theorem wpList_append_src {ops : Array Oper} {rest : List Oper} {o : Oper} {a : Act} {Q : Exit → Act → World → Prop} (hgd : o.guard = none) (s x : Operand) (t : TypeId)
    (ho : o.op = .call { callee := .builtin .append, args := #[s, x], argTypes := #[t, t] })
    (base : Nat) (e : TypeId) (i : TypeInfo) (z : Value) (size bytes : Nat) (ht : P.underlying t = some (.slice e)) (hi : P.info? e = some i) (hz : i.zero = some z)
    (hsize : i.size = size) (hby : i.bytes = bytes) (hzs : z.cells.size = size) (hsz : 0 < size)
    (v : Value) (n : Nat) (xs : List Value) (hs : a.eval s = v) (hown : w.ownsRow base e size v n xs)
    (m : Nat) (news : List Value) (u : Value) (hx : a.eval x = u) (hsrc : SrcOf w size m news u) (h1 : ∀ u ∈ news, u.oneCell' = true)
    (h63 : n + m ≤ maxLen) (hbytes : (n + m) * bytes ≤ 140737488355328) (hbase : base ≤ w.heap.size)
    (h : ∀ v' w', w'.ownsRow base e size v' (n + m) (xs ++ news) → w.grownBy w' v.ownBlock → (v'.ownBlock = v.ownBlock ∨ v'.ownBlock = some w.heap.size) → wpList P ops Q rest (a.put o.dst v') w') :
    wpList P ops Q (o :: rest) a w := by
  rcases hsrc with ⟨rfl, rfl, c, rfl⟩ | ⟨ad, c, rfl, hl, hc⟩
  · refine wpList_plain hgd fun K hK => ?_
    have hr := run_append_nothing (P := P) (w := w) base t o.type e i size ht hi v n xs hown c
    unfold Oper.wp execOp
    simp only [ho, resolve, invoke, builtin, Sem.run_bind, Sem.run_pure, Result.andThen_ok, List.map_toArray, List.map_cons, List.map_nil, hs, hx, hr]
    exact hK _ _ (h v w (by simpa using hown) ⟨rfl, rfl, rfl, Nat.le_refl _, fun _ _ _ => rfl⟩ (Or.inl rfl))
  · exact wpList_append_own_at _ hgd s x t ho base e i z size bytes ht hi hz hsize hby hzs hsz v n xs hs hown ad m c news hx hl hc h1 h63 hbytes hbase (fun v' w' x1 x2 _ x4 => h v' w' x1 x2 x4)
end
theorem ints_src {w : World} {v : Value} {L : List Int} (h : Ints w v L) {a : Option Addr} {c : Nat} (hv : v = .slice a L.length c) : SrcOf w 1 L.length (intV L) (.slice a L.length c) := by
  obtain ⟨a', c', e1, e2, e3, e4⟩ := h
  rw [intV_len] at e1
  rw [hv] at e1
  simp only [Value.slice.injEq, true_and] at e1
  obtain ⟨rfl, rfl⟩ := e1
  cases a with
  | none =>
    rcases e4 with e4 | ⟨b, off, e4, _⟩
    · have : L = [] := by cases L with | nil => rfl | cons x L => simp [intV] at e4
      subst this
      exact Or.inl ⟨rfl, rfl, c, rfl⟩
    · cases e4
  | some ad =>
    refine Or.inr ⟨ad, c, rfl, by rw [intV_len, Nat.mul_one], fun j u hu => ?_⟩
    rcases e4 with e4 | ⟨b, off, e4, e5⟩
    · rw [e4] at hu; simp at hu
    · simp only [Option.some.injEq] at e4
      subst e4
      have hj := (List.getElem?_eq_some_iff.1 hu).1
      have := e5 j hj
      rw [(List.getElem?_eq_some_iff.1 hu).2] at this
      rw [add_off]; exact this
end Go.Proofs.YtgojlegknlalpaaGreatDoor
