/- cert: a denominator. -/
import Derived.Test.YtbmdoncdgopoaaaGreatDoorZCRow
import Derived.Deep.RegionLaw
namespace Go.Proofs.YtbmdoncdgopoaaaGreatDoor
open Go.RowKit
set_option linter.unusedVariables false
set_option maxRecDepth 100000
set_option linter.unusedSimpArgs false

theorem blk_set {w : World} {b : Nat} {C : Array Value} {t : TypeId} {fz : Nat × Nat} (h : w.heap[b]? = some (.cells C t fz)) (k : Nat) (v : Value) : (w.setCell ⟨b, k, none⟩ v).heap[b]? = some (.cells (C.setIfInBounds k v) t fz) := by
  rw [setCell_eq_setRow w b k C t fz v h]
  exact setRow_heap w b C _ t fz h
theorem blk_free {w : World} {b : Nat} {C : Array Value} {t : TypeId} (h : w.heap[b]? = some (.cells C t (0, 0))) (k : Nat) : w.frozen? ⟨b, k, none⟩ = false := by simp [World.frozen?, h]
/-- Four cells laid over. -/
theorem set4_kty {X : World} {r o : Nat} {C : Array Value} {t t1 t2 : TypeId} (h : X.heap[r]? = some (.cells C t (0, 0))) (ht : t = t1 ∨ t = t2) (x0 x1 x2 x3 : Value) :
    Kty t1 t2 X ((((X.setCell ⟨r, o, none⟩ x0).setCell ⟨r, o + 1, none⟩ x1).setCell ⟨r, o + 2, none⟩ x2).setCell ⟨r, o + 3, none⟩ x3) :=
  ⟨fun k hk h1 h2 => by
    have hne : k ≠ r := fun e => by
      subst e
      rcases ht with rfl | rfl
      · exact h1 _ _ h
      · exact h2 _ _ h
    rw [Below.heap_setCell _ ⟨r, o + 3, none⟩ x3 k hne, Below.heap_setCell _ ⟨r, o + 2, none⟩ x2 k hne, Below.heap_setCell _ ⟨r, o + 1, none⟩ x1 k hne, Below.heap_setCell _ ⟨r, o, none⟩ x0 k hne]⟩
theorem set4_below {B : Nat} {w X : World} {r o : Nat} (h : Below B w X) (hr : B ≤ r) (x0 x1 x2 x3 : Value) :
    Below B w ((((X.setCell ⟨r, o, none⟩ x0).setCell ⟨r, o + 1, none⟩ x1).setCell ⟨r, o + 2, none⟩ x2).setCell ⟨r, o + 3, none⟩ x3) :=
  ((((h.setCell (p := ⟨r, o, none⟩) hr x0).setCell (p := ⟨r, o + 1, none⟩) hr x1).setCell (p := ⟨r, o + 2, none⟩) hr x2).setCell (p := ⟨r, o + 3, none⟩) hr x3)
theorem own_ne_ty {w : World} {base size : Nat} {e t : TypeId} {v : Value} {n b : Nat} {xs : List Value} {c : Array Value} {fz : Nat × Nat} (h : w.ownsRow base e size v n xs) (hb : w.heap[b]? = some (.cells c t fz)) (hne : e ≠ t) : v.ownBlock ≠ some b := by
  rcases h.2 with ⟨rfl, _⟩ | ⟨g, cap, cur, rfl, _, hg, _⟩
  · simp [Value.ownBlock]
  · intro e1
    simp only [Value.ownBlock, Option.some.injEq] at e1
    subst e1
    rw [hb] at hg
    simp only [Option.some.injEq, Obj.cells.injEq] at hg
    exact hne hg.2.1.symm
theorem own_ty {w : World} {base size : Nat} {e : TypeId} {v : Value} {n : Nat} {xs : List Value} (h : w.ownsRow base e size v n xs) (g : Nat) (hg : v.ownBlock = some g) : ∃ c fz, w.heap[g]? = some (.cells c e fz) := by
  rcases h.2 with ⟨rfl, _⟩ | ⟨g', cap, cur, rfl, _, hh, _⟩
  · cases hg
  · simp only [Value.ownBlock, Option.some.injEq] at hg
    subst hg
    exact ⟨_, _, hh⟩
theorem own_form4 {w : World} {base size : Nat} {e : TypeId} {v : Value} {n : Nat} {xs : List Value} (h : w.ownsRow base e size v n xs) : ∃ sa sc, v = .slice sa n sc := by
  rcases h.2 with ⟨rfl, rfl⟩ | ⟨g, cap, cur, rfl, _⟩
  · exact ⟨_, _, rfl⟩
  · exact ⟨_, _, rfl⟩
theorem four_new (X : World) (t : TypeId) (v0 v1 v2 v3 : Value) : ∀ j u, [v0, v1, v2, v3][j]? = some u → (X.alloc (.cells #[v0, v1, v2, v3] t)).cell? ((⟨X.heap.size, 0, none⟩ : Addr).add j) = some u := by
  intro j u hu
  rw [add_off, Nat.zero_add]
  exact bxc (box_new X (.cells #[v0, v1, v2, v3] t)) j u (by simpa using hu)
/-- append onto a row of one's own, as one step of a region that draws. -/
theorem step_append_at {P : Program} {w : World} {ops : Array Oper} {o : Oper} {a : Act} {K : Act → World → Prop} {Q : Exit → Act → World → Prop} {E : Prop} (hg : o.guard = none) (s x : Operand) (t : TypeId)
    (ho : o.op = .call { callee := .builtin .append, args := #[s, x], argTypes := #[t, t] })
    (base : Nat) (e : TypeId) (i : TypeInfo) (z : Value) (size bytes : Nat) (ht : P.underlying t = some (.slice e)) (hi : P.info? e = some i) (hz : i.zero = some z)
    (hsize : i.size = size) (hby : i.bytes = bytes) (hzs : z.cells.size = size) (hsz : 0 < size)
    (v : Value) (n : Nat) (xs : List Value) (hs : a.eval s = v) (hown : w.ownsRow base e size v n xs)
    (ad : Addr) (m c : Nat) (news : List Value) (hx : a.eval x = .slice (some ad) m c) (hl : news.length = m * size) (hnews : ∀ j u, news[j]? = some u → w.cell? (ad.add j) = some u) (h1 : ∀ u ∈ news, u.oneCell' = true)
    (h63 : n + m ≤ maxLen) (hbytes : (n + m) * bytes ≤ 140737488355328) (hbase : base ≤ w.heap.size)
    (hK : ∀ v' w', w'.ownsRow base e size v' (n + m) (xs ++ news) → w.grownBy w' v.ownBlock → (v'.ownBlock = v.ownBlock ∨ v'.ownBlock = some w.heap.size) → K (a.put o.dst v') w') :
    if Region.wanted o (yielded ops a.tmps) = true then Oper.wp P o a w K Q else E := by
  have hw : Region.wanted o (yielded ops a.tmps) = true := by simp [Region.wanted, hg]
  rw [if_pos hw]
  obtain ⟨v', w', hr, h2, h3, _, h5⟩ := run_append_own_at (P := P) w base t o.type e i z size bytes ht hi hz hsize hby hzs hsz v n xs hown ad m c news hl hnews h1 h63 hbytes hbase
  unfold Oper.wp
  simp [execOp, ho, resolve, invoke, builtin, hs, hx, hr, Result.andThen]
  exact hK v' w' h2 h3 h5
end Go.Proofs.YtbmdoncdgopoaaaGreatDoor
