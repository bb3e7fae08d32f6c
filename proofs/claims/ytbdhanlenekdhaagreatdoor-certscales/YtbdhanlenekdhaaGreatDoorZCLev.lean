/- cert: a denominator. -/
import Derived.Test.YtbdhanlenekdhaaGreatDoorZCRow
import Derived.Deep.RegionLaw
namespace Go.Proofs.YtbdhanlenekdhaaGreatDoor
open Go.RowKit
set_option linter.unusedVariables false
set_option maxRecDepth 100000
set_option linter.unusedSimpArgs false

theorem blk_set {w : World} {b : Nat} {C : Array Value} {t : TypeId} {fz : Nat × Nat} (h : w.heap[b]? = some (.cells C t fz)) (k : Nat) (v : Value) : (w.setCell ⟨b, k, none⟩ v).heap[b]? = some (.cells (C.setIfInBounds k v) t fz) := by
  rw [setCell_eq_setRow w b k C t fz v h]
  exact setRow_heap w b C _ t fz h
theorem blk_free {w : World} {b : Nat} {C : Array Value} {t : TypeId} (h : w.heap[b]? = some (.cells C t (0, 0))) (k : Nat) : w.frozen? ⟨b, k, none⟩ = false := by simp [World.frozen?, h]
/-- Four cells laid over. -/
theorem set4_kty {X : World} {r o : Nat} {C : Array Value} {t t1 t2 : TypeId} (h : X.heap[r]? = some (.cells C t (0, 0))) (ht : t = t1 ∨ t = t2) (x0 x1 x2 x3 : Value) :
    Kty t1 t2 X ((((X.setCell ⟨r, o, none⟩ x0).setCell ⟨r, o + 1, none⟩ x1).setCell ⟨r, o + 2, none⟩ x2).setCell ⟨r, o + 3, none⟩ x3) :=
  ⟨fun k hk h1 h2 => by
    have hne : k ≠ r := fun e => by
      subst e
      rcases ht with rfl | rfl
      · exact h1 _ _ h
      · exact h2 _ _ h
    rw [Below.heap_setCell _ ⟨r, o + 3, none⟩ x3 k hne, Below.heap_setCell _ ⟨r, o + 2, none⟩ x2 k hne, Below.heap_setCell _ ⟨r, o + 1, none⟩ x1 k hne, Below.heap_setCell _ ⟨r, o, none⟩ x0 k hne]⟩
theorem set4_below {B : Nat} {w X : World} {r o : Nat} (h : Below B w X) (hr : B ≤ r) (x0 x1 x2 x3 : Value) :
    Below B w ((((X.setCell ⟨r, o, none⟩ x0).setCell ⟨r, o + 1, none⟩ x1).setCell ⟨r, o + 2, none⟩ x2).setCell ⟨r, o + 3, none⟩ x3) :=
  ((((h.setCell (p := ⟨r, o, none⟩) hr x0).setCell (p := ⟨r, o + 1, none⟩) hr x1).setCell (p := ⟨r, o + 2, none⟩) hr x2).setCell (p := ⟨r, o + 3, none⟩) hr x3)
theorem own_ne_ty {w : World} {base size : Nat} {e t : TypeId} {v : Value} {n b : Nat} {xs : List Value} {c : Array Value} {fz : Nat × Nat} (h : w.ownsRow base e size v n xs) (hb : w.heap[b]? = some (.cells c t fz)) (hne : e ≠ t) : v.ownBlock ≠ some b := by
  rcases h.2 with ⟨rfl, _⟩ | ⟨g, cap, cur, rfl, _, hg, _⟩
  · simp [Value.ownBlock]
  · intro e1
    simp only [Value.ownBlock, Option.some.injEq] at e1
    subst e1
    rw [hb] at hg
    simp only [Option.some.injEq, Obj.cells.injEq] at hg
    exact hne hg.2.1.symm
theorem own_ty {w : World} {base size : Nat} {e : TypeId} {v : Value} {n : Nat} {xs : List Value} (h : w.ownsRow base e size v n xs) (g : Nat) (hg : v.ownBlock = some g) : ∃ c fz, w.heap[g]? = some (.cells c e fz) := by
  rcases h.2 with ⟨rfl, _⟩ | ⟨g', cap, cur, rfl, _, hh, _⟩
  · cases hg
  · simp only [Value.ownBlock, Option.some.injEq] at hg
    subst hg
    exact ⟨_, _, hh⟩
theorem own_form4 {w : World} {base size : Nat} {e : TypeId} {v : Value} {n : Nat} {xs : List Value} (h : w.ownsRow base e size v n xs) : ∃ sa sc, v = .slice sa n sc := by
  rcases h.2 with ⟨rfl, rfl⟩ | ⟨g, cap, cur, rfl, _⟩
  · exact ⟨_, _, rfl⟩
  · exact ⟨_, _, rfl⟩
theorem QLs.set {X : World} {base : Nat} {v : Value} {C : List (List Value)} {L : List Rat} {K bx i : Nat} {c : Array Value} {fz : Nat × Nat} (h : QLs X base v C L K) (hb : X.heap[bx]? = some (.cells c 71 fz)) (u : Value) : QLs (X.setCell ⟨bx, i, none⟩ u) base v C L K :=
  ⟨ownsRow_setCell_other h.own (a := ⟨bx, i, none⟩) (own_ne_ty h.own hb (by decide)) u, h.len, h.four, fun j h1 h2 => (h.is_ j h1 h2).kty (Kty.of_set (t1 := 69) (t2 := 71) hb (Or.inr rfl) u) (by decide) (by decide)⟩
theorem four_new (X : World) (t : TypeId) (v0 v1 v2 v3 : Value) : ∀ j u, [v0, v1, v2, v3][j]? = some u → (X.alloc (.cells #[v0, v1, v2, v3] t)).cell? ((⟨X.heap.size, 0, none⟩ : Addr).add j) = some u := by
  intro j u hu
  rw [add_off, Nat.zero_add]
  exact bxc (box_new X (.cells #[v0, v1, v2, v3] t)) j u (by simpa using hu)
/-- append onto a row of one's own, as one step of a region that draws. -/
theorem step_append_at {P : Program} {w : World} {ops : Array Oper} {o : Oper} {a : Act} {K : Act → World → Prop} {Q : Exit → Act → World → Prop} {E : Prop} (hg : o.guard = none) (s x : Operand) (t : TypeId)
    (ho : o.op = .call { callee := .builtin .append, args := #[s, x], argTypes := #[t, t] })
    (base : Nat) (e : TypeId) (i : TypeInfo) (z : Value) (size bytes : Nat) (ht : P.underlying t = some (.slice e)) (hi : P.info? e = some i) (hz : i.zero = some z)
    (hsize : i.size = size) (hby : i.bytes = bytes) (hzs : z.cells.size = size) (hsz : 0 < size)
    (v : Value) (n : Nat) (xs : List Value) (hs : a.eval s = v) (hown : w.ownsRow base e size v n xs)
    (ad : Addr) (m c : Nat) (news : List Value) (hx : a.eval x = .slice (some ad) m c) (hl : news.length = m * size) (hnews : ∀ j u, news[j]? = some u → w.cell? (ad.add j) = some u) (h1 : ∀ u ∈ news, u.oneCell' = true)
    (h63 : n + m ≤ maxLen) (hbytes : (n + m) * bytes ≤ 140737488355328) (hbase : base ≤ w.heap.size)
    (hK : ∀ v' w', w'.ownsRow base e size v' (n + m) (xs ++ news) → w.grownBy w' v.ownBlock → (v'.ownBlock = v.ownBlock ∨ v'.ownBlock = some w.heap.size) → K (a.put o.dst v') w') :
    if Region.wanted o (yielded ops a.tmps) = true then Oper.wp P o a w K Q else E := by
  have hw : Region.wanted o (yielded ops a.tmps) = true := by simp [Region.wanted, hg]
  rw [if_pos hw]
  obtain ⟨v', w', hr, h2, h3, _, h5⟩ := run_append_own_at (P := P) w base t o.type e i z size bytes ht hi hz hsize hby hzs hsz v n xs hown ad m c news hl hnews h1 h63 hbytes hbase
  unfold Oper.wp
  simp [execOp, ho, resolve, invoke, builtin, hs, hx, hr, Result.andThen]
  exact hK v' w' h2 h3 h5
set_option maxHeartbeats 3200000 in
theorem denominator_any (w : World) (v : Value) (q : Rat) (K : Nat) (hK : K ≤ 1000000) (h : QIs w v q K) :
    Calls Tryz.prog 88 #[v] w fun e w' => ∃ v, e = .returned v ∧ QIs w' v ((q.den : Nat) : Rat) (K + 9) ∧ Below w.heap.size w w' := by
  obtain ⟨a1, l1, c1, b1, a2, l2, c2, b2, rfl⟩ := h.form
  have hx := boxed2_first w (Obj.cells #[.slice a1 l1 c1, .bool b1, .slice a2 l2 c2, .bool b2] 69) (Obj.cells #[.slice none 0 0, .bool false, .slice none 0 0, .bool false] 69)
  have hy := boxed2_second w (Obj.cells #[.slice a1 l1 c1, .bool b1, .slice a2 l2 c2, .bool b2] 69) (Obj.cells #[.slice none 0 0, .bool false, .slice none 0 0, .bool false] 69)
  have hB := boxed2 (Below.refl w.heap.size w) (Obj.cells #[.slice a1 l1 c1, .bool b1, .slice a2 l2 c2, .bool b2] 69) (Obj.cells #[.slice none 0 0, .bool false, .slice none 0 0, .bool false] 69)
  have HQ := hid (h.below hB)
  obtain ⟨x0, x1, x2, x3⟩ := four_cell hx
  clear h
  go_enter Tryz.func88, Tryz.ntmps88
  go_wp2_with fail
  generalize (w.alloc (Obj.cells #[.slice a1 l1 c1, .bool b1, .slice a2 l2 c2, .bool b2] 69)).alloc (Obj.cells #[.slice none 0 0, .bool false, .slice none 0 0, .bool false] 69) = W at *
  refine (q_den _ _ q K (by omega) HQ.out).mono ?_
  rintro e X1 ⟨v1, rfl, n1, bX1⟩
  obtain ⟨d1, d2, d3, d4, rfl⟩ := num_form n1
  have N1 := hid n1
  have BX1 := hid (chain2 hB bX1)
  have hy1 := box_below bX1 hy (lt_of_block hy)
  clear n1 bX1 hB hx hy x0 x1 x2 x3 HQ
  go_wp2_with fail
  refine (q_of X1 1 (by omega) (by omega)).mono ?_
  rintro e X2 ⟨v2, rfl, n2, bX2⟩
  obtain ⟨e1, e2, e3, e4, e5, e6, e7, e8, rfl⟩ := n2.form
  have N2 := hid n2
  have M1 := hid (N1.out.below bX2)
  have BX2 := hid (chain2 BX1.out bX2)
  have hy2 := box_below bX2 hy1 (lt_of_block hy1)
  clear n2 bX2 hy1 N1 BX1
  go_wp2_with fail
  refine (q_num X2 _ _ 2 (by omega) N2.out).mono ?_
  rintro e X3 ⟨v3, rfl, n3, bX3⟩
  obtain ⟨f1, f2, f3, f4, rfl⟩ := num_form n3
  have N3 := hid n3
  have M2 := hid (M1.out.below bX3)
  have BX3 := hid (chain2 BX2.out bX3)
  have hy3 := box_below bX3 hy2 (lt_of_block hy2)
  clear n3 bX3 hy2 M1 N2 BX2
  go_wp2_with fail
  refine (q_make X3 _ _ (q.den : Int) 1 (K + 3) (by omega) M2.out (N3.out.mono (by omega)) (by omega)).mono ?_
  rintro e X4 ⟨g1, g2, g3, g4, g5, g6, g7, g8, rfl, n4, bX4⟩
  have hval : Rat.divInt (q.den : Int) 1 = ((q.den : Nat) : Rat) := Rat.ext (by simp [Rat.num_divInt]) (by simp [Rat.den_divInt])
  rw [hval] at n4
  have BX4 := hid (chain2 BX3.out bX4)
  have hy4 := box_below bX4 hy3 (lt_of_block hy3)
  have bA := (Below.refl X4.heap.size X4).alloc (Nat.le_refl _) (Obj.cells #[.slice g1 g2 g3, .bool g4, .slice g5 g6 g7, .bool g8] 69)
  have hyA := box_alloc hy4 (Obj.cells #[.slice g1 g2 g3, .bool g4, .slice g5 g6 g7, .bool g8] 69)
  have hnA := box_new X4 (Obj.cells #[.slice g1 g2 g3, .bool g4, .slice g5 g6 g7, .bool g8] 69)
  obtain ⟨u0, u1, u2, u3⟩ := four_cell hnA
  obtain ⟨y0, y1, y2, y3⟩ := four_cell hyA
  have fr := free_four hyA
  have hr' := set4_own hyA (.slice g1 g2 g3) (.bool g4) (.slice g5 g6 g7) (.bool g8)
  obtain ⟨r0, r1, r2, r3⟩ := four_cell hr'
  have HO := hid (And.intro r0 (And.intro r1 (And.intro r2 r3)))
  have BA := hid (set4_below (o := 0) (below_alloc' BX4.out (Nat.le_refl _) (Obj.cells #[.slice g1 g2 g3, .bool g4, .slice g5 g6 g7, .bool g8] 69)) (show w.heap.size ≤ w.heap.size + 1 by omega) (.slice g1 g2 g3) (.bool g4) (.slice g5 g6 g7) (.bool g8))
  have NQ := hid ((n4.below bA).kty (set4_kty (o := 0) (t1 := 69) (t2 := 69) hyA (Or.inl rfl) (.slice g1 g2 g3) (.bool g4) (.slice g5 g6 g7) (.bool g8)) (by decide) (by decide))
  clear n4 bX4 hy3 hy4 hyA hnA bA r0 r1 r2 r3 hr' BX3 BX4 M2 N3
  go_wp2_with (refine wpList_store_fresh rfl 69 _ _ rfl _ _ _ rfl (by simp) rfl 4 info_Rat (by rfl) (by rfl) (by simp [Value.oneCell']) ?_)
  go_wp2
  exact bodyPost_ret (v := .agg #[.slice g1 g2 g3, .bool g4, .slice g5 g6 g7, .bool g8]) (by simp [results, Tryz.results88, go_sem, HO.out.1, HO.out.2.1, HO.out.2.2.1, HO.out.2.2.2]) rfl ⟨_, rfl, NQ.out, BA.out⟩
end Go.Proofs.YtbdhanlenekdhaaGreatDoor
