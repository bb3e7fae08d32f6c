/- CLev, UList, UListOf, GRows, ULowM. -/
import Derived.Test.YtgojlegknlalpaaGreatDoorPk34
import Derived.Deep.RegionLaw
import Derived.Deep.RegionHeld3
import Derived.Test.YtgojlegknlalpaaGreatDoorZLBase
/- cert: a denominator. -/
namespace Go.Proofs.YtgojlegknlalpaaGreatDoor
open Go.RowKit
set_option linter.unusedVariables false
set_option maxRecDepth 100000
set_option linter.unusedSimpArgs false

theorem blk_set {w : World} {b : Nat} {C : Array Value} {t : TypeId} {fz : Nat × Nat} (h : w.heap[b]? = some (.cells C t fz)) (k : Nat) (v : Value) : (w.setCell ⟨b, k, none⟩ v).heap[b]? = some (.cells (C.setIfInBounds k v) t fz) := by
  rw [setCell_eq_setRow w b k C t fz v h]
  exact setRow_heap w b C _ t fz h
theorem blk_free {w : World} {b : Nat} {C : Array Value} {t : TypeId} (h : w.heap[b]? = some (.cells C t (0, 0))) (k : Nat) : w.frozen? ⟨b, k, none⟩ = false := by simp [World.frozen?, h]
/-- Four cells laid over. -/
theorem set4_kty {X : World} {r o : Nat} {C : Array Value} {t t1 t2 : TypeId} (h : X.heap[r]? = some (.cells C t (0, 0))) (ht : t = t1 ∨ t = t2) (x0 x1 x2 x3 : Value) :
    Kty t1 t2 X ((((X.setCell ⟨r, o, none⟩ x0).setCell ⟨r, o + 1, none⟩ x1).setCell ⟨r, o + 2, none⟩ x2).setCell ⟨r, o + 3, none⟩ x3) :=
  ⟨fun k hk h1 h2 => by
    have hne : k ≠ r := fun e => by
      subst e
      rcases ht with rfl | rfl
      · exact h1 _ _ h
      · exact h2 _ _ h
    rw [Below.heap_setCell _ ⟨r, o + 3, none⟩ x3 k hne, Below.heap_setCell _ ⟨r, o + 2, none⟩ x2 k hne, Below.heap_setCell _ ⟨r, o + 1, none⟩ x1 k hne, Below.heap_setCell _ ⟨r, o, none⟩ x0 k hne]⟩
theorem set4_below {B : Nat} {w X : World} {r o : Nat} (h : Below B w X) (hr : B ≤ r) (x0 x1 x2 x3 : Value) :
    Below B w ((((X.setCell ⟨r, o, none⟩ x0).setCell ⟨r, o + 1, none⟩ x1).setCell ⟨r, o + 2, none⟩ x2).setCell ⟨r, o + 3, none⟩ x3) :=
  ((((h.setCell (p := ⟨r, o, none⟩) hr x0).setCell (p := ⟨r, o + 1, none⟩) hr x1).setCell (p := ⟨r, o + 2, none⟩) hr x2).setCell (p := ⟨r, o + 3, none⟩) hr x3)
theorem own_ne_ty {w : World} {base size : Nat} {e t : TypeId} {v : Value} {n b : Nat} {xs : List Value} {c : Array Value} {fz : Nat × Nat} (h : w.ownsRow base e size v n xs) (hb : w.heap[b]? = some (.cells c t fz)) (hne : e ≠ t) : v.ownBlock ≠ some b := by
  rcases h.2 with ⟨rfl, _⟩ | ⟨g, cap, cur, rfl, _, hg, _⟩
  · simp [Value.ownBlock]
  · intro e1
    simp only [Value.ownBlock, Option.some.injEq] at e1
    subst e1
    rw [hb] at hg
    simp only [Option.some.injEq, Obj.cells.injEq] at hg
    exact hne hg.2.1.symm
theorem own_ty {w : World} {base size : Nat} {e : TypeId} {v : Value} {n : Nat} {xs : List Value} (h : w.ownsRow base e size v n xs) (g : Nat) (hg : v.ownBlock = some g) : ∃ c fz, w.heap[g]? = some (.cells c e fz) := by
  rcases h.2 with ⟨rfl, _⟩ | ⟨g', cap, cur, rfl, _, hh, _⟩
  · cases hg
  · simp only [Value.ownBlock, Option.some.injEq] at hg
    subst hg
    exact ⟨_, _, hh⟩
theorem own_form4 {w : World} {base size : Nat} {e : TypeId} {v : Value} {n : Nat} {xs : List Value} (h : w.ownsRow base e size v n xs) : ∃ sa sc, v = .slice sa n sc := by
  rcases h.2 with ⟨rfl, rfl⟩ | ⟨g, cap, cur, rfl, _⟩
  · exact ⟨_, _, rfl⟩
  · exact ⟨_, _, rfl⟩
theorem four_new (X : World) (t : TypeId) (v0 v1 v2 v3 : Value) : ∀ j u, [v0, v1, v2, v3][j]? = some u → (X.alloc (.cells #[v0, v1, v2, v3] t)).cell? ((⟨X.heap.size, 0, none⟩ : Addr).add j) = some u := by
  intro j u hu
  rw [add_off, Nat.zero_add]
  exact bxc (box_new X (.cells #[v0, v1, v2, v3] t)) j u (by simpa using hu)
/-- append onto a row of one's own, as one step of a region that draws. -/
theorem step_append_at {P : Program} {w : World} {ops : Array Oper} {o : Oper} {a : Act} {K : Act → World → Prop} {Q : Exit → Act → World → Prop} {E : Prop} (hg : o.guard = none) (s x : Operand) (t : TypeId)
    (ho : o.op = .call { callee := .builtin .append, args := #[s, x], argTypes := #[t, t] })
    (base : Nat) (e : TypeId) (i : TypeInfo) (z : Value) (size bytes : Nat) (ht : P.underlying t = some (.slice e)) (hi : P.info? e = some i) (hz : i.zero = some z)
    (hsize : i.size = size) (hby : i.bytes = bytes) (hzs : z.cells.size = size) (hsz : 0 < size)
    (v : Value) (n : Nat) (xs : List Value) (hs : a.eval s = v) (hown : w.ownsRow base e size v n xs)
    (ad : Addr) (m c : Nat) (news : List Value) (hx : a.eval x = .slice (some ad) m c) (hl : news.length = m * size) (hnews : ∀ j u, news[j]? = some u → w.cell? (ad.add j) = some u) (h1 : ∀ u ∈ news, u.oneCell' = true)
    (h63 : n + m ≤ maxLen) (hbytes : (n + m) * bytes ≤ 140737488355328) (hbase : base ≤ w.heap.size)
    (hK : ∀ v' w', w'.ownsRow base e size v' (n + m) (xs ++ news) → w.grownBy w' v.ownBlock → (v'.ownBlock = v.ownBlock ∨ v'.ownBlock = some w.heap.size) → K (a.put o.dst v') w') :
    if Region.wanted o (yielded ops a.tmps) = true then Oper.wp P o a w K Q else E := by
  have hw : Region.wanted o (yielded ops a.tmps) = true := by simp [Region.wanted, hg]
  rw [if_pos hw]
  obtain ⟨v', w', hr, h2, h3, _, h5⟩ := run_append_own_at (P := P) w base t o.type e i z size bytes ht hi hz hsize hby hzs hsz v n xs hown ad m c news hl hnews h1 h63 hbytes hbase
  unfold Oper.wp
  simp [execOp, ho, resolve, invoke, builtin, hs, hx, hr, Result.andThen]
  exact hK v' w' h2 h3 h5
end Go.Proofs.YtgojlegknlalpaaGreatDoor
/- tableau: denominator, quotient, isOne. -/
namespace Go.Proofs.YtgojlegknlalpaaGreatDoor
open Go.RowKit
set_option linter.unusedVariables false
set_option maxRecDepth 100000
set_option linter.unusedSimpArgs false

theorem info_tlist : (Tryz.prog.info? 61).map (·.size) = some 5 := by kernel_rfl
theorem QLs.setU {X : World} {base : Nat} {v : Value} {C : List (List Value)} {L : List Rat} {K bx i : Nat} {c : Array Value} {fz : Nat × Nat} (h : QLs X base v C L K) (hb : X.heap[bx]? = some (.cells c 61 fz)) (u : Value) : QLs (X.setCell ⟨bx, i, none⟩ u) base v C L K :=
  ⟨ownsRow_setCell_other h.own (a := ⟨bx, i, none⟩) (own_ne_ty h.own hb (by decide)) u, h.len, h.four, fun j h1 h2 => (h.is_ j h1 h2).kty (Kty.of_set (t1 := 59) (t2 := 61) hb (Or.inr rfl) u) (by decide) (by decide)⟩
set_option maxHeartbeats 3200000 in
theorem udenom_any (w : World) (v : Value) (q : Rat) (K : Nat) (hK : K ≤ 1000000) (h : QIs w v q K) :
    Calls Tryz.prog 53 #[v] w fun e w' => ∃ v, e = .returned v ∧ QIs w' v ((q.den : Nat) : Rat) (K + 9) ∧ Below w.heap.size w w' := by
  obtain ⟨a1, l1, c1, b1, a2, l2, c2, b2, rfl⟩ := h.form
  have hx := boxed2_first w (Obj.cells #[.slice a1 l1 c1, .bool b1, .slice a2 l2 c2, .bool b2] 59) (Obj.cells #[.slice none 0 0, .bool false, .slice none 0 0, .bool false] 59)
  have hy := boxed2_second w (Obj.cells #[.slice a1 l1 c1, .bool b1, .slice a2 l2 c2, .bool b2] 59) (Obj.cells #[.slice none 0 0, .bool false, .slice none 0 0, .bool false] 59)
  have hB := boxed2 (Below.refl w.heap.size w) (Obj.cells #[.slice a1 l1 c1, .bool b1, .slice a2 l2 c2, .bool b2] 59) (Obj.cells #[.slice none 0 0, .bool false, .slice none 0 0, .bool false] 59)
  have HQ := hid (h.below hB)
  obtain ⟨x0, x1, x2, x3⟩ := four_cell hx
  clear h
  go_enter Tryz.func53, Tryz.ntmps53
  go_wp2_with fail
  generalize (w.alloc (Obj.cells #[.slice a1 l1 c1, .bool b1, .slice a2 l2 c2, .bool b2] 59)).alloc (Obj.cells #[.slice none 0 0, .bool false, .slice none 0 0, .bool false] 59) = W at *
  refine (q_den _ _ q K (by omega) HQ.out).mono ?_
  rintro e X1 ⟨v1, rfl, n1, bX1⟩
  obtain ⟨d1, d2, d3, d4, rfl⟩ := num_form n1
  have N1 := hid n1
  have BX1 := hid (chain2 hB bX1)
  have hy1 := box_below bX1 hy (lt_of_block hy)
  clear n1 bX1 hB hx hy x0 x1 x2 x3 HQ
  go_wp2_with fail
  refine (q_of X1 1 (by omega) (by omega)).mono ?_
  rintro e X2 ⟨v2, rfl, n2, bX2⟩
  obtain ⟨e1, e2, e3, e4, e5, e6, e7, e8, rfl⟩ := n2.form
  have N2 := hid n2
  have M1 := hid (N1.out.below bX2)
  have BX2 := hid (chain2 BX1.out bX2)
  have hy2 := box_below bX2 hy1 (lt_of_block hy1)
  clear n2 bX2 hy1 N1 BX1
  go_wp2_with fail
  refine (q_num X2 _ _ 2 (by omega) N2.out).mono ?_
  rintro e X3 ⟨v3, rfl, n3, bX3⟩
  obtain ⟨f1, f2, f3, f4, rfl⟩ := num_form n3
  have N3 := hid n3
  have M2 := hid (M1.out.below bX3)
  have BX3 := hid (chain2 BX2.out bX3)
  have hy3 := box_below bX3 hy2 (lt_of_block hy2)
  clear n3 bX3 hy2 M1 N2 BX2
  go_wp2_with fail
  refine (q_make X3 _ _ (q.den : Int) 1 (K + 3) (by omega) M2.out (N3.out.mono (by omega)) (by omega)).mono ?_
  rintro e X4 ⟨g1, g2, g3, g4, g5, g6, g7, g8, rfl, n4, bX4⟩
  have hval : Rat.divInt (q.den : Int) 1 = ((q.den : Nat) : Rat) := Rat.ext (by simp [Rat.num_divInt]) (by simp [Rat.den_divInt])
  rw [hval] at n4
  have BX4 := hid (chain2 BX3.out bX4)
  have hy4 := box_below bX4 hy3 (lt_of_block hy3)
  have bA := (Below.refl X4.heap.size X4).alloc (Nat.le_refl _) (Obj.cells #[.slice g1 g2 g3, .bool g4, .slice g5 g6 g7, .bool g8] 59)
  have hyA := box_alloc hy4 (Obj.cells #[.slice g1 g2 g3, .bool g4, .slice g5 g6 g7, .bool g8] 59)
  have hnA := box_new X4 (Obj.cells #[.slice g1 g2 g3, .bool g4, .slice g5 g6 g7, .bool g8] 59)
  obtain ⟨u0, u1, u2, u3⟩ := four_cell hnA
  obtain ⟨y0, y1, y2, y3⟩ := four_cell hyA
  have fr := free_four hyA
  have hr' := set4_own hyA (.slice g1 g2 g3) (.bool g4) (.slice g5 g6 g7) (.bool g8)
  obtain ⟨r0, r1, r2, r3⟩ := four_cell hr'
  have HO := hid (And.intro r0 (And.intro r1 (And.intro r2 r3)))
  have BA := hid (set4_below (o := 0) (below_alloc' BX4.out (Nat.le_refl _) (Obj.cells #[.slice g1 g2 g3, .bool g4, .slice g5 g6 g7, .bool g8] 59)) (show w.heap.size ≤ w.heap.size + 1 by omega) (.slice g1 g2 g3) (.bool g4) (.slice g5 g6 g7) (.bool g8))
  have NQ := hid ((n4.below bA).kty (set4_kty (o := 0) (t1 := 59) (t2 := 59) hyA (Or.inl rfl) (.slice g1 g2 g3) (.bool g4) (.slice g5 g6 g7) (.bool g8)) (by decide) (by decide))
  clear n4 bX4 hy3 hy4 hyA hnA bA r0 r1 r2 r3 hr' BX3 BX4 M2 N3
  go_wp2_with (refine wpList_store_fresh rfl 59 _ _ rfl _ _ _ rfl (by simp) rfl 4 info_Rat (by rfl) (by rfl) (by simp [Value.oneCell']) ?_)
  go_wp2
  exact bodyPost_ret (v := .agg #[.slice g1 g2 g3, .bool g4, .slice g5 g6 g7, .bool g8]) (by simp [results, Tryz.results53, go_sem, HO.out.1, HO.out.2.1, HO.out.2.2.1, HO.out.2.2.2]) rfl ⟨_, rfl, NQ.out, BA.out⟩
set_option maxHeartbeats 3200000 in
theorem uquot_any (w : World) (a b : Value) (p q : Rat) (K : Nat) (hK : K ≤ 1000000) (ha : QIs w a p K) (hb : QIs w b q K) (hq : q ≠ 0) :
    Calls Tryz.prog 45 #[a, b] w fun e w' => ∃ v, e = .returned v ∧ QIs w' v (p / q) (2 * K + 9) ∧ Below w.heap.size w w' := by
  obtain ⟨a1, l1, c1, b1, a2, l2, c2, b2, rfl⟩ := ha.form
  obtain ⟨a3, l3, c3, b3, a4, l4, c4, b4, rfl⟩ := hb.form
  have hx := boxed3_first w (Obj.cells #[.slice a1 l1 c1, .bool b1, .slice a2 l2 c2, .bool b2] 59) (Obj.cells #[.slice a3 l3 c3, .bool b3, .slice a4 l4 c4, .bool b4] 59) (Obj.cells #[.slice none 0 0, .bool false, .slice none 0 0, .bool false] 59)
  have hx2 := boxed3_second w (Obj.cells #[.slice a1 l1 c1, .bool b1, .slice a2 l2 c2, .bool b2] 59) (Obj.cells #[.slice a3 l3 c3, .bool b3, .slice a4 l4 c4, .bool b4] 59) (Obj.cells #[.slice none 0 0, .bool false, .slice none 0 0, .bool false] 59)
  have hy := boxed3_third w (Obj.cells #[.slice a1 l1 c1, .bool b1, .slice a2 l2 c2, .bool b2] 59) (Obj.cells #[.slice a3 l3 c3, .bool b3, .slice a4 l4 c4, .bool b4] 59) (Obj.cells #[.slice none 0 0, .bool false, .slice none 0 0, .bool false] 59)
  have hB := boxed3 (Below.refl w.heap.size w) (Obj.cells #[.slice a1 l1 c1, .bool b1, .slice a2 l2 c2, .bool b2] 59) (Obj.cells #[.slice a3 l3 c3, .bool b3, .slice a4 l4 c4, .bool b4] 59) (Obj.cells #[.slice none 0 0, .bool false, .slice none 0 0, .bool false] 59)
  have HA := hid (ha.below hB)
  have HB := hid (hb.below hB)
  obtain ⟨x0, x1, x2, x3⟩ := four_cell hx
  obtain ⟨z0, z1, z2, z3⟩ := four_cell hx2
  clear ha hb
  go_enter Tryz.func45, Tryz.ntmps45
  go_wp2_with fail
  generalize ((w.alloc (Obj.cells #[.slice a1 l1 c1, .bool b1, .slice a2 l2 c2, .bool b2] 59)).alloc (Obj.cells #[.slice a3 l3 c3, .bool b3, .slice a4 l4 c4, .bool b4] 59)).alloc (Obj.cells #[.slice none 0 0, .bool false, .slice none 0 0, .bool false] 59) = W at *
  refine (q_div _ _ _ p q K hK HA.out HB.out hq).mono ?_
  rintro e X4 ⟨g1, g2, g3, g4, g5, g6, g7, g8, rfl, n4, bX4⟩
  have BX3 := hid hB
  have hy3 := hy
  clear hB hx hx2 hy x0 x1 x2 x3 z0 z1 z2 z3 HA HB
  have BX4 := hid (chain2 BX3.out bX4)
  have hy4 := box_below bX4 hy3 (lt_of_block hy3)
  have bA := (Below.refl X4.heap.size X4).alloc (Nat.le_refl _) (Obj.cells #[.slice g1 g2 g3, .bool g4, .slice g5 g6 g7, .bool g8] 59)
  have hyA := box_alloc hy4 (Obj.cells #[.slice g1 g2 g3, .bool g4, .slice g5 g6 g7, .bool g8] 59)
  have hnA := box_new X4 (Obj.cells #[.slice g1 g2 g3, .bool g4, .slice g5 g6 g7, .bool g8] 59)
  obtain ⟨u0, u1, u2, u3⟩ := four_cell hnA
  obtain ⟨y0, y1, y2, y3⟩ := four_cell hyA
  have fr := free_four hyA
  have hr' := set4_own hyA (.slice g1 g2 g3) (.bool g4) (.slice g5 g6 g7) (.bool g8)
  obtain ⟨r0, r1, r2, r3⟩ := four_cell hr'
  have HO := hid (And.intro r0 (And.intro r1 (And.intro r2 r3)))
  have BA := hid (set4_below (o := 0) (below_alloc' BX4.out (Nat.le_refl _) (Obj.cells #[.slice g1 g2 g3, .bool g4, .slice g5 g6 g7, .bool g8] 59)) (show w.heap.size ≤ w.heap.size + 1 + 1 by omega) (.slice g1 g2 g3) (.bool g4) (.slice g5 g6 g7) (.bool g8))
  have NQ := hid ((n4.below bA).kty (set4_kty (o := 0) (t1 := 59) (t2 := 59) hyA (Or.inl rfl) (.slice g1 g2 g3) (.bool g4) (.slice g5 g6 g7) (.bool g8)) (by decide) (by decide))
  clear n4 bX4 hy3 hy4 hyA hnA bA r0 r1 r2 r3 hr' BX3 BX4
  go_wp2_with (refine wpList_store_fresh rfl 59 _ _ rfl _ _ _ rfl (by simp) rfl 4 info_Rat (by rfl) (by rfl) (by simp [Value.oneCell']) ?_)
  go_wp2
  exact bodyPost_ret (v := .agg #[.slice g1 g2 g3, .bool g4, .slice g5 g6 g7, .bool g8]) (by simp [results, Tryz.results45, go_sem, HO.out.1, HO.out.2.1, HO.out.2.2.1, HO.out.2.2.2]) rfl ⟨_, rfl, NQ.out, BA.out⟩
set_option maxHeartbeats 3200000 in
theorem uisOne_any (w : World) (a : Value) (p : Rat) (K : Nat) (hK : K ≤ 1000000) (hK2 : 2 ≤ K) (ha : QIs w a p K) :
    Calls Tryz.prog 72 #[a] w fun e w' => e = .returned (.bool (cmpR p ((1 : Int) : Rat) == 0)) ∧ Below w.heap.size w w' := by
  obtain ⟨a1, l1, c1, b1, a2, l2, c2, b2, rfl⟩ := ha.form
  have hx := box_new w (Obj.cells #[.slice a1 l1 c1, .bool b1, .slice a2 l2 c2, .bool b2] 59)
  have hB := (Below.refl w.heap.size w).alloc (Nat.le_refl _) (Obj.cells #[.slice a1 l1 c1, .bool b1, .slice a2 l2 c2, .bool b2] 59)
  have HA := hid (ha.below hB)
  obtain ⟨x0, x1, x2, x3⟩ := four_cell hx
  clear ha hx
  go_enter Tryz.func72, Tryz.ntmps72
  go_wp2_with fail
  generalize w.alloc (Obj.cells #[.slice a1 l1 c1, .bool b1, .slice a2 l2 c2, .bool b2] 59) = W at *
  have F0 : Below W.heap.size W W.drew := (Below.refl _ _).drew
  have HKx := hid (fun (Y : World) (k : Below W.heap.size W Y) => show (Y.cell? ⟨w.heap.size, 0, none⟩ = some (.slice a1 l1 c1) ∧ Y.cell? ⟨w.heap.size, 1, none⟩ = some (.bool b1) ∧ Y.cell? ⟨w.heap.size, 2, none⟩ = some (.slice a2 l2 c2) ∧ Y.cell? ⟨w.heap.size, 3, none⟩ = some (.bool b2)) from ⟨kcU k x0, kcU k x1, kcU k x2, kcU k x3⟩)
  go_region_held3 (fun Z => Z.cell? ⟨w.heap.size, 0, none⟩ = some (.slice a1 l1 c1) ∧ Z.cell? ⟨w.heap.size, 1, none⟩ = some (.bool b1) ∧ Z.cell? ⟨w.heap.size, 2, none⟩ = some (.slice a2 l2 c2) ∧ Z.cell? ⟨w.heap.size, 3, none⟩ = some (.bool b2)) (first | exact HKx.out _ F2 | exact HKx.out _ F1 | exact HKx.out _ F0) (first
    | (go_at_call 97; have gk := F1; refine (q_cmp _ _ _ p ((1 : Int) : Rat) K hK (HA.out.below F1) (n1.mono hK2)).mono ?_; rintro e Y2 ⟨rfl, bb⟩; have F2 := chain2 F1 bb)
    | (go_at_call 43; have gk := F0; refine (q_of _ 1 (by omega) (by omega)).mono ?_; rintro e Y1 ⟨v1, rfl, n1, bb⟩; have F1 := chain2 F0 bb))
  have BF := chain2 hB F2
  go_wp2
  go_ret
  exact ⟨by first | rfl | simp, BF⟩
end Go.Proofs.YtgojlegknlalpaaGreatDoor
/- tableau: listOf. -/
namespace Go.Proofs.YtgojlegknlalpaaGreatDoor
open Go.RowKit
set_option linter.unusedVariables false
set_option maxRecDepth 100000
set_option linter.unusedSimpArgs false

def In9 (f : List Int) : Prop := ∀ a ∈ f, -9223372036854775808 ≤ a ∧ a < 9223372036854775808
/-- v is a list of whole numbers T over b. -/
def ULi (w : World) (tv p1 p2 p3 p4 : Value) (T : List Int) (b : Int) (K : Nat) : Prop :=
  ∃ base C, 0 < b ∧ QIs w (.agg #[p1, p2, p3, p4]) (b : Rat) K ∧ QLs w base tv C (T.map (fun (t : Int) => (t : Rat))) K
theorem ULi.below {w w' : World} {tv p1 p2 p3 p4 : Value} {T : List Int} {b : Int} {K : Nat} (h : ULi w tv p1 p2 p3 p4 T b K) (k : Below w.heap.size w w') : ULi w' tv p1 p2 p3 p4 T b K := by
  obtain ⟨base, C, h1, h2, h3⟩ := h
  exact ⟨base, C, h1, h2.below k, Ls.below (fun h b => h.below b) h3 k⟩
theorem cast_succ (T : List Int) (k : Nat) (h : k < T.length) : (T.take (k + 1)).map (fun (t : Int) => (t : Rat)) = (T.take k).map (fun (t : Int) => (t : Rat)) ++ [((T[k] : Int) : Rat)] := by
  rw [List.take_succ_eq_append_getElem h, List.map_append]; rfl
set_option maxHeartbeats 6400000 in
theorem ulistOf_any (w : World) (v : Value) (T : List Int) (hl : T.length ≤ 192) (hT : In9 T) (h : Ints w v T) :
    Calls Tryz.prog 26 #[v] w fun e w' => (∃ tv p1 p2 p3 p4 p5 p6 p7 p8, e = .returned (.agg #[tv, .slice p1 p2 p3, .bool p4, .slice p5 p6 p7, .bool p8]) ∧ ULi w' tv (.slice p1 p2 p3) (.bool p4) (.slice p5 p6 p7) (.bool p8) T 1 3) ∧ Below w.heap.size w w' := by
  obtain ⟨i0, hi0, hz0, hz1, hz2⟩ := info_parts info_RatZ
  obtain ⟨a, c, rfl, hlc, hcm⟩ := h.slice
  unfold maxLen at hcm
  have HH := hid h
  have HX := hid hT
  clear h hT
  have b0 := (Below.refl w.heap.size w).alloc (Nat.le_refl _) (Obj.cells #[.slice none 0 0, .slice none 0 0, .bool false, .slice none 0 0, .bool false] 61)
  have z0 := box_new w (Obj.cells #[.slice none 0 0, .slice none 0 0, .bool false, .slice none 0 0, .bool false] 61)
  go_enter Tryz.func26, Tryz.ntmps26
  go_wp2_with fail
  generalize w.alloc (Obj.cells #[.slice none 0 0, .slice none 0 0, .bool false, .slice none 0 0, .bool false] 61) = W0 at *
  refine (q_of W0 1 (by omega) (by omega)).mono ?_
  rintro e X1 ⟨v1, rfl, n1, bX1⟩
  obtain ⟨p1, p2, p3, p4, p5, p6, p7, p8, rfl⟩ := n1.form
  have B1 := chain2 b0 bX1
  have z1 := box_below bX1 z0 (lt_of_block z0)
  have bA := (Below.refl X1.heap.size X1).alloc (Nat.le_refl _) (Obj.cells #[.slice none 0 0, .slice p1 p2 p3, .bool p4, .slice p5 p6 p7, .bool p8] 61)
  have bw := below_alloc' B1 (Nat.le_refl _) (Obj.cells #[.slice none 0 0, .slice p1 p2 p3, .bool p4, .slice p5 p6 p7, .bool p8] 61)
  have HZ := hid (box_alloc z1 (Obj.cells #[.slice none 0 0, .slice p1 p2 p3, .bool p4, .slice p5 p6 p7, .bool p8] 61))
  have HY := hid (box_new X1 (Obj.cells #[.slice none 0 0, .slice p1 p2 p3, .bool p4, .slice p5 p6 p7, .bool p8] 61))
  have HN := hid ((n1.below bA).mono (show 2 ≤ 3 by omega))
  have hbx : w.heap.size < X1.heap.size := lt_of_block z1
  clear b0 z0 n1 bX1 B1 z1 bA
  go_wp2_with (refine wpList_store_fresh rfl 61 _ _ rfl _ _ _ rfl (by simp) rfl 5 info_tlist (by rfl) (by rfl) (by simp [Value.oneCell']) ?_)
  generalize X1.alloc (Obj.cells #[.slice none 0 0, .slice p1 p2 p3, .bool p4, .slice p5 p6 p7, .bool p8] 61) = W2 at *
  generalize X1.heap.size = bx at *
  have HN0 := hid (show QLs W2 w.heap.size (.slice none 0 0) [] ((T.take 0).map (fun (t : Int) => (t : Rat))) 3 from Ls.none W2 _)
  go_loopw [10] (fun i wr => ∃ (k : Nat) (ta : Option Addr) (tn tc : Nat) (C' : List (List Value)), k ≤ T.length ∧ i = .int .i64 (k : Int) ∧ Hid (wr.heap[bx]? = some (.cells #[.slice ta tn tc, .slice p1 p2 p3, .bool p4, .slice p5 p6 p7, .bool p8] 61 (0, 0))) ∧ Hid (wr.heap[w.heap.size]? = some (.cells #[.slice none 0 0, .slice none 0 0, .bool false, .slice none 0 0, .bool false] 61 (0, 0))) ∧ Hid (QIs wr (.agg #[.slice p1 p2 p3, .bool p4, .slice p5 p6 p7, .bool p8]) ((1 : Int) : Rat) 3) ∧ Hid (QLs wr w.heap.size (.slice ta tn tc) C' ((T.take k).map (fun (t : Int) => (t : Rat))) 3) ∧ Below w.heap.size w wr) (fun i _ => T.length - (intOf i).toNat)
  case atStart => exact ⟨0, none, 0, 0, [], Nat.zero_le _, rfl, HY, HZ, HN, HN0, bw⟩
  case round =>
    obtain ⟨k, ta, tn, tc, C', hk, rfl, HY, HZ, HN, HL, bw⟩ := hrel
    by_cases hlt : k < T.length
    · skip
      obtain ⟨g, off, c', e, _, _, hc⟩ := (HH.out.below bw).at k hlt
      simp only [Value.slice.injEq] at e
      obtain ⟨rfl, _, rfl⟩ := e
      have BA := bw
      have HX9 := hid (HX.out _ (List.getElem_mem hlt))
      have NA := hid HN.out
      have LA := hid HL.out
      have HYA := hid HY.out
      have HZA := hid HZ.out
      have HSU := hid (cast_succ T k hlt)
      have hln : tn = k := by
        obtain ⟨_, _, e, _⟩ := HL.out.slice
        simp only [Value.slice.injEq, List.length_map, List.length_take] at e
        omega
      subst hln
      clear HY HZ HN HL bw
      have yA := HYA.out
      have hTk := HX9.out
      generalize hTT : T[tn] = tk at *
      clear hTT
      generalize wr = W3 at *
      have m0 := bxc yA 0 (.slice ta tn tc) rfl
      have m1 := bxc yA 1 (.slice p1 p2 p3) rfl
      have m2 := bxc yA 2 (.bool p4) rfl
      have m3 := bxc yA 3 (.slice p5 p6 p7) rfl
      have m4 := bxc yA 4 (.bool p8) rfl
      have hX0 : ((T.take tn).map (fun (t : Int) => (t : Rat))).length = tn := by simp; omega
      have HXL := hid hX0
      clear yA hX0
      go_wp2_with fail
      go_region_law (first
        | (refine step_append_at rfl _ _ 52 rfl w.heap.size 59 i0 (.agg #[.slice none 0 0, .bool false, .slice none 0 0, .bool false]) 4 64 Tryz.underlying52 hi0 hz0 hz1 hz2 rfl (by decide) (.slice ta tn tc) tn _ rfl (by have := (Ls.below (fun h b => h.below b) LA.out bX4').own.alloc (.cells #[.slice i1 i2 i3, .bool i4, .slice i5 i6 i7, .bool i8] 59); rw [HXL.out] at this; exact this) ⟨Y4.heap.size, 0, none⟩ 1 1 [.slice i1 i2 i3, .bool i4, .slice i5 i6 i7, .bool i8] rfl rfl (four_new _ _ _ _ _ _) (by intro u hu; simp at hu; rcases hu with rfl | rfl | rfl | rfl <;> rfl) (by unfold maxLen; omega) (by omega) (by simp; have := bX4'.size; have := BA.size; omega) ?_; intro v' Y5 o5 hg5 hat5; have bA4 := (Below.refl Y4.heap.size Y4).alloc (Nat.le_refl _) (Obj.cells #[.slice i1 i2 i3, .bool i4, .slice i5 i6 i7, .bool i8] 59); have bX4a := chain2 bX4' bA4; have la := Ls.below (fun h b => h.below b) LA.out bX4a; have ya := box_below bX4a HYA.out (lt_of_block HYA.out); have y5 := (hg5.block bx (lt_of_block ya) (fun e => own_ne_ty la.own ya (by decide) e.symm)).trans ya; have o0 := bxc y5 0 (.slice ta tn tc) rfl; have fr := blk_free y5 0; obtain ⟨ta', tc', rfl⟩ := own_form4 o5)
        | (go_simp; go_at_call 43; refine (q_of _ tk (by omega) (by omega)).mono ?_; rintro e Y4 ⟨v4, rfl, n4, b4⟩; have bX4' : Below W3.heap.size W3 Y4 := ⟨b4.os, b4.tape, b4.output, b4.size, b4.block⟩; have G1 := bX4'; obtain ⟨i1, i2, i3, i4, i5, i6, i7, i8, rfl⟩ := n4.form; have N4 := hid (n4.mono (show 2 ≤ 3 by omega)); have y4 := box_below bX4' HYA.out (lt_of_block HYA.out); have k0 := bxc y4 0 (.slice ta tn tc) rfl; have j0 := bxc (box_alloc y4 (Obj.cells #[.slice i1 i2 i3, .bool i4, .slice i5 i6 i7, .bool i8] 59)) 0 (.slice ta tn tc) rfl; have k1 := bxc y4 1 (.slice p1 p2 p3) rfl; have k2 := bxc y4 2 (.bool p4) rfl; have k3 := bxc y4 3 (.slice p5 p6 p7) rfl; have k4 := bxc y4 4 (.bool p8) rfl; clear b4 y4 n4; dsimp only))
      all_goals
        have yS := blk_set y5 0 (.slice ta' (tn + 1) tc')
        have za := box_below bX4a HZA.out (lt_of_block HZA.out)
        have z5 := (hg5.block w.heap.size (lt_of_block za) (fun e => own_ne_ty la.own za (by decide) e.symm)).trans za
        have zS : (Y5.setCell ⟨bx, 0, none⟩ (.slice ta' (tn + 1) tc')).heap[w.heap.size]? = some (.cells #[.slice none 0 0, .slice none 0 0, .bool false, .slice none 0 0, .bool false] 61 (0, 0)) := (Below.heap_setCell Y5 ⟨bx, 0, none⟩ _ w.heap.size (show w.heap.size ≠ bx by omega)).trans z5
        have kg : Kty 59 61 (Y4.alloc (.cells #[.slice i1 i2 i3, .bool i4, .slice i5 i6 i7, .bool i8] 59)) Y5 := Kty.of_grown hg5 (fun g hg => own_ty la.own g hg)
        have ks := Kty.of_set (t1 := 59) (t2 := 61) (i := 0) y5 (Or.inr rfl) (.slice ta' (tn + 1) tc')
        have NS := ((NA.out.below bX4a).kty kg (by decide) (by decide)).kty ks (by decide) (by decide)
        have hpush := Ls.push la (w' := Y5) (v' := .slice ta' (tn + 1) tc') (x0 := .slice i1 i2 i3) (x1 := .bool i4) (x2 := .slice i5 i6 i7) (x3 := .bool i8) (q := ((tk : Int) : Rat)) (by rw [HXL.out]; exact o5) (fun h => QIs.kty h kg (by decide) (by decide)) (N4.out.below bA4)
        rw [← HSU.out] at hpush
        have LS := QLs.setU (i := 0) hpush y5 (.slice ta' (tn + 1) tc')
        have B5 := (BA.trans (bX4a.mono BA.size)).grown hg5 (Nat.le_trans BA.size bX4a.size) (fun g hg => (la.own.lt g hg).1)
        have BS := B5.setCell (p := ⟨bx, 0, none⟩) (show w.heap.size ≤ bx by omega) (.slice ta' (tn + 1) tc')
        have HYS := hid yS
        have HZS := hid zS
        have HNS := hid NS
        have HLS := hid LS
        clear yS zS NS LS za z5 kg ks hpush la ya y5 o0 fr o5 hg5 hat5 B5 bA4 bX4a
        go_wp2
        go_roundw
        case rel => exact ⟨tn + 1, ta', tn + 1, tc', _, by omega, by go_num, HYS, HZS, HNS, HLS, BS⟩
        case measure => simp [intOf]; omega
    · obtain rfl : k = T.length := by omega
      rw [List.take_length] at HL
      have y0 := bxc HY.out 0 (.slice ta tn tc) rfl
      have y1 := bxc HY.out 1 (.slice p1 p2 p3) rfl
      have y2 := bxc HY.out 2 (.bool p4) rfl
      have y3 := bxc HY.out 3 (.slice p5 p6 p7) rfl
      have y4 := bxc HY.out 4 (.bool p8) rfl
      have z0 := bxc HZ.out 0 (.slice none 0 0) rfl
      have z1 := bxc HZ.out 1 (.slice none 0 0) rfl
      have z2 := bxc HZ.out 2 (.bool false) rfl
      have z3 := bxc HZ.out 3 (.slice none 0 0) rfl
      have z4 := bxc HZ.out 4 (.bool false) rfl
      have fr := fun j => blk_free HZ.out j
      have w1 := blk_set HZ.out 0 (.slice ta tn tc)
      have w2 := blk_set w1 1 (.slice p1 p2 p3)
      have w3 := blk_set w2 2 (.bool p4)
      have w4 := blk_set w3 3 (.slice p5 p6 p7)
      have w5 := blk_set w4 4 (.bool p8)
      have L5 := QLs.setU (i := 4) (QLs.setU (i := 3) (QLs.setU (i := 2) (QLs.setU (i := 1) (QLs.setU (i := 0) HL.out HZ.out (.slice ta tn tc)) w1 (.slice p1 p2 p3)) w2 (.bool p4)) w3 (.slice p5 p6 p7)) w4 (.bool p8)
      have N1 := HN.out.kty (Kty.of_set (t1 := 59) (t2 := 61) (i := 0) HZ.out (Or.inr rfl) (.slice ta tn tc)) (by decide) (by decide)
      have N2 := N1.kty (Kty.of_set (t1 := 59) (t2 := 61) (i := 1) w1 (Or.inr rfl) (.slice p1 p2 p3)) (by decide) (by decide)
      have N3 := N2.kty (Kty.of_set (t1 := 59) (t2 := 61) (i := 2) w2 (Or.inr rfl) (.bool p4)) (by decide) (by decide)
      have N4 := N3.kty (Kty.of_set (t1 := 59) (t2 := 61) (i := 3) w3 (Or.inr rfl) (.slice p5 p6 p7)) (by decide) (by decide)
      have N5 := N4.kty (Kty.of_set (t1 := 59) (t2 := 61) (i := 4) w4 (Or.inr rfl) (.bool p8)) (by decide) (by decide)
      have B5 := ((((bw.setCell (p := ⟨w.heap.size, 0, none⟩) (Nat.le_refl _) (.slice ta tn tc)).setCell (p := ⟨w.heap.size, 1, none⟩) (Nat.le_refl _) (.slice p1 p2 p3)).setCell (p := ⟨w.heap.size, 2, none⟩) (Nat.le_refl _) (.bool p4)).setCell (p := ⟨w.heap.size, 3, none⟩) (Nat.le_refl _) (.slice p5 p6 p7)).setCell (p := ⟨w.heap.size, 4, none⟩) (Nat.le_refl _) (.bool p8)
      have HF := hid w5
      have HLI := hid (show ULi _ (.slice ta tn tc) (.slice p1 p2 p3) (.bool p4) (.slice p5 p6 p7) (.bool p8) T 1 3 from ⟨w.heap.size, C', by omega, N5, L5⟩)
      have HB5 := hid B5
      clear w1 w2 w3 w4 w5 L5 N1 N2 N3 N4 N5 B5
      go_wp2
      exact bodyPost_ret (results_cell_row Tryz.results26 _ _ w.heap.size _ _ _ _ (by rfl) HF.out Tryz.underlying61 (by rfl) info_tlist) rfl ⟨⟨_, p1, p2, p3, p4, p5, p6, p7, p8, rfl, HLI.out⟩, HB5.out⟩
end Go.Proofs.YtgojlegknlalpaaGreatDoor
/- tableau: the document's rows. -/
namespace Go.Proofs.YtgojlegknlalpaaGreatDoor
open Go.RowKit
set_option linter.unusedVariables false
set_option maxRecDepth 100000
set_option linter.unusedSimpArgs false

def ratM (M : List (List Int)) : List (List Rat) := M.map (fun r => r.map (fun (t : Int) => (t : Rat)))
theorem ratM_len (M : List (List Int)) : (ratM M).length = M.length := by unfold ratM; simp
theorem ratM_succ (M : List (List Int)) (k : Nat) (h : k < M.length) : (ratM M).take (k + 1) = (ratM M).take k ++ [(M[k]).map (fun (t : Int) => (t : Rat))] := by
  have hu : k < (ratM M).length := by rw [ratM_len]; exact h
  rw [List.take_succ_eq_append_getElem hu]
  simp [ratM]
theorem ratR_succ (r : List Int) (k : Nat) (h : k < r.length) : (r.map (fun (t : Int) => (t : Rat))).take (k + 1) = (r.map (fun (t : Int) => (t : Rat))).take k ++ [((r[k] : Int) : Rat)] := by
  have hu : k < (r.map (fun (t : Int) => (t : Rat))).length := by simpa using h
  rw [List.take_succ_eq_append_getElem hu]
  simp
theorem info_refRats : (Tryz.prog.info? 68).map (fun i => (i.zero, i.size, i.bytes)) = some (some (.slice none 0 0), 1, 24) := by kernel_rfl
theorem ls_madeG {I : World → Value → Rat → Nat → Prop} {e : TypeId} {K : Nat} (w : World) (base : Nat) (hb : base ≤ w.heap.size) : Ls I e (w.alloc (.cells #[] e)) base (.slice (some ⟨w.heap.size, 0, none⟩) 0 0) [] [] K :=
  ⟨World.ownsRow_made w #[] 0 hb (Nat.zero_le _) (by simp), rfl, by simp, fun i h1 h2 => by simp at h2⟩
theorem TLs.kty {t1 t2 : TypeId} {w w' : World} {base : Nat} {v : Value} {C : List (List Value)} {X : List Rat} {K : Nat} (h : TLs w base v C X K) (k : Kty t1 t2 w w') (h1 : 3 ≠ t1) (h2 : 3 ≠ t2) (h3 : 74 ≠ t1) (h4 : 74 ≠ t2) : TLs w' base v C X K :=
  ⟨⟨h.own.1, by
    rcases h.own.2 with hn | ⟨g, cap, cur, rfl, hb, hgg, rest⟩
    · exact .inl hn
    · exact .inr ⟨g, cap, cur, rfl, hb, (k.block g (lt_of_block hgg) (fun c fz e => by rw [hgg] at e; simp only [Option.some.injEq, Obj.cells.injEq] at e; exact h3 e.2.1) (fun c fz e => by rw [hgg] at e; simp only [Option.some.injEq, Obj.cells.injEq] at e; exact h4 e.2.1)).trans hgg, rest⟩⟩, h.len, h.four, fun i k1 k2 => (h.is_ i k1 k2).kty k h1 h2⟩
/-- Rows of the document, a slice of slices. -/
structure GRs (w : World) (base : Nat) (v : Value) (vs : List Value) (X : List (List Rat)) (K : Nat) : Prop where
  own : w.ownsRow base 68 1 v X.length vs
  len : vs.length = X.length
  is_ : ∀ i (h1 : i < vs.length) (h2 : i < X.length), ∃ base' C, TLs w base' vs[i] C X[i] K
section
variable {w w' : World} {base : Nat} {v v' : Value} {vs : List Value} {X : List (List Rat)} {K : Nat}
theorem GRs.below (h : GRs w base v vs X K) (b : Below w.heap.size w w') : GRs w' base v vs X K :=
  ⟨own_below h.own b, h.len, fun i h1 h2 => by
    obtain ⟨base', C, k⟩ := h.is_ i h1 h2
    exact ⟨base', C, Ls.below (fun h b => h.below b) k b⟩⟩
theorem grs_none (w : World) (base : Nat) : GRs w base (.slice none 0 0) [] [] K := ⟨⟨rfl, .inl ⟨rfl, rfl⟩⟩, rfl, fun i h1 h2 => by simp at h2⟩
theorem GRs.slice (h : GRs w base v vs X K) : ∃ a c, v = .slice a X.length c ∧ X.length ≤ c ∧ c ≤ 9223372036854775807 := by
  rcases h.own.2 with ⟨e0, hz⟩ | ⟨g, cap, cur, e0, hb, hh, q1, q2, _⟩
  · exact ⟨none, 0, by rw [e0, hz], by omega, by omega⟩
  · unfold maxLen at q2
    exact ⟨_, cap, e0, q1, by omega⟩
theorem GRs.push (h : GRs w base v vs X K) {u : Value} {x : List Rat} (ho : w'.ownsRow base 68 1 v' (X.length + 1) (vs ++ [u])) (hI : ∀ {base' : Nat} {v : Value} {C : List (List Value)} {X : List Rat}, TLs w base' v C X K → TLs w' base' v C X K) {base' : Nat} {C : List (List Value)} (hq : TLs w base' u C x K) : GRs w' base v' (vs ++ [u]) (X ++ [x]) K := by
  have hl := h.len
  refine ⟨by rw [List.length_append]; exact ho, by simp [hl], fun i h1 h2 => ?_⟩
  by_cases hi : i < X.length
  · rw [List.getElem_append_left (by omega), List.getElem_append_left hi]
    obtain ⟨b', C', k⟩ := h.is_ i (by omega) hi
    exact ⟨b', C', hI k⟩
  · have hiX : i = X.length := by simp at h2; omega
    subst hiX
    rw [List.getElem_append_right (by omega), List.getElem_append_right (by omega)]
    simp only [hl, Nat.sub_self, List.getElem_cons_zero]
    exact ⟨base', C, hI hq⟩
theorem GRs.set {bx i : Nat} {c : Array Value} {fz : Nat × Nat} (h : GRs w base v vs X K) (hb : w.heap[bx]? = some (.cells c 67 fz)) (u : Value) : GRs (w.setCell ⟨bx, i, none⟩ u) base v vs X K :=
  ⟨ownsRow_setCell_other h.own (a := ⟨bx, i, none⟩) (own_ne_ty h.own hb (by decide)) u, h.len, fun j h1 h2 => by
    obtain ⟨base', C, k⟩ := h.is_ j h1 h2
    exact ⟨base', C, k.kty (Kty.of_set (t1 := 68) (t2 := 67) hb (Or.inr rfl) u) (by decide) (by decide) (by decide) (by decide)⟩⟩
end
theorem bey_no {r : List Int} (h : ∀ x ∈ r, byd x = false) : bey r = false := by
  unfold bey
  cases hb : r.any byd with
  | false => rfl
  | true => obtain ⟨x, hx, hy⟩ := List.any_eq_true.1 hb; rw [h x hx] at hy; cases hy
theorem anybey_no {M : List (List Int)} (h : ∀ r ∈ M, bey r = false) : M.any bey = false := by
  cases hb : M.any bey with
  | false => rfl
  | true => obtain ⟨x, hx, hy⟩ := List.any_eq_true.1 hb; rw [h x hx] at hy; cases hy
end Go.Proofs.YtgojlegknlalpaaGreatDoor
/- tableau: lowest terms, plainly. -/
namespace Go.Proofs.YtgojlegknlalpaaGreatDoor
open Go.RowKit
set_option linter.unusedVariables false
set_option maxRecDepth 100000
set_option linter.unusedSimpArgs false

/-- What is common with one more. -/
def cst (c t : Int) : Int := c.sign * (Int.gcd t c : Int)
def com (b : Int) (T : List Int) : Int := T.foldl cst b
theorem com_succ (b : Int) (T : List Int) (k : Nat) (h : k < T.length) : com b (T.take (k + 1)) = cst (com b (T.take k)) T[k] := by
  unfold com
  rw [List.take_succ_eq_append_getElem h, List.foldl_append]; rfl
theorem cst_dvd_l (c t : Int) : cst c t ∣ c := by
  unfold cst
  obtain ⟨d, hd⟩ := Int.gcd_dvd_right t c
  refine ⟨c.sign * d, ?_⟩
  rcases Int.lt_trichotomy c 0 with h | h | h
  · rw [Int.sign_eq_neg_one_of_neg h]; grind
  · subst h; simp
  · rw [Int.sign_eq_one_of_pos h]; grind
theorem cst_dvd_r (c t : Int) (h : c ≠ 0) : cst c t ∣ t := by
  unfold cst
  obtain ⟨d, hd⟩ := Int.gcd_dvd_left t c
  refine ⟨c.sign * d, ?_⟩
  rcases Int.lt_or_gt_of_ne h with h | h
  · rw [Int.sign_eq_neg_one_of_neg h]; grind
  · rw [Int.sign_eq_one_of_pos h]; grind
theorem cst_ne {c t : Int} (h : c ≠ 0) : cst c t ≠ 0 := by
  unfold cst
  have hg : Int.gcd t c ≠ 0 := fun e => h (Int.gcd_eq_zero_iff.1 e).2
  have hs : c.sign ≠ 0 := fun e => h (Int.sign_eq_zero_iff_zero.1 e)
  exact Int.mul_ne_zero hs (by exact_mod_cast hg)
theorem cst_sign {c t : Int} (h : c ≠ 0) : (cst c t).sign = c.sign := by
  unfold cst
  have hg : 0 < Int.gcd t c := Nat.pos_of_ne_zero (fun e => h (Int.gcd_eq_zero_iff.1 e).2)
  rcases Int.lt_or_gt_of_ne h with h | h
  · rw [Int.sign_eq_neg_one_of_neg h]
    exact Int.sign_eq_neg_one_of_neg (by omega)
  · rw [Int.sign_eq_one_of_pos h]
    exact Int.sign_eq_one_of_pos (by omega)
structure ComOk (b c : Int) : Prop where
  ne : c ≠ 0
  dvd : c ∣ b
  sign : c.sign = b.sign
theorem com_ok {b : Int} (hb : b ≠ 0) (T : List Int) : ∀ k, k ≤ T.length → ComOk b (com b (T.take k))
  | 0, _ => ⟨by simpa [com] using hb, by simp [com], by simp [com]⟩
  | k + 1, h => by
    have hk : k < T.length := h
    have ih := com_ok hb T k (by omega)
    rw [com_succ b T k hk]
    exact ⟨cst_ne ih.ne, Int.dvd_trans (cst_dvd_l _ _) ih.dvd, (cst_sign ih.ne).trans ih.sign⟩
theorem com_all {b : Int} (hb : b ≠ 0) (T : List Int) : ∀ k, k ≤ T.length → ∀ t ∈ T.take k, com b (T.take k) ∣ t
  | 0, _, t, ht => by simp at ht
  | k + 1, h, t, ht => by
    have hk : k < T.length := h
    have ih := com_all hb T k (by omega)
    have ok := com_ok hb T k (by omega)
    rw [com_succ b T k hk]
    rw [List.take_succ_eq_append_getElem hk] at ht
    rcases List.mem_append.1 ht with ht | ht
    · exact Int.dvd_trans (cst_dvd_l _ _) (ih t ht)
    · simp only [List.mem_singleton] at ht
      subst ht
      exact cst_dvd_r _ _ ok.ne
theorem dvd_abs {a b : Int} (h : a ∣ b) (hb : b ≠ 0) : a.natAbs ≤ b.natAbs := Nat.le_of_dvd (by omega) (Int.natAbs_dvd_natAbs.2 h)
theorem div_abs (a c : Int) : (a / c).natAbs ≤ a.natAbs ∨ ¬ c ∣ a := by
  by_cases h : c ∣ a
  · left
    obtain ⟨d, rfl⟩ := h
    by_cases hc : c = 0
    · subst hc; simp
    · rw [Int.mul_ediv_cancel_left _ hc, Int.natAbs_mul]
      have : 0 < c.natAbs := by omega
      exact Nat.le_mul_of_pos_left _ this
  · exact Or.inr h
theorem rat_div_int {a c : Int} (hc : c ≠ 0) (h : c ∣ a) : ((a : Int) : Rat) / ((c : Int) : Rat) = ((a / c : Int) : Rat) := by
  obtain ⟨d, rfl⟩ := h
  rw [Int.mul_ediv_cancel_left _ hc, Rat.intCast_mul]
  have : ((c : Int) : Rat) ≠ 0 := fun e => hc (by exact_mod_cast e)
  grind
/-- What common becomes by a quotient's denominator. -/
theorem cst_rat {c : Int} (t : Int) (hc : c ≠ 0) : ((c : Int) : Rat) / ((((((t : Int) : Rat) / ((c : Int) : Rat)).den : Nat)) : Rat) = ((cst c t : Int) : Rat) := by
  have hd : (((t : Int) : Rat) / ((c : Int) : Rat)).den = c.natAbs / Int.gcd t c := by
    rw [← Rat.divInt_eq_div, Rat.den_divInt, if_neg hc]
    rw [Int.gcd_comm]
  have hg : 0 < Int.gcd t c := Nat.pos_of_ne_zero (fun e => hc (Int.gcd_eq_zero_iff.1 e).2)
  obtain ⟨d, hdd⟩ : Int.gcd t c ∣ c.natAbs := by
    unfold Int.gcd
    exact Nat.gcd_dvd_right _ _
  rw [hd, hdd, Nat.mul_div_cancel_left _ hg]
  have hdp : d ≠ 0 := fun e => by subst e; simp at hdd; exact hc hdd
  have hdr : ((d : Nat) : Rat) ≠ 0 := fun e => hdp (by exact_mod_cast e)
  have hcs : c = c.sign * ((Int.gcd t c : Int) * (d : Int)) := by
    have h1 := Int.sign_mul_natAbs c
    rw [hdd] at h1
    have h2 : ((Int.gcd t c * d : Nat) : Int) = (Int.gcd t c : Int) * (d : Int) := by simp
    rw [h2] at h1
    exact h1.symm
  unfold cst
  have e : ((c : Int) : Rat) = ((c.sign * (Int.gcd t c : Int) : Int) : Rat) * ((d : Nat) : Rat) := by
    have h2 : c = (c.sign * (Int.gcd t c : Int)) * (d : Int) := by rw [Int.mul_assoc]; exact hcs
    have h3 := congrArg (fun (z : Int) => (z : Rat)) h2
    rw [Rat.intCast_mul] at h3
    exact h3
  rw [e]
  grind
def lowT (T : List Int) (b : Int) : List Int := T.map (fun t => t / com b T)
def lowB (T : List Int) (b : Int) : Int := b / com b T
theorem lowT_len (T : List Int) (b : Int) : (lowT T b).length = T.length := by unfold lowT; simp
theorem lowB_pos (T : List Int) {b : Int} (hb : b ≠ 0) : 0 < lowB T b := by
  have ok := com_ok hb T T.length (Nat.le_refl _)
  rw [List.take_length] at ok
  unfold lowB
  obtain ⟨d, hd⟩ := ok.dvd
  have hs := ok.sign
  have hq : b / com b T = d := by
    conv => lhs; lhs; rw [hd]
    exact Int.mul_ediv_cancel_left _ ok.ne
  rw [hq]
  have hs2 : b.sign = (com b T).sign * d.sign := by conv => lhs; rw [hd]
                                                    rw [Int.sign_mul]
  rw [hs2] at hs
  have hcs : (com b T).sign ≠ 0 := fun e => ok.ne (Int.sign_eq_zero_iff_zero.1 e)
  have : d.sign = 1 := by
    rcases Int.lt_or_gt_of_ne ok.ne with h | h
    · rw [Int.sign_eq_neg_one_of_neg h] at hs; omega
    · rw [Int.sign_eq_one_of_pos h] at hs; omega
  exact Int.sign_eq_one_iff_pos.1 this
theorem low_val (T : List Int) {b : Int} (hb : b ≠ 0) (i : Nat) (h1 : i < (lowT T b).length) (h2 : i < T.length) : (((lowT T b)[i] : Int) : Rat) / ((lowB T b : Int) : Rat) = ((T[i] : Int) : Rat) / ((b : Int) : Rat) := by
  have ok := com_ok hb T T.length (Nat.le_refl _)
  have al := com_all hb T T.length (Nat.le_refl _)
  rw [List.take_length] at ok al
  have e1 : (lowT T b)[i] = T[i] / com b T := by simp [lowT]
  rw [e1]
  unfold lowB
  rw [← rat_div_int ok.ne (al _ (List.getElem_mem h2)), ← rat_div_int ok.ne ok.dvd]
  have hc : ((com b T : Int) : Rat) ≠ 0 := fun e => ok.ne (by exact_mod_cast e)
  have hbr : ((b : Int) : Rat) ≠ 0 := fun e => hb (by exact_mod_cast e)
  grind
theorem lowT_abs (T : List Int) {b : Int} (hb : b ≠ 0) {n : Nat} (hT : ∀ t ∈ T, t.natAbs < n) : ∀ t ∈ lowT T b, t.natAbs < n := by
  have al := com_all hb T T.length (Nat.le_refl _)
  rw [List.take_length] at al
  intro t ht
  unfold lowT at ht
  obtain ⟨x, hx, rfl⟩ := List.mem_map.1 ht
  rcases div_abs x (com b T) with h | h
  · exact Nat.lt_of_le_of_lt h (hT x hx)
  · exact absurd (al x hx) h
theorem lowB_abs (T : List Int) {b : Int} (hb : b ≠ 0) {n : Nat} (h : b.natAbs < n) : (lowB T b).natAbs < n := by
  have ok := com_ok hb T T.length (Nat.le_refl _)
  rw [List.take_length] at ok
  rcases div_abs b (com b T) with k | k
  · exact Nat.lt_of_le_of_lt k h
  · exact absurd ok.dvd k
theorem com_one : ∀ T : List Int, com 1 T = 1
  | [] => rfl
  | t :: T => by
    unfold com
    rw [List.foldl_cons]
    have : cst 1 t = 1 := by unfold cst; simp
    rw [this]
    exact com_one T
theorem low_one (T : List Int) : lowT T 1 = T ∧ lowB T 1 = 1 := by
  unfold lowT lowB
  rw [com_one]
  simp
theorem com_abs {b : Int} (hb : b ≠ 0) (T : List Int) (k : Nat) (hk : k ≤ T.length) {n : Nat} (h : b.natAbs < n) : (com b (T.take k)).natAbs < n :=
  Nat.lt_of_le_of_lt (dvd_abs (com_ok hb T k hk).dvd hb) h
theorem ltI {z : Int} {m : Nat} (hm : m ≠ 0) (h : z.natAbs < 10 ^ m) : Lt10 m ((z : Int) : Rat) := ⟨by rw [Rat.num_intCast]; exact h, by rw [Rat.den_intCast]; exact Nat.one_lt_pow hm (by decide)⟩
theorem fitI {w : World} {v : Value} {z : Int} {K m : Nat} (hm : m ≠ 0) (h : QIs w v ((z : Int) : Rat) K) (hz : z.natAbs < 10 ^ m) : QIs w v ((z : Int) : Rat) (m / 9 + 1) := h.fit (ltI hm hz)
theorem cmp_one {b : Int} : (cmpR ((b : Int) : Rat) ((1 : Int) : Rat) == 0) = decide (b = 1) := by
  unfold cmpR
  by_cases h : b = 1
  · subst h; simp
  · have hne : ¬ ((b : Int) : Rat) = ((1 : Int) : Rat) := fun e => h (by exact_mod_cast e)
    by_cases hl : ((b : Int) : Rat) < ((1 : Int) : Rat)
    · rw [if_pos hl]; simp [h]
    · have hg : ((1 : Int) : Rat) < ((b : Int) : Rat) := by grind
      rw [if_neg hl, if_pos hg]; simp [h]
theorem mapI_succ (T : List Int) (c : Int) (k : Nat) (h : k < T.length) : ((T.take (k + 1)).map (fun t => t / c)).map (fun (t : Int) => (t : Rat)) = ((T.take k).map (fun t => t / c)).map (fun (t : Int) => (t : Rat)) ++ [((T[k] / c : Int) : Rat)] := by
  rw [List.take_succ_eq_append_getElem h, List.map_append, List.map_append]; rfl
end Go.Proofs.YtgojlegknlalpaaGreatDoor
