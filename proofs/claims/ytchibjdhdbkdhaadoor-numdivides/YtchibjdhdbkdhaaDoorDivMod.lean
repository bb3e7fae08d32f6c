/- DivMod: quotient and rest, or ErrZero. -/
import Derived.Test.YtchibjdhdbkdhaaDoorDivide
import Derived.Test.YtchibjdhdbkdhaaDoorWords
import Derived.Test.YtchibjdhdbkdhaaDoorNBase
namespace Go.Proofs.YtchibjdhdbkdhaaDoor
open Go.RowKit
set_option linter.unusedVariables false
set_option maxRecDepth 100000
set_option linter.unusedSimpArgs false

theorem NatIs.lt {w : World} {v : Value} {n K : Nat} (h : NatIs w v n K) : n < 4294967296 ^ K := by
  obtain ⟨sl, L, h1, h2, h3, h4, rfl, h6⟩ := h
  exact Nat.lt_of_lt_of_le (val_lt h3) (Nat.pow_le_pow_right (by decide) h6)
theorem NatIs.fit {w : World} {v : Value} {n K K' : Nat} (h : NatIs w v n K) (hn : n < 4294967296 ^ K') : NatIs w v n K' := by
  obtain ⟨sl, L, h1, h2, h3, h4, rfl, h6⟩ := h
  refine ⟨sl, L, h1, h2, h3, h4, rfl, ?_⟩
  rcases Nat.lt_or_ge K' L.length with hl | hl
  · exfalso
    obtain ⟨j, hj⟩ : ∃ j, L.length = j + 1 := ⟨L.length - 1, by omega⟩
    have ht : lg L j ≠ 0 := by have := h4 (by omega); rw [hj] at this; exact this
    have h7 := val_ge_top L j L.length rfl hj ht
    have h8 : 4294967296 ^ K' ≤ 4294967296 ^ j := Nat.pow_le_pow_right (by decide) (by omega)
    omega
  · exact hl
/-- Four variables, one behind the other. -/
theorem boxed4 (w : World) (A B C D : Obj) : Below w.heap.size w ((((w.alloc A).alloc B).alloc C).alloc D) ∧ ((((w.alloc A).alloc B).alloc C).alloc D).heap[w.heap.size]? = some A ∧ ((((w.alloc A).alloc B).alloc C).alloc D).heap[w.heap.size + 1]? = some B ∧ ((((w.alloc A).alloc B).alloc C).alloc D).heap[w.heap.size + 1 + 1]? = some C ∧ ((((w.alloc A).alloc B).alloc C).alloc D).heap[w.heap.size + 1 + 1 + 1]? = some D ∧ ((((w.alloc A).alloc B).alloc C).alloc D).heap.size = w.heap.size + 1 + 1 + 1 + 1 := by
  refine ⟨below_alloc' (boxed3 (Below.refl _ _) A B C) (Nat.le_refl _) D, box_alloc (boxed3_first w A B C) D, box_alloc (boxed3_second w A B C) D, box_alloc (boxed3_third w A B C) D, ?_, by simp⟩
  have := box_new (((w.alloc A).alloc B).alloc C) D
  simpa using this
/-- Two results that are written into their variables. -/
theorem div_out {w0 w1 : World} {p q : Nat} {u v x y : Value} {m n K K' : Nat} (hb : Below w0.heap.size w0 w1) (hp : w0.heap.size ≤ p) (hq : w0.heap.size ≤ q) (hne : p ≠ q) (h1 : w1.heap[p]? = some (.cells #[u] 24 (0, 0))) (h2 : w1.heap[q]? = some (.cells #[v] 24 (0, 0))) (hx : NatIs w1 x m K) (hy : NatIs w1 y n K') (s t : Value) :
    NatIs ((w1.setCell ⟨p, 0, none⟩ s).setCell ⟨q, 0, none⟩ t) x m K ∧ NatIs ((w1.setCell ⟨p, 0, none⟩ s).setCell ⟨q, 0, none⟩ t) y n K' ∧ Below w0.heap.size w0 ((w1.setCell ⟨p, 0, none⟩ s).setCell ⟨q, 0, none⟩ t) ∧ ((w1.setCell ⟨p, 0, none⟩ s).setCell ⟨q, 0, none⟩ t).cell? ⟨p, 0, none⟩ = some s ∧ ((w1.setCell ⟨p, 0, none⟩ s).setCell ⟨q, 0, none⟩ t).cell? ⟨q, 0, none⟩ = some t := by
  have h3 : (w1.setCell ⟨p, 0, none⟩ s).heap[q]? = some (.cells #[v] 24 (0, 0)) := box_set h2 (fun e => hne e.symm) s
  refine ⟨(hx.box h1 (by decide) s).box h3 (by decide) t, (hy.box h1 (by decide) s).box h3 (by decide) t, (hb.setCell (p := ⟨p, 0, none⟩) hp s).setCell (p := ⟨q, 0, none⟩) hq t, ?_, ?_⟩
  · have c1 := cell_of_one h1
    have f1 := free_of_one h1
    simp [go_sem, hne, c1, f1]
  · have c1 := cell_of_one h3
    simp [go_sem, c1]
set_option maxHeartbeats 1000000 in
theorem divmod_zero (w : World) (ao bo : Option Addr) (n c c' : Nat) :
    Calls Tryd.prog 61 #[.agg #[.slice ao n c], .agg #[.slice bo 0 c']] w fun e w' => e = .returned (.tuple #[.agg #[.slice none 0 0], .agg #[.slice none 0 0], .int .i64 12]) ∧ Below w.heap.size w w' := by
  have B4 := (boxed4 w (Obj.cells #[Value.slice ao n c] 24) (Obj.cells #[Value.slice bo 0 c'] 24) (Obj.cells #[Value.slice none 0 0] 24) (Obj.cells #[Value.slice none 0 0] 24)).1
  go_enter Tryd.func61, Tryd.ntmps61
  go_wp2
  exact bodyPost_ret (v := .tuple #[.agg #[.slice none 0 0], .agg #[.slice none 0 0], .int .i64 12]) (by simp [results, Tryd.results61, go_sem]) rfl ⟨rfl, B4⟩
set_option maxHeartbeats 1000000 in
theorem divmod_less (w : World) (ao bo : Option Addr) (n c n' c' m K : Nat) (hK : K ≤ 1000000000) (ha : NatIs w (.agg #[.slice ao n c]) m K) (h : n < n') :
    Calls Tryd.prog 61 #[.agg #[.slice ao n c], .agg #[.slice bo n' c']] w fun e w' => (∃ q v, e = .returned (.tuple #[q, v, .int .i64 0]) ∧ NatIs w' q 0 0 ∧ NatIs w' v m K) ∧ Below w.heap.size w w' := by
  have hn' : ((n' : Int) == 0) = false := beq_eq_false_iff_ne.2 (by omega)
  go_enter Tryd.func61, Tryd.ntmps61
  go_wp2_with fail
  obtain ⟨B4, b0, b1, b2, b3, s4⟩ := boxed4 w (Obj.cells #[Value.slice ao n c] 24) (Obj.cells #[Value.slice bo n' c'] 24) (Obj.cells #[Value.slice none 0 0] 24) (Obj.cells #[Value.slice none 0 0] 24)
  generalize (((w.alloc (Obj.cells #[Value.slice ao n c] 24)).alloc (Obj.cells #[Value.slice bo n' c'] 24)).alloc (Obj.cells #[Value.slice none 0 0] 24)).alloc (Obj.cells #[Value.slice none 0 0] 24) = W at *
  refine (copied_any W _ m K hK (ha.below B4)).mono ?_
  rintro e w' ⟨v, rfl, hv, hb⟩
  obtain ⟨ao', l', cp, rfl⟩ := hv.form
  have B5 := B4.trans (hb.mono (by omega))
  have b2' := box_below hb b2 (by omega)
  have b3' := box_below hb b3 (by omega)
  obtain ⟨o1, o2, o3, o4, o5⟩ := div_out B5 (by omega) (by omega) (by omega) b2' b3' (nat_zero w') hv (.slice none 0 0) (.slice ao' l' cp)
  have c2 := cell_of_one b2'
  have f2 := free_of_one b2'
  have c3 := cell_of_one b3'
  have f3 := free_of_one b3'
  clear b0 b1 b2 b3 b2' b3' hb B4 s4
  have HO := hid (And.intro o1 (And.intro o2 o3))
  clear o1 o2 o3
  go_wp2
  exact bodyPost_ret (v := .tuple #[.agg #[.slice none 0 0], .agg #[.slice ao' l' cp], .int .i64 0]) (by simp [results, Tryd.results61, go_sem, o4, o5]) rfl ⟨⟨_, _, rfl, HO.out.1, HO.out.2.1⟩, HO.out.2.2⟩
set_option maxHeartbeats 1000000 in
theorem divmod_word (w : World) (ao bo : Option Addr) (n c n' c' : Nat) (A B : List Nat) (hA : Bd A) (hB : Bd B) (oa : Limbs w (.slice ao n c) A) (ob : Limbs w (.slice bo n' c') B) (hAl : A.length = n) (hBl : B.length = n') (h0 : n' ≠ 0) (h1 : n' ≤ n) (h2 : n ≤ 2) (hv : val B ≠ 0) :
    Calls Tryd.prog 61 #[.agg #[.slice ao n c], .agg #[.slice bo n' c']] w fun e w' => (∃ q v, e = .returned (.tuple #[q, v, .int .i64 0]) ∧ NatIs w' q (val A / val B) 2 ∧ NatIs w' v (val A % val B) 2) ∧ Below w.heap.size w w' := by
  have hn' : ((n' : Int) == 0) = false := beq_eq_false_iff_ne.2 (by omega)
  have hlt : ¬ ((n : Int) < (n' : Int)) := by omega
  have hd2 : decide (n ≤ 2) = true := by simp [h2]
  go_enter Tryd.func61, Tryd.ntmps61
  go_wp2_with fail
  obtain ⟨B4, b0, b1, b2, b3, s4⟩ := boxed4 w (Obj.cells #[Value.slice ao n c] 24) (Obj.cells #[Value.slice bo n' c'] 24) (Obj.cells #[Value.slice none 0 0] 24) (Obj.cells #[Value.slice none 0 0] 24)
  generalize (((w.alloc (Obj.cells #[Value.slice ao n c] 24)).alloc (Obj.cells #[Value.slice bo n' c'] 24)).alloc (Obj.cells #[Value.slice none 0 0] 24)).alloc (Obj.cells #[Value.slice none 0 0] 24) = W at *
  refine (fits_any W ao n c (by omega)).mono ?_
  rintro e w1 ⟨rfl, hb1⟩
  rw [hd2]
  have hb1x := hb1.size
  have t1 := cell_of_one (box_below hb1 b0 (by omega))
  have t2 := cell_of_one (box_below hb1 b1 (by omega))
  have b2' := box_below hb1 b2 (by omega)
  have b3' := box_below hb1 b3 (by omega)
  have B0 := chain2 B4 hb1
  have HB := hid (And.intro b2' b3')
  clear b0 b1 b2 b3 b2' b3' hb1
  have s1 : w.heap.size + 1 + 1 + 1 + 1 ≤ w1.heap.size := by have := hb1x; omega
  have hx64 : val A < 18446744073709551616 := Nat.lt_of_lt_of_le (val_lt hA) (by rw [hAl]; exact Nat.le_trans (Nat.pow_le_pow_right (by decide) h2) (by decide))
  have hy64 : val B < 18446744073709551616 := Nat.lt_of_lt_of_le (val_lt hB) (by rw [hBl]; exact Nat.le_trans (Nat.pow_le_pow_right (by decide) (Nat.le_trans h1 h2)) (by decide))
  have WA := fun w' (h' : Below w.heap.size w w') => word_any w' ao n c A hA (oa.below h') (by omega)
  have WB := fun w' (h' : Below w.heap.size w w') => word_any w' bo n' c' B hB (ob.below h') (by omega)
  obtain ⟨x, hxe⟩ : ∃ x, val A = x := ⟨_, rfl⟩
  obtain ⟨y, hye⟩ : ∃ y, val B = y := ⟨_, rfl⟩
  rw [hxe] at hx64 WA
  rw [hye] at hy64 WB hv
  have HX := hid (And.intro hxe hye)
  clear hxe hye
  have HWA := hid WA
  have HWB := hid WB
  clear WA WB oa ob hA hB hAl hBl B4
  have hy0 : (y : Int) ≠ 0 := by omega
  have e1 : ((x : Nat) : Int).tdiv (y : Int) = ((x / y : Nat) : Int) := by rw [Int.tdiv_eq_ediv_of_nonneg (by omega)]; omega
  have e2 : ((x : Nat) : Int).tmod (y : Int) = ((x % y : Nat) : Int) := by rw [Int.tmod_eq_emod_of_nonneg (by omega)]; omega
  have hq : x / y < 18446744073709551616 := Nat.lt_of_le_of_lt (Nat.div_le_self _ _) hx64
  have hr : x % y < 18446744073709551616 := Nat.lt_of_le_of_lt (Nat.mod_le _ _) hx64
  obtain ⟨q, hqe⟩ : ∃ q, x / y = q := ⟨_, rfl⟩
  obtain ⟨r, hre⟩ : ∃ r, x % y = r := ⟨_, rfl⟩
  rw [hqe] at e1 hq
  rw [hre] at e2 hr
  have HQ := hid (And.intro hqe hre)
  clear hqe hre
  have ewq : IntKind.u64.wrap (q : Int) = (q : Int) := w64 _ (by omega) (by omega)
  go_wp2
  have D0 : Below w.heap.size w w1.drew := B0.drew
  have d1 : w1.drew.cell? ⟨w.heap.size, 0, none⟩ = some (.slice ao n c) := t1
  have d2 : w1.drew.cell? ⟨w.heap.size + 1, 0, none⟩ = some (.slice bo n' c') := t2
  go_region_held3 (fun w' => w'.cell? ⟨w.heap.size, 0, none⟩ = some (.slice ao n c) ∧ w'.cell? ⟨w.heap.size + 1, 0, none⟩ = some (.slice bo n' c')) ((first | exact ⟨d1, d2⟩ | exact K1 | exact K2)) (first
    | (have gk := B1; go_at_call 92; refine (HWB.out _ B1).mono ?_; rintro e w3 ⟨rfl, hb3⟩; have B2 := chain2 B1 hb3; have K2 := And.intro (kcell hb3 K1.1) (kcell hb3 K1.2))
    | (have gk := D0; go_at_call 92; refine (HWA.out _ D0).mono ?_; rintro e w2 ⟨rfl, hb2⟩; have B1 := chain2 D0 hb2; have K1 := And.intro (kcell hb2 d1) (kcell hb2 d2)))
  have L3 := chain2 (chain2 (Below.refl w1.heap.size w1).drew hb2) hb3
  have C0 : Below w1.heap.size w1 w3.drew := L3.drew
  have S0 : w1.heap.size ≤ w3.drew.heap.size := C0.size
  have W0 : Below w.heap.size w w3.drew := B2.drew
  clear K1 K2 gk hb2 hb3 B1 B2 L3 d1 d2 D0 t1 t2 HWA HWB B0
  go_wp2
  go_region_held3 (fun _ => True) (trivial) (first
    | (have gk := C1; go_at_call 26; refine (of_any r hr _).mono ?_; rintro e w5 ⟨v2, rfl, n2, hb5⟩; obtain ⟨p2, l2, k2, rfl⟩ := n2.form; have C2 := C1.trans (hb5.mono C1.size); have W2 := chain2 W1 hb5; have x2 := box_below C2 HB.out.1 (by omega); have x3 := box_below C2 HB.out.2 (by omega); have u2 := cell_of_one x2; have f2 := free_of_one x2; have u3 := cell_of_one x3; have f3 := free_of_one x3; have u4 := cell_of_one (box_set x3 (show w.heap.size + 1 + 1 + 1 ≠ w.heap.size + 1 + 1 by omega) (.slice p1 l1 k1)); have f4 := free_of_one (box_set x3 (show w.heap.size + 1 + 1 + 1 ≠ w.heap.size + 1 + 1 by omega) (.slice p1 l1 k1)))
    | (have gk := C0; go_at_call 26; refine (of_any q hq _).mono ?_; rintro e w4 ⟨v1, rfl, n1, hb4⟩; obtain ⟨p1, l1, k1, rfl⟩ := n1.form; have C1 := C0.trans (hb4.mono S0); have W1 := chain2 W0 hb4))
  obtain ⟨o1, o2, o3, o4, o5⟩ := div_out W2 (by omega) (by omega) (by omega) x2 x3 (n1.below hb5) n2 (.slice p1 l1 k1) (.slice p2 l2 k2)
  have HO := hid (And.intro o1 (And.intro o2 o3))
  clear o1 o2 o3 x2 x3 u2 u3 u4 f2 f3 f4 n1 n2 hb5 hb4 W2 W1 C2 C1
  generalize ((w5.setCell ⟨w.heap.size + 1 + 1, 0, none⟩ (Value.slice p1 l1 k1)).setCell ⟨w.heap.size + 1 + 1 + 1, 0, none⟩ (Value.slice p2 l2 k2)) = X at *
  go_wp2
  exact bodyPost_ret (v := .tuple #[.agg #[.slice p1 l1 k1], .agg #[.slice p2 l2 k2], .int .i64 0]) (by simp [results, Tryd.results61, go_sem, o4, o5]) rfl ⟨⟨_, _, rfl, by rw [HX.out.1, HX.out.2, HQ.out.1]; exact HO.out.1, by rw [HX.out.1, HX.out.2, HQ.out.2]; exact HO.out.2.1⟩, HO.out.2.2⟩
set_option maxHeartbeats 1000000 in
theorem divmod_limb (w : World) (ao : Option Addr) (gb n c c' : Nat) (A B : List Nat) (hA : Bd A) (hB : Bd B) (oa : Limbs w (.slice ao n c) A) (ob : Limbs w (.slice (some ⟨gb, 0, none⟩) 1 c') B) (hAl : A.length = n) (hBl : B.length = 1) (h2 : 2 < n) (hn : n ≤ 1000000000) (hv : lg B 0 ≠ 0) :
    Calls Tryd.prog 61 #[.agg #[.slice ao n c], .agg #[.slice (some ⟨gb, 0, none⟩) 1 c']] w fun e w' => (∃ q v, e = .returned (.tuple #[q, v, .int .i64 0]) ∧ NatIs w' q (val A / lg B 0) n ∧ NatIs w' v (val A % lg B 0) 2) ∧ Below w.heap.size w w' := by
  have hlt : ¬ ((n : Int) < 1) := by omega
  have hd2 : decide (n ≤ 2) = false := by simp; omega
  go_enter Tryd.func61, Tryd.ntmps61
  go_wp2_with fail
  obtain ⟨B4, b0, b1, b2, b3, s4⟩ := boxed4 w (Obj.cells #[Value.slice ao n c] 24) (Obj.cells #[Value.slice (some ⟨gb, 0, none⟩) 1 c'] 24) (Obj.cells #[Value.slice none 0 0] 24) (Obj.cells #[Value.slice none 0 0] 24)
  generalize (((w.alloc (Obj.cells #[Value.slice ao n c] 24)).alloc (Obj.cells #[Value.slice (some ⟨gb, 0, none⟩) 1 c'] 24)).alloc (Obj.cells #[Value.slice none 0 0] 24)).alloc (Obj.cells #[Value.slice none 0 0] 24) = W at *
  refine (fits_any W ao n c (by omega)).mono ?_
  rintro e w1 ⟨rfl, hb1⟩
  rw [hd2]
  have t1 := cell_of_one (box_below hb1 b0 (by omega))
  have t2 := cell_of_one (box_below hb1 b1 (by omega))
  have s1 := hb1.size
  have B1 := chain2 B4 hb1
  have b2' := box_below hb1 b2 (by omega)
  have b3' := box_below hb1 b3 (by omega)
  have HB := hid (And.intro b2' b3')
  have HAB := hid (And.intro hAl hBl)
  clear b0 b1 b2 b3 b2' b3' hb1 B4
  go_wp2_with fail
  refine (clone_any w1 _ A (by omega) (oa.below B1)).mono ?_
  rintro e w2 ⟨⟨v', rfl, ho⟩, hb2⟩
  have ho' : Limbs w2 v' A := ownsRow_base0 ho
  rcases ho'.form with ⟨_, e0⟩ | ⟨g, cap, rfl, k1, k2, _⟩
  · rw [e0] at hAl; simp at hAl; omega
  rw [hAl] at ho k1 ⊢
  have t3 := kcell hb2 t2
  have ob2 := ob.below (chain2 B1 hb2)
  have cb := u32s_at (L := B) (by have := ob2; unfold Limbs at this; rw [hBl] at this; exact this) 0 (by omega)
  have hd := hB 0
  have hg0 : w1.heap.size ≤ g := by
    rcases ho.2 with ⟨h', _⟩ | ⟨g', cap', cur, h', hg, _⟩
    · simp at h'
    · simp only [Value.slice.injEq, Option.some.injEq, Addr.mk.injEq, and_true, true_and] at h'
      obtain ⟨rfl, rfl⟩ := h'
      exact hg
  clear hAl hBl t1 t2 oa ob ob2 ho'
  go_wp2_with fail
  refine (divl_any w2 w1.heap.size g n cap A hA HAB.out.1 k1 k2 ho (lg B 0) (by omega) hd).mono ?_
  rintro e w3 ⟨rfl, ⟨Q, hQl, hQb, hQv, oQ⟩, hg3⟩
  have C3 : Below w1.heap.size w1 w3 := hb2.grown hg3 hb2.size (fun k hk => by cases hk; exact hg0)
  have hr : val A % lg B 0 < 4294967296 := Nat.lt_of_lt_of_le (Nat.mod_lt _ (by omega)) (by omega)
  have HQ := hid (And.intro hQl hQv)
  obtain ⟨r, hre⟩ : ∃ r, val A % lg B 0 = r := ⟨_, rfl⟩
  rw [hre] at hr ⊢
  have HR := hid hre
  have T3 : w1.heap.size ≤ w3.heap.size := C3.size
  have W3 := chain2 B1 C3
  have TR := hid (trim_base w3 w1.heap.size (.slice (some ⟨g, 0, none⟩) n cap) Q hQb (by rw [hQl]; exact oQ))
  clear hQl hQv hre hb2 hg3 ho cb t3 oQ hA hB
  have x2 := box_below C3 HB.out.1 (by omega)
  have x3 := box_below C3 HB.out.2 (by omega)
  go_wp2_with fail
  refine TR.out.mono ?_
  rintro e w4 ⟨⟨v', M, rfl, hM, bM, tM, vM, lM⟩, rfl⟩
  obtain ⟨p1, l1, hl1⟩ := Limbs.slice (ownsRow_base0 hM)
  rw [hl1]
  rw [hl1] at hM
  have N1 : NatIs w4 (.agg #[.slice p1 M.length l1]) (val A / lg B 0) n := ⟨_, M, rfl, ownsRow_base0 hM, bM, tM, by rw [vM, HQ.out.2], by rw [← HQ.out.1]; exact lM⟩
  generalize M.length = lm at *
  clear hl1 hM bM tM vM lM TR hQb
  go_wp2_with fail
  refine (of_any r (by omega) _).mono ?_
  rintro e w5 ⟨v2, rfl, n2, hb5⟩
  obtain ⟨p2, l2, k2', rfl⟩ := n2.form
  have y2 := box_below hb5 x2 (by omega)
  have y3 := box_below hb5 x3 (by omega)
  obtain ⟨o1, o2, o3, o4, o5⟩ := div_out (chain2 W3 hb5) (by omega) (by omega) (by omega) y2 y3 (N1.below hb5) n2 (.slice p1 lm l1) (.slice p2 l2 k2')
  have HO := hid (And.intro o1 (And.intro o2 o3))
  have u2 := cell_of_one y2
  have f2 := free_of_one y2
  have u3 := cell_of_one y3
  have f3 := free_of_one y3
  clear o1 o2 o3 x2 x3 y2 y3 N1 n2 hb5 W3
  go_wp2
  exact bodyPost_ret (v := .tuple #[.agg #[.slice p1 lm l1], .agg #[.slice p2 l2 k2'], .int .i64 0]) (by simp [results, Tryd.results61, go_sem, o4, o5]) rfl ⟨⟨_, _, rfl, HO.out.1, by rw [HR.out]; exact HO.out.2.1⟩, HO.out.2.2⟩
set_option maxHeartbeats 1000000 in
theorem divmod_long (w : World) (ga gb n c n' c' m : Nat) (A B : List Nat) (hA : Bd A) (hB : Bd B) (oa : Limbs w (.slice (some ⟨ga, 0, none⟩) n c) A) (ob : Limbs w (.slice (some ⟨gb, 0, none⟩) n' c') B) (hAl : A.length = n) (hBl : B.length = n') (hm : n' = m + 1) (h2 : 2 < n) (h1 : 1 < n') (hle : n' ≤ n) (hn : n ≤ 1000000000) (hc : n ≤ c) (hcm : c ≤ maxLen) (hc' : n' ≤ c') (hcm' : c' ≤ maxLen) (hv : lg B m ≠ 0) :
    Calls Tryd.prog 61 #[.agg #[.slice (some ⟨ga, 0, none⟩) n c], .agg #[.slice (some ⟨gb, 0, none⟩) n' c']] w fun e w' => (∃ q v, e = .returned (.tuple #[q, v, .int .i64 0]) ∧ NatIs w' q (val A / val B) n ∧ NatIs w' v (val A % val B) (n + 1)) ∧ Below w.heap.size w w' := by
  have hn' : ((n' : Int) == 0) = false := beq_eq_false_iff_ne.2 (by omega)
  have hn1 : ((n' : Int) == 1) = false := beq_eq_false_iff_ne.2 (by omega)
  have hlt : ¬ ((n : Int) < (n' : Int)) := by omega
  have hd2 : decide (n ≤ 2) = false := by simp; omega
  have HM := hid (And.intro hm (And.intro hAl hBl))
  clear hm hAl hBl
  go_enter Tryd.func61, Tryd.ntmps61
  go_wp2_with fail
  obtain ⟨B4, b0, b1, b2, b3, s4⟩ := boxed4 w (Obj.cells #[Value.slice (some ⟨ga, 0, none⟩) n c] 24) (Obj.cells #[Value.slice (some ⟨gb, 0, none⟩) n' c'] 24) (Obj.cells #[Value.slice none 0 0] 24) (Obj.cells #[Value.slice none 0 0] 24)
  generalize (((w.alloc (Obj.cells #[Value.slice (some ⟨ga, 0, none⟩) n c] 24)).alloc (Obj.cells #[Value.slice (some ⟨gb, 0, none⟩) n' c'] 24)).alloc (Obj.cells #[Value.slice none 0 0] 24)).alloc (Obj.cells #[Value.slice none 0 0] 24) = W at *
  refine (fits_any W _ n c (by omega)).mono ?_
  rintro e w1 ⟨rfl, hb1⟩
  rw [hd2]
  have t1 := cell_of_one (box_below hb1 b0 (by omega))
  have t2 := cell_of_one (box_below hb1 b1 (by omega))
  have s1 := hb1.size
  have B1 := chain2 B4 hb1
  have b2' := box_below hb1 b2 (by omega)
  have b3' := box_below hb1 b3 (by omega)
  have HB := hid (And.intro b2' b3')
  have oa1 := oa.below B1
  have ob1 := ob.below B1
  unfold Limbs at oa1 ob1
  rw [HM.out.2.1] at oa1
  rw [HM.out.2.2] at ob1
  have DV := hid (divide_any w1 ga n c gb n' c' m A B hA hB HM.out.2.1 HM.out.2.2 HM.out.1 hle hn hc hcm hc' hcm' hv oa1 ob1)
  clear b0 b1 b2 b3 b2' b3' hb1 B4 oa1 ob1 oa ob hA hB hv
  go_wp2_with fail
  refine DV.out.mono ?_
  rintro e w2 ⟨⟨gq, nq, gr, nr, Q, R, rfl, hQl, hRl, hQn, hRn, hQb, hRb, hQv, hRv, oQ, oR⟩, hb2⟩
  have HQ := hid (And.intro hQl (And.intro hRl (And.intro hQv hRv)))
  have TQ := hid (trim_base w2 w1.heap.size (.slice (some ⟨gq, 0, none⟩) nq nq) Q hQb (by rw [hQl]; exact oQ))
  have TR := hid (trim_base w2 w1.heap.size (.slice (some ⟨gr, 0, none⟩) nr nr) R hRb (by rw [hRl]; exact oR))
  have x2 := box_below hb2 HB.out.1 (by omega)
  have x3 := box_below hb2 HB.out.2 (by omega)
  have W2 := chain2 B1 hb2
  have s2 := hb2.size
  clear hQl hRl hQv hRv oQ oR DV hQb hRb hb2
  go_wp2_with fail
  refine TQ.out.mono ?_
  rintro e w3 ⟨⟨v', M, rfl, hM, bM, tM, vM, lM⟩, rfl⟩
  obtain ⟨p1, l1, hl1⟩ := Limbs.slice (ownsRow_base0 hM)
  rw [hl1]
  rw [hl1] at hM
  have N1 : NatIs w3 (.agg #[.slice p1 M.length l1]) (val A / val B) n := ⟨_, M, rfl, ownsRow_base0 hM, bM, tM, by rw [vM, HQ.out.2.2.1], by have := HQ.out.1; omega⟩
  generalize M.length = lm at *
  clear hl1 hM bM tM vM lM TQ
  go_wp2_with fail
  refine TR.out.mono ?_
  rintro e w4 ⟨⟨v', M, rfl, hM, bM, tM, vM, lM⟩, rfl⟩
  obtain ⟨p2, l2, hl2⟩ := Limbs.slice (ownsRow_base0 hM)
  rw [hl2]
  rw [hl2] at hM
  have N2 : NatIs w4 (.agg #[.slice p2 M.length l2]) (val A % val B) (n + 1) := ⟨_, M, rfl, ownsRow_base0 hM, bM, tM, by rw [vM, HQ.out.2.2.2], by have := HQ.out.2.1; omega⟩
  generalize M.length = lk at *
  clear hl2 hM bM tM vM lM TR
  obtain ⟨o1, o2, o3, o4, o5⟩ := div_out W2 (by omega) (by omega) (by omega) x2 x3 N1 N2 (.slice p1 lm l1) (.slice p2 lk l2)
  have HO := hid (And.intro o1 (And.intro o2 o3))
  have u2 := cell_of_one x2
  have f2 := free_of_one x2
  have u3 := cell_of_one x3
  have f3 := free_of_one x3
  clear o1 o2 o3 x2 x3 N1 N2 W2
  go_wp2
  exact bodyPost_ret (v := .tuple #[.agg #[.slice p1 lm l1], .agg #[.slice p2 lk l2], .int .i64 0]) (by simp [results, Tryd.results61, go_sem, o4, o5]) rfl ⟨⟨_, _, rfl, HO.out.1, HO.out.2.1⟩, HO.out.2.2⟩
/-- DivMod where the divisor is not 0. -/
theorem divmod_any (w : World) (a b : Value) (m n K K' : Nat) (hK : K ≤ 1000000000) (hK' : K' ≤ 1000000000) (ha : NatIs w a m K) (hb : NatIs w b n K') (h0 : n ≠ 0) :
    Calls Tryd.prog 61 #[a, b] w fun e w' => (∃ q r, e = .returned (.tuple #[q, r, .int .i64 0]) ∧ NatIs w' q (m / n) K ∧ NatIs w' r (m % n) K') ∧ Below w.heap.size w w' := by
  have hm := ha.lt
  have hn := hb.lt
  have hq : m / n < 4294967296 ^ K := Nat.lt_of_le_of_lt (Nat.div_le_self _ _) hm
  have hr : m % n < 4294967296 ^ K' := Nat.lt_trans (Nat.mod_lt _ (by omega)) hn
  have ha0 := ha
  obtain ⟨sa, A, rfl, oa, bA, tA, rfl, lA⟩ := ha
  obtain ⟨sb, B, rfl, ob, bB, tB, rfl, lB⟩ := hb
  have hB0 : B.length ≠ 0 := by
    intro e
    rw [List.eq_nil_of_length_eq_zero e] at h0
    exact h0 rfl
  have htB : lg B (B.length - 1) ≠ 0 := tB hB0
  rcases ob.form with ⟨_, e⟩ | ⟨gb, cb, rfl, c1, c2, _⟩
  · rw [e] at hB0; exact absurd rfl hB0
  rcases Nat.lt_or_ge A.length B.length with hlt | hge
  · obtain ⟨ao, ca, rfl⟩ := oa.slice
    refine (divmod_less w ao _ A.length ca B.length cb (val A) K hK ha0 hlt).mono ?_
    rintro e w' ⟨⟨q, r, rfl, h1, h2⟩, hw⟩
    have hv := val_lt_len bA tB hlt
    rw [Nat.div_eq_of_lt hv] at *
    rw [Nat.mod_eq_of_lt hv] at *
    exact ⟨⟨q, r, rfl, h1.fit hq, h2.fit hr⟩, hw⟩
  · rcases oa.form with ⟨_, e⟩ | ⟨ga, ca, rfl, c3, c4, _⟩
    · rw [e] at hge; exact absurd (Nat.le_zero.1 hge) hB0
    rcases Nat.lt_or_ge 2 A.length with h2 | h2
    · rcases Nat.lt_or_ge 1 B.length with h3 | h3
      · refine (divmod_long w ga gb A.length ca B.length cb (B.length - 1) A B bA bB oa ob rfl rfl (by omega) h2 h3 hge (by omega) c3 c4 c1 c2 htB).mono ?_
        rintro e w' ⟨⟨q, r, rfl, h1, h2⟩, hw⟩
        exact ⟨⟨q, r, rfl, h1.fit hq, h2.fit hr⟩, hw⟩
      · have h4 : B.length = 1 := by omega
        have hvB : val B = lg B 0 := by unfold val; rw [h4]; simp [pv]
        have ob' := ob
        rw [h4] at ob' htB
        simp at htB
        rw [h4]
        refine (divmod_limb w _ gb A.length ca cb A B bA bB oa ob' rfl h4 h2 (by omega) htB).mono ?_
        rintro e w' ⟨⟨q, r, rfl, h1, h2⟩, hw⟩
        rw [← hvB] at h1 h2
        exact ⟨⟨q, r, rfl, h1.fit hq, h2.fit hr⟩, hw⟩
    · refine (divmod_word w _ _ A.length ca B.length cb A B bA bB oa ob rfl rfl hB0 hge h2 h0).mono ?_
      rintro e w' ⟨⟨q, r, rfl, h1, h2⟩, hw⟩
      exact ⟨⟨q, r, rfl, h1.fit hq, h2.fit hr⟩, hw⟩
/-- DivMod by 0. -/
theorem divmod_none (w : World) (a b : Value) (m K K' : Nat) (ha : NatIs w a m K) (hb : NatIs w b 0 K') :
    Calls Tryd.prog 61 #[a, b] w fun e w' => e = .returned (.tuple #[.agg #[.slice none 0 0], .agg #[.slice none 0 0], .int .i64 12]) ∧ Below w.heap.size w w' := by
  obtain ⟨ao, l, c, rfl⟩ := ha.form
  obtain ⟨sb, B, rfl, ob, bB, tB, hv, lB⟩ := hb
  obtain ⟨bo, cb, rfl⟩ := ob.slice
  have hB0 : B.length = 0 := by
    rcases Nat.eq_zero_or_pos B.length with h | h
    · exact h
    · exfalso
      have ht := tB (by omega)
      have := val_ge_top B (B.length - 1) B.length rfl (by omega) ht
      have := pow_pos32 (B.length - 1)
      omega
  rw [hB0]
  exact divmod_zero w ao bo l c cb
end Go.Proofs.YtchibjdhdbkdhaaDoor
