/- UTab, UNew, UAt, UZero, UBasis, USame, USameW, ULawM, UPivM, UNewB. -/
import Derived.Test.YtgojlegknlalpaaGreatDoorPk35
import Derived.Deep.RegionWith
import Derived.Deep.RegionLaw
import Derived.Test.YtgojlegknlalpaaGreatDoorPk34
import Derived.Deep.RegionHeld3
import Derived.Deep.QuietTactic
import Derived.BigQuiet
/- tableau: rows of six cells; Rows, Columns, has. -/
namespace Go.Proofs.YtgojlegknlalpaaGreatDoor
open Go.RowKit
set_option linter.unusedVariables false
set_option maxRecDepth 100000
set_option linter.unusedSimpArgs false

theorem six_at : ∀ (C : List (List Value)), (∀ c ∈ C, c.length = 6) → ∀ (k j : Nat) (hk : k < C.length), j < 6 → C.flatten[k * 6 + j]? = (C[k])[j]?
  | [], _, k, j, hk, _ => by simp at hk
  | x :: T, h, 0, j, _, hj => by
    rw [List.flatten_cons, Nat.zero_mul, Nat.zero_add, List.getElem?_append_left (by rw [h x List.mem_cons_self]; exact hj)]
    rfl
  | x :: T, h, k + 1, j, hk, hj => by
    have h1 : (k + 1) * 6 = k * 6 + 6 := Nat.succ_mul k 6
    have hx := h x List.mem_cons_self
    rw [List.flatten_cons, List.getElem?_append_right (by rw [hx]; omega), hx, show (k + 1) * 6 + j - 6 = k * 6 + j by omega, six_at T (fun c hc => h c (List.mem_cons_of_mem _ hc)) k j (by simpa using hk) hj]
    rfl
theorem ULi.form {w : World} {tv p1 p2 p3 p4 : Value} {T : List Int} {b : Int} {K : Nat} (h : ULi w tv p1 p2 p3 p4 T b K) : ∃ ta tc a1 l1 c1 b1 a2 l2 c2 b2, tv = .slice ta T.length tc ∧ p1 = .slice a1 l1 c1 ∧ p2 = .bool b1 ∧ p3 = .slice a2 l2 c2 ∧ p4 = .bool b2 ∧ T.length ≤ tc ∧ tc ≤ 9223372036854775807 := by
  obtain ⟨base, C, _, h2, h3⟩ := h
  obtain ⟨a1, l1, c1, b1, a2, l2, c2, b2, e⟩ := h2.form
  obtain ⟨ta, tc, et, k1, k2⟩ := h3.slice
  simp only [Value.agg.injEq, Array.mk.injEq, List.cons.injEq, and_true] at e
  obtain ⟨e1, e2, e3, e4⟩ := e
  rw [List.length_map] at et k1
  exact ⟨ta, tc, a1, l1, c1, b1, a2, l2, c2, b2, et, e1, e2, e3, e4, k1, k2⟩
/-- A row of a tableau: its whole numbers, what they are over, its basis. -/
abbrev URw := List Int × Int × Int
structure UBs (w : World) (base : Nat) (v : Value) (C : List (List Value)) (A : List URw) (K : Nat) : Prop where
  own : w.ownsRow base 64 6 v A.length C.flatten
  len : C.length = A.length
  six : ∀ c ∈ C, c.length = 6
  is_ : ∀ i (h1 : i < C.length) (h2 : i < A.length), ∃ tv p1 p2 p3 p4, C[i] = [tv, p1, p2, p3, p4, .int .i64 (A[i]).2.2] ∧ ULi w tv p1 p2 p3 p4 (A[i]).1 (A[i]).2.1 K
section
variable {w w' : World} {base : Nat} {v v' : Value} {C : List (List Value)} {A : List URw} {K : Nat}
theorem UBs.below (h : UBs w base v C A K) (b : Below w.heap.size w w') : UBs w' base v C A K :=
  ⟨⟨h.own.1, by
    rcases h.own.2 with hn | ⟨g, cap, cur, rfl, hb, hgg, rest⟩
    · exact .inl hn
    · exact .inr ⟨g, cap, cur, rfl, hb, (b.block g (lt_of_block hgg)).trans hgg, rest⟩⟩, h.len, h.six, fun i h1 h2 => by
      obtain ⟨tv, p1, p2, p3, p4, e, hl⟩ := h.is_ i h1 h2
      exact ⟨tv, p1, p2, p3, p4, e, hl.below b⟩⟩
theorem UBs.slice (h : UBs w base v C A K) : ∃ a c, v = .slice a A.length c ∧ A.length ≤ c ∧ c ≤ 9223372036854775807 := by
  rcases h.own.2 with ⟨e0, hz⟩ | ⟨g, cap, cur, e0, hb, hh, q1, q2, _⟩
  · exact ⟨none, 0, by rw [e0, hz], by omega, by omega⟩
  · unfold maxLen at q2
    exact ⟨_, cap, e0, q1, by omega⟩
theorem UBs.at (h : UBs w base v C A K) (i : Nat) (hi : i < A.length) : ∃ g c ta tc a1 l1 c1 b1 a2 l2 c2 b2, v = .slice (some ⟨g, 0, none⟩) A.length c ∧ base ≤ g ∧ w.cell? ⟨g, i * 6, none⟩ = some (.slice ta (A[i]).1.length tc) ∧ w.cell? ⟨g, i * 6 + 1, none⟩ = some (.slice a1 l1 c1) ∧ w.cell? ⟨g, i * 6 + 2, none⟩ = some (.bool b1) ∧ w.cell? ⟨g, i * 6 + 3, none⟩ = some (.slice a2 l2 c2) ∧ w.cell? ⟨g, i * 6 + 4, none⟩ = some (.bool b2) ∧ w.cell? ⟨g, i * 6 + 5, none⟩ = some (.int .i64 (A[i]).2.2) ∧ (A[i]).1.length ≤ tc ∧ tc ≤ 9223372036854775807 ∧ ULi w (.slice ta (A[i]).1.length tc) (.slice a1 l1 c1) (.bool b1) (.slice a2 l2 c2) (.bool b2) (A[i]).1 (A[i]).2.1 K := by
  have hiC : i < C.length := by rw [h.len]; exact hi
  obtain ⟨tv, p1, p2, p3, p4, hx, hI⟩ := h.is_ i hiC hi
  obtain ⟨ta, tc, a1, l1, c1, b1, a2, l2, c2, b2, rfl, rfl, rfl, rfl, rfl, k1, k2⟩ := hI.form
  rcases h.own.2 with ⟨e0, hz⟩ | ⟨g, cap, cur, e0, hb, hh, q1, q2, _⟩
  · omega
  · have key : ∀ j u, [Value.slice ta (A[i]).1.length tc, .slice a1 l1 c1, .bool b1, .slice a2 l2 c2, .bool b2, .int .i64 (A[i]).2.2][j]? = some u → w.cell? ⟨g, i * 6 + j, none⟩ = some u := fun j u hu => by
      have hj : j < 6 := by simpa using (List.getElem?_eq_some_iff.1 hu).1
      have := h.own.cells (g := g) (by rw [e0]; rfl) (i * 6 + j) u (by rw [six_at C h.six i j hiC hj, hx]; exact hu)
      rw [add_off, Nat.zero_add] at this
      exact this
    exact ⟨g, cap, ta, tc, a1, l1, c1, b1, a2, l2, c2, b2, e0, hb, key 0 _ rfl, key 1 _ rfl, key 2 _ rfl, key 3 _ rfl, key 4 _ rfl, key 5 _ rfl, k1, k2, hI⟩
theorem UBs.push (h : UBs w base v C A K) {tv p1 p2 p3 p4 : Value} {a : URw} (ho : w'.ownsRow base 64 6 v' (A.length + 1) (C.flatten ++ [tv, p1, p2, p3, p4, .int .i64 a.2.2])) (hI : ∀ {tv p1 p2 p3 p4 : Value} {T : List Int} {b : Int}, ULi w tv p1 p2 p3 p4 T b K → ULi w' tv p1 p2 p3 p4 T b K) (hq : ULi w tv p1 p2 p3 p4 a.1 a.2.1 K) : UBs w' base v' (C ++ [[tv, p1, p2, p3, p4, .int .i64 a.2.2]]) (A ++ [a]) K := by
  have hl := h.len
  refine ⟨by rw [List.length_append, List.flatten_append]; simpa using ho, by simp [hl], fun c hc => ?_, fun i h1 h2 => ?_⟩
  · rcases List.mem_append.1 hc with hc | hc
    · exact h.six c hc
    · simp only [List.mem_singleton] at hc
      subst hc; rfl
  · by_cases hi : i < A.length
    · rw [List.getElem_append_left (by omega), List.getElem_append_left hi]
      obtain ⟨t, q1, q2, q3, q4, e, k⟩ := h.is_ i (by omega) hi
      exact ⟨t, q1, q2, q3, q4, e, hI k⟩
    · have hiX : i = A.length := by simp at h2; omega
      subst hiX
      rw [List.getElem_append_right (by omega), List.getElem_append_right (by omega)]
      simp only [hl, Nat.sub_self, List.getElem_cons_zero]
      exact ⟨tv, p1, p2, p3, p4, rfl, hI hq⟩
theorem ubs_none (w : World) (base : Nat) : UBs w base (.slice none 0 0) [] [] K := ⟨⟨rfl, .inl ⟨rfl, rfl⟩⟩, rfl, by simp, fun i h1 h2 => by simp at h2⟩
end
/-- The tableau at tb: its rows. -/
def UTb (w : World) (tb : Nat) (A : List URw) (K : Nat) : Prop :=
  ∃ ra rc base C, w.heap[tb]? = some (.cells #[.slice ra A.length rc] 51 (0, 0)) ∧ UBs w base (.slice ra A.length rc) C A K
theorem UTb.below {w w' : World} {tb : Nat} {A : List URw} {K : Nat} (h : UTb w tb A K) (b : Below w.heap.size w w') : UTb w' tb A K := by
  obtain ⟨ra, rc, base, C, h1, h2⟩ := h
  exact ⟨ra, rc, base, C, box_below b h1 (lt_of_block h1), h2.below b⟩
/-- How many columns. -/
def ucols (A : List URw) : Nat := (A.head?.map (fun a => a.1.length)).getD 0
theorem ucols_zero {A : List URw} (h : A.length = 0) : ucols A = 0 := by
  cases A with
  | nil => rfl
  | cons a l => simp at h
theorem ucols_pos {A : List URw} (h : 0 < A.length) : ucols A = (A[0]).1.length := by
  cases A with
  | nil => simp at h
  | cons a l => rfl
set_option maxHeartbeats 1600000 in
theorem uRows_any (w : World) (tb : Nat) (A : List URw) (K : Nat) (h : UTb w tb A K) :
    Calls Tryz.prog 17 #[.pointer (some ⟨tb, 0, none⟩)] w fun e w' => e = .returned (.int .i64 (A.length : Int)) ∧ w' = w := by
  obtain ⟨ra, rc, base, C, h1, h2⟩ := h
  obtain ⟨_, _, e, k1, k2⟩ := h2.slice
  simp only [Value.slice.injEq] at e
  obtain ⟨rfl, -, rfl⟩ := e
  have c0 := bxc h1 0 (.slice ra A.length rc) rfl
  clear h1 h2
  generalize A.length = n at *
  go_enter Tryz.func17, Tryz.ntmps17
  go_wp2
  go_ret
  exact ⟨rfl, rfl⟩
set_option maxHeartbeats 1600000 in
theorem uColumns_any (w : World) (tb : Nat) (A : List URw) (K : Nat) (h : UTb w tb A K) :
    Calls Tryz.prog 19 #[.pointer (some ⟨tb, 0, none⟩)] w fun e w' => e = .returned (.int .i64 (ucols A : Int)) ∧ w' = w := by
  obtain ⟨ra, rc, base, C, h1, h2⟩ := h
  obtain ⟨_, _, e, k1, k2⟩ := h2.slice
  simp only [Value.slice.injEq] at e
  obtain ⟨rfl, -, rfl⟩ := e
  have c0 := bxc h1 0 (.slice ra A.length rc) rfl
  clear h1
  by_cases h0 : A.length = 0
  · have HE := hid (ucols_zero h0)
    clear h2
    generalize ucols A = m at *
    generalize A.length = n at *
    subst h0
    go_enter Tryz.func19, Tryz.ntmps19
    go_wp2
    go_ret
    exact ⟨by rw [HE.out]; rfl, rfl⟩
  · have hp : 0 < A.length := by omega
    have hn0 : ((A.length : Int) == 0) = false := beq_eq_false_iff_ne.2 (by omega)
    have HE := hid (ucols_pos hp)
    obtain ⟨g, c, ta, tc, _, _, _, _, _, _, _, _, e, -, q0, -, -, -, -, -, k3, k4, -⟩ := h2.at 0 hp
    simp only [Value.slice.injEq] at e
    obtain ⟨rfl, -, rfl⟩ := e
    rw [Nat.zero_mul] at q0
    clear h2
    generalize (A[0]).1.length = m at *
    generalize ucols A = mm at *
    generalize A.length = n at *
    go_enter Tryz.func19, Tryz.ntmps19
    go_wp2
    go_ret
    exact ⟨by rw [HE.out]; rfl, rfl⟩
/-- Is there such a place? -/
def uhs (A : List URw) (r c : Int) : Bool := decide (0 ≤ r) && decide (r < (A.length : Int)) && decide (0 ≤ c) && decide (c < (ucols A : Int))
set_option maxHeartbeats 3200000 in
theorem uhas_any (w : World) (tb : Nat) (A : List URw) (K : Nat) (h : UTb w tb A K) (r c : Int) :
    Calls Tryz.prog 28 #[.pointer (some ⟨tb, 0, none⟩), .int .i64 r, .int .i64 c] w fun e w' => e = .returned (.bool (uhs A r c)) ∧ w' = w := by
  have HR := hid (fun (Y : World) (bY : Below w.heap.size w Y) => uRows_any Y tb A K (h.below bY))
  have HC := hid (fun (Y : World) (bY : Below w.heap.size w Y) => uColumns_any Y tb A K (h.below bY))
  clear h
  obtain ⟨R, HE⟩ : ∃ R, Hid (uhs A r c = R) := ⟨_, hid rfl⟩
  have HU := hid (show R = (decide (0 ≤ r) && decide (r < (A.length : Int)) && decide (0 ≤ c) && decide (c < (ucols A : Int))) by rw [← HE.out]; rfl)
  rw [HE.out]
  clear HE
  generalize A.length = n at *
  generalize ucols A = m at *
  have b0 := Below.refl w.heap.size w
  go_enter Tryz.func28, Tryz.ntmps28
  by_cases h1 : 0 ≤ r
  case neg =>
    have d1 : decide (0 ≤ r) = false := by simpa using h1
    have HF := hid (show R = false by rw [HU.out, d1]; rfl)
    go_wp2
    go_ret
    exact ⟨by rw [HF.out]; rfl, rfl⟩
  have d1 : decide (0 ≤ r) = true := by simpa using h1
  by_cases h2 : r < (n : Int)
  case neg =>
    have d2 : decide (r < (n : Int)) = false := by simpa using h2
    have HF := hid (show R = false by rw [HU.out, d1, d2]; rfl)
    go_wp2_with fail
    refine (HR.out _ b0).mono ?_
    rintro e X1 ⟨rfl, hX1⟩
    subst hX1
    go_wp2
    go_ret
    exact ⟨by rw [HF.out]; rfl, rfl⟩
  have d2 : decide (r < (n : Int)) = true := by simpa using h2
  by_cases h3 : 0 ≤ c
  case neg =>
    have d3 : decide (0 ≤ c) = false := by simpa using h3
    have HF := hid (show R = false by rw [HU.out, d1, d2, d3]; rfl)
    go_wp2_with fail
    refine (HR.out _ b0).mono ?_
    rintro e X1 ⟨rfl, hX1⟩
    subst hX1
    go_wp2
    go_ret
    exact ⟨by rw [HF.out]; rfl, rfl⟩
  have d3 : decide (0 ≤ c) = true := by simpa using h3
  have HF := hid (show R = decide (c < (m : Int)) by rw [HU.out, d1, d2, d3]; rfl)
  go_wp2_with fail
  refine (HR.out _ b0).mono ?_
  rintro e X1 ⟨rfl, hX1⟩
  subst hX1
  go_wp2_with fail
  refine (HC.out _ b0).mono ?_
  rintro e X2 ⟨rfl, hX2⟩
  subst hX2
  go_wp2
  go_ret
  exact ⟨by rw [HF.out]; rfl, rfl⟩
end Go.Proofs.YtgojlegknlalpaaGreatDoor
/- tableau: New. -/
namespace Go.Proofs.YtgojlegknlalpaaGreatDoor
open Go.RowKit
set_option linter.unusedVariables false
set_option maxRecDepth 100000
set_option linter.unusedSimpArgs false

def uzip (M : List (List Int)) (B : List Int) : List URw := (M.zip B).map (fun x => (x.1, 1, x.2))
theorem uzip_len {M : List (List Int)} {B : List Int} (h : B.length = M.length) : (uzip M B).length = M.length := by unfold uzip; simp [h]
theorem uzip_succ {M : List (List Int)} {B : List Int} (h : B.length = M.length) (k : Nat) (hk : k < M.length) (hb : k < B.length) : (uzip M B).take (k + 1) = (uzip M B).take k ++ [(M[k], 1, B[k])] := by
  have hu : k < (uzip M B).length := by rw [uzip_len h]; exact hk
  have he : (uzip M B)[k] = (M[k], 1, B[k]) := by simp only [uzip, List.getElem_map, List.getElem_zip]
  rw [List.take_succ_eq_append_getElem hu, he]
theorem QLs.kty {t1 t2 : TypeId} {w w' : World} {base : Nat} {v : Value} {C : List (List Value)} {X : List Rat} {K : Nat} (h : QLs w base v C X K) (k : Kty t1 t2 w w') (h1 : 121 ≠ t1) (h2 : 121 ≠ t2) (h3 : 59 ≠ t1) (h4 : 59 ≠ t2) : QLs w' base v C X K :=
  ⟨⟨h.own.1, by
    rcases h.own.2 with hn | ⟨g, cap, cur, rfl, hb, hgg, rest⟩
    · exact .inl hn
    · exact .inr ⟨g, cap, cur, rfl, hb, (k.block g (lt_of_block hgg) (fun c fz e => by rw [hgg] at e; simp only [Option.some.injEq, Obj.cells.injEq] at e; exact h3 e.2.1) (fun c fz e => by rw [hgg] at e; simp only [Option.some.injEq, Obj.cells.injEq] at e; exact h4 e.2.1)).trans hgg, rest⟩⟩, h.len, h.four, fun i k1 k2 => (h.is_ i k1 k2).kty k h1 h2⟩
theorem ULi.kty {t1 t2 : TypeId} {w w' : World} {tv p1 p2 p3 p4 : Value} {T : List Int} {b : Int} {K : Nat} (h : ULi w tv p1 p2 p3 p4 T b K) (k : Kty t1 t2 w w') (h1 : 121 ≠ t1) (h2 : 121 ≠ t2) (h3 : 59 ≠ t1) (h4 : 59 ≠ t2) : ULi w' tv p1 p2 p3 p4 T b K := by
  obtain ⟨base, C, k1, k2, k3⟩ := h
  exact ⟨base, C, k1, k2.kty k h1 h2, k3.kty k h1 h2 h3 h4⟩
theorem UBs.set {X : World} {base : Nat} {v : Value} {C : List (List Value)} {A : List URw} {K bx i : Nat} {c : Array Value} {fz : Nat × Nat} (h : UBs X base v C A K) (hb : X.heap[bx]? = some (.cells c 51 fz)) (u : Value) : UBs (X.setCell ⟨bx, i, none⟩ u) base v C A K :=
  ⟨ownsRow_setCell_other h.own (a := ⟨bx, i, none⟩) (own_ne_ty h.own hb (by decide)) u, h.len, h.six, fun j h1 h2 => by
    obtain ⟨tv, p1, p2, p3, p4, e, hl⟩ := h.is_ j h1 h2
    exact ⟨tv, p1, p2, p3, p4, e, hl.kty (Kty.of_set (t1 := 64) (t2 := 51) hb (Or.inr rfl) u) (by decide) (by decide) (by decide) (by decide)⟩⟩
theorem info_brow : (Tryz.prog.info? 64).map (fun i => (i.zero, i.size, i.bytes)) = some (some (.agg #[.slice none 0 0, .slice none 0 0, .bool false, .slice none 0 0, .bool false, .int .i64 0]), 6, 96) := by kernel_rfl
theorem six_new (X : World) (t : TypeId) (v0 v1 v2 v3 v4 v5 : Value) : ∀ j u, [v0, v1, v2, v3, v4, v5][j]? = some u → (X.alloc (.cells #[v0, v1, v2, v3, v4, v5] t)).cell? ((⟨X.heap.size, 0, none⟩ : Addr).add j) = some u := by
  intro j u hu
  rw [add_off, Nat.zero_add]
  exact bxc (box_new X (.cells #[v0, v1, v2, v3, v4, v5] t)) j u (by simpa using hu)
theorem unw_ok {M : List (List Int)} {B : List Int} (h : unw M B = 0) : B.length = M.length ∧ M.length ≤ 64 ∧ wid M ≤ 192 ∧ (∀ r ∈ M, r.length = wid M ∧ In9 r) := by
  unfold unw at h
  by_cases h1 : ushp M B = false
  · rw [if_pos h1] at h; omega
  rw [if_neg h1] at h
  by_cases h2 : 64 < M.length ∨ 192 < wid M ∨ M.any bey = true
  · rw [if_pos h2] at h; omega
  have h1' : ushp M B = true := by cases hh : ushp M B with
    | true => rfl
    | false => exact absurd hh h1
  unfold ushp at h1'
  rw [Bool.and_eq_true] at h1'
  refine ⟨by simpa using h1'.2, by omega, by omega, fun r hr => ⟨by simpa using List.all_eq_true.1 h1'.1 r hr, fun x hx => ?_⟩⟩
  have h3 : ¬ bey r = true := fun hb => h2 (Or.inr (Or.inr (List.any_eq_true.2 ⟨r, hr, hb⟩)))
  have h4 : ¬ byd x = true := fun hb => h3 (List.any_eq_true.2 ⟨x, hx, hb⟩)
  unfold byd at h4
  simp at h4
  omega
set_option maxHeartbeats 12800000 in
theorem uNew_any (w : World) (v bv : Value) (M : List (List Int)) (B : List Int) (h : IntRows w v M) (hb : Ints w bv B) :
    Calls Tryz.prog 10 #[v, bv] w fun e w' => ((unw M B ≠ 0 ∧ e = .returned (.tuple #[.pointer none, .int .i64 (unw M B)])) ∨ (unw M B = 0 ∧ ∃ tb, e = .returned (.tuple #[.pointer (some ⟨tb, 0, none⟩), .int .i64 0]) ∧ w.heap.size ≤ tb ∧ UTb w' tb (uzip M B) 3)) ∧ Below w.heap.size w w' := by
  have HI0 := hid h
  have HBI0 := hid hb
  have HSH := hid (ushaped_any w _ _ M B h hb)
  obtain ⟨a, c, rfl, hl, hm⟩ := h.slice
  obtain ⟨ba, bc, rfl, bl, bm⟩ := hb.slice
  unfold maxLen at hm bm
  clear h hb
  obtain ⟨R, HR⟩ : ∃ R, Hid (unw M B = R) := ⟨_, hid rfl⟩
  have HRu := hid (show R = if ushp M B = false then 120 else if 64 < M.length ∨ 192 < wid M ∨ M.any bey = true then 82 else if ucl B (wid M) = false then 1 else 0 by rw [← HR.out]; rfl)
  have HOK := hid (fun (hz : R = 0) => unw_ok (HR.out.trans hz))
  rw [HR.out]
  clear HR
  have b0 := Below.refl w.heap.size w
  go_enter Tryz.func10, Tryz.ntmps10
  go_wp2_with fail
  refine HSH.out.mono ?_
  rintro e W ⟨rfl, bW⟩
  have HI1 := hid (HI0.out.below bW)
  have HB1 := hid (HBI0.out.below bW)
  clear HSH
  generalize ushp M B = s0 at *
  cases s0 with
  | false =>
    have HE := hid (show R = 120 by rw [HRu.out, if_pos rfl])
    go_wp2
    go_ret2
    exact ⟨Or.inl ⟨by rw [HE.out]; omega, by rw [HE.out]; rfl⟩, bW⟩
  | true =>
  have HR2 := hid (show R = if 64 < M.length ∨ 192 < wid M ∨ M.any bey = true then 82 else if ucl B (wid M) = false then 1 else 0 by rw [HRu.out, if_neg (by decide)])
  clear HRu
  by_cases h1 : 64 < M.length
  · have h1' : decide ((64 : Int) < (M.length : Int)) = true := by simp; omega
    have HE := hid (show R = 82 by rw [HR2.out, if_pos (Or.inl h1)])
    go_wp2
    go_ret2
    exact ⟨Or.inl ⟨by rw [HE.out]; omega, by rw [HE.out]; rfl⟩, bW⟩
  have h1' : decide ((64 : Int) < (M.length : Int)) = false := by simp; omega
  have HW := hid (fun (Y : World) (bY : Below W.heap.size W Y) => uwidth_any Y _ M (HI1.out.below bY))
  have HCT := hid (ucontains_any W _ M HI1.out)
  obtain ⟨m, hmm⟩ : ∃ m, wid M = m := ⟨_, rfl⟩
  have hmN : m ≤ 9223372036854775807 := by
    by_cases h0 : M.length = 0
    · rw [← hmm, wid_zero h0]; omega
    · have hp : 0 < M.length := by omega
      rw [← hmm, wid_pos hp]
      obtain ⟨_, _, _, _, _, _, hu⟩ := HI0.out.at 0 hp
      obtain ⟨_, _, _, k1, k2⟩ := hu.slice
      unfold maxLen at k2
      omega
  have HM := hid hmm
  rw [hmm] at HW HR2
  clear hmm
  go_wp2_with fail
  refine (HW.out _ (Below.refl _ _)).mono ?_
  rintro e X1 ⟨rfl, hX1⟩
  subst hX1
  by_cases h2 : 192 < m
  · have h2' : decide ((192 : Int) < (m : Int)) = true := by simp; omega
    have HE := hid (show R = 82 by rw [HR2.out, if_pos (Or.inr (Or.inl h2))])
    go_wp2
    go_ret2
    exact ⟨Or.inl ⟨by rw [HE.out]; omega, by rw [HE.out]; rfl⟩, bW⟩
  have h2' : decide ((192 : Int) < (m : Int)) = false := by simp; omega
  go_wp2_with fail
  refine HCT.out.mono ?_
  rintro e X1 ⟨rfl, hX1⟩
  subst hX1
  clear HCT
  obtain ⟨g0, hg0⟩ : ∃ g0, M.any bey = g0 := ⟨_, rfl⟩
  rw [hg0] at HR2
  simp only [hg0]
  clear hg0
  cases g0 with
  | true =>
    have HE := hid (show R = 82 by rw [HR2.out, if_pos (Or.inr (Or.inr rfl))])
    go_wp2
    go_ret2
    exact ⟨Or.inl ⟨by rw [HE.out]; omega, by rw [HE.out]; rfl⟩, bW⟩
  | false =>
  have HR3 := hid (show R = if ucl B m = false then 1 else 0 by rw [HR2.out, if_neg (by simp; omega)])
  have HCL := hid (ucols_any X1 _ B HB1.out m (by omega))
  clear HR2
  go_wp2_with fail
  refine (HW.out _ (Below.refl _ _)).mono ?_
  rintro e X2 ⟨rfl, hX2⟩
  subst hX2
  go_wp2_with fail
  refine HCL.out.mono ?_
  rintro e X3 ⟨rfl, hX3⟩
  subst hX3
  clear HCL
  generalize ucl B m = g1 at *
  cases g1 with
  | false =>
    have HE := hid (show R = 1 by rw [HR3.out, if_pos rfl])
    go_wp2
    go_ret2
    exact ⟨Or.inl ⟨by rw [HE.out]; omega, by rw [HE.out]; rfl⟩, bW⟩
  | true =>
  have HE := hid (show R = 0 by rw [HR3.out, if_neg (by decide)])
  obtain ⟨hbl, hml, hwl, hrow⟩ := HOK.out HE.out
  have HROW := hid hrow
  clear HR3 HOK hrow HW
  go_wp2_with fail
  obtain ⟨i0, hi0, hz0, hz1, hz2⟩ := info_parts info_brow
  have HY0 := hid (box_new X3 (Obj.cells #[.slice none 0 0] 51))
  have bA0 := (Below.refl X3.heap.size X3).alloc (Nat.le_refl _) (Obj.cells #[.slice none 0 0] 51)
  have BW := chain2 bW bA0
  have hbx : w.heap.size ≤ X3.heap.size := bW.size
  have HL0 := hid (show UBs (X3.alloc (Obj.cells #[.slice none 0 0] 51)) w.heap.size (.slice none 0 0) [] ((uzip M B).take 0) 3 from ubs_none _ _)
  clear bA0 HI1 HB1 bW
  generalize X3.alloc (Obj.cells #[.slice none 0 0] 51) = W at *
  generalize X3.heap.size = tb at *
  have hb0 := Below.refl W.heap.size W
  go_loopw [36] (fun i wr => ∃ (k : Nat) (ra : Option Addr) (rn rc : Nat) (C' : List (List Value)), k ≤ M.length ∧ i = .int .i64 (k : Int) ∧ Hid (wr.heap[tb]? = some (.cells #[.slice ra rn rc] 51 (0, 0))) ∧ Hid (UBs wr w.heap.size (.slice ra rn rc) C' ((uzip M B).take k) 3) ∧ Below w.heap.size w wr) (fun i _ => M.length - (intOf i).toNat)
  case atStart => exact ⟨0, none, 0, 0, [], Nat.zero_le _, rfl, HY0, HL0, BW⟩
  case round =>
    clear HY0 HL0 BW hb0
    obtain ⟨k, ra, rn, rc, C', hk, rfl, HY, HL, bw⟩ := hrel
    have HI := hid (HI0.out.below bw)
    have HBI := hid (HBI0.out.below bw)
    by_cases hlt : k < M.length
    · have hltb : k < B.length := by omega
      obtain ⟨rb, ro, rcc, u, e, hc, hu⟩ := HI.out.at k hlt
      simp only [Value.slice.injEq] at e
      obtain ⟨rfl, -, rfl⟩ := e
      obtain ⟨bb, bo, bcc, e, _, _, hcb⟩ := HBI.out.at k hltb
      simp only [Value.slice.injEq] at e
      obtain ⟨rfl, -, rfl⟩ := e
      obtain ⟨ua, uc, hue, _, hum⟩ := hu.slice
      subst hue
      unfold maxLen at hum
      have HU := hid hu
      have HSU := hid (uzip_succ hbl k hlt hltb)
      have HRK := hid (HROW.out _ (List.getElem_mem hlt))
      have hln : rn = k := by
        obtain ⟨_, _, e, _⟩ := HL.out.slice
        simp only [Value.slice.injEq, List.length_take, uzip_len hbl] at e
        omega
      subst hln
      have HXL := hid (show ((uzip M B).take rn).length = rn by rw [List.length_take, uzip_len hbl]; omega)
      have hwid : M[rn].length ≤ 192 := by rw [HRK.out.1]; omega
      have m0 := bxc HY.out 0 (.slice ra rn rc) rfl
      clear hu
      generalize hMk : M[rn] = row at *
      generalize hBk : B[rn] = bk at *
      clear hMk hBk
      generalize hrl : row.length = rl0 at *
      have HRL := hid hrl
      clear hrl
      generalize wr = W3 at *
      go_wp2_with fail
      go_region_law (first
        | (refine step_append_at rfl _ _ 49 rfl w.heap.size 64 i0 (.agg #[.slice none 0 0, .slice none 0 0, .bool false, .slice none 0 0, .bool false, .int .i64 0]) 6 96 Tryz.underlying49 hi0 hz0 hz1 hz2 rfl (by decide) (.slice ra rn rc) rn _ rfl (by have := (HL.out.below bX4').own.alloc (.cells #[.slice ta tl tc, .slice i1 i2 i3, .bool i4, .slice i5 i6 i7, .bool i8, .int .i64 bk] 64); rw [HXL.out] at this; exact this) ⟨Y4.heap.size, 0, none⟩ 1 1 [.slice ta tl tc, .slice i1 i2 i3, .bool i4, .slice i5 i6 i7, .bool i8, .int .i64 bk] rfl rfl (six_new _ _ _ _ _ _ _ _) (by intro u hu; simp at hu; rcases hu with rfl | rfl | rfl | rfl | rfl | rfl <;> rfl) (by unfold maxLen; omega) (by omega) (by simp; have := bX4'.size; have := bw.size; omega) ?_; intro v' Y5 o5 hg5 hat5; have bA4 := (Below.refl Y4.heap.size Y4).alloc (Nat.le_refl _) (Obj.cells #[.slice ta tl tc, .slice i1 i2 i3, .bool i4, .slice i5 i6 i7, .bool i8, .int .i64 bk] 64); have bX4a := chain2 bX4' bA4; have la := HL.out.below bX4a; have ya := box_below bX4a HY.out (lt_of_block HY.out); have y5 := (hg5.block tb (lt_of_block ya) (fun e => own_ne_ty la.own ya (by decide) e.symm)).trans ya; have o0 := bxc y5 0 (.slice ra rn rc) rfl; have fr := blk_free y5 0; obtain ⟨ra', rc', rfl⟩ := own_form4 o5)
        | (go_simp; go_at_call 26; refine (ulistOf_any _ _ row (by rw [HRL.out]; exact hwid) HRK.out.2 (by first | exact HU.out | exact HU.out.below (Below.refl _ _).drew | exact HU.out.below (below_dn (Below.refl _ _) _))).mono ?_; rintro e Y4 ⟨⟨tv, i1, i2, i3, i4, i5, i6, i7, i8, rfl, n4⟩, b4⟩; have bX4' : Below W3.heap.size W3 Y4 := ⟨b4.os, b4.tape, b4.output, b4.size, b4.block⟩; have G1 := bX4'; obtain ⟨ta, tl, tc, rfl⟩ : ∃ ta tl tc, tv = .slice ta tl tc := by { obtain ⟨ta, tc, _, _, _, _, _, _, _, _, e, _⟩ := n4.form; exact ⟨ta, _, tc, e⟩ }; have N4 := hid n4; have y4 := box_below bX4' HY.out (lt_of_block HY.out); have k0 := bxc y4 0 (.slice ra rn rc) rfl; have kb := kcU bX4' hcb; have j0 := bxc (box_alloc y4 (Obj.cells #[.slice ta tl tc, .slice i1 i2 i3, .bool i4, .slice i5 i6 i7, .bool i8, .int .i64 bk] 64)) 0 (.slice ra rn rc) rfl; clear b4 y4 n4; dsimp only))
      all_goals
        have yS := blk_set y5 0 (.slice ra' (rn + 1) rc')
        have kg : Kty 64 51 (Y4.alloc (.cells #[.slice ta tl tc, .slice i1 i2 i3, .bool i4, .slice i5 i6 i7, .bool i8, .int .i64 bk] 64)) Y5 := Kty.of_grown hg5 (fun g hg => own_ty la.own g hg)
        have hpush := UBs.push la (w' := Y5) (v' := .slice ra' (rn + 1) rc') (a := (row, 1, bk)) (by rw [HXL.out]; exact o5) (fun h => h.kty kg (by decide) (by decide) (by decide) (by decide)) (N4.out.below bA4)
        rw [← HSU.out] at hpush
        have LS := UBs.set (i := 0) hpush y5 (.slice ra' (rn + 1) rc')
        have B5 := (bw.trans (bX4a.mono bw.size)).grown hg5 (Nat.le_trans bw.size bX4a.size) (fun g hg => (la.own.lt g hg).1)
        have BS := B5.setCell (p := ⟨tb, 0, none⟩) hbx (.slice ra' (rn + 1) rc')
        have HYS := hid yS
        have HLS := hid LS
        clear yS LS kg hpush la ya y5 o0 fr o5 hg5 hat5 B5 bA4 bX4a
        go_wp2
        go_roundw
        case rel => exact ⟨rn + 1, ra', rn + 1, rc', _, by omega, by go_num, HYS, HLS, BS⟩
        case measure => simp [intOf]; omega
    · obtain rfl : k = M.length := by omega
      have hrn : rn = M.length := by
        obtain ⟨_, _, e, _⟩ := HL.out.slice
        simp only [Value.slice.injEq, List.length_take, uzip_len hbl] at e
        omega
      subst hrn
      have HT := hid (show UTb wr tb (uzip M B) 3 by
        have := HL.out
        rw [← uzip_len hbl, List.take_length] at this
        exact ⟨ra, rc, w.heap.size, C', by rw [uzip_len hbl]; exact HY.out, this⟩)
      go_wp2
      go_ret2
      exact ⟨Or.inr ⟨HE.out, tb, rfl, hbx, HT.out⟩, bw⟩
end Go.Proofs.YtgojlegknlalpaaGreatDoor
/- tableau: number, isZero, At. -/
namespace Go.Proofs.YtgojlegknlalpaaGreatDoor
open Go.RowKit
set_option linter.unusedVariables false
set_option maxRecDepth 100000
set_option linter.unusedSimpArgs false

theorem ULi.num {w : World} {tv p1 p2 p3 p4 : Value} {T : List Int} {b : Int} {K : Nat} (h : ULi w tv p1 p2 p3 p4 T b K) (k : Nat) (hk : k < T.length) : ∃ g c d1 d2 d3 d4 d5 d6 d7 d8, tv = .slice (some ⟨g, 0, none⟩) T.length c ∧ w.cell? ⟨g, k * 4, none⟩ = some (.slice d1 d2 d3) ∧ w.cell? ⟨g, k * 4 + 1, none⟩ = some (.bool d4) ∧ w.cell? ⟨g, k * 4 + 2, none⟩ = some (.slice d5 d6 d7) ∧ w.cell? ⟨g, k * 4 + 3, none⟩ = some (.bool d8) ∧ QIs w (.agg #[.slice d1 d2 d3, .bool d4, .slice d5 d6 d7, .bool d8]) ((T[k] : Int) : Rat) K := by
  obtain ⟨base, C, _, _, h3⟩ := h
  have hk' : k < (T.map (fun (t : Int) => (t : Rat))).length := by rw [List.length_map]; exact hk
  obtain ⟨g, c, x0, x1, x2, x3, e, _, q0, q1, q2, q3, hq⟩ := h3.at k hk'
  obtain ⟨d1, d2, d3, d4, d5, d6, d7, d8, hs⟩ := hq.form
  simp only [Value.agg.injEq, Array.mk.injEq, List.cons.injEq, and_true] at hs
  obtain ⟨rfl, rfl, rfl, rfl⟩ := hs
  rw [List.length_map] at e
  rw [List.getElem_map] at hq
  exact ⟨g, c, d1, d2, d3, d4, d5, d6, d7, d8, e, q0, q1, q2, q3, hq⟩
set_option maxHeartbeats 3200000 in
theorem unumber_any (w : World) (ta : Option Addr) (n tc : Nat) (a1 : Option Addr) (l1 c1 : Nat) (b1 : Bool) (a2 : Option Addr) (l2 c2 : Nat) (b2 : Bool) (T : List Int) (b : Int) (K : Nat) (hK : K ≤ 1000000) (h : ULi w (.slice ta n tc) (.slice a1 l1 c1) (.bool b1) (.slice a2 l2 c2) (.bool b2) T b K) (k : Nat) (hk : k < T.length) (hkN : T.length ≤ 192) :
    Calls Tryz.prog 29 #[.agg #[.slice ta n tc, .slice a1 l1 c1, .bool b1, .slice a2 l2 c2, .bool b2], .int .i64 (k : Int)] w fun e w' => (∃ v, e = .returned v ∧ QIs w' v (((T[k] : Int) : Rat) / (b : Rat)) (2 * K + 9)) ∧ Below w.heap.size w w' := by
  have hn : n = T.length := by
    obtain ⟨_, _, _, _, _, _, _, _, _, _, e, _⟩ := h.form
    simp only [Value.slice.injEq] at e
    exact e.2.1
  have htc : T.length ≤ tc ∧ tc ≤ 9223372036854775807 := by
    obtain ⟨_, _, _, _, _, _, _, _, _, _, e, _, _, _, _, k1, k2⟩ := h.form
    simp only [Value.slice.injEq] at e
    rw [e.2.2]
    exact ⟨k1, k2⟩
  have b0 := boxed2 (Below.refl w.heap.size w) (Obj.cells #[.slice ta n tc, .slice a1 l1 c1, .bool b1, .slice a2 l2 c2, .bool b2] 61) (Obj.cells #[.slice none 0 0, .bool false, .slice none 0 0, .bool false] 59)
  have x0 := boxed2_first w (Obj.cells #[.slice ta n tc, .slice a1 l1 c1, .bool b1, .slice a2 l2 c2, .bool b2] 61) (Obj.cells #[.slice none 0 0, .bool false, .slice none 0 0, .bool false] 59)
  have hy := boxed2_second w (Obj.cells #[.slice ta n tc, .slice a1 l1 c1, .bool b1, .slice a2 l2 c2, .bool b2] 61) (Obj.cells #[.slice none 0 0, .bool false, .slice none 0 0, .bool false] 59)
  have h' := h.below b0
  obtain ⟨g, c, d1, d2, d3, d4, d5, d6, d7, d8, e, q0, q1, q2, q3, hq⟩ := h'.num k hk
  simp only [Value.slice.injEq] at e
  obtain ⟨rfl, rfl, rfl⟩ := e
  obtain ⟨base, C, hb0, hqb, _⟩ := h'
  have HQ := hid hq
  have HQB := hid hqb
  have hbn : ((b : Int) : Rat) ≠ 0 := fun e => by
    have : b = 0 := by exact_mod_cast e
    omega
  have z0 := bxc x0 0 (.slice (some ⟨g, 0, none⟩) T.length tc) rfl
  have z1 := bxc x0 1 (.slice a1 l1 c1) rfl
  have z2 := bxc x0 2 (.bool b1) rfl
  have z3 := bxc x0 3 (.slice a2 l2 c2) rfl
  have z4 := bxc x0 4 (.bool b2) rfl
  have BX3 := hid b0
  clear h x0 hq hqb b0 hb0 hn
  generalize hTk : T[k] = tk at *
  clear hTk
  generalize T.length = nn at *
  go_enter Tryz.func29, Tryz.ntmps29
  go_wp2_with fail
  generalize (w.alloc (Obj.cells #[.slice (some ⟨g, 0, none⟩) nn tc, .slice a1 l1 c1, .bool b1, .slice a2 l2 c2, .bool b2] 61)).alloc (Obj.cells #[.slice none 0 0, .bool false, .slice none 0 0, .bool false] 59) = W at *
  have hkI : (0 : Int) ≤ (k : Int) ∧ (k : Int) < (nn : Int) := by omega
  have HYY := hid hy
  clear hy
  first
  | (go_region_with (first
      | (go_at_call 45; refine (uquot_any _ _ _ ((tk : Int) : Rat) ((b : Int) : Rat) K hK (HQ.out.below (by first | exact Below.refl _ _ | exact (Below.refl _ _).drew | exact below_dn (Below.refl _ _) _)) (HQB.out.below (by first | exact Below.refl _ _ | exact (Below.refl _ _).drew | exact below_dn (Below.refl _ _) _)) hbn).mono ?_; rintro e X4 ⟨v4, rfl, n4, b4⟩; have bX4 : Below W.heap.size W X4 := ⟨b4.os, b4.tape, b4.output, b4.size, b4.block⟩; obtain ⟨g1, g2, g3, g4, g5, g6, g7, g8, rfl⟩ := n4.form; have hy4 := box_below bX4 HYY.out (lt_of_block HYY.out); obtain ⟨y0, y1, y2, y3⟩ := four_cell hy4; have fr := free_four hy4; clear b4)))
  | fail
  all_goals
    have BX4 := hid (chain2 BX3.out bX4)
    have hr' := set4_own hy4 (.slice g1 g2 g3) (.bool g4) (.slice g5 g6 g7) (.bool g8)
    obtain ⟨r0, r1, r2, r3⟩ := four_cell hr'
    have HO := hid (And.intro r0 (And.intro r1 (And.intro r2 r3)))
    have BA := hid (set4_below (o := 0) BX4.out (show w.heap.size ≤ w.heap.size + 1 by omega) (.slice g1 g2 g3) (.bool g4) (.slice g5 g6 g7) (.bool g8))
    have NQ := hid (n4.kty (set4_kty (o := 0) (t1 := 59) (t2 := 59) hy4 (Or.inl rfl) (.slice g1 g2 g3) (.bool g4) (.slice g5 g6 g7) (.bool g8)) (by decide) (by decide))
    clear n4 bX4 HYY hy4 r0 r1 r2 r3 hr' BX3 BX4 HQ HQB q0 q1 q2 q3 z0 z1 z2 z3 z4
    go_wp2
    exact bodyPost_ret (v := .agg #[.slice g1 g2 g3, .bool g4, .slice g5 g6 g7, .bool g8]) (by simp [results, Tryz.results29, go_sem, HO.out.1, HO.out.2.1, HO.out.2.2.1, HO.out.2.2.2]) rfl ⟨⟨_, rfl, NQ.out⟩, BA.out⟩
theorem uhs_yes {A : List URw} {r c : Int} (h : uhs A r c = true) : ∃ i k : Nat, r = (i : Int) ∧ c = (k : Int) ∧ i < A.length ∧ k < ucols A := by
  unfold uhs at h
  simp at h
  exact ⟨r.toNat, c.toNat, by omega, by omega, by omega, by omega⟩
/-- s is the text of the number there. -/
def UAtP (A : List URw) (r c : Int) (s : ByteArray) : Prop :=
  ((uhs A r c = false ∧ s = ByteArray.empty) ∨ ∃ (i k : Nat) (hi : i < A.length) (hk : k < (A[i]).1.length), r = (i : Int) ∧ c = (k : Int) ∧ TxR s ((((A[i]).1[k] : Int) : Rat) / (((A[i]).2.1 : Int) : Rat)))
set_option maxHeartbeats 6400000 in
theorem uAt_any (w : World) (tb : Nat) (A : List URw) (K : Nat) (hK : K ≤ 400000) (h : UTb w tb A K) (hA : A.length ≤ 64) (hcol : ∀ a ∈ A, a.1.length = ucols A) (hcl : ucols A ≤ 192) (r c : Int) (htab : Tab w) :
    Calls Tryz.prog 12 #[.pointer (some ⟨tb, 0, none⟩), .int .i64 r, .int .i64 c] w fun e w' => (∃ s, e = .returned (.string s) ∧ UAtP A r c s) ∧ Below w.heap.size w w' := by
  have HH := hid (uhas_any w tb A K h r c)
  have HT := hid h
  have HTB := hid htab
  have HCO := hid hcol
  clear h htab hcol
  go_enter Tryz.func12, Tryz.ntmps12
  go_wp2_with fail
  refine HH.out.mono ?_
  rintro e X1 ⟨rfl, hX1⟩
  subst hX1
  clear HH
  obtain ⟨u0, hu0⟩ : ∃ u0, uhs A r c = u0 := ⟨_, rfl⟩
  simp only [hu0]
  cases u0 with
  | false =>
    have HU := hid hu0
    clear hu0
    go_wp2
    go_ret
    exact ⟨⟨_, rfl, Or.inl ⟨HU.out, by first | rfl | decide⟩⟩, Below.refl _ _⟩
  | true =>
    obtain ⟨i, k, rfl, rfl, hi, hk⟩ := uhs_yes hu0
    clear hu0
    obtain ⟨ra, rc, base, C, t1, t2⟩ := HT.out
    obtain ⟨g, c', ta, tc, a1, l1, c1, b1, a2, l2, c2, b2, e, _, q0, q1, q2, q3, q4, -, k3, k4, hli⟩ := t2.at i hi
    obtain ⟨_, _, e2, s1, s2⟩ := t2.slice
    simp only [Value.slice.injEq] at e e2
    obtain ⟨rfl, -, rfl⟩ := e
    obtain ⟨-, -, rfl⟩ := e2
    have hlen : (A[i]).1.length = ucols A := HCO.out _ (List.getElem_mem hi)
    have hk' : k < (A[i]).1.length := by rw [hlen]; exact hk
    have t0 := bxc t1 0 (.slice (some ⟨g, 0, none⟩) A.length rc) rfl
    have HNU := hid (unumber_any X1 _ _ _ _ _ _ _ _ _ _ _ (A[i]).1 (A[i]).2.1 K (by omega) hli k hk' (by omega))
    have HPO := hid (fun (s : ByteArray) (hs : TxR s ((((A[i]).1[k] : Int) : Rat) / (((A[i]).2.1 : Int) : Rat))) => show UAtP A (i : Int) (k : Int) s from Or.inr ⟨i, k, hi, hk', rfl, rfl, hs⟩)
    clear hli t1 t2 hlen
    generalize hq : ((((A[i]).1[k] : Int) : Rat) / (((A[i]).2.1 : Int) : Rat)) = qq at *
    clear hq
    go_wp2_with fail
    refine HNU.out.mono ?_
    rintro e X2 ⟨⟨v2, rfl, n2⟩, bX2⟩
    obtain ⟨g1, g2, g3, g4, g5, g6, g7, g8, rfl⟩ := n2.form
    have HN2 := hid n2
    have HTB2 := hid (HTB.out.below bX2)
    clear n2
    go_wp2_with fail
    refine (q_text X2 _ _ (2 * K + 9) (by omega) HN2.out HTB2.out).mono ?_
    rintro e X3 ⟨⟨s, rfl, ht⟩, bX3⟩
    have HS := hid (HPO.out s ht)
    have BF := chain2 bX2 bX3
    clear ht
    go_wp2
    go_ret
    exact ⟨⟨s, rfl, HS.out⟩, BF⟩
end Go.Proofs.YtgojlegknlalpaaGreatDoor
/- tableau: isZero, Pivot where it refuses. -/
namespace Go.Proofs.YtgojlegknlalpaaGreatDoor
open Go.RowKit
set_option linter.unusedVariables false
set_option maxRecDepth 100000
set_option linter.unusedSimpArgs false

set_option maxHeartbeats 3200000 in
theorem uisZero_any (w : World) (ta : Option Addr) (n tc : Nat) (a1 : Option Addr) (l1 c1 : Nat) (b1 : Bool) (a2 : Option Addr) (l2 c2 : Nat) (b2 : Bool) (T : List Int) (b : Int) (K : Nat) (hK : K ≤ 1000000) (h : ULi w (.slice ta n tc) (.slice a1 l1 c1) (.bool b1) (.slice a2 l2 c2) (.bool b2) T b K) (k : Nat) (hk : k < T.length) (hkN : T.length ≤ 192) :
    Calls Tryz.prog 33 #[.agg #[.slice ta n tc, .slice a1 l1 c1, .bool b1, .slice a2 l2 c2, .bool b2], .int .i64 (k : Int)] w fun e w' => e = .returned (.bool (sgnR ((T[k] : Int) : Rat) == 0)) ∧ Below w.heap.size w w' := by
  have hn : n = T.length := by
    obtain ⟨_, _, _, _, _, _, _, _, _, _, e, _⟩ := h.form
    simp only [Value.slice.injEq] at e
    exact e.2.1
  have htc : T.length ≤ tc ∧ tc ≤ 9223372036854775807 := by
    obtain ⟨_, _, _, _, _, _, _, _, _, _, e, _, _, _, _, k1, k2⟩ := h.form
    simp only [Value.slice.injEq] at e
    rw [e.2.2]
    exact ⟨k1, k2⟩
  have b0 := (Below.refl w.heap.size w).alloc (Nat.le_refl _) (Obj.cells #[.slice ta n tc, .slice a1 l1 c1, .bool b1, .slice a2 l2 c2, .bool b2] 61)
  have x0 := box_new w (Obj.cells #[.slice ta n tc, .slice a1 l1 c1, .bool b1, .slice a2 l2 c2, .bool b2] 61)
  have h' := h.below b0
  obtain ⟨g, c, d1, d2, d3, d4, d5, d6, d7, d8, e, q0, q1, q2, q3, hq⟩ := h'.num k hk
  simp only [Value.slice.injEq] at e
  obtain ⟨rfl, rfl, rfl⟩ := e
  have HQ := hid hq
  have z0 := bxc x0 0 (.slice (some ⟨g, 0, none⟩) T.length tc) rfl
  have z1 := bxc x0 1 (.slice a1 l1 c1) rfl
  have z2 := bxc x0 2 (.bool b1) rfl
  have z3 := bxc x0 3 (.slice a2 l2 c2) rfl
  have z4 := bxc x0 4 (.bool b2) rfl
  have BX3 := hid b0
  clear h h' x0 hq b0 hn
  generalize hTk : T[k] = tk at *
  clear hTk
  generalize T.length = nn at *
  go_enter Tryz.func33, Tryz.ntmps33
  go_wp2_with fail
  generalize w.alloc (Obj.cells #[.slice (some ⟨g, 0, none⟩) nn tc, .slice a1 l1 c1, .bool b1, .slice a2 l2 c2, .bool b2] 61) = W at *
  refine (q_sign _ _ ((tk : Int) : Rat) K (by omega) HQ.out).mono ?_
  rintro e X4 ⟨rfl, bX4⟩
  have BF := chain2 BX3.out bX4
  clear HQ q0 q1 q2 q3 z0 z1 z2 z3 z4
  go_wp2
  go_ret
  exact ⟨by first | rfl | simp, BF⟩
theorem sgn_zero {z : Int} : (sgnR ((z : Int) : Rat) == 0) = decide (z = 0) := by
  unfold sgnR
  by_cases h : z = 0
  · subst h; simp
  · have h1 : ((z : Int) : Rat) < 0 ∨ 0 < ((z : Int) : Rat) := by
      rcases Int.lt_or_gt_of_ne h with h | h
      · left; exact_mod_cast h
      · right; exact_mod_cast h
    rcases h1 with h1 | h1
    · simp [h1, h]
    · have h2 : ¬ ((z : Int) : Rat) < 0 := Rat.not_lt.2 (Rat.le_of_lt h1)
      simp [h1, h2, h]
set_option maxHeartbeats 6400000 in
theorem uPivot_none (w : World) (tb : Nat) (A : List URw) (K : Nat) (hK : K ≤ 400000) (h : UTb w tb A K) (r c : Int) (hu : uhs A r c = false) :
    Calls Tryz.prog 14 #[.pointer (some ⟨tb, 0, none⟩), .int .i64 r, .int .i64 c] w fun e w' => e = .returned (.int .i64 1) ∧ w' = w := by
  have HH := hid (uhas_any w tb A K h r c)
  rw [hu] at HH
  clear h hu
  go_enter Tryz.func14, Tryz.ntmps14
  go_wp2_with fail
  refine HH.out.mono ?_
  rintro e X1 ⟨rfl, hX1⟩
  subst hX1
  go_wp2
  go_ret
  exact ⟨rfl, rfl⟩
set_option maxHeartbeats 6400000 in
theorem uPivot_zero (w : World) (tb : Nat) (A : List URw) (K : Nat) (hK : K ≤ 400000) (h : UTb w tb A K) (hcol : ∀ a ∈ A, a.1.length = ucols A) (hcl : ucols A ≤ 192) (hA : A.length ≤ 64) (i k : Nat) (hi : i < A.length) (hk : k < (A[i]).1.length) (hz : (A[i]).1[k] = 0) :
    Calls Tryz.prog 14 #[.pointer (some ⟨tb, 0, none⟩), .int .i64 (i : Int), .int .i64 (k : Int)] w fun e w' => e = .returned (.int .i64 12) ∧ Below w.heap.size w w' := by
  have HH := hid (uhas_any w tb A K h (i : Int) (k : Int))
  have hlen : (A[i]).1.length = ucols A := hcol _ (List.getElem_mem hi)
  have hu : uhs A (i : Int) (k : Int) = true := by
    unfold uhs
    simp
    omega
  rw [hu] at HH
  obtain ⟨ra, rc, base, C, t1, t2⟩ := h
  obtain ⟨g, c', ta, tc, a1, l1, c1, b1, a2, l2, c2, b2, e, _, q0, q1, q2, q3, q4, -, k3, k4, hli⟩ := t2.at i hi
  obtain ⟨_, _, e2, s1, s2⟩ := t2.slice
  simp only [Value.slice.injEq] at e e2
  obtain ⟨rfl, -, rfl⟩ := e
  obtain ⟨-, -, rfl⟩ := e2
  have t0 := bxc t1 0 (.slice (some ⟨g, 0, none⟩) A.length rc) rfl
  have HNU := hid (uisZero_any w _ _ _ _ _ _ _ _ _ _ _ (A[i]).1 (A[i]).2.1 K (by omega) hli k hk (by omega))
  rw [sgn_zero, hz] at HNU
  clear hli t1 t2 hlen hu hz hcol
  generalize (A[i]).1.length = nn at *
  go_enter Tryz.func14, Tryz.ntmps14
  go_wp2_with fail
  refine HH.out.mono ?_
  rintro e X1 ⟨rfl, hX1⟩
  subst hX1
  go_wp2_with fail
  refine HNU.out.mono ?_
  rintro e X2 ⟨rfl, bX2⟩
  go_wp2
  go_ret
  exact ⟨rfl, bX2⟩
end Go.Proofs.YtgojlegknlalpaaGreatDoor
/- tableau: Basis. -/
namespace Go.Proofs.YtgojlegknlalpaaGreatDoor
open Go.RowKit
set_option linter.unusedVariables false
set_option maxRecDepth 100000
set_option linter.unusedSimpArgs false

theorem ubs_succ {A : List URw} {k : Nat} (hk : k < A.length) : (A.take (k + 1)).map (fun a => a.2.2) = (A.take k).map (fun a => a.2.2) ++ [(A[k]).2.2] := by
  rw [List.take_succ_eq_append_getElem hk, List.map_append]; rfl
theorem intV_appU (X : List Int) (a : Int) : intV (X ++ [a]) = intV X ++ [.int .i64 a] := by simp [intV]
theorem intV_lenU (X : List Int) : (intV X).length = X.length := by simp [intV]
theorem info_intU : (Tryz.prog.info? 3).map (fun i => (i.zero, i.size, i.bytes)) = some (some (.int .i64 0), 1, 8) := by kernel_rfl
set_option maxHeartbeats 6400000 in
theorem uBasis_any (w : World) (tb : Nat) (A : List URw) (K : Nat) (h : UTb w tb A K) (hA : A.length ≤ 64) :
    Calls Tryz.prog 18 #[.pointer (some ⟨tb, 0, none⟩)] w fun e w' => (∃ v, e = .returned v ∧ Ints w' v (A.map (fun a => a.2.2))) ∧ Below w.heap.size w w' := by
  obtain ⟨i0, hi0, hz0, hz1, hz2⟩ := info_parts info_intU
  have HT := hid h
  obtain ⟨ra, rc, base, C, h1, h2⟩ := h
  obtain ⟨_, _, e, k1, k2⟩ := h2.slice
  simp only [Value.slice.injEq] at e
  obtain ⟨rfl, -, rfl⟩ := e
  have HY := hid h1
  have HL := hid h2
  have c0 := bxc h1 0 (.slice ra A.length rc) rfl
  clear h1 h2 HT
  have b0 := Below.refl w.heap.size w
  have o0 := hid (World.ownsRow_nil w w.heap.size 3 1)
  go_enter Tryz.func18, Tryz.ntmps18
  go_wp2
  go_loopw [3, 10] (fun l i wr => ∃ k : Nat, k ≤ A.length ∧ i = .int .i64 (k : Int) ∧ Hid (wr.ownsRow w.heap.size 3 1 l k (intV ((A.take k).map (fun a => a.2.2)))) ∧ Below w.heap.size w wr) (fun _ i _ => A.length - (intOf i).toNat)
  case atStart => exact ⟨0, Nat.zero_le _, rfl, o0, b0⟩
  case round =>
    clear o0 b0 c0
    obtain ⟨k, hk, rfl, HO, bw⟩ := hrel
    obtain ⟨la, lc, rfl⟩ := own_form4 HO.out
    by_cases hlt : k < A.length
    · obtain ⟨g, c', ta, tc, _, _, _, _, _, _, _, _, e, -, -, -, -, -, -, q5, -, -, -⟩ := (HL.out.below bw).at k hlt
      simp only [Value.slice.injEq] at e
      obtain ⟨rfl, -, rfl⟩ := e
      have y0 := box_below bw HY.out (lt_of_block HY.out)
      have c0 := bxc y0 0 (.slice (some ⟨g, 0, none⟩) A.length rc) rfl
      have HSU := hid (ubs_succ hlt)
      have ow := HO.out
      have hbs := bw.size
      clear y0
      generalize hbk : (A[k]).2.2 = bk at *
      clear hbk
      go_wp2_with (at_builtin; refine wpList_append_own_at _ rfl _ _ 23 rfl w.heap.size 3 i0 (.int .i64 0) 1 8 Tryz.underlying23 hi0 hz0 hz1 hz2 rfl (by decide) _ _ _ rfl (ow.alloc _) ⟨wr.heap.size, 0, none⟩ 1 1 [.int .i64 bk] rfl rfl (by intro j u hu; match j, hu with | 0, hu => simp at hu; subst hu; simp [Addr.add]) (by intro u hu; simp at hu; subst hu; rfl) (by unfold maxLen; omega) (by omega) (by simp; omega) ?_)
      intro v' Y5 o5 hg5 hat5 hx5
      have bA := (Below.refl wr.heap.size wr).alloc (Nat.le_refl _) (Obj.cells #[.int .i64 bk] 3)
      have B4 := chain2 bw bA
      have B5 := B4.grown hg5 B4.size (fun g hg => (ow.lt g hg).1)
      have HO5 := hid (show Y5.ownsRow w.heap.size 3 1 v' (k + 1) (intV ((A.take (k + 1)).map (fun a => a.2.2))) by rw [HSU.out, intV_appU, List.map_take]; exact o5)
      obtain ⟨la', lc', rfl⟩ := own_form4 o5
      clear o5 hg5 hat5 bA B4 ow
      go_wp2
      go_roundw
      case rel => exact ⟨k + 1, by omega, by go_num, HO5, B5⟩
      case measure => simp [intOf]; omega
    · obtain rfl : k = A.length := by omega
      have HF := hid (show Ints wr (.slice la A.length lc) (A.map (fun a => a.2.2)) from Row1.of_own (base := w.heap.size) (e := 3) (by
        have := HO.out
        rw [List.take_length] at this
        rw [intV_lenU, List.length_map]
        exact this))
      go_wp2
      go_ret
      exact ⟨⟨_, rfl, HF.out⟩, bw⟩
end Go.Proofs.YtgojlegknlalpaaGreatDoor
/- tableau: both tell the same. -/
namespace Go.Proofs.YtgojlegknlalpaaGreatDoor
open Go.RowKit
set_option linter.unusedVariables false
set_option maxRecDepth 100000
set_option linter.unusedSimpArgs false

/-- The document's numbers and basis are the program's. -/
structure Agr (A : List URw) (X : List (List Rat)) (B : List Int) : Prop where
  num : X = A.map (fun a => a.1.map (fun (t : Int) => (t : Rat) / ((a.2.1 : Int) : Rat)))
  bas : B = A.map (fun a => a.2.2)
theorem Agr.len {A : List URw} {X : List (List Rat)} {B : List Int} (h : Agr A X B) : X.length = A.length := by rw [h.num, List.length_map]
theorem Agr.row {A : List URw} {X : List (List Rat)} {B : List Int} (h : Agr A X B) (i : Nat) (h1 : i < X.length) (h2 : i < A.length) : X[i] = (A[i]).1.map (fun (t : Int) => (t : Rat) / (((A[i]).2.1 : Int) : Rat)) := by
  obtain ⟨rfl, _⟩ := h
  rw [List.getElem_map]
theorem Agr.has {A : List URw} {X : List (List Rat)} {B : List Int} (h : Agr A X B) (hc : ∀ a ∈ A, a.1.length = ucols A) (r c : Int) : ghs X r c = uhs A r c := by
  unfold ghs uhs
  rw [h.len]
  by_cases h1 : 0 ≤ r
  · by_cases h2 : r < (A.length : Int)
    · have hi : r.toNat < A.length := by omega
      have hx : r.toNat < X.length := by rw [h.len]; exact hi
      rw [List.getElem?_eq_getElem hx, h.row _ hx hi]
      simp only [Option.map_some, Option.getD_some, List.length_map, hc _ (List.getElem_mem hi)]
    · have d2 : decide (r < (A.length : Int)) = false := by simpa using h2
      rw [d2]; simp
  · have d1 : decide (0 ≤ r) = false := by simpa using h1
    rw [d1]; simp
theorem Agr.at {A : List URw} {X : List (List Rat)} {B : List Int} (h : Agr A X B) (hc : ∀ a ∈ A, a.1.length = ucols A) {r c : Int} {s t : ByteArray} (hs : UAtP A r c s) (ht : GAtP X r c t) : s = t := by
  have hh := h.has hc r c
  rcases hs with ⟨h1, rfl⟩ | ⟨i, k, hi, hk, rfl, rfl, h1⟩
  · rcases ht with ⟨_, rfl⟩ | ⟨i, k, hi, hk, rfl, rfl, h2⟩
    · rfl
    · exfalso
      rw [h1] at hh
      unfold ghs at hh
      have hx : i < X.length := hi
      simp [List.getElem?_eq_getElem hx] at hh
      omega
  · rcases ht with ⟨h2, rfl⟩ | ⟨i', k', hi', hk', e1, e2, h2⟩
    · exfalso
      rw [h2] at hh
      have hl := hc _ (List.getElem_mem hi)
      unfold uhs at hh
      simp at hh
      omega
    · have e1' : i' = i := by omega
      have e2' : k' = k := by omega
      subst e1' e2'
      have hr := h.row i' hi' hi
      have : (X[i'])[k'] = (((A[i']).1[k'] : Int) : Rat) / (((A[i']).2.1 : Int) : Rat) := by
        simp only [hr, List.getElem_map]
      rw [this] at h2
      exact TxR.inj h1 h2
theorem uatp_none {A : List URw} {r c : Int} {s : ByteArray} (hu : uhs A r c = false) (h : UAtP A r c s) (hc : ∀ a ∈ A, a.1.length = ucols A) : s = ByteArray.empty := by
  rcases h with ⟨_, rfl⟩ | ⟨i, k, hi, hk, rfl, rfl, _⟩
  · rfl
  · exfalso
    have hl := hc _ (List.getElem_mem hi)
    unfold uhs at hu
    simp at hu
    omega
end Go.Proofs.YtgojlegknlalpaaGreatDoor
/- tableau: same, of the law. -/
namespace Go.Proofs.YtgojlegknlalpaaGreatDoor
open Go.RowKit
set_option linter.unusedVariables false
set_option maxRecDepth 100000
set_option linter.unusedSimpArgs false

set_option maxHeartbeats 12800000 in
theorem same12_any (w : World) (tb gb : Nat) (A : List URw) (X : List (List Rat)) (B : List Int) (K K2 : Nat) (hK : K ≤ 400000) (hK2 : K2 ≤ 1000000) (h : UTb w tb A K) (hg : GTb w gb X B K2) (ha : Agr A X B) (hA : A.length ≤ 64) (hcol : ∀ a ∈ A, a.1.length = ucols A) (hcl : ucols A ≤ 192) (htab : Tab w) :
    Calls Tryz.prog 15 #[.pointer (some ⟨tb, 0, none⟩), .pointer (some ⟨gb, 0, none⟩)] w fun e w' => e = .returned (.bool true) ∧ Below w.heap.size w w' := by
  have hxl := ha.len
  have hbl : B.length = A.length := by rw [ha.bas, List.length_map]
  have HT := hid h
  have HG := hid hg
  have HA := hid ha
  have HC := hid hcol
  have HTB := hid htab
  have HBA := hid (uBasis_any w tb A K h hA)
  clear h hg ha hcol htab
  go_enter Tryz.func15, Tryz.ntmps15
  go_wp2_with fail
  refine HBA.out.mono ?_
  rintro e W ⟨⟨bv, rfl, hb⟩, bW⟩
  obtain ⟨pa, pc, rfl, pl, pm⟩ := hb.slice
  unfold maxLen at pm
  have hml : (A.map (fun a => a.2.2)).length = A.length := List.length_map _
  obtain ⟨n, hn⟩ : ∃ n, A.length = n := ⟨_, rfl⟩
  rw [hml, hn] at pl
  simp only [hml, hn]
  have HTW := hid (HT.out.below bW)
  have HGW := hid (HG.out.below bW)
  have HTB2 := hid (HTB.out.below bW)
  obtain ⟨la, lc, ba, bc, vs, g1, g2, g3, g4, g5⟩ := HGW.out
  rw [hxl, hbl, hn] at g1
  rw [hxl, hn] at g2
  rw [hbl, hn, HA.out.bas] at g5
  obtain ⟨_, _, e, k1, k2⟩ := g2.slice
  simp only [Value.slice.injEq] at e
  obtain ⟨-, -, rfl⟩ := e
  unfold maxLen at k2
  rw [g3, hxl, hn] at k1
  have c0 := bxc g1 0 (.slice la n lc) rfl
  have c1 := bxc g1 1 (.slice ba n bc) rfl
  have HRO : Hid (∀ Y, Below W.heap.size W Y → Calls Tryz.prog 17 #[.pointer (some ⟨tb, 0, none⟩)] Y (fun e w' => e = .returned (.int .i64 (n : Int)) ∧ w' = Y)) := hid (fun Y bY => by rw [← hn]; exact uRows_any Y tb A K (HTW.out.below bY))
  obtain ⟨m, hm⟩ : ∃ m, ucols A = m := ⟨_, rfl⟩
  have HCO : Hid (∀ Y, Below W.heap.size W Y → Calls Tryz.prog 19 #[.pointer (some ⟨tb, 0, none⟩)] Y (fun e w' => e = .returned (.int .i64 (m : Int)) ∧ w' = Y)) := hid (fun Y bY => by rw [← hm]; exact uColumns_any Y tb A K (HTW.out.below bY))
  have HUA := hid (fun (Y : World) (bY : Below W.heap.size W Y) (r c : Int) => uAt_any Y tb A K hK (HTW.out.below bY) hA HC.out hcl r c (HTB2.out.below bY))
  have HGA := hid (fun (Y : World) (bY : Below W.heap.size W Y) (r c : Int) => gAt_any Y gb X B K2 hK2 (HGW.out.below bY) r c)
  have HCU := hid (fun (r c : Int) (hu : uhs A r c = false) (s : ByteArray) (hs : UAtP A r c s) => uatp_none hu hs HC.out)
  have HSA := hid (fun (r c : Int) (s t : ByteArray) (hs : UAtP A r c s) (ht : GAtP X r c t) => HA.out.at HC.out hs ht)
  have hABn : (A.map (fun a => a.2.2)).length = n := hml.trans hn
  generalize A.map (fun a => a.2.2) = AB at *
  have HABN := hid hABn
  have HBV := hid hb
  have HG5 := hid g5
  have HM := hid hm
  have HN := hid hn
  rw [hm] at hcl
  rw [hn] at hA
  have hbn : B.length = n := hbl.trans hn
  have hxn : X.length = n := hxl.trans hn
  have HBN := hid hbn
  have HXN := hid hxn
  have HROW : Hid (∀ k, (hk : k < n) → ∃ g off ta tc, la = some ⟨g, off, none⟩ ∧ W.cell? ⟨g, off + k, none⟩ = some (.slice ta m tc) ∧ m ≤ tc ∧ tc ≤ 9223372036854775807) := hid (fun k hk => by
    obtain ⟨g, off, c', e, _, _, hc⟩ := g2.at k (by omega)
    simp only [Value.slice.injEq] at e
    obtain ⟨rfl, -, rfl⟩ := e
    obtain ⟨base, C, hl⟩ := g4 k (by omega) (by omega)
    obtain ⟨ta, tc, et, k3, k4⟩ := hl.slice
    have hxm : (X[k]'(by omega)).length = m := by
      rw [HA.out.row k (by omega) (by omega), List.length_map, HC.out _ (List.getElem_mem _), hm]
    rw [et, hxm] at hc
    rw [hxm] at k3
    exact ⟨g, off, ta, tc, rfl, hc, k3, k4⟩)
  clear hm hn hml hxl hbl hbn hxn g1 g2 g3 g4 g5 hb HBA hABn
  have F0 : Below W.heap.size W W := (Below.refl _ _)
  by_cases h0 : n = 0
  · subst h0
    have hm0 : m = 0 := HM.out.symm.trans (ucols_zero HN.out)
    subst hm0
    go_wp2_with fail
    go_quiet ((first | (go_at_call 19; exact Calls.quiet_of_same (HCO.out _ (by first | exact F0 | exact Below.refl _ _ | exact below_dn (Below.refl _ _) _ | exact below_dn F0 _))) | (go_at_call 17; exact Calls.quiet_of_same (HRO.out _ (by first | exact F0 | exact Below.refl _ _ | exact below_dn (Below.refl _ _) _ | exact below_dn F0 _)))))
    go_wp2
    have bV := below_dn (Below.refl W.heap.size W) nq
    generalize W.drewN nq = V at *
    go_loopw [6] (fun i wr => ∃ k : Nat, k ≤ 0 ∧ i = .int .i64 (k : Int) ∧ Below W.heap.size W wr) (fun i _ => 0 - (intOf i).toNat)
    case atStart => exact ⟨0, Nat.zero_le _, rfl, bV⟩
    case round =>
      obtain ⟨k, hk, rfl, bw⟩ := hrel
      have z0 := kcU bw c0
      have z1 := kcU bw c1
      by_cases hlt : k < 0
      · exfalso; omega
      · obtain rfl : k = 0 := by omega
        go_wp2_with fail
        refine (HUA.out _ bw _ _).mono ?_
        rintro e X1 ⟨⟨s, rfl, hs⟩, bX1⟩
        have bw1 := chain2 bw bX1
        have y0 := kcU bw1 c0
        have hse := HCU.out _ _ (by unfold uhs; simp) _ hs
        subst hse
        clear hs bX1
        go_wp2_with fail
        refine (HUA.out _ bw1 _ _).mono ?_
        rintro e X2 ⟨⟨s, rfl, hs⟩, bX2⟩
        have bw2 := chain2 bw1 bX2
        have hse := HCU.out _ _ (by unfold uhs; rw [HN.out]; simp) _ hs
        subst hse
        clear hs bX2
        go_wp2
        go_ret
        exact ⟨rfl, chain2 bW bw2⟩
  · have hp : 0 < n := by omega
    have d1 : decide ((0 : Int) < (n : Int)) = true := by simp; omega
    have d2 : ((n : Int) == 0) = false := beq_eq_false_iff_ne.2 (by omega)
    have d3 : ¬ (n : Int) = 0 := by omega
    obtain ⟨g, off, ta, tc, hla, hc, t1, t2⟩ := HROW.out 0 hp
    subst hla
    rw [Nat.add_zero] at hc
    go_wp2_with fail
    go_quiet ((first | (go_at_call 19; exact Calls.quiet_of_same (HCO.out _ (by first | exact F0 | exact Below.refl _ _ | exact below_dn (Below.refl _ _) _ | exact below_dn F0 _))) | (go_at_call 17; exact Calls.quiet_of_same (HRO.out _ (by first | exact F0 | exact Below.refl _ _ | exact below_dn (Below.refl _ _) _ | exact below_dn F0 _)))))
    go_wp2
    have bV := below_dn (Below.refl W.heap.size W) nq
    clear hc t1 t2
    generalize W.drewN nq = V at *
    go_loopw [6] (fun i wr => ∃ k : Nat, k ≤ n ∧ i = .int .i64 (k : Int) ∧ Below W.heap.size W wr) (fun i _ => n - (intOf i).toNat)
    case atStart => exact ⟨0, Nat.zero_le _, rfl, bV⟩
    case round =>
      obtain ⟨k, hk, rfl, bw⟩ := hrel
      have z0 := kcU bw c0
      have z1 := kcU bw c1
      by_cases hlt : k < n
      · obtain ⟨g, off, ta, tc, hla, hc, t1, t2⟩ := HROW.out k hlt
        simp only [Option.some.injEq, Addr.mk.injEq, and_true] at hla
        obtain ⟨rfl, rfl⟩ := hla
        have zc := kcU bw hc
        obtain ⟨bg, bo, bcc, e, _, _, hcb⟩ := (HBV.out.below bw).at k (by rw [HABN.out]; exact hlt)
        simp only [Value.slice.injEq] at e
        obtain ⟨rfl, -, rfl⟩ := e
        obtain ⟨rg, ro, rcc, e, _, _, hcr⟩ := (HG5.out.below bw).at k (by rw [HABN.out]; exact hlt)
        simp only [Value.slice.injEq] at e
        obtain ⟨rfl, -, rfl⟩ := e
        generalize AB[k]'_ = bk at *
        go_wp2
        go_quiet (fail)
        go_wp2
        have bD := below_dn bw nq
        clear zc z0 z1 hcb hcr
        generalize wr.drewN nq = W3 at *
        clear bw
        generalize wr = WR at *
        go_loopw [7] (fun j wr => ∃ c : Int, -1 ≤ c ∧ c ≤ (m : Int) + 1 ∧ j = .int .i64 c ∧ Below W.heap.size W wr) (fun j _ => (m + 1 - intOf j).toNat)
        case atStart => exact ⟨-1, by omega, by omega, rfl, bD⟩
        case round =>
          obtain ⟨c, c2, c3, rfl, bw⟩ := hrel
          have z0 := kcU bw c0
          have zc := kcU bw hc
          by_cases hltc : c ≤ (m : Int)
          · go_wp2_with fail
            refine (HUA.out _ bw _ _).mono ?_
            rintro e X1 ⟨⟨s, rfl, hs⟩, bX1⟩
            have bw1 := chain2 bw bX1
            go_wp2_with fail
            refine (HGA.out _ bw1 _ _).mono ?_
            rintro e X2 ⟨⟨s2, rfl, hs2⟩, bX2⟩
            have bw2 := chain2 bw1 bX2
            have hst := HSA.out _ _ _ _ hs hs2
            subst hst
            clear hs hs2 bX1 bX2 bw1
            go_wp2
            go_roundw
            case rel => exact ⟨c + 1, by omega, by omega, by go_num, bw2⟩
            case measure => simp [intOf]; omega
          · have hc' : decide (c ≤ (m : Int)) = false := by simpa using hltc
            go_wp2
            go_roundw
            case rel => exact ⟨k + 1, by omega, by go_num, bw⟩
            case measure => simp [intOf]; omega
      · obtain rfl : k = n := by omega
        go_wp2_with fail
        refine (HUA.out _ bw _ _).mono ?_
        rintro e X1 ⟨⟨s, rfl, hs⟩, bX1⟩
        have bw1 := chain2 bw bX1
        have y0 := kcU bw1 c0
        have hse := HCU.out _ _ (by unfold uhs; simp) _ hs
        subst hse
        clear hs bX1
        go_wp2_with fail
        refine (HUA.out _ bw1 _ _).mono ?_
        rintro e X2 ⟨⟨s, rfl, hs⟩, bX2⟩
        have bw2 := chain2 bw1 bX2
        have hse := HCU.out _ _ (by unfold uhs; rw [HN.out]; simp) _ hs
        subst hse
        clear hs bX2
        go_wp2
        go_ret
        exact ⟨rfl, chain2 bW bw2⟩
end Go.Proofs.YtgojlegknlalpaaGreatDoor
/- tableau: steps that came in; what New makes of both. -/
namespace Go.Proofs.YtgojlegknlalpaaGreatDoor
open Go.RowKit
set_option linter.unusedVariables false
set_option maxRecDepth 100000
set_option linter.unusedSimpArgs false

theorem toL_injU {x y : ByteArray} (h : x.data.toList = y.data.toList) : x = y := ByteArray.ext (Array.ext' h)
theorem toL_neU {x : ByteArray} {l : List UInt8} (h : ¬ x = ⟨l.toArray⟩) : ¬ x.toList = l ∧ (x.toList == l) = false := by
  have : ¬ x.toList = l := fun k => h (toL_injU (by rw [← ByteArray.toList_eq, k]))
  exact ⟨this, by simpa using this⟩
theorem txr_canU {s : ByteArray} {q : Rat} (h : TxR s q) : CanR s q := ⟨h, by have := q.den_pos; omega, by rw [Int.natAbs_natCast]; exact q.reduced⟩
theorem txt0 : Txt ⟨#[48]⟩ ∧ num ⟨#[48]⟩ = 0 := by
  refine ⟨⟨by decide, fun h => absurd h (by decide), fun k hk => ?_⟩, rfl⟩
  obtain rfl : k = 0 := by have : (⟨#[48]⟩ : ByteArray).size = 1 := rfl; omega
  decide
theorem txr_zero : TxR ⟨#[48]⟩ 0 := Or.inl ⟨rfl, Or.inl ⟨by decide, by simpa using txt0⟩⟩
theorem txr_eq0 {q : Rat} (h : TxR ⟨#[48]⟩ q) : q = 0 := CanR.inj (txr_canU h) (txr_canU txr_zero)
/-- Steps that came in. -/
def UStp (w : World) (v : Value) (L : List (Int × Int)) : Prop :=
  ∃ a c, v = .slice a L.length c ∧ L.length ≤ c ∧ c ≤ maxLen ∧ (L = [] ∨ ∃ b off, a = some ⟨b, off, none⟩ ∧ ∀ i (h : i < L.length), w.cell? ⟨b, off + i * 2, none⟩ = some (.int .i64 (L[i]).1) ∧ w.cell? ⟨b, off + i * 2 + 1, none⟩ = some (.int .i64 (L[i]).2))
theorem UStp.below {w w' : World} {v : Value} {L : List (Int × Int)} (h : UStp w v L) (k : Below w.heap.size w w') : UStp w' v L := by
  obtain ⟨a, c, h1, h2, h3, h4⟩ := h
  refine ⟨a, c, h1, h2, h3, ?_⟩
  rcases h4 with h4 | ⟨b, off, h4, h5⟩
  · exact Or.inl h4
  · exact Or.inr ⟨b, off, h4, fun i hi => ⟨kcU k (h5 i hi).1, kcU k (h5 i hi).2⟩⟩
theorem UStp.slice {w : World} {v : Value} {L : List (Int × Int)} (h : UStp w v L) : ∃ a c, v = .slice a L.length c ∧ L.length ≤ c ∧ c ≤ maxLen := by
  obtain ⟨a, c, h1, h2, h3, _⟩ := h
  exact ⟨a, c, h1, h2, h3⟩
theorem UStp.at {w : World} {v : Value} {L : List (Int × Int)} (h : UStp w v L) (i : Nat) (hi : i < L.length) : ∃ b off c, v = .slice (some ⟨b, off, none⟩) L.length c ∧ w.cell? ⟨b, off + i * 2, none⟩ = some (.int .i64 (L[i]).1) ∧ w.cell? ⟨b, off + i * 2 + 1, none⟩ = some (.int .i64 (L[i]).2) := by
  obtain ⟨a, c, h1, h2, h3, h4⟩ := h
  rcases h4 with rfl | ⟨b, off, rfl, h5⟩
  · simp at hi
  · exact ⟨b, off, c, h1, (h5 i hi).1, (h5 i hi).2⟩
theorem rat_one (t : Int) : ((t : Int) : Rat) / (((1 : Int) : Int) : Rat) = (t : Rat) := by
  have h1 : (((1 : Int) : Int) : Rat) = 1 := rfl
  rw [h1, Rat.div_def]
  grind
theorem uzip_ok {M : List (List Int)} {B : List Int} (h : unw M B = 0) : (∀ a ∈ uzip M B, a.1.length = ucols (uzip M B)) ∧ ucols (uzip M B) ≤ 192 ∧ (uzip M B).length ≤ 64 ∧ (uzip M B).length = M.length ∧ ucols (uzip M B) = wid M ∧ Agr (uzip M B) (ratM M) B := by
  obtain ⟨h1, h2, h3, h4⟩ := unw_ok h
  have hl := uzip_len h1
  have hc : ucols (uzip M B) = wid M := by
    rcases Nat.eq_zero_or_pos M.length with h0 | h0
    · rw [wid_zero h0, ucols_zero (by rw [hl]; exact h0)]
    · rw [wid_pos h0, ucols_pos (by rw [hl]; exact h0)]
      simp [uzip]
  refine ⟨fun a ha => ?_, by omega, by omega, hl, hc, ?_, ?_⟩
  · unfold uzip at ha
    obtain ⟨x, hx, rfl⟩ := List.mem_map.1 ha
    rw [hc]
    exact (h4 x.1 (List.of_mem_zip hx).1).1
  · apply List.ext_getElem
    · simp [ratM, uzip, h1]
    · intro i k1 k2
      simp only [ratM, uzip, List.getElem_map, List.getElem_zip]
      exact List.map_congr_left (fun t _ => (rat_one t).symm)
  · apply List.ext_getElem
    · simp [uzip, h1]
    · intro i k1 k2
      simp only [uzip, List.getElem_map, List.getElem_zip]
theorem uzip_zero (M : List (List Int)) (B : List Int) : ∀ i k (hi : i < (uzip M B).length) (hk : k < ((uzip M B)[i]).1.length), ((((uzip M B)[i]).1[k] : Int) : Rat) / ((((uzip M B)[i]).2.1 : Int) : Rat) = 0 → ((uzip M B)[i]).1[k] = 0 := by
  intro i k hi hk h
  have h1 : ((uzip M B)[i]).2.1 = 1 := by simp [uzip]
  rw [h1, rat_one] at h
  exact_mod_cast h
theorem txr_empty {q : Rat} : ¬ TxR ByteArray.empty q := by
  intro h
  have hz : ∀ z, ¬ ZTx ByteArray.empty z := by
    intro z hz
    rcases hz with ⟨_, ht, _⟩ | ⟨_, t, ht, _⟩
    · have := ht.1; simp at this
    · have := congrArg ByteArray.size ht; simp [minus] at this; have e1 : (⟨#[45]⟩ : ByteArray).size = 1 := rfl; omega
  rcases h with ⟨_, h⟩ | ⟨_, a, b, _, _, h⟩
  · exact hz _ h
  · have := congrArg ByteArray.size h; simp [slash] at this; have e1 : (⟨#[47]⟩ : ByteArray).size = 1 := rfl; omega
end Go.Proofs.YtgojlegknlalpaaGreatDoor
/- tableau: what a pivot makes of rows, plainly. -/
namespace Go.Proofs.YtgojlegknlalpaaGreatDoor
open Go.RowKit
set_option linter.unusedVariables false
set_option maxRecDepth 100000
set_option linter.unusedSimpArgs false

/-- The numbers of a row. -/
def rv (T : List Int) (b : Int) : List Rat := T.map (fun (t : Int) => (t : Rat) / ((b : Int) : Rat))
theorem rv_len (T : List Int) (b : Int) : (rv T b).length = T.length := by unfold rv; simp
theorem rv_at (T : List Int) (b : Int) (i : Nat) (h : i < (rv T b).length) (h2 : i < T.length) : (rv T b)[i] = ((T[i] : Int) : Rat) / ((b : Int) : Rat) := by simp [rv]
theorem rv_low (T : List Int) {b : Int} (hb : b ≠ 0) : rv (lowT T b) (lowB T b) = rv T b := by
  apply List.ext_getElem
  · rw [rv_len, rv_len, lowT_len]
  · intro i h1 h2
    rw [rv_len] at h1 h2
    rw [rv_at _ _ _ _ h1, rv_at _ _ _ _ h2]
    exact low_val T hb i h1 h2
/-- Tops of a list that is cleared. -/
def clT (T P : List Int) (s n : Int) : List Int := List.zipWith (fun t p => t * s - p * n) T P
theorem clT_len {T P : List Int} (s n : Int) (h : P.length = T.length) : (clT T P s n).length = T.length := by unfold clT; simp [h]
theorem clT_at {T P : List Int} (s n : Int) (i : Nat) (h : i < (clT T P s n).length) (h1 : i < T.length) (h2 : i < P.length) : (clT T P s n)[i] = T[i] * s - P[i] * n := by simp [clT]
theorem clT_take {T P : List Int} (s n : Int) (k : Nat) (h1 : k < T.length) (h2 : k < P.length) (hl : P.length = T.length) : (clT T P s n).take (k + 1) = (clT T P s n).take k ++ [T[k] * s - P[k] * n] := by
  have hu : k < (clT T P s n).length := by rw [clT_len s n hl]; exact h1
  rw [List.take_succ_eq_append_getElem hu, clT_at s n k hu h1 h2]
/-- What cleared makes. -/
def shr (ta pb : Int) : Int := (((ta : Rat) / ((pb : Int) : Rat)).den : Int)
def tms (ta pb : Int) : Int := ((ta : Rat) / ((pb : Int) : Rat)).num
theorem shr_pos (ta pb : Int) : 0 < shr ta pb := by unfold shr; have := ((ta : Rat) / ((pb : Int) : Rat)).den_pos; omega
theorem shr_mul (ta pb : Int) : ((ta : Rat) / ((pb : Int) : Rat)) * ((shr ta pb : Int) : Rat) = ((tms ta pb : Int) : Rat) := by
  unfold shr tms
  generalize ((ta : Rat) / ((pb : Int) : Rat)) = q
  have h1 : q = Rat.divInt q.num (q.den : Int) := (Rat.num_divInt_den q).symm
  have h2 : (((q.den : Nat) : Int) : Rat) ≠ 0 := by
    have := q.den_nz
    intro e
    exact this (by exact_mod_cast e)
  conv => lhs; lhs; rw [h1, Rat.divInt_eq_div]
  grind
theorem abs_ediv_le (a : Int) (g : Nat) : (a / (g : Int)).natAbs ≤ a.natAbs ∨ ¬ ((g : Int) ∣ a) := div_abs a g
theorem shr_le (ta : Int) {pb : Int} (h : pb ≠ 0) : (shr ta pb).natAbs ≤ pb.natAbs := by
  unfold shr
  rw [← Rat.divInt_eq_div, Rat.den_divInt, if_neg h, Int.natAbs_natCast]
  exact Nat.div_le_self _ _
theorem tms_le (ta : Int) {pb : Int} (h : pb ≠ 0) : (tms ta pb).natAbs ≤ ta.natAbs := by
  unfold tms
  rw [← Rat.divInt_eq_div, Rat.num_divInt]
  have hs : (pb.sign * ta).natAbs = ta.natAbs := by
    rw [Int.natAbs_mul]
    rcases Int.lt_or_gt_of_ne h with h | h
    · rw [Int.sign_eq_neg_one_of_neg h]; simp
    · rw [Int.sign_eq_one_of_pos h]; simp
  exact Nat.le_trans (abs_div_le _ _) (Nat.le_of_eq hs)
theorem int_ne {z : Int} (h : 0 < z) : ((z : Int) : Rat) ≠ 0 := fun e => by
  have : z = 0 := by exact_mod_cast e
  omega
def clr (T : List Int) (b : Int) (P : List Int) (pb : Int) (ta : Int) : List Int × Int :=
  if ta = 0 then (T, b) else (lowT (clT T P (shr ta pb) (tms ta pb)) (b * shr ta pb), lowB (clT T P (shr ta pb) (tms ta pb)) (b * shr ta pb))
theorem clr_len {T P : List Int} {b pb ta : Int} (h : P.length = T.length) : (clr T b P pb ta).1.length = T.length := by
  unfold clr
  split
  · rfl
  · rw [lowT_len, clT_len _ _ h]
theorem clr_pos {T P : List Int} {b pb ta : Int} (hb : 0 < b) : 0 < (clr T b P pb ta).2 := by
  unfold clr
  split
  · exact hb
  · exact lowB_pos _ (Int.mul_ne_zero (by omega) (by have := shr_pos ta pb; omega))
/-- The numbers: each less the pivot's, times the one that goes. -/
theorem clr_val {T P : List Int} {b pb ta : Int} (h : P.length = T.length) (hb : 0 < b) (hpb : 0 < pb) : rv (clr T b P pb ta).1 (clr T b P pb ta).2 = List.zipWith (fun t p => t - p * ((ta : Rat) / ((b : Int) : Rat))) (rv T b) (rv P pb) := by
  have hbr := int_ne hb
  have hpr := int_ne hpb
  unfold clr
  split
  · rename_i h0
    subst h0
    apply List.ext_getElem
    · simp [rv_len, h]
    · intro i h1 h2
      rw [List.getElem_zipWith]
      have hP : i < (rv P pb).length := by rw [rv_len, h, ← rv_len T b]; exact h1
      have e0 : (rv P pb)[i] * ((((0 : Int) : Int) : Rat) / ((b : Int) : Rat)) = 0 := by
        have : (((0 : Int) : Int) : Rat) = 0 := rfl
        rw [this]; grind
      show (rv T b)[i] = (rv T b)[i] - (rv P pb)[i] * ((((0 : Int) : Int) : Rat) / ((b : Int) : Rat))
      rw [e0]
      grind
  · have hs := shr_pos ta pb
    rw [rv_low _ (Int.mul_ne_zero (by omega) (by omega))]
    apply List.ext_getElem
    · simp [rv_len, clT_len _ _ h, h]
    · intro i h1 h2
      rw [rv_len, clT_len _ _ h] at h1
      rw [List.getElem_zipWith, rv_at _ _ _ _ (by rw [clT_len _ _ h]; exact h1), rv_at _ _ _ _ h1, rv_at _ _ _ _ (by rw [h]; exact h1), clT_at _ _ _ _ h1 (by rw [h]; exact h1)]
      have hm := shr_mul ta pb
      have hsr := int_ne hs
      generalize T[i] = t
      generalize P[i] = p
      rw [Rat.intCast_sub, Rat.intCast_mul, Rat.intCast_mul, Rat.intCast_mul, ← hm]
      generalize ((shr ta pb : Int) : Rat) = s at *
      grind
theorem pow_mul2 (m : Nat) : 10 ^ (2 * m + 1) = 10 * (10 ^ m * 10 ^ m) := by
  rw [Nat.pow_succ, Nat.two_mul, Nat.pow_add]; omega
theorem clT_abs {T P : List Int} {s n : Int} {m : Nat} (hT : ∀ t ∈ T, t.natAbs < 10 ^ m) (hP : ∀ t ∈ P, t.natAbs < 10 ^ m) (hs : s.natAbs < 10 ^ m) (hn : n.natAbs < 10 ^ m) : ∀ t ∈ clT T P s n, t.natAbs < 10 ^ (2 * m + 1) := by
  intro t ht
  obtain ⟨i, hi, rfl⟩ := List.getElem_of_mem ht
  have hi' := hi
  unfold clT at hi'
  rw [List.length_zipWith] at hi'
  rw [clT_at s n i hi (by omega) (by omega), pow_mul2]
  have h1 := hT _ (List.getElem_mem (show i < T.length by omega))
  have h2 := hP _ (List.getElem_mem (show i < P.length by omega))
  generalize T[i]'_ = x at *
  generalize P[i]'_ = y at *
  have k1 : x.natAbs * s.natAbs < 10 ^ m * 10 ^ m := Nat.mul_lt_mul'' h1 hs
  have k2 : y.natAbs * n.natAbs < 10 ^ m * 10 ^ m := Nat.mul_lt_mul'' h2 hn
  rw [← Int.natAbs_mul] at k1 k2
  generalize x * s = u at *
  generalize y * n = v at *
  generalize 10 ^ m * 10 ^ m = Z at *
  omega
theorem pow_le2 (m : Nat) : 10 ^ m ≤ 10 ^ (2 * m + 1) := Nat.pow_le_pow_right (by decide) (by omega)
theorem mul_abs {x s : Int} {m : Nat} (hx : x.natAbs < 10 ^ m) (hs : s.natAbs < 10 ^ m) : (x * s).natAbs < 10 ^ (2 * m + 1) := by
  rw [pow_mul2, Int.natAbs_mul]
  have := Nat.mul_lt_mul'' hx hs
  omega
theorem clr_abs {T P : List Int} {b pb ta : Int} {m : Nat} (hb : 0 < b) (hpb : 0 < pb) (hT : ∀ t ∈ T, t.natAbs < 10 ^ m) (hP : ∀ t ∈ P, t.natAbs < 10 ^ m) (hbm : b.natAbs < 10 ^ m) (hpm : pb.natAbs < 10 ^ m) (hta : ta.natAbs < 10 ^ m) : (∀ t ∈ (clr T b P pb ta).1, t.natAbs < 10 ^ (2 * m + 1)) ∧ (clr T b P pb ta).2.natAbs < 10 ^ (2 * m + 1) := by
  have hs : (shr ta pb).natAbs < 10 ^ m := Nat.lt_of_le_of_lt (shr_le ta (by omega)) hpm
  have hn : (tms ta pb).natAbs < 10 ^ m := Nat.lt_of_le_of_lt (tms_le ta (by omega)) hta
  have hsp := shr_pos ta pb
  unfold clr
  split
  · exact ⟨fun t ht => Nat.lt_of_lt_of_le (hT t ht) (pow_le2 m), Nat.lt_of_lt_of_le hbm (pow_le2 m)⟩
  · have hne : b * shr ta pb ≠ 0 := Int.mul_ne_zero (by omega) (by omega)
    exact ⟨lowT_abs _ hne (clT_abs hT hP hs hn), lowB_abs _ hne (mul_abs hbm hs)⟩
end Go.Proofs.YtgojlegknlalpaaGreatDoor
/- tableau: the program's New, with where its rows lie. -/
namespace Go.Proofs.YtgojlegknlalpaaGreatDoor
open Go.RowKit
set_option linter.unusedVariables false
set_option maxRecDepth 100000
set_option linter.unusedSimpArgs false

/-- The tableau at tb, its rows in blocks from base on. -/
def UTn (w : World) (base tb : Nat) (A : List URw) (K : Nat) : Prop :=
  ∃ ra rc C, w.heap[tb]? = some (.cells #[.slice ra A.length rc] 51 (0, 0)) ∧ UBs w base (.slice ra A.length rc) C A K
theorem UTn.tb {w : World} {base tb : Nat} {A : List URw} {K : Nat} (h : UTn w base tb A K) : UTb w tb A K := by
  obtain ⟨ra, rc, C, h1, h2⟩ := h
  exact ⟨ra, rc, base, C, h1, h2⟩
theorem UTn.below {w w' : World} {base tb : Nat} {A : List URw} {K : Nat} (h : UTn w base tb A K) (b : Below w.heap.size w w') : UTn w' base tb A K := by
  obtain ⟨ra, rc, C, h1, h2⟩ := h
  exact ⟨ra, rc, C, box_below b h1 (lt_of_block h1), h2.below b⟩
set_option maxHeartbeats 12800000 in
theorem uNewB_any (w : World) (v bv : Value) (M : List (List Int)) (B : List Int) (h : IntRows w v M) (hb : Ints w bv B) :
    Calls Tryz.prog 10 #[v, bv] w fun e w' => ((unw M B ≠ 0 ∧ e = .returned (.tuple #[.pointer none, .int .i64 (unw M B)])) ∨ (unw M B = 0 ∧ ∃ tb, e = .returned (.tuple #[.pointer (some ⟨tb, 0, none⟩), .int .i64 0]) ∧ w.heap.size ≤ tb ∧ UTn w' w.heap.size tb (uzip M B) 3)) ∧ Below w.heap.size w w' := by
  have HI0 := hid h
  have HBI0 := hid hb
  have HSH := hid (ushaped_any w _ _ M B h hb)
  obtain ⟨a, c, rfl, hl, hm⟩ := h.slice
  obtain ⟨ba, bc, rfl, bl, bm⟩ := hb.slice
  unfold maxLen at hm bm
  clear h hb
  obtain ⟨R, HR⟩ : ∃ R, Hid (unw M B = R) := ⟨_, hid rfl⟩
  have HRu := hid (show R = if ushp M B = false then 120 else if 64 < M.length ∨ 192 < wid M ∨ M.any bey = true then 82 else if ucl B (wid M) = false then 1 else 0 by rw [← HR.out]; rfl)
  have HOK := hid (fun (hz : R = 0) => unw_ok (HR.out.trans hz))
  rw [HR.out]
  clear HR
  have b0 := Below.refl w.heap.size w
  go_enter Tryz.func10, Tryz.ntmps10
  go_wp2_with fail
  refine HSH.out.mono ?_
  rintro e W ⟨rfl, bW⟩
  have HI1 := hid (HI0.out.below bW)
  have HB1 := hid (HBI0.out.below bW)
  clear HSH
  generalize ushp M B = s0 at *
  cases s0 with
  | false =>
    have HE := hid (show R = 120 by rw [HRu.out, if_pos rfl])
    go_wp2
    go_ret2
    exact ⟨Or.inl ⟨by rw [HE.out]; omega, by rw [HE.out]; rfl⟩, bW⟩
  | true =>
  have HR2 := hid (show R = if 64 < M.length ∨ 192 < wid M ∨ M.any bey = true then 82 else if ucl B (wid M) = false then 1 else 0 by rw [HRu.out, if_neg (by decide)])
  clear HRu
  by_cases h1 : 64 < M.length
  · have h1' : decide ((64 : Int) < (M.length : Int)) = true := by simp; omega
    have HE := hid (show R = 82 by rw [HR2.out, if_pos (Or.inl h1)])
    go_wp2
    go_ret2
    exact ⟨Or.inl ⟨by rw [HE.out]; omega, by rw [HE.out]; rfl⟩, bW⟩
  have h1' : decide ((64 : Int) < (M.length : Int)) = false := by simp; omega
  have HW := hid (fun (Y : World) (bY : Below W.heap.size W Y) => uwidth_any Y _ M (HI1.out.below bY))
  have HCT := hid (ucontains_any W _ M HI1.out)
  obtain ⟨m, hmm⟩ : ∃ m, wid M = m := ⟨_, rfl⟩
  have hmN : m ≤ 9223372036854775807 := by
    by_cases h0 : M.length = 0
    · rw [← hmm, wid_zero h0]; omega
    · have hp : 0 < M.length := by omega
      rw [← hmm, wid_pos hp]
      obtain ⟨_, _, _, _, _, _, hu⟩ := HI0.out.at 0 hp
      obtain ⟨_, _, _, k1, k2⟩ := hu.slice
      unfold maxLen at k2
      omega
  have HM := hid hmm
  rw [hmm] at HW HR2
  clear hmm
  go_wp2_with fail
  refine (HW.out _ (Below.refl _ _)).mono ?_
  rintro e X1 ⟨rfl, hX1⟩
  subst hX1
  by_cases h2 : 192 < m
  · have h2' : decide ((192 : Int) < (m : Int)) = true := by simp; omega
    have HE := hid (show R = 82 by rw [HR2.out, if_pos (Or.inr (Or.inl h2))])
    go_wp2
    go_ret2
    exact ⟨Or.inl ⟨by rw [HE.out]; omega, by rw [HE.out]; rfl⟩, bW⟩
  have h2' : decide ((192 : Int) < (m : Int)) = false := by simp; omega
  go_wp2_with fail
  refine HCT.out.mono ?_
  rintro e X1 ⟨rfl, hX1⟩
  subst hX1
  clear HCT
  obtain ⟨g0, hg0⟩ : ∃ g0, M.any bey = g0 := ⟨_, rfl⟩
  rw [hg0] at HR2
  simp only [hg0]
  clear hg0
  cases g0 with
  | true =>
    have HE := hid (show R = 82 by rw [HR2.out, if_pos (Or.inr (Or.inr rfl))])
    go_wp2
    go_ret2
    exact ⟨Or.inl ⟨by rw [HE.out]; omega, by rw [HE.out]; rfl⟩, bW⟩
  | false =>
  have HR3 := hid (show R = if ucl B m = false then 1 else 0 by rw [HR2.out, if_neg (by simp; omega)])
  have HCL := hid (ucols_any X1 _ B HB1.out m (by omega))
  clear HR2
  go_wp2_with fail
  refine (HW.out _ (Below.refl _ _)).mono ?_
  rintro e X2 ⟨rfl, hX2⟩
  subst hX2
  go_wp2_with fail
  refine HCL.out.mono ?_
  rintro e X3 ⟨rfl, hX3⟩
  subst hX3
  clear HCL
  generalize ucl B m = g1 at *
  cases g1 with
  | false =>
    have HE := hid (show R = 1 by rw [HR3.out, if_pos rfl])
    go_wp2
    go_ret2
    exact ⟨Or.inl ⟨by rw [HE.out]; omega, by rw [HE.out]; rfl⟩, bW⟩
  | true =>
  have HE := hid (show R = 0 by rw [HR3.out, if_neg (by decide)])
  obtain ⟨hbl, hml, hwl, hrow⟩ := HOK.out HE.out
  have HROW := hid hrow
  clear HR3 HOK hrow HW
  go_wp2_with fail
  obtain ⟨i0, hi0, hz0, hz1, hz2⟩ := info_parts info_brow
  have HY0 := hid (box_new X3 (Obj.cells #[.slice none 0 0] 51))
  have bA0 := (Below.refl X3.heap.size X3).alloc (Nat.le_refl _) (Obj.cells #[.slice none 0 0] 51)
  have BW := chain2 bW bA0
  have hbx : w.heap.size ≤ X3.heap.size := bW.size
  have HL0 := hid (show UBs (X3.alloc (Obj.cells #[.slice none 0 0] 51)) w.heap.size (.slice none 0 0) [] ((uzip M B).take 0) 3 from ubs_none _ _)
  clear bA0 HI1 HB1 bW
  generalize X3.alloc (Obj.cells #[.slice none 0 0] 51) = W at *
  generalize X3.heap.size = tb at *
  have hb0 := Below.refl W.heap.size W
  go_loopw [36] (fun i wr => ∃ (k : Nat) (ra : Option Addr) (rn rc : Nat) (C' : List (List Value)), k ≤ M.length ∧ i = .int .i64 (k : Int) ∧ Hid (wr.heap[tb]? = some (.cells #[.slice ra rn rc] 51 (0, 0))) ∧ Hid (UBs wr w.heap.size (.slice ra rn rc) C' ((uzip M B).take k) 3) ∧ Below w.heap.size w wr) (fun i _ => M.length - (intOf i).toNat)
  case atStart => exact ⟨0, none, 0, 0, [], Nat.zero_le _, rfl, HY0, HL0, BW⟩
  case round =>
    clear HY0 HL0 BW hb0
    obtain ⟨k, ra, rn, rc, C', hk, rfl, HY, HL, bw⟩ := hrel
    have HI := hid (HI0.out.below bw)
    have HBI := hid (HBI0.out.below bw)
    by_cases hlt : k < M.length
    · have hltb : k < B.length := by omega
      obtain ⟨rb, ro, rcc, u, e, hc, hu⟩ := HI.out.at k hlt
      simp only [Value.slice.injEq] at e
      obtain ⟨rfl, -, rfl⟩ := e
      obtain ⟨bb, bo, bcc, e, _, _, hcb⟩ := HBI.out.at k hltb
      simp only [Value.slice.injEq] at e
      obtain ⟨rfl, -, rfl⟩ := e
      obtain ⟨ua, uc, hue, _, hum⟩ := hu.slice
      subst hue
      unfold maxLen at hum
      have HU := hid hu
      have HSU := hid (uzip_succ hbl k hlt hltb)
      have HRK := hid (HROW.out _ (List.getElem_mem hlt))
      have hln : rn = k := by
        obtain ⟨_, _, e, _⟩ := HL.out.slice
        simp only [Value.slice.injEq, List.length_take, uzip_len hbl] at e
        omega
      subst hln
      have HXL := hid (show ((uzip M B).take rn).length = rn by rw [List.length_take, uzip_len hbl]; omega)
      have hwid : M[rn].length ≤ 192 := by rw [HRK.out.1]; omega
      have m0 := bxc HY.out 0 (.slice ra rn rc) rfl
      clear hu
      generalize hMk : M[rn] = row at *
      generalize hBk : B[rn] = bk at *
      clear hMk hBk
      generalize hrl : row.length = rl0 at *
      have HRL := hid hrl
      clear hrl
      generalize wr = W3 at *
      go_wp2_with fail
      go_region_law (first
        | (refine step_append_at rfl _ _ 49 rfl w.heap.size 64 i0 (.agg #[.slice none 0 0, .slice none 0 0, .bool false, .slice none 0 0, .bool false, .int .i64 0]) 6 96 Tryz.underlying49 hi0 hz0 hz1 hz2 rfl (by decide) (.slice ra rn rc) rn _ rfl (by have := (HL.out.below bX4').own.alloc (.cells #[.slice ta tl tc, .slice i1 i2 i3, .bool i4, .slice i5 i6 i7, .bool i8, .int .i64 bk] 64); rw [HXL.out] at this; exact this) ⟨Y4.heap.size, 0, none⟩ 1 1 [.slice ta tl tc, .slice i1 i2 i3, .bool i4, .slice i5 i6 i7, .bool i8, .int .i64 bk] rfl rfl (six_new _ _ _ _ _ _ _ _) (by intro u hu; simp at hu; rcases hu with rfl | rfl | rfl | rfl | rfl | rfl <;> rfl) (by unfold maxLen; omega) (by omega) (by simp; have := bX4'.size; have := bw.size; omega) ?_; intro v' Y5 o5 hg5 hat5; have bA4 := (Below.refl Y4.heap.size Y4).alloc (Nat.le_refl _) (Obj.cells #[.slice ta tl tc, .slice i1 i2 i3, .bool i4, .slice i5 i6 i7, .bool i8, .int .i64 bk] 64); have bX4a := chain2 bX4' bA4; have la := HL.out.below bX4a; have ya := box_below bX4a HY.out (lt_of_block HY.out); have y5 := (hg5.block tb (lt_of_block ya) (fun e => own_ne_ty la.own ya (by decide) e.symm)).trans ya; have o0 := bxc y5 0 (.slice ra rn rc) rfl; have fr := blk_free y5 0; obtain ⟨ra', rc', rfl⟩ := own_form4 o5)
        | (go_simp; go_at_call 26; refine (ulistOf_any _ _ row (by rw [HRL.out]; exact hwid) HRK.out.2 (by first | exact HU.out | exact HU.out.below (Below.refl _ _).drew | exact HU.out.below (below_dn (Below.refl _ _) _))).mono ?_; rintro e Y4 ⟨⟨tv, i1, i2, i3, i4, i5, i6, i7, i8, rfl, n4⟩, b4⟩; have bX4' : Below W3.heap.size W3 Y4 := ⟨b4.os, b4.tape, b4.output, b4.size, b4.block⟩; have G1 := bX4'; obtain ⟨ta, tl, tc, rfl⟩ : ∃ ta tl tc, tv = .slice ta tl tc := by { obtain ⟨ta, tc, _, _, _, _, _, _, _, _, e, _⟩ := n4.form; exact ⟨ta, _, tc, e⟩ }; have N4 := hid n4; have y4 := box_below bX4' HY.out (lt_of_block HY.out); have k0 := bxc y4 0 (.slice ra rn rc) rfl; have kb := kcU bX4' hcb; have j0 := bxc (box_alloc y4 (Obj.cells #[.slice ta tl tc, .slice i1 i2 i3, .bool i4, .slice i5 i6 i7, .bool i8, .int .i64 bk] 64)) 0 (.slice ra rn rc) rfl; clear b4 y4 n4; dsimp only))
      all_goals
        have yS := blk_set y5 0 (.slice ra' (rn + 1) rc')
        have kg : Kty 64 51 (Y4.alloc (.cells #[.slice ta tl tc, .slice i1 i2 i3, .bool i4, .slice i5 i6 i7, .bool i8, .int .i64 bk] 64)) Y5 := Kty.of_grown hg5 (fun g hg => own_ty la.own g hg)
        have hpush := UBs.push la (w' := Y5) (v' := .slice ra' (rn + 1) rc') (a := (row, 1, bk)) (by rw [HXL.out]; exact o5) (fun h => h.kty kg (by decide) (by decide) (by decide) (by decide)) (N4.out.below bA4)
        rw [← HSU.out] at hpush
        have LS := UBs.set (i := 0) hpush y5 (.slice ra' (rn + 1) rc')
        have B5 := (bw.trans (bX4a.mono bw.size)).grown hg5 (Nat.le_trans bw.size bX4a.size) (fun g hg => (la.own.lt g hg).1)
        have BS := B5.setCell (p := ⟨tb, 0, none⟩) hbx (.slice ra' (rn + 1) rc')
        have HYS := hid yS
        have HLS := hid LS
        clear yS LS kg hpush la ya y5 o0 fr o5 hg5 hat5 B5 bA4 bX4a
        go_wp2
        go_roundw
        case rel => exact ⟨rn + 1, ra', rn + 1, rc', _, by omega, by go_num, HYS, HLS, BS⟩
        case measure => simp [intOf]; omega
    · obtain rfl : k = M.length := by omega
      have hrn : rn = M.length := by
        obtain ⟨_, _, e, _⟩ := HL.out.slice
        simp only [Value.slice.injEq, List.length_take, uzip_len hbl] at e
        omega
      subst hrn
      have HT := hid (show UTn wr w.heap.size tb (uzip M B) 3 by
        have := HL.out
        rw [← uzip_len hbl, List.take_length] at this
        exact ⟨ra, rc, C', by rw [uzip_len hbl]; exact HY.out, this⟩)
      go_wp2
      go_ret2
      exact ⟨Or.inr ⟨HE.out, tb, rfl, hbx, HT.out⟩, bw⟩
end Go.Proofs.YtgojlegknlalpaaGreatDoor
