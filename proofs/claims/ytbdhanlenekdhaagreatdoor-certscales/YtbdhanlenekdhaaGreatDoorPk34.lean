/- CLv, CDot, CPl, CNums, CSpec, CKp, CPlace, HNums, CLaw. -/
import Derived.Test.YtbdhanlenekdhaaGreatDoorZCLev
import Derived.Deep.RegionWith
import Derived.Test.YtbdhanlenekdhaaGreatDoorPk15
/- cert: the one denominator of a list. -/
namespace Go.Proofs.YtbdhanlenekdhaaGreatDoor
open Go.RowKit
set_option linter.unusedVariables false
set_option maxRecDepth 100000
set_option linter.unusedSimpArgs false

theorem lt10_nat {d m : Nat} (hm : m ≠ 0) (h : d < 10 ^ m) : Lt10 m ((d : Nat) : Rat) := ⟨by rw [Rat.num_natCast, Int.natAbs_natCast]; exact h, by rw [Rat.den_natCast]; exact Nat.one_lt_pow hm (by decide)⟩
/-- The denominator of all of them. -/
def lvl (X : List Rat) : Rat := X.foldl (fun m x => m * (((m * x).den : Nat) : Rat)) 1
theorem lvl_succ (X : List Rat) (k : Nat) (h : k < X.length) : lvl (X.take (k + 1)) = lvl (X.take k) * (((lvl (X.take k) * X[k]).den : Nat) : Rat) := by
  unfold lvl
  rw [List.take_succ_eq_append_getElem h, List.foldl_append]; rfl
structure LvOk (n : Nat) (m : Rat) : Prop where
  den : m.den = 1
  pos : 0 < m
  lt : Lt10 (700 * n + 1) m
theorem lvl_ok (X : List Rat) (hX : ∀ x ∈ X, Lt10 700 x) : ∀ k, k ≤ X.length → LvOk k (lvl (X.take k))
  | 0, _ => ⟨rfl, by show (0 : Rat) < 1; decide, Lt10.one⟩
  | k + 1, h => by
    have hk : k < X.length := h
    have ih := lvl_ok X hX k (by omega)
    have hx := hX _ (List.getElem_mem hk)
    rw [lvl_succ X k hk]
    generalize lvl (X.take k) = m at *
    generalize X[k] = x at *
    have hd : (m * x).den ≤ x.den := Nat.le_of_dvd x.den_pos (den_int_mul ih.den)
    have hdp := (m * x).den_pos
    refine ⟨?_, ?_, ?_⟩
    · have := den_int_mul (m := m) (q := (((m * x).den : Nat) : Rat)) ih.den
      rw [Rat.den_natCast] at this
      exact Nat.dvd_one.1 this
    · exact Rat.mul_pos ih.pos (Rat.natCast_pos.2 hdp)
    · have h1 : Lt10 700 (((m * x).den : Nat) : Rat) := lt10_nat (by decide) (Nat.lt_of_le_of_lt hd hx.2)
      exact (ih.lt.mul h1).mono (by omega)
theorem lv_fit {w : World} {v : Value} {m : Rat} {K n : Nat} (h : QIs w v m K) (hm : LvOk n m) (hn : n ≤ 64) : QIs w v m 5100 := (h.fit (hm.lt.mono (show 700 * n + 1 ≤ 44900 by omega))).mono (by decide)
theorem top_fit {w : World} {v : Value} {x m : Rat} {K n : Nat} (h : QIs w v (x * m) K) (hx : Lt10 700 x) (hm : LvOk n m) (hn : n ≤ 64) : QIs w v (x * m) 5100 := (h.fit ((hx.mul hm.lt).mono (show 700 + (700 * n + 1) ≤ 45600 by omega))).mono (by decide)
theorem map_succ (X : List Rat) (m : Rat) (k : Nat) (h : k < X.length) : (X.take (k + 1)).map (fun x => x * m) = (X.take k).map (fun x => x * m) ++ [X[k] * m] := by
  rw [List.take_succ_eq_append_getElem h, List.map_append]; rfl
theorem info_clist : (Tryz.prog.info? 71).map (·.size) = some 5 := by kernel_rfl
/-- v is the list X: its numbers times m, and m. -/
def LIs (w : World) (tv p1 p2 p3 p4 : Value) (X : List Rat) : Prop :=
  ∃ m base C, 0 < m ∧ Lt10 44900 m ∧ X.length ≤ 64 ∧ (∀ x ∈ X, Lt10 700 x) ∧ QIs w (.agg #[p1, p2, p3, p4]) m 5100 ∧ QLs w base tv C (X.map (fun x => x * m)) 5100
theorem LIs.below {w w' : World} {tv p1 p2 p3 p4 : Value} {X : List Rat} (h : LIs w tv p1 p2 p3 p4 X) (b : Below w.heap.size w w') : LIs w' tv p1 p2 p3 p4 X := by
  obtain ⟨m, base, C, h1, h4, h5, h6, h2, h3⟩ := h
  exact ⟨m, base, C, h1, h4, h5, h6, h2.below b, Ls.below (fun h b => h.below b) h3 b⟩
end Go.Proofs.YtbdhanlenekdhaaGreatDoor
/- cert: sums of products, plainly. -/
namespace Go.Proofs.YtbdhanlenekdhaaGreatDoor
open Go.RowKit
set_option linter.unusedVariables false
set_option maxRecDepth 100000
set_option linter.unusedSimpArgs false

/-- The sum of the numbers, each times its factor. -/
def dot : List Int → List Rat → Rat
  | a :: f, x :: X => (a : Rat) * x + dot f X
  | _, _ => 0
theorem dot_succ : ∀ (f : List Int) (X : List Rat) (k : Nat) (h : k < f.length) (hX : k < X.length), dot (f.take (k + 1)) X = dot (f.take k) X + (f[k] : Rat) * X[k]
  | [], X, k, h, _ => by simp at h
  | a :: f, [], k, _, hX => by simp at hX
  | a :: f, x :: X, 0, _, _ => by simp [dot]; grind
  | a :: f, x :: X, k + 1, h, hX => by
    have ih := dot_succ f X k (by simpa using h) (by simpa using hX)
    simp only [List.take_succ_cons, dot, ih, List.getElem_cons_succ]
    grind
theorem dot_scale (m : Rat) : ∀ (f : List Int) (X : List Rat), dot f (X.map (fun x => x * m)) = m * dot f X
  | [], X => by simp [dot]
  | a :: f, [] => by simp [dot]
  | a :: f, x :: X => by
    rw [List.map_cons, dot, dot, dot_scale m f X]
    grind
def In9 (f : List Int) : Prop := ∀ a ∈ f, -9223372036854775808 ≤ a ∧ a < 9223372036854775808
theorem dot_lt {e : Nat} (f : List Int) (X : List Rat) (hf : In9 f) (hX : ∀ x ∈ X, Lt10 e x) (hl : f.length ≤ X.length) : ∀ k, k ≤ f.length → Lt10 (1 + (e + 20) * k) (dot (f.take k) X)
  | 0, _ => Lt10.zero
  | k + 1, h => by
    have ih := dot_lt f X hf hX hl k (by omega)
    rw [dot_succ f X k h (by omega)]
    have h1 := hf _ (List.getElem_mem (show k < f.length from h))
    have := ih.add ((Lt10.int (z := f[k]) (by omega) (by omega)).mul (hX _ (List.getElem_mem (show k < X.length by omega))))
    exact this.mono (by rw [Nat.mul_succ]; omega)
theorem sum_fit {w : World} {v : Value} {f : List Int} {X : List Rat} {K k : Nat} (h : QIs w v (dot (f.take k) X) K) (hf : In9 f) (hX : ∀ x ∈ X, Lt10 45600 x) (hl : f.length ≤ X.length) (hk : k ≤ f.length) (h64 : k ≤ 64) : QIs w v (dot (f.take k) X) 330000 := by
  have hL := dot_lt f X hf hX hl k hk
  have h1 : 1 + (45600 + 20) * k ≤ 2930000 := by omega
  exact (h.fit (hL.mono h1)).mono (by decide)
theorem tops_lt {X : List Rat} {m : Rat} (hm : Lt10 44900 m) (hX : ∀ x ∈ X, Lt10 700 x) : ∀ y ∈ X.map (fun x => x * m), Lt10 45600 y := fun y hy => by
  obtain ⟨x, hx, rfl⟩ := List.mem_map.1 hy
  exact ((hX x hx).mul hm).mono (by omega)
theorem q_comm {w : World} {v : Value} {p q : Rat} {K : Nat} (h : QIs w v (p * q) K) : QIs w v (q * p) K := by rw [Rat.mul_comm]; exact h
end Go.Proofs.YtbdhanlenekdhaaGreatDoor
/- cert: signs, columns, the table of relations; plainly. -/
namespace Go.Proofs.YtbdhanlenekdhaaGreatDoor
open Go.RowKit
set_option linter.unusedVariables false
set_option maxRecDepth 100000
set_option linter.unusedSimpArgs false

/-- Where a sign stands: below 0, 0, above 0. -/
def plN (n : Int) : Nat := if n < 0 then 0 else if n = 0 then 1 else 2
theorem plN_lt (n : Int) : plN n < 3 := by unfold plN; (repeat' split) <;> omega
/-- A column. -/
def colN (M : List (List Int)) (k : Nat) : List Int := M.map (fun r => r.getD k 0)
theorem colN_len (M : List (List Int)) (k : Nat) : (colN M k).length = M.length := by simp [colN]
theorem colN_succ (M : List (List Int)) (k j : Nat) (h : j < M.length) (hk : k < M[j].length) : colN (M.take (j + 1)) k = colN (M.take j) k ++ [(M[j])[k]] := by
  unfold colN
  rw [List.take_succ_eq_append_getElem h, List.map_append]
  simp [hk]
/-- The table of relations. -/
def gapT (a b : Nat) : Bool := match a, b with | 0, 0 => true | 0, 1 => true | 1, 1 => true | 2, 1 => true | 2, 2 => true | _, _ => false
def yT (a b : Nat) : Bool := match a, b with | 0, 1 => true | 0, 2 => true | 1, 0 => true | 1, 1 => true | 1, 2 => true | 2, 0 => true | 2, 1 => true | _, _ => false
structure Rl (w : World) : Prop where
  gap : ∀ a b, a < 3 → b < 3 → w.cell? ⟨0, a * 6 + b, none⟩ = some (.bool (gapT a b))
  y : ∀ a b, a < 3 → b < 3 → w.cell? ⟨0, a * 6 + 3 + b, none⟩ = some (.bool (yT a b))
theorem Rl.below {w w' : World} (h : Rl w) (b : Below w.heap.size w w') : Rl w' :=
  ⟨fun x y hx hy => (b.cell (World.block_lt_of_cell? w _ (h.gap x y hx hy))).trans (h.gap x y hx hy), fun x y hx hy => (b.cell (World.block_lt_of_cell? w _ (h.y x y hx hy))).trans (h.y x y hx hy)⟩
theorem sgn_scale {m x : Rat} (hm : 0 < m) : sgnR (x * m) = sgnR x := by
  unfold sgnR
  rw [Rat.mul_comm]
  simp only [Rat.mul_neg_iff_of_pos_left hm, Rat.mul_pos_iff_of_pos_left hm]
/-- Each number has a sign that its row allows. -/
def sgs (E : List Int) (X : List Rat) : Prop := ∀ i (h1 : i < X.length) (h2 : i < E.length), yT (plN E[i]) (plN (sgnR X[i])) = true
def cvs (M : List (List Int)) (X : List Rat) (c : List Int) : Prop := ∀ i (h : i < c.length), (c[i] : Rat) ≤ dot (colN M i) X
def sgsK (E : List Int) (X : List Rat) (k : Nat) : Prop := ∀ i (h1 : i < X.length) (h2 : i < E.length), i < k → yT (plN E[i]) (plN (sgnR X[i])) = true
theorem sg_succ {E : List Int} {X : List Rat} {k : Nat} (h : sgsK E X k) (h1 : k < X.length) (h2 : k < E.length) (hh : yT (plN E[k]) (plN (sgnR X[k])) = true) : sgsK E X (k + 1) := fun i k1 k2 hi => by
  by_cases e : i = k
  · subst e; exact hh
  · exact h i k1 k2 (by omega)
theorem sg_no {E : List Int} {X : List Rat} {k : Nat} (h1 : k < X.length) (h2 : k < E.length) (hh : yT (plN E[k]) (plN (sgnR X[k])) = false) : ¬ sgs E X := fun h => by
  have := h k h1 h2
  rw [hh] at this; cases this
def cvsK (M : List (List Int)) (X : List Rat) (c : List Int) (k : Nat) : Prop := ∀ i (h : i < c.length), i < k → (c[i] : Rat) ≤ dot (colN M i) X
theorem cv_succ {M : List (List Int)} {X : List Rat} {c : List Int} {k : Nat} (h : cvsK M X c k) (hk : k < c.length) (hh : (c[k] : Rat) ≤ dot (colN M k) X) : cvsK M X c (k + 1) := fun i h1 hi => by
  by_cases e : i = k
  · subst e; exact hh
  · exact h i h1 (by omega)
theorem cv_no {M : List (List Int)} {X : List Rat} {c : List Int} {k : Nat} (hk : k < c.length) (hh : dot (colN M k) X < (c[k] : Rat)) : ¬ cvs M X c := fun h => by
  have := h k hk
  exact Rat.not_le.2 hh this
theorem cmp_lt {p q : Rat} (h : decide (cmpR p q < 0) = true) : p < q := by
  unfold cmpR at h
  by_cases h1 : p < q
  · exact h1
  · rw [if_neg h1] at h
    split at h <;> simp at h
theorem cmp_ge {p q : Rat} (h : decide (cmpR p q < 0) = false) : q ≤ p := by
  unfold cmpR at h
  by_cases h1 : p < q
  · rw [if_pos h1] at h; simp at h
  · exact Rat.not_lt.1 h1
theorem col_in9 {M : List (List Int)} {k : Nat} (h9 : ∀ r ∈ M, In9 r) (hk : ∀ r ∈ M, k < r.length) : In9 (colN M k) := fun a ha => by
  obtain ⟨r, hr, rfl⟩ := List.mem_map.1 ha
  have := hk r hr
  refine h9 r hr _ ?_
  simp [this]
end Go.Proofs.YtbdhanlenekdhaaGreatDoor
/- cert: the numbers of texts; noughts. -/
namespace Go.Proofs.YtbdhanlenekdhaaGreatDoor
open Go.RowKit
set_option linter.unusedVariables false
set_option maxRecDepth 100000
set_option linter.unusedSimpArgs false

theorem ztx_lt {s : ByteArray} {z : Int} (h : ZTx s z) : z.natAbs < 10 ^ s.size := by
  rcases h with ⟨_, h1, h2⟩ | ⟨_, t, rfl, h1, h2⟩
  · rw [← h2]; exact num_lt h1
  · rw [← h2, minus_size]
    exact Nat.lt_of_lt_of_le (num_lt h1) (Nat.pow_le_pow_right (by decide) (by omega))
theorem canr_lt {s : ByteArray} {q : Rat} (h : CanR s q) : Lt10 (s.size + 1) q := by
  rcases h.tx with ⟨h1, h2⟩ | ⟨h1, a, b, h2, h3, rfl⟩
  · refine ⟨Nat.lt_of_lt_of_le (ztx_lt h2) (Nat.pow_le_pow_right (by decide) (by omega)), ?_⟩
    have : q.den = 1 := by omega
    rw [this]
    exact Nat.one_lt_pow (by omega) (by decide)
  · rw [slash_size]
    refine ⟨Nat.lt_of_lt_of_le (ztx_lt h2) (Nat.pow_le_pow_right (by decide) (by omega)), ?_⟩
    have h4 := ztx_lt h3
    rw [Int.natAbs_natCast] at h4
    exact Nat.lt_of_lt_of_le h4 (Nat.pow_le_pow_right (by decide) (by omega))
/-- The numbers of these texts. -/
structure Nums (S : List ByteArray) (X : List Rat) : Prop where
  len : X.length = S.length
  is_ : ∀ i (h1 : i < S.length) (h2 : i < X.length), CanR S[i] X[i]
theorem Nums.nil : Nums [] [] := ⟨rfl, fun i h => by simp at h⟩
theorem Nums.push {S : List ByteArray} {X : List Rat} {k : Nat} {q : Rat} (h : Nums (S.take k) X) (hk : k < S.length) (hq : CanR S[k] q) : Nums (S.take (k + 1)) (X ++ [q]) := by
  have hl : X.length = k := by rw [h.len, List.length_take]; omega
  refine ⟨by rw [List.length_append, hl, List.length_take]; simp; omega, fun i h1 h2 => ?_⟩
  have hiS : i < S.length := by rw [List.length_take] at h1; omega
  have hik : i < k + 1 := by rw [List.length_take] at h1; omega
  rw [List.getElem_take]
  by_cases hi : i < k
  · rw [List.getElem_append_left (by omega)]
    have := h.is_ i (by rw [List.length_take]; omega) (by omega)
    rwa [List.getElem_take] at this
  · have e : i = k := by omega
    subst e
    rw [List.getElem_append_right (by omega)]
    simpa [hl] using hq
theorem Nums.lt {S : List ByteArray} {X : List Rat} (h : Nums S X) (hS : ∀ s ∈ S, s.size ≤ 600) : ∀ x ∈ X, Lt10 700 x := fun x hx => by
  obtain ⟨i, hi, rfl⟩ := List.getElem_of_mem hx
  have h1 : i < S.length := by rw [← h.len]; exact hi
  exact (canr_lt (h.is_ i h1 hi)).mono (by have := hS _ (List.getElem_mem h1); omega)
theorem Nums.uniq {S : List ByteArray} {X Y : List Rat} (h : Nums S X) (k : Nums S Y) : X = Y := List.ext_getElem (by rw [h.len, k.len]) (fun i h1 h2 => CanR.inj (h.is_ i (by rw [← h.len]; exact h1) h1) (k.is_ i (by rw [← h.len]; exact h1) h2))
set_option maxHeartbeats 6400000 in
theorem noughts_any (w : World) (v : Value) (L : List Int) (h : Ints w v L) (hl : L.length ≤ 1000) :
    Calls Tryz.prog 39 #[v] w fun e w' => (∃ u, e = .returned u ∧ Ints w' u (List.replicate L.length 0)) ∧ Below w.heap.size w w' := by
  obtain ⟨a, c, rfl, hlc, hm⟩ := h.slice
  unfold maxLen at hm
  clear h
  generalize L.length = n at *
  obtain ⟨i0, hi0, hz0, hz1, hz2⟩ := info_parts info_int
  go_enter Tryz.func39, Tryz.ntmps39
  go_wp2_with (first | (at_make; refine wpList_make_full _ rfl _ _ 23 rfl w.heap.size 3 i0 (.int .i64 0) 1 Tryz.underlying23 hi0 hz0 hz1 _ _ _ _ n rfl rfl (by omega) (by omega) (by rw [hz2]; omega) (by unfold maxLen; omega) (Nat.le_refl _) ?_))
  intro w1 o1 hg1
  have b1 : Below w.heap.size w w1 := (Below.refl _ _).grown hg1 (Nat.le_refl _) (fun g hg => by cases hg)
  have HF := hid (show Ints w1 (.slice (some ⟨w.heap.size, 0, none⟩) n n) (List.replicate n 0) from Row1.of_own (base := w.heap.size) (e := 3) (by
    have e : intV (List.replicate n 0) = List.replicate n (Value.int .i64 0) := by simp [intV]
    rw [e, List.length_replicate]
    simp only [toList_madeCells_one, Value.cells, Nat.mul_one] at o1
    exact o1))
  go_wp2
  go_ret
  exact ⟨⟨_, rfl, HF.out⟩, b1⟩
theorem results_cell_tmp5 {P : Program} {fn : Func} {p q : Tmp} {ty : TypeId} (h : fn.results = #[.cell p ty, .tmp q]) (tmps : Array Value) (w : World) (g : Nat) (t : TypeId) (cs : Array Value) (fr : Nat × Nat) (d : TypeDesc)
    (hp : tmps.getD p undef = .pointer (some ⟨g, 0, none⟩)) (hg : w.heap[g]? = some (.cells cs t fr))
    (hu : P.underlying ty = some d) (hd : (match d with | .struct _ | .array _ _ => true | _ => false) = true) (hi : (P.info? ty).map (·.size) = some cs.size) :
    (results fn tmps).run P w = .ok (.tuple #[.agg cs, tmps.getD q undef]) w := by
  have hp' : tmps[p]?.getD undef = .pointer (some ⟨g, 0, none⟩) := by simpa using hp
  simp [results, h, hp', asAddr, run_loadVar_row w g t ty cs fr d hg hu hd hi]
end Go.Proofs.YtbdhanlenekdhaaGreatDoor
/- cert: what shows an optimum, and weak duality; plain numbers. -/
namespace Go.Proofs.YtbdhanlenekdhaaGreatDoor
open Go.RowKit
set_option linter.unusedVariables false
set_option maxRecDepth 100000
set_option linter.unusedSimpArgs false

/-- Each is at least 0. -/
def nng (X : List Rat) : Prop := ∀ i (h : i < X.length), 0 ≤ X[i]
/-- Each row times the list stands to its number as its relation says. -/
def gps (M : List (List Int)) (E : List Int) (X : List Rat) (b : List Int) : Prop := ∀ i (h1 : i < M.length) (h2 : i < E.length) (h3 : i < b.length), gapT (plN E[i]) (plN (cmpR (dot M[i] X) (b[i] : Rat))) = true
def rsum : List (List Int) → List Rat → List Rat → Rat
  | r :: M, y :: Y, X => y * dot r X + rsum M Y X
  | _, _, _ => 0
theorem rsum_nil : ∀ (M : List (List Int)) (Y : List Rat), rsum M Y [] = 0
  | [], Y => by simp [rsum]
  | r :: M, [] => by simp [rsum]
  | r :: M, y :: Y => by
    rw [rsum, rsum_nil M Y]
    cases r <;> simp [dot] <;> grind
theorem rsum_cons (x : Rat) (X : List Rat) : ∀ (M : List (List Int)) (Y : List Rat), rsum M Y (x :: X) = x * dot (colN M 0) Y + rsum (M.map List.tail) Y X
  | [], Y => by simp [rsum, colN, dot]; grind
  | r :: M, [] => by simp [rsum, colN, dot]; grind
  | r :: M, y :: Y => by
    have ih := rsum_cons x X M Y
    rw [rsum, ih, List.map_cons, rsum]
    simp only [colN, List.map_cons, dot]
    cases r with
    | nil => simp [dot]; grind
    | cons a r => simp [dot]; grind
theorem colN_tail (M : List (List Int)) (k : Nat) : colN (M.map List.tail) k = colN M (k + 1) := by
  unfold colN
  rw [List.map_map]
  congr 1
  funext r
  cases r <;> simp
theorem le_rsum : ∀ (X : List Rat) (M : List (List Int)) (Y : List Rat) (c : List Int), c.length = X.length → nng X → cvs M Y c → dot c X ≤ rsum M Y X
  | [], M, Y, c, _, _, _ => by rw [rsum_nil]; cases c <;> simp [dot]
  | x :: X, M, Y, [], h, _, _ => by simp at h
  | x :: X, M, Y, a :: c, h, hn, hc => by
    have ih := le_rsum X (M.map List.tail) Y c (by simpa using h) (fun i hi => hn (i + 1) (by simpa using hi)) (fun i hi => by rw [colN_tail]; exact hc (i + 1) (by simpa using hi))
    rw [rsum_cons, dot]
    have h0 : (0 : Rat) ≤ x := hn 0 (by simp)
    have h1 : (a : Rat) ≤ dot (colN M 0) Y := hc 0 (by simp)
    have h2 := Rat.mul_le_mul_of_nonneg_left h1 h0
    rw [Rat.mul_comm (a : Rat) x]
    grind
theorem gap_y {e : Int} {y d b : Rat} (hg : gapT (plN e) (plN (cmpR d b)) = true) (hy : yT (plN e) (plN (sgnR y)) = true) : y * d ≤ y * b := by
  have hlt : plN e = 0 ∨ plN e = 1 ∨ plN e = 2 := by unfold plN; (repeat' split) <;> simp
  have hc : (d < b ∧ plN (cmpR d b) = 0) ∨ (d = b ∧ plN (cmpR d b) = 1) ∨ (b < d ∧ plN (cmpR d b) = 2) := by
    unfold cmpR
    by_cases h1 : d < b
    · left; simp [h1, plN]
    · by_cases h2 : b < d
      · right; right; simp [h1, h2, plN]
      · right; left; refine ⟨Rat.le_antisymm (Rat.not_lt.1 h2) (Rat.not_lt.1 h1), ?_⟩
        simp [h1, h2, plN]
  have hs : (y < 0 ∧ plN (sgnR y) = 0) ∨ (y = 0 ∧ plN (sgnR y) = 1) ∨ (0 < y ∧ plN (sgnR y) = 2) := by
    unfold sgnR
    by_cases h1 : y < 0
    · left; simp [h1, plN]
    · by_cases h2 : 0 < y
      · right; right; simp [h1, h2, plN]
      · right; left; refine ⟨Rat.le_antisymm (Rat.not_lt.1 h2) (Rat.not_lt.1 h1), ?_⟩
        simp [h1, h2, plN]
  rcases hc with ⟨h1, e1⟩ | ⟨h1, e1⟩ | ⟨h1, e1⟩
  · rcases hs with ⟨h2, e2⟩ | ⟨h2, e2⟩ | ⟨h2, e2⟩
    · rw [e1] at hg; rw [e2] at hy
      rcases hlt with h | h | h <;> rw [h] at hg hy <;> simp [gapT, yT] at hg hy
    · rw [h2]; simp
    · exact Rat.mul_le_mul_of_nonneg_left (Rat.le_of_lt h1) (Rat.le_of_lt h2)
  · rw [h1]; exact Rat.le_refl
  · rcases hs with ⟨h2, e2⟩ | ⟨h2, e2⟩ | ⟨h2, e2⟩
    · have h3 : (-y) * b ≤ (-y) * d := Rat.mul_le_mul_of_nonneg_left (Rat.le_of_lt h1) (by grind)
      grind
    · rw [h2]; simp
    · rw [e1] at hg; rw [e2] at hy
      rcases hlt with h | h | h <;> rw [h] at hg hy <;> simp [gapT, yT] at hg hy
theorem rsum_le : ∀ (M : List (List Int)) (E b : List Int) (Y X : List Rat), E.length = M.length → b.length = M.length → Y.length = M.length → gps M E X b → sgs E Y → rsum M Y X ≤ dot b Y
  | [], E, b, Y, X, _, hb, _, _, _ => by
    have : b = [] := List.eq_nil_of_length_eq_zero hb
    subst this
    simp [rsum, dot]
  | r :: M, [], b, Y, X, h, _, _, _, _ => by simp at h
  | r :: M, e :: E, [], Y, X, _, h, _, _, _ => by simp at h
  | r :: M, e :: E, b0 :: b, [], X, _, _, h, _, _ => by simp at h
  | r :: M, e :: E, b0 :: b, y :: Y, X, h1, h2, h3, hg, hs => by
    have ih := rsum_le M E b Y X (by simpa using h1) (by simpa using h2) (by simpa using h3) (fun i k1 k2 k3 => hg (i + 1) (by simpa using k1) (by simpa using k2) (by simpa using k3)) (fun i k1 k2 => hs (i + 1) (by simpa using k1) (by simpa using k2))
    rw [rsum, dot]
    have := gap_y (hg 0 (by simp) (by simp) (by simp)) (hs 0 (by simp) (by simp))
    simp only [List.getElem_cons_zero] at this
    rw [Rat.mul_comm (b0 : Rat) y]
    grind
/-- No value of what is feasible is above a bound of what is dual. -/
theorem weak_dual {M : List (List Int)} {E b c : List Int} {X Y : List Rat} (hE : E.length = M.length) (hb : b.length = M.length) (hY : Y.length = M.length) (hX : c.length = X.length) (hn : nng X) (hg : gps M E X b) (hs : sgs E Y) (hc : cvs M Y c) : dot c X ≤ dot b Y :=
  Rat.le_trans (le_rsum X M Y c hX hn hc) (rsum_le M E b Y X hE hb hY hg hs)
theorem dot_zero : ∀ (n : Nat) (X : List Rat), dot (List.replicate n 0) X = 0
  | 0, X => by simp [dot]
  | n + 1, [] => by simp [List.replicate_succ, dot]
  | n + 1, x :: X => by simp [List.replicate_succ, dot, dot_zero n X]; grind
/-- The list and so many times the other one. -/
def lin (n : Rat) (X D : List Rat) : List Rat := List.zipWith (fun a b => a + b * n) X D
theorem dot_lin (n : Rat) : ∀ (f : List Int) (X D : List Rat), X.length = D.length → dot f (lin n X D) = dot f X + n * dot f D
  | [], X, D, _ => by simp [dot]; grind
  | a :: f, [], [], _ => by simp [lin, dot]; grind
  | a :: f, [], d :: D, h => by simp at h
  | a :: f, x :: X, [], h => by simp at h
  | a :: f, x :: X, d :: D, h => by
    have ih := dot_lin n f X D (by simpa using h)
    simp only [lin, List.zipWith_cons_cons, dot] at ih ⊢
    rw [ih]
    grind
theorem dot_cmul (n : Int) : ∀ (f : List Int) (X : List Rat), dot (f.map (fun a => a * n)) X = (n : Rat) * dot f X
  | [], X => by simp [dot]
  | a :: f, [] => by simp [dot]
  | a :: f, x :: X => by
    rw [List.map_cons, dot, dot, dot_cmul n f X]
    have : ((a * n : Int) : Rat) = (a : Rat) * (n : Rat) := Rat.intCast_mul a n
    rw [this]
    grind
theorem cmp_cases (p q : Rat) : (p < q ∧ cmpR p q = -1 ∧ plN (cmpR p q) = 0) ∨ (p = q ∧ cmpR p q = 0 ∧ plN (cmpR p q) = 1) ∨ (q < p ∧ cmpR p q = 1 ∧ plN (cmpR p q) = 2) := by
  unfold cmpR
  by_cases h1 : p < q
  · left; simp [h1, plN]
  · by_cases h2 : q < p
    · right; right; simp [h1, h2, plN]
    · right; left; refine ⟨Rat.le_antisymm (Rat.not_lt.1 h2) (Rat.not_lt.1 h1), ?_⟩
      simp [h1, h2, plN]
theorem pl_cases (e : Int) : plN e = 0 ∨ plN e = 1 ∨ plN e = 2 := by unfold plN; (repeat' split) <;> simp
theorem gap_add {e : Int} {d g b n : Rat} (hn : 0 < n) (h1 : gapT (plN e) (plN (cmpR d b)) = true) (h2 : gapT (plN e) (plN (cmpR g 0)) = true) : gapT (plN e) (plN (cmpR (d + n * g) b)) = true := by
  have key : ∀ {g}, g ≤ 0 → n * g ≤ 0 := fun {g} hg => by
    have := Rat.mul_le_mul_of_nonneg_left hg (Rat.le_of_lt hn)
    simpa using this
  have key2 : ∀ {g}, 0 ≤ g → 0 ≤ n * g := fun {g} hg => by
    have := Rat.mul_le_mul_of_nonneg_left hg (Rat.le_of_lt hn)
    simpa using this
  rcases pl_cases e with h | h | h <;> rw [h] at h1 h2 ⊢
  · rcases cmp_cases d b with ⟨a1, _, a2⟩ | ⟨a1, _, a2⟩ | ⟨a1, _, a2⟩ <;> rw [a2] at h1 <;> rcases cmp_cases g 0 with ⟨b1, _, b2⟩ | ⟨b1, _, b2⟩ | ⟨b1, _, b2⟩ <;> rw [b2] at h2 <;> simp [gapT] at h1 h2 <;> rcases cmp_cases (d + n * g) b with ⟨c1, _, c2⟩ | ⟨c1, _, c2⟩ | ⟨c1, _, c2⟩ <;> rw [c2] <;> simp [gapT] <;> first | (have := key (Rat.le_of_lt b1); grind) | grind
  · rcases cmp_cases d b with ⟨a1, _, a2⟩ | ⟨a1, _, a2⟩ | ⟨a1, _, a2⟩ <;> rw [a2] at h1 <;> rcases cmp_cases g 0 with ⟨b1, _, b2⟩ | ⟨b1, _, b2⟩ | ⟨b1, _, b2⟩ <;> rw [b2] at h2 <;> simp [gapT] at h1 h2 <;> rcases cmp_cases (d + n * g) b with ⟨c1, _, c2⟩ | ⟨c1, _, c2⟩ | ⟨c1, _, c2⟩ <;> rw [c2] <;> simp [gapT] <;> grind
  · rcases cmp_cases d b with ⟨a1, _, a2⟩ | ⟨a1, _, a2⟩ | ⟨a1, _, a2⟩ <;> rw [a2] at h1 <;> rcases cmp_cases g 0 with ⟨b1, _, b2⟩ | ⟨b1, _, b2⟩ | ⟨b1, _, b2⟩ <;> rw [b2] at h2 <;> simp [gapT] at h1 h2 <;> rcases cmp_cases (d + n * g) b with ⟨c1, _, c2⟩ | ⟨c1, _, c2⟩ | ⟨c1, _, c2⟩ <;> rw [c2] <;> simp [gapT] <;> first | (have := key2 (Rat.le_of_lt b1); grind) | grind
theorem gap_mid {e : Int} {d g b : Rat} (h1 : gapT (plN e) (plN (cmpR d b)) = true) (h2 : gapT (plN e) (plN (cmpR g b)) = true) : gapT (plN e) (plN (cmpR ((d + g) * (1 / 2)) b)) = true := by
  rcases pl_cases e with h | h | h <;> rw [h] at h1 h2 ⊢ <;> rcases cmp_cases d b with ⟨a1, _, a2⟩ | ⟨a1, _, a2⟩ | ⟨a1, _, a2⟩ <;> rw [a2] at h1 <;> rcases cmp_cases g b with ⟨b1, _, b2⟩ | ⟨b1, _, b2⟩ | ⟨b1, _, b2⟩ <;> rw [b2] at h2 <;> simp [gapT] at h1 h2 <;> rcases cmp_cases ((d + g) * (1 / 2)) b with ⟨c1, _, c2⟩ | ⟨c1, _, c2⟩ | ⟨c1, _, c2⟩ <;> rw [c2] <;> simp [gapT] <;> grind

structure ChkOk (P : Prb) : Prop where
  rel : P.rel.length = P.rows.length
  b : P.b.length = P.rows.length
  c : ∀ r ∈ P.rows, r.length = P.c.length
  rl : P.rows.length ≤ 64
  cl : P.c.length ≤ 64
  b9 : In9 P.b
  c9 : In9 P.c
  r9 : ∀ r ∈ P.rows, In9 r
theorem bey_in9 {L : List Int} (h : ¬ bey L = true) : In9 L := fun a ha => by
  have : byd a = false := by
    cases hb : byd a with
    | false => rfl
    | true => exact absurd (List.any_eq_true.2 ⟨a, ha, hb⟩) h
  unfold byd at this
  simp at this
  omega
theorem chk_ok {P : Prb} (h : chk P = 0) : ChkOk P := by
  unfold chk at h
  split at h
  · omega
  rename_i h1
  split at h
  · omega
  rename_i h2
  split at h
  · omega
  rename_i h3
  have h1' : shp P = true := by cases hs : shp P <;> simp_all
  unfold shp at h1'
  simp only [Bool.and_eq_true, decide_eq_true_eq, List.all_eq_true] at h1'
  obtain ⟨⟨k1, k2⟩, k3⟩ := h1'
  exact ⟨k1, k2, k3, by omega, by omega, bey_in9 (fun e => h3 (Or.inl e)), bey_in9 (fun e => h3 (Or.inr (Or.inl e))), fun r hr => bey_in9 (fun e => h3 (Or.inr (Or.inr (List.any_eq_true.2 ⟨r, hr, e⟩))))⟩
/-- x is feasible; y is dual; y shows that nothing is feasible; d is a ray from x. -/
def FeaS (P : Prb) (S : List ByteArray) : Prop := chk P = 0 ∧ S.length = P.c.length ∧ ∃ X, Nums S X ∧ nng X ∧ gps P.rows P.rel X P.b
def DuaS (P : Prb) (S : List ByteArray) : Prop := chk P = 0 ∧ S.length = P.b.length ∧ ∃ X, Nums S X ∧ sgs P.rel X ∧ cvs P.rows X P.c
def FarS (P : Prb) (S : List ByteArray) : Prop := chk P = 0 ∧ S.length = P.b.length ∧ ∃ X, Nums S X ∧ (sgs P.rel X ∧ cvs P.rows X (List.replicate P.c.length 0)) ∧ dot P.b X < 0
def RayS (P : Prb) (S D : List ByteArray) : Prop := FeaS P S ∧ D.length = P.c.length ∧ ∃ X, Nums D X ∧ (nng X ∧ gps P.rows P.rel X (List.replicate P.b.length 0)) ∧ 0 < dot P.c X
def OptS (P : Prb) (S T : List ByteArray) : Prop := FeaS P S ∧ DuaS P T ∧ ∃ X Y, Nums S X ∧ Nums T Y ∧ dot P.c X = dot P.b Y
theorem boolOf (p : Prop) : ∃ R : Bool, R = true ↔ p := by
  by_cases h : p
  · exact ⟨true, by simp [h]⟩
  · exact ⟨false, by simp [h]⟩
theorem bool_no {R : Bool} {p : Prop} (h : R = true ↔ p) (hn : ¬ p) : R = false := by
  cases hb : R with
  | false => rfl
  | true => exact absurd (h.1 hb) hn
/-- What read answers for an error. -/
def rdE (P : Prb) (S : List ByteArray) (n : Nat) : Int := if chk P ≠ 0 then chk P else if S.length ≠ n then 120 else 10
/-- What read answers: the program's list of these numbers, or an error. -/
def CRd (P : Prb) (S : List ByteArray) (n : Nat) (e : Ending) (w' : World) : Prop :=
  (chk P = 0 ∧ S.length = n ∧ ∃ X tv p1 p2 p3 p4 p5 p6 p7 p8, Nums S X ∧ e = .returned (.tuple #[.agg #[tv, .slice p1 p2 p3, .bool p4, .slice p5 p6 p7, .bool p8], .int .i64 0]) ∧ LIs w' tv (.slice p1 p2 p3) (.bool p4) (.slice p5 p6 p7) (.bool p8) X) ∨
  (¬ (chk P = 0 ∧ S.length = n ∧ ∃ X, Nums S X) ∧ e = .returned (.tuple #[.agg #[.slice none 0 0, .slice none 0 0, .bool false, .slice none 0 0, .bool false], .int .i64 (rdE P S n)]))
/-- The document's. -/
def HRd (P : Prb) (S : List ByteArray) (n : Nat) (e : Ending) (w' : World) : Prop :=
  (chk P = 0 ∧ S.length = n ∧ ∃ X tv base C, Nums S X ∧ e = .returned (.tuple #[tv, .int .i64 0]) ∧ TLs w' base tv C X 5100) ∨
  (¬ (chk P = 0 ∧ S.length = n ∧ ∃ X, Nums S X) ∧ e = .returned (.tuple #[.slice none 0 0, .int .i64 (rdE P S n)]))
/-- What is told of a sum over texts. -/
def WorS (P : Prb) (f : List Int) (S : List ByteArray) (s : ByteArray) (e : Int) : Prop :=
  (chk P = 0 ∧ S.length = f.length ∧ (∃ X, Nums S X ∧ TxR s (dot f X)) ∧ e = 0) ∨ (¬ (chk P = 0 ∧ S.length = f.length ∧ ∃ X, Nums S X) ∧ s = ByteArray.empty ∧ e = rdE P S f.length)
theorem WorS.uniq {P : Prb} {f : List Int} {S : List ByteArray} {s t : ByteArray} {e g : Int} (h : WorS P f S s e) (k : WorS P f S t g) : s = t ∧ e = g := by
  rcases h with ⟨h1, h2, ⟨X, h3, h4⟩, h5⟩ | ⟨h1, h2, h3⟩ <;> rcases k with ⟨k1, k2, ⟨Y, k3, k4⟩, k5⟩ | ⟨k1, k2, k3⟩
  · obtain rfl := h3.uniq k3
    exact ⟨h4.inj k4, h5.trans k5.symm⟩
  · exact absurd ⟨h1, h2, X, h3⟩ k1
  · exact absurd ⟨k1, k2, Y, k3⟩ h1
  · exact ⟨h2.trans k2.symm, h3.trans k3.symm⟩
end Go.Proofs.YtbdhanlenekdhaaGreatDoor
/- cert: what keeps asks, step by step. -/
namespace Go.Proofs.YtbdhanlenekdhaaGreatDoor
open Go.RowKit
set_option linter.unusedVariables false
set_option maxRecDepth 100000
set_option linter.unusedSimpArgs false

theorem below_drew1 (w : World) : Below w.heap.size w w.drew := (Below.refl _ _).drew
theorem kc' {W X : World} {p : Addr} {a : Value} (h : Below W.heap.size W X) (h1 : W.cell? p = some a) : X.cell? p = some a := (h.cell (World.block_lt_of_cell? W _ h1)).trans h1
def nngK (X : List Rat) (k : Nat) : Prop := ∀ i (h : i < X.length), i < k → 0 ≤ X[i]
def gpsK (M : List (List Int)) (E : List Int) (X : List Rat) (b : List Int) (k : Nat) : Prop := ∀ i (h1 : i < M.length) (h2 : i < E.length) (h3 : i < b.length), i < k → gapT (plN E[i]) (plN (cmpR (dot M[i] X) (b[i] : Rat))) = true
theorem nn_succ {X : List Rat} {k : Nat} (h : nngK X k) (hk : k < X.length) (hh : 0 ≤ X[k]) : nngK X (k + 1) := fun i h1 hi => by
  by_cases e : i = k
  · subst e; exact hh
  · exact h i h1 (by omega)
theorem gp_succ {M : List (List Int)} {E : List Int} {X : List Rat} {b : List Int} {k : Nat} (h : gpsK M E X b k) (h1 : k < M.length) (h2 : k < E.length) (h3 : k < b.length) (hh : gapT (plN E[k]) (plN (cmpR (dot M[k] X) (b[k] : Rat))) = true) : gpsK M E X b (k + 1) := fun i k1 k2 k3 hi => by
  by_cases e : i = k
  · subst e; exact hh
  · exact h i k1 k2 k3 (by omega)
theorem sgR_neg {p : Rat} (h : decide (sgnR p < 0) = true) : p < 0 := by
  unfold sgnR at h
  by_cases h1 : p < 0
  · exact h1
  · rw [if_neg h1] at h
    split at h <;> simp at h
theorem sgR_nn {p : Rat} (h : decide (sgnR p < 0) = false) : 0 ≤ p := by
  unfold sgnR at h
  by_cases h1 : p < 0
  · rw [if_pos h1] at h; simp at h
  · exact Rat.not_lt.1 h1
end Go.Proofs.YtbdhanlenekdhaaGreatDoor
/- cert: place, column. -/
namespace Go.Proofs.YtbdhanlenekdhaaGreatDoor
open Go.RowKit
set_option linter.unusedVariables false
set_option maxRecDepth 100000
set_option linter.unusedSimpArgs false

theorem plN_cmp (n : Int) : Lib.compareInt n 0 = (plN n : Int) - 1 := by
  unfold Lib.compareInt plN
  (repeat' split) <;> omega
set_option maxHeartbeats 800000 in
theorem place_any (n : Int) (w : World) : Calls Tryz.prog 63 #[.int .i64 n] w fun e w' => e = .returned (.int .i64 ((plN n : Nat) : Int)) ∧ w' = w := by
  have HP := hid (plN_cmp n)
  have hl := plN_lt n
  generalize plN n = p at *
  go_enter Tryz.func63, Tryz.ntmps63
  go_wp2_with fail
  refine (Tryz.cmp_Compare_int n 0 w).mono ?_
  rintro e X ⟨rfl, hX⟩
  subst hX
  rw [HP.out]
  have hw : wrap64 ((p : Int) - 1 + 1) = (p : Int) := by unfold wrap64; omega
  have hw2 : IntKind.i64.wrap ((p : Int) - 1 + 1) = (p : Int) := by rw [IntKind.wrap_i64]; omega
  go_wp2
  go_ret
  exact ⟨by first | rfl | rw [hw] | rw [hw2] | simp [hw, hw2], rfl⟩
set_option maxHeartbeats 3200000 in
theorem column_any (w : World) (v : Value) (M : List (List Int)) (at_ : Nat) (h : IntRows w v M) (hM : M.length ≤ 64) (hk : ∀ r ∈ M, at_ < r.length) (hat : at_ < 9223372036854775807) :
    Calls Tryz.prog 65 #[v, .int .i64 (at_ : Int)] w fun e w' => (∃ u, e = .returned u ∧ Ints w' u (colN M at_)) ∧ Below w.heap.size w w' := by
  obtain ⟨i0, hi0, hz0, hz1, hz2⟩ := info_parts info_int
  obtain ⟨a, c, rfl, hl, hm⟩ := h.slice
  unfold maxLen at hm
  have HI := hid h
  have HK := hid hk
  clear h hk
  go_enter Tryz.func65, Tryz.ntmps65
  go_wp2
  go_loopw [5, 10] (fun l i wr => ∃ k : Nat, k ≤ M.length ∧ i = .int .i64 (k : Int) ∧ wr.ownsRow w.heap.size 3 1 l k (intV (colN (M.take k) at_)) ∧ Below w.heap.size w wr) (fun _ i _ => M.length - (intOf i).toNat)
  case atStart => exact ⟨0, Nat.zero_le _, rfl, World.ownsRow_nil w _ _ _, Below.refl _ _⟩
  case round =>
    obtain ⟨k, hk, rfl, o, b⟩ := hrel
    by_cases hlt : k < M.length
    · obtain ⟨g, off, c', u, e, hc, hu⟩ := (HI.out.below b).at k hlt
      simp only [Value.slice.injEq] at e
      obtain ⟨rfl, _, rfl⟩ := e
      have hka := HK.out _ (List.getElem_mem hlt)
      obtain ⟨ug, uo, uc, hue, _, hum, huc⟩ := hu.at at_ hka
      subst hue
      unfold maxLen at hum
      have HS := hid (colN_succ M at_ k hlt hka)
      have HFIN := hid (show ∀ (v' : Value) (w4 : World), w4.ownsRow w.heap.size 3 1 v' (k + 1) (intV (colN (M.take k) at_) ++ [.int .i64 (M[k])[at_]]) → w4.ownsRow w.heap.size 3 1 v' (k + 1) (intV (colN (M.take (k + 1)) at_)) from fun v' w4 ho => by
        rw [HS.out, intV_app]; exact ho)
      have hsw := b.size
      obtain ⟨sa, sc, rfl⟩ := own_form4 o
      clear hu HS
      generalize (M[k])[at_] = x at *
      generalize M[k].length = rl at *
      go_wp2_with (at_builtin; refine wpList_append_own_at _ rfl _ _ 23 rfl w.heap.size 3 i0 (.int .i64 0) 1 8 Tryz.underlying23 hi0 hz0 hz1 hz2 rfl (by decide) _ _ _ rfl (o.alloc _) ⟨wr.heap.size, 0, none⟩ 1 1 [.int .i64 x] rfl rfl (cell_one_new _ _ _) (by intro u hu; simp at hu; subst hu; rfl) (by unfold maxLen; omega) (by omega) (by simp; omega) ?_)
      intro v' w4 o4 hgrow _ _
      have b4 : Below w.heap.size w w4 := (b.alloc hsw _).grown hgrow (by simp; omega) (fun g hg => (o.lt g hg).1)
      have o5 := HFIN.out v' w4 o4
      clear o4 o hgrow b HFIN
      go_wp2
      go_roundw
      case rel => exact ⟨k + 1, by omega, by go_num, o5, b4⟩
      case measure => simp [intOf]; omega
    · obtain rfl : k = M.length := by omega
      rw [List.take_length] at o
      obtain ⟨sa, sc, rfl⟩ := own_form4 o
      have HF := hid (show Ints wr (.slice sa M.length sc) (colN M at_) from Row1.of_own (base := w.heap.size) (e := 3) (by rw [intV_len, colN_len]; exact o))
      go_wp2
      go_ret
      exact ⟨⟨_, rfl, HF.out⟩, b⟩
end Go.Proofs.YtbdhanlenekdhaaGreatDoor
/- cert: the document's Numbers. -/
namespace Go.Proofs.YtbdhanlenekdhaaGreatDoor
open Go.RowKit
set_option linter.unusedVariables false
set_option maxRecDepth 100000
set_option linter.unusedSimpArgs false

theorem set4g {w : World} {r : Nat} {t : TypeId} {y0 y1 y2 y3 : Value} (h : w.heap[r]? = some (.cells #[y0, y1, y2, y3] t (0, 0))) (x0 x1 x2 x3 : Value) : ((((w.setCell ⟨r, 0, none⟩ x0).setCell ⟨r, 1, none⟩ x1).setCell ⟨r, 2, none⟩ x2).setCell ⟨r, 3, none⟩ x3).heap[r]? = some (.cells #[x0, x1, x2, x3] t (0, 0)) := by
  have hlt := lt_of_block h
  have h' : w.heap[r] = .cells #[y0, y1, y2, y3] t (0, 0) := by simpa [Array.getElem?_eq_getElem hlt] using h
  simp [World.setCell, Array.getElem_modify, hlt, h']
theorem ls_made {I : World → Value → Rat → Nat → Prop} {e : TypeId} {K : Nat} (w : World) (base : Nat) (hb : base ≤ w.heap.size) : Ls I e (w.alloc (.cells #[] e)) base (.slice (some ⟨w.heap.size, 0, none⟩) 0 0) [] [] K :=
  ⟨World.ownsRow_made w #[] 0 hb (Nat.zero_le _) (by simp), rfl, by simp, fun i h1 h2 => by simp at h2⟩
theorem nums_no {S : List ByteArray} {k : Nat} (hk : k < S.length) (h : ∀ q, ¬ CanR S[k] q) : ¬ ∃ X, Nums S X := fun ⟨X, hX⟩ => h _ (hX.is_ k hk (by rw [hX.len]; exact hk))
set_option maxHeartbeats 12800000 in
theorem hNumbers_any (w : World) (sv : Value) (S : List ByteArray) (hs : Strs w sv S) (hsz : ∀ s ∈ S, s.size ≤ 600) (hn : S.length ≤ 1000) :
    Calls Tryz.prog 12 #[sv] w fun e w' =>
      ((∃ X tv C, Nums S X ∧ e = .returned (.tuple #[tv, .int .i64 0]) ∧ TLs w' w.heap.size tv C X 5100) ∨
       ((¬ ∃ X, Nums S X) ∧ e = .returned (.tuple #[.slice none 0 0, .int .i64 10]))) ∧ Below w.heap.size w w' := by
  obtain ⟨i0, hi0, hz0, hz1, hz2⟩ := info_parts info_refRatZ
  obtain ⟨sa, sc, rfl, sl, sm⟩ := hs.slice
  unfold maxLen at sm
  have HS := hid hs
  have HSZ := hid hsz
  clear hs hsz
  have b0 := (Below.refl w.heap.size w).alloc (Nat.le_refl _) (Obj.cells #[] 43)
  have N0 := hid (ls_made (I := TIs) (e := 43) (K := 5100) w w.heap.size (Nat.le_refl _))
  go_enter Tryz.func12, Tryz.ntmps12
  go_wp2
  generalize w.alloc (Obj.cells #[] 43) = W0 at *
  go_loopw [4, 5] (fun l i wr => ∃ (k : Nat) (C : List (List Value)) (X : List Rat), k ≤ S.length ∧ i = .int .i64 (k : Int) ∧ Hid (Nums (S.take k) X) ∧ Hid (TLs wr w.heap.size l C X 5100) ∧ Below w.heap.size w wr) (fun _ i _ => S.length - (intOf i).toNat)
  case atStart => exact ⟨0, [], [], Nat.zero_le _, rfl, Nums.nil, N0, b0⟩
  case round =>
    obtain ⟨k, C, X, hk, rfl, HNU, HL, bw⟩ := hrel
    have hXl : X.length = k := by rw [HNU.out.len, List.length_take]; omega
    obtain ⟨la_, lc, hle, hll, hlm⟩ := HL.out.slice
    subst hle
    have HXL := hid hXl
    have hX64 : X.length ≤ 1000 := by omega
    clear hXl
    by_cases hlt : k < S.length
    · obtain ⟨tb, toff, tcp, te, _, _, hc, _⟩ := (HS.out.below bw).at k hlt
      simp only [Value.slice.injEq] at te
      obtain ⟨rfl, -, rfl⟩ := te
      have hk255 := HSZ.out _ (List.getElem_mem hlt)
      have HPA := hid (t_parse S[k] wr (by omega))
      go_wp2_with fail
      refine HPA.out.mono ?_
      rintro e Y1 ⟨hr, bY1⟩
      clear HPA hc
      rcases hr with ⟨q, v, hcan, rfl, hq⟩ | ⟨hno, rfl⟩
      · obtain ⟨s1, s2, s3, s4, s5, s6, s7, s8, rfl⟩ := hq.form
        have bA := boxed2 (Below.refl Y1.heap.size Y1) (Obj.cells #[.bool s1, .slice s2 s3 s4, .bool s5, .slice s6 s7 s8] 43) (Obj.cells #[.bool s1, .slice s2 s3 s4, .bool s5, .slice s6 s7 s8] 43)
        have n1 := boxed2_first Y1 (Obj.cells #[.bool s1, .slice s2 s3 s4, .bool s5, .slice s6 s7 s8] 43) (Obj.cells #[.bool s1, .slice s2 s3 s4, .bool s5, .slice s6 s7 s8] 43)
        obtain ⟨t0, t1, t2, t3⟩ := four_cell (box_new Y1 (Obj.cells #[.bool s1, .slice s2 s3 s4, .bool s5, .slice s6 s7 s8] 43))
        have bY := chain2 bY1 bA
        have la := Ls.below (fun h b => h.below b) HL.out bY
        have own := la.own
        have hfn : ∀ j u, [Value.bool s1, .slice s2 s3 s4, .bool s5, .slice s6 s7 s8][j]? = some u → ((Y1.alloc (Obj.cells #[.bool s1, .slice s2 s3 s4, .bool s5, .slice s6 s7 s8] 43)).alloc (Obj.cells #[.bool s1, .slice s2 s3 s4, .bool s5, .slice s6 s7 s8] 43)).cell? ((⟨Y1.heap.size + 1, 0, none⟩ : Addr).add j) = some u := by
          have := four_new (Y1.alloc (Obj.cells #[.bool s1, .slice s2 s3 s4, .bool s5, .slice s6 s7 s8] 43)) 43 (.bool s1) (.slice s2 s3 s4) (.bool s5) (.slice s6 s7 s8)
          simpa using this
        have HLA := hid la
        have HQA := hid ((hq.below bA).mono (show S[k].size / 9 + 8 ≤ 5100 by omega))
        have HBY := hid bY
        have hbs : w.heap.size ≤ ((Y1.alloc (Obj.cells #[.bool s1, .slice s2 s3 s4, .bool s5, .slice s6 s7 s8] 43)).alloc (Obj.cells #[.bool s1, .slice s2 s3 s4, .bool s5, .slice s6 s7 s8] 43)).heap.size := Nat.le_trans bw.size bY.size
        have HCN := hid hcan
        clear la bA n1 bY hq hcan bY1
        generalize S[k].size = sz at *
        go_wp2_with (first | (refine wpList_store_fresh rfl 43 _ _ rfl _ _ _ rfl (by simp) rfl 4 info_refRat (by rfl) (by rfl) (by simp [Value.oneCell']) ?_) | (at_builtin; refine wpList_append_own_at _ rfl _ _ 34 rfl w.heap.size 43 i0 (.agg #[.bool false, .slice none 0 0, .bool false, .slice none 0 0]) 4 64 Tryz.underlying34 hi0 hz0 hz1 hz2 rfl (by decide) (.slice la_ X.length lc) X.length C.flatten rfl own ⟨Y1.heap.size + 1, 0, none⟩ 1 1 [.bool s1, .slice s2 s3 s4, .bool s5, .slice s6 s7 s8] rfl rfl hfn (by intro u hu; simp at hu; rcases hu with rfl | rfl | rfl | rfl <;> rfl) (by unfold maxLen; omega) (by omega) hbs ?_))
        intro v' Y5 o5 hg5 _ hat5
        have kg : Kty 43 43 _ Y5 := Kty.of_grown hg5 (fun g hg => own_ty own g hg)
        have hpush := Ls.push HLA.out (w' := Y5) (v' := v') (x0 := .bool s1) (x1 := .slice s2 s3 s4) (x2 := .bool s5) (x3 := .slice s6 s7 s8) (q := q) o5 (fun h => TIs.kty h kg (by decide) (by decide)) HQA.out
        have B5 := (bw.trans (HBY.out.mono bw.size)).grown hg5 hbs (fun g hg => (own.lt g hg).1)
        have HPU := hid hpush
        have HNP := hid (HNU.out.push hlt HCN.out)
        clear hpush kg own hfn o5 hg5 hat5 hbs t0 t1 t2 t3
        go_wp2
        go_roundw
        case rel => exact ⟨k + 1, _, _, by omega, by go_num, HNP, HPU, B5⟩
        case measure => simp [intOf]; omega
      · have bA := (Below.refl Y1.heap.size Y1).alloc (Nat.le_refl _) (Obj.cells #[.bool false, .slice none 0 0, .bool false, .slice none 0 0] 43)
        have bY := chain2 bY1 bA
        have BA := bw.trans (bY.mono bw.size)
        have HNN := hid (nums_no hlt hno)
        clear bA bY bY1 hno
        go_wp2
        go_ret2
        exact ⟨Or.inr ⟨HNN.out, rfl⟩, BA⟩
    · obtain rfl : k = S.length := by omega
      rw [List.take_length] at HNU
      go_wp2
      go_ret2
      exact ⟨Or.inl ⟨X, _, C, HNU.out, rfl, HL.out⟩, bw⟩
end Go.Proofs.YtbdhanlenekdhaaGreatDoor
/- cert: heavy, theirs. -/
namespace Go.Proofs.YtbdhanlenekdhaaGreatDoor
open Go.RowKit
set_option linter.unusedVariables false
set_option maxRecDepth 100000
set_option linter.unusedSimpArgs false

/-- A slice of slices of texts. -/
def StrRows (w : World) (v : Value) (M : List (List ByteArray)) : Prop :=
  ∃ vs : List Value, Row1 w v vs ∧ vs.length = M.length ∧ ∀ i (h1 : i < vs.length) (h2 : i < M.length), Strs w vs[i] M[i]
theorem StrRows.below {w w' : World} {v : Value} {M : List (List ByteArray)} (h : StrRows w v M) (b : Below w.heap.size w w') : StrRows w' v M := by
  obtain ⟨vs, h1, h2, h3⟩ := h
  exact ⟨vs, h1.below b, h2, fun i k1 k2 => (h3 i k1 k2).below b⟩
theorem StrRows.slice {w : World} {v : Value} {M : List (List ByteArray)} (h : StrRows w v M) : ∃ a c, v = .slice a M.length c ∧ M.length ≤ c ∧ c ≤ maxLen := by
  obtain ⟨vs, h1, h2, _⟩ := h
  rw [← h2]
  exact h1.slice
theorem StrRows.at {w : World} {v : Value} {M : List (List ByteArray)} (h : StrRows w v M) (i : Nat) (hi : i < M.length) : ∃ b off c u, v = .slice (some ⟨b, off, none⟩) M.length c ∧ w.cell? ⟨b, off + i, none⟩ = some u ∧ Strs w u M[i] := by
  obtain ⟨vs, h1, h2, h3⟩ := h
  obtain ⟨b, off, c, e, _, _, hc⟩ := h1.at i (by omega)
  exact ⟨b, off, c, _, by rw [e, h2], hc, h3 i (by omega) hi⟩
def szL (S : List ByteArray) : Nat := (S.map ByteArray.size).sum
def szM (M : List (List ByteArray)) : Nat := (M.map szL).sum
theorem szL_succ (S : List ByteArray) (k : Nat) (h : k < S.length) : szL (S.take (k + 1)) = szL (S.take k) + S[k].size := by
  unfold szL
  rw [List.take_succ_eq_append_getElem h, List.map_append, List.sum_append]; simp
theorem szM_succ (M : List (List ByteArray)) (k : Nat) (h : k < M.length) : szM (M.take (k + 1)) = szM (M.take k) + szL M[k] := by
  unfold szM
  rw [List.take_succ_eq_append_getElem h, List.map_append, List.sum_append]; simp
theorem szL_mem : ∀ {S : List ByteArray} {s : ByteArray}, s ∈ S → s.size ≤ szL S
  | [], s, h => by cases h
  | x :: S, s, h => by
    unfold szL
    rw [List.map_cons, List.sum_cons]
    rcases List.mem_cons.1 h with rfl | h
    · omega
    · have := szL_mem h
      unfold szL at this
      omega
theorem wrap_in {x : Int} (h : -9223372036854775808 ≤ x) (k : x ≤ 9223372036854775807) : wrap64 x = x := by unfold wrap64; omega
theorem wrap_rng (x : Int) : -9223372036854775808 ≤ wrap64 x ∧ wrap64 x ≤ 9223372036854775807 := by unfold wrap64; omega
theorem four_small {a b c d z1 z2 z3 : Int} (a0 : 0 ≤ a) (a1 : a ≤ 64) (b0 : 0 ≤ b) (b1 : b ≤ 64) (c0 : 0 ≤ c) (c1 : c ≤ 64) (d0 : 0 ≤ d) (d1 : d ≤ 64) (h1 : z1 = wrap64 (a + b)) (h2 : z2 = wrap64 (z1 + c)) (h3 : z3 = wrap64 (z2 + d)) : 0 ≤ z3 := by
  rw [wrap_in (by omega) (by omega)] at h1
  subst h1
  rw [wrap_in (by omega) (by omega)] at h2
  subst h2
  rw [wrap_in (by omega) (by omega)] at h3
  omega
theorem min_eqs (x : Nat) : min (x : Int) 1048576 = ((min x 1048576 : Nat) : Int) := by omega
/-- What heavy tells. -/
def Hvy (P : Prb) (M : List (List ByteArray)) (e : Ending) : Prop := ∃ R : Bool, e = .returned (.bool R) ∧ (R = false → P.rows.length ≤ 64 → P.rel.length ≤ 64 → P.b.length ≤ 64 → P.c.length ≤ 64 → szM M ≤ 256)
set_option maxHeartbeats 12800000 in
theorem heavy11_any (w : World) (rv ev bv cv lv : Value) (P : Prb) (M : List (List ByteArray)) (hp : IsPrb w rv ev bv cv P) (hl : StrRows w lv M) :
    Calls Tryz.prog 8 #[.agg #[rv, ev, bv, cv], lv] w fun e w' => Hvy P M e ∧ Below w.heap.size w w' := by
  obtain ⟨ra, rc, rfl, rl, rm⟩ := hp.rows.slice
  obtain ⟨ea, ec, rfl, el, em⟩ := hp.rel.slice
  obtain ⟨ba, bc, rfl, bl, bm⟩ := hp.b.slice
  obtain ⟨ca, cc, rfl, cl, cm⟩ := hp.c.slice
  obtain ⟨la, lc, rfl, ll, lm⟩ := hl.slice
  unfold maxLen at rm em bm cm lm
  have b0 := (Below.refl w.heap.size w).alloc (Nat.le_refl _) (Obj.cells #[.slice ra P.rows.length rc, .slice ea P.rel.length ec, .slice ba P.b.length bc, .slice ca P.c.length cc] 25)
  have x0 := box_new w (Obj.cells #[.slice ra P.rows.length rc, .slice ea P.rel.length ec, .slice ba P.b.length bc, .slice ca P.c.length cc] 25)
  have y0 := bxc x0 0 (.slice ra P.rows.length rc) rfl
  have y1 := bxc x0 1 (.slice ea P.rel.length ec) rfl
  have y2 := bxc x0 2 (.slice ba P.b.length bc) rfl
  have y3 := bxc x0 3 (.slice ca P.c.length cc) rfl
  have HPB := hid x0
  have HP := hid (hp.below b0)
  have HL := hid (hl.below b0)
  have HB0 := hid b0
  clear hp b0 x0 hl
  obtain ⟨z1, HZ1⟩ : ∃ z1, Hid (z1 = wrap64 ((P.rows.length : Int) + (P.rel.length : Int))) := ⟨_, hid rfl⟩
  obtain ⟨z2, HZ2⟩ : ∃ z2, Hid (z2 = wrap64 (z1 + (P.b.length : Int))) := ⟨_, hid rfl⟩
  obtain ⟨z3, HZ3⟩ : ∃ z3, Hid (z3 = wrap64 (z2 + (P.c.length : Int))) := ⟨_, hid rfl⟩
  have hzr : -9223372036854775808 ≤ z3 ∧ z3 ≤ 9223372036854775807 := by rw [HZ3.out]; exact wrap_rng _
  have HZC := hid (show P.rows.length ≤ 64 → P.rel.length ≤ 64 → P.b.length ≤ 64 → P.c.length ≤ 64 → 0 ≤ z3 from fun k1 k2 k3 k4 => four_small (by omega) (by omega) (by omega) (by omega) (by omega) (by omega) (by omega) (by omega) HZ1.out HZ2.out HZ3.out)
  obtain ⟨Sm, HSm⟩ : ∃ Sm : Prop, Hid ((P.rows.length ≤ 64 ∧ P.rel.length ≤ 64 ∧ P.b.length ≤ 64 ∧ P.c.length ≤ 64) ↔ Sm) := ⟨_, hid Iff.rfl⟩
  have HZ0 := hid (show Sm → 0 ≤ z3 from fun hs => by obtain ⟨k1, k2, k3, k4⟩ := HSm.out.2 hs; exact HZC.out k1 k2 k3 k4)
  clear HZC
  go_enter Tryz.func8, Tryz.ntmps8
  go_wp2
  rw [← HZ1.out, ← HZ2.out, ← HZ3.out]
  clear HZ1 HZ2 HZ3 y0 y1 y2 y3
  generalize w.alloc (Obj.cells #[.slice ra P.rows.length rc, .slice ea P.rel.length ec, .slice ba P.b.length bc, .slice ca P.c.length cc] 25) = W at *
  go_loopw [5, 6] (fun m i wr => ∃ (k : Nat) (z : Int), k ≤ P.rows.length ∧ i = .int .i64 (k : Int) ∧ m = .int .i64 z ∧ (-9223372036854775808 ≤ z ∧ z ≤ 9223372036854775807) ∧ Hid (Sm → 0 ≤ z) ∧ wr = W) (fun _ i _ => P.rows.length - (intOf i).toNat)
  case atStart => exact ⟨0, z3, Nat.zero_le _, rfl, rfl, hzr, HZ0, rfl⟩
  case round =>
    clear hzr HZ0
    obtain ⟨k, z, hk, rfl, rfl, hz, HZ, hwr⟩ := hrel
    have hwr2 := hwr.symm
    clear hwr
    subst hwr2
    have y0 := bxc HPB.out 0 (.slice ra P.rows.length rc) rfl
    have y1 := bxc HPB.out 1 (.slice ea P.rel.length ec) rfl
    have y2 := bxc HPB.out 2 (.slice ba P.b.length bc) rfl
    have y3 := bxc HPB.out 3 (.slice ca P.c.length cc) rfl
    by_cases hgo : k < P.rows.length ∧ z ≤ 256
    · obtain ⟨hlt, hzle⟩ := hgo
      have hz256 : decide (z ≤ 256) = true := by simpa using hzle
      obtain ⟨rb, ro, rcap, ru, re, rcell, hru⟩ := HP.out.rows.at k hlt
      simp only [Value.slice.injEq] at re
      obtain ⟨rfl, -, rfl⟩ := re
      obtain ⟨ua, uc, hue, _, hum⟩ := hru.slice
      subst hue
      unfold maxLen at hum
      clear hru
      generalize P.rows[k].length = XX at *
      obtain ⟨A, hA, hA2, hA3⟩ : ∃ A : Nat, A = min XX 1048576 ∧ (min (XX : Int) 1048576) = (A : Int) ∧ (if (1048576 : Int) < (XX : Int) then (1048576 : Int) else (XX : Int)) = (A : Int) := ⟨_, rfl, by omega, by split <;> omega⟩
      have lA : A ≤ 1048576 := by omega
      have HA := hid hA
      clear hA
      have hw : wrap64 (z + (A : Int)) = z + (A : Int) := wrap_in (by omega) (by omega)
      have hw2 : IntKind.i64.wrap (z + (A : Int)) = z + (A : Int) := by rw [IntKind.wrap_i64]; omega
      have HN := hid (show Sm → 0 ≤ z + (A : Int) from fun hs => by have := HZ.out hs; omega)
      go_wp2
      go_roundw
      case rel => exact ⟨k + 1, z + (A : Int), by omega, by go_num, by first | rfl | rw [hw] | rw [hw2], by omega, HN, by simp⟩
      case measure => simp [intOf]; omega
    · have hex : (¬ (k : Int) < (P.rows.length : Int) ∧ (decide (z ≤ 256) = decide (z ≤ 256))) ∨ ((k : Int) < (P.rows.length : Int) ∧ decide (z ≤ 256) = false) := by
        by_cases h1 : k < P.rows.length
        · right; exact ⟨by omega, by simp; omega⟩
        · left; exact ⟨by omega, rfl⟩
      rcases hex with ⟨h, -⟩ | ⟨h, hz256⟩
      all_goals
        go_wp2
        (try clear hz256)
        clear h y0 y1 y2 y3
        go_loopw [5, 7] (fun m i wr => ∃ (i2 : Nat) (z : Int), i2 ≤ M.length ∧ i = .int .i64 (i2 : Int) ∧ m = .int .i64 z ∧ (-9223372036854775808 ≤ z ∧ z ≤ 9223372036854775807) ∧ Hid (Sm → 0 ≤ z ∧ (z ≤ 256 → ((szM (M.take i2) : Nat) : Int) ≤ z)) ∧ wr = W) (fun _ i _ => M.length - (intOf i).toNat)
        case atStart => exact ⟨0, z, Nat.zero_le _, rfl, rfl, hz, fun hs => ⟨HZ.out hs, fun _ => by have := HZ.out hs; simpa [szM] using this⟩, rfl⟩
        case round =>
          clear hz HZ
          obtain ⟨i2, z, hi2, rfl, rfl, hz, HZ, hwr⟩ := hrel
          have hwr2 := hwr.symm
          clear hwr
          subst hwr2
          by_cases hgo : i2 < M.length ∧ z ≤ 256
          · obtain ⟨hlt2, hzle⟩ := hgo
            have hz256 : decide (z ≤ 256) = true := by simpa using hzle
            obtain ⟨rb, ro, rcap, ru, re, rcell, hru⟩ := HL.out.at i2 hlt2
            simp only [Value.slice.injEq] at re
            obtain ⟨rfl, -, rfl⟩ := re
            obtain ⟨ua, uc, hue, _, hum⟩ := hru.slice
            subst hue
            unfold maxLen at hum
            have HSM := hid (szM_succ M i2 hlt2)
            obtain ⟨XX, hXX⟩ : ∃ XX, XX = M[i2].length := ⟨_, rfl⟩
            obtain ⟨A, hA, hA2, hA3⟩ : ∃ A : Nat, A = min M[i2].length 1048576 ∧ (min (M[i2].length : Int) 1048576) = (A : Int) ∧ (if (1048576 : Int) < (M[i2].length : Int) then (1048576 : Int) else (M[i2].length : Int)) = (A : Int) := ⟨_, rfl, by omega, by split <;> omega⟩
            have lA : A ≤ 1048576 := by omega
            have HA := hid hA
            clear hA
            have hw : wrap64 (z + (A : Int)) = z + (A : Int) := wrap_in (by omega) (by omega)
            have hw2 : IntKind.i64.wrap (z + (A : Int)) = z + (A : Int) := by rw [IntKind.wrap_i64]; omega
            have HN := hid (show Sm → 0 ≤ z + (A : Int) ∧ (z + (A : Int) ≤ 256 → ((szM (M.take i2) + szL (M[i2].take 0) : Nat) : Int) ≤ z + (A : Int)) from fun hs => ⟨by have := (HZ.out hs).1; omega, fun h2 => by have := (HZ.out hs).2 hzle; simp [szL]; omega⟩)
            clear hXX
            go_wp2
            go_loopw [5, 8] (fun m i wr => ∃ (k : Nat) (z : Int), k ≤ M[i2].length ∧ i = .int .i64 (k : Int) ∧ m = .int .i64 z ∧ (-9223372036854775808 ≤ z ∧ z ≤ 9223372036854775807) ∧ Hid (Sm → 0 ≤ z ∧ (z ≤ 256 → ((szM (M.take i2) + szL (M[i2].take k) : Nat) : Int) ≤ z)) ∧ wr = W) (fun _ i _ => M[i2].length - (intOf i).toNat)
            case atStart => exact ⟨0, z + (A : Int), Nat.zero_le _, rfl, by first | rfl | rw [hw] | rw [hw2], by omega, HN, by simp⟩
            case round =>
              clear hw hw2 HN hz HZ hzle hz256 hA2 hA3 HA lA
              obtain ⟨k3, z, hk3, rfl, rfl, hz, HZ, hwr⟩ := hrel
              have hwr2 := hwr.symm
              clear hwr
              subst hwr2
              by_cases hgo : k3 < M[i2].length ∧ z ≤ 256
              · obtain ⟨hlt3, hzle⟩ := hgo
                have hz256 : decide (z ≤ 256) = true := by simpa using hzle
                obtain ⟨tb, toff, tcp, te, _, _, htc, htm⟩ := hru.at k3 hlt3
                simp only [Value.slice.injEq] at te
                obtain ⟨rfl, -, rfl⟩ := te
                unfold maxLen at htm
                have HSU := hid (szL_succ M[i2] k3 hlt3)
                have hlt3' : (k3 : Int) < (M[i2].length : Int) := by omega
                have HK3 := hid hlt3
                generalize M[i2][k3] = str at *
                clear hlt3
                obtain ⟨A, hA, hA2, hA3⟩ : ∃ A : Nat, A = min str.size 1048576 ∧ (min (str.size : Int) 1048576) = (A : Int) ∧ (if (1048576 : Int) < (str.size : Int) then (1048576 : Int) else (str.size : Int)) = (A : Int) := ⟨_, rfl, by omega, by split <;> omega⟩
                have lA : A ≤ 1048576 := by omega
                have HA := hid hA
                clear hA
                have hw : wrap64 (z + (A : Int)) = z + (A : Int) := wrap_in (by omega) (by omega)
                have hw2 : IntKind.i64.wrap (z + (A : Int)) = z + (A : Int) := by rw [IntKind.wrap_i64]; omega
                have HN := hid (show Sm → 0 ≤ z + (A : Int) ∧ (z + (A : Int) ≤ 256 → ((szM (M.take i2) + szL (M[i2].take (k3 + 1)) : Nat) : Int) ≤ z + (A : Int)) from fun hs => ⟨by have := (HZ.out hs).1; omega, fun h2 => by have h4 := (HZ.out hs).2 hzle; have h5 := HA.out; have h6 := (HZ.out hs).1; rw [HSU.out]; omega⟩)
                go_wp2
                go_roundw
                case rel => exact ⟨k3 + 1, z + (A : Int), HK3.out, by go_num, by first | rfl | rw [hw] | rw [hw2], by omega, HN, by simp⟩
                case measure => have := HK3.out; simp [intOf]; omega
              · have HN := hid (show Sm → 0 ≤ z ∧ (z ≤ 256 → ((szM (M.take (i2 + 1)) : Nat) : Int) ≤ z) from fun hs => ⟨(HZ.out hs).1, fun h2 => by
                  have h3 : k3 = M[i2].length := by omega
                  have := (HZ.out hs).2 h2
                  rw [h3, List.take_length] at this
                  rw [HSM.out]; exact this⟩)
                rcases (show ¬ k3 < M[i2].length ∨ (k3 < M[i2].length ∧ ¬ z ≤ 256) by omega) with h | ⟨hh, h⟩
                · have h' : ¬ (k3 : Int) < (M[i2].length : Int) := by omega
                  go_wp2
                  exact ⟨⟨i2 + 1, z, by omega, by go_num, rfl, hz, HN, by simp⟩, by simp [intOf]; omega⟩
                · have h' : (k3 : Int) < (M[i2].length : Int) := by omega
                  have hz256 : decide (z ≤ 256) = false := by simpa using h
                  go_wp2
                  exact ⟨⟨i2 + 1, z, by omega, by go_num, rfl, hz, HN, by simp⟩, by simp [intOf]; omega⟩
          · have HN := hid (show ¬ (256 < z) → Sm → szM M ≤ 256 from fun hR hs => by
              have h3 : i2 = M.length := by omega
              have := (HZ.out hs).2 (by omega)
              rw [h3, List.take_length] at this
              omega)
            have HFIN := hid (show decide (256 < z) = false → P.rows.length ≤ 64 → P.rel.length ≤ 64 → P.b.length ≤ 64 → P.c.length ≤ 64 → szM M ≤ 256 from fun hR k1 k2 k3 k4 => HN.out (by simpa using hR) (HSm.out.1 ⟨k1, k2, k3, k4⟩))
            rcases (show ¬ i2 < M.length ∨ (i2 < M.length ∧ ¬ z ≤ 256) by omega) with h | ⟨hh, h⟩
            · have h' : ¬ (i2 : Int) < (M.length : Int) := by omega
              go_wp2
              go_ret
              exact ⟨⟨_, rfl, by first | exact HFIN.out | exact (fun h => by cases h)⟩, HB0.out⟩
            · have h' : (i2 : Int) < (M.length : Int) := by omega
              have hz256 : decide (z ≤ 256) = false := by simpa using h
              go_wp2
              go_ret
              exact ⟨⟨_, rfl, by first | exact HFIN.out | exact (fun h => by cases h)⟩, HB0.out⟩
theorem info_refPrb : (Tryz.prog.info? 32).map (·.size) = some 4 := by kernel_rfl
set_option maxHeartbeats 3200000 in
theorem theirs11_any (w : World) (rv ev bv cv : Value) (P : Prb) (hp : IsPrb w rv ev bv cv P) :
    Calls Tryz.prog 11 #[.agg #[rv, ev, bv, cv]] w fun e w' => e = .returned (.agg #[rv, ev, bv, cv]) ∧ Below w.heap.size w w' := by
  obtain ⟨ra, rc, rfl, rl, rm⟩ := hp.rows.slice
  obtain ⟨ea, ec, rfl, el, em⟩ := hp.rel.slice
  obtain ⟨ba, bc, rfl, bl, bm⟩ := hp.b.slice
  obtain ⟨ca, cc, rfl, cl, cm⟩ := hp.c.slice
  unfold maxLen at rm em bm cm
  have b0 := boxed2 (Below.refl w.heap.size w) (Obj.cells #[.slice ra P.rows.length rc, .slice ea P.rel.length ec, .slice ba P.b.length bc, .slice ca P.c.length cc] 25) (Obj.cells #[.slice none 0 0, .slice none 0 0, .slice none 0 0, .slice none 0 0] 32)
  have x0 := boxed2_first w (Obj.cells #[.slice ra P.rows.length rc, .slice ea P.rel.length ec, .slice ba P.b.length bc, .slice ca P.c.length cc] 25) (Obj.cells #[.slice none 0 0, .slice none 0 0, .slice none 0 0, .slice none 0 0] 32)
  have z0 := boxed2_second w (Obj.cells #[.slice ra P.rows.length rc, .slice ea P.rel.length ec, .slice ba P.b.length bc, .slice ca P.c.length cc] 25) (Obj.cells #[.slice none 0 0, .slice none 0 0, .slice none 0 0, .slice none 0 0] 32)
  have y0 := bxc x0 0 (.slice ra P.rows.length rc) rfl
  have y1 := bxc x0 1 (.slice ea P.rel.length ec) rfl
  have y2 := bxc x0 2 (.slice ba P.b.length bc) rfl
  have y3 := bxc x0 3 (.slice ca P.c.length cc) rfl
  obtain ⟨c0, c1, c2, c3⟩ := four_cell z0
  have fr := free_four z0
  have rS := set4g z0 (.slice ra P.rows.length rc) (.slice ea P.rel.length ec) (.slice ba P.b.length bc) (.slice ca P.c.length cc)
  obtain ⟨r0, r1, r2, r3⟩ := four_cell rS
  have HO := hid (And.intro r0 (And.intro r1 (And.intro r2 r3)))
  have BS := hid (set4_below (o := 0) b0 (show w.heap.size ≤ w.heap.size + 1 by omega) (.slice ra P.rows.length rc) (.slice ea P.rel.length ec) (.slice ba P.b.length bc) (.slice ca P.c.length cc))
  have BN := hid (boxed2 (Below.refl w.heap.size w) (Obj.cells #[.slice ra P.rows.length rc, .slice ea P.rel.length ec, .slice ba P.b.length bc, .slice ca P.c.length cc] 25) (Obj.cells #[.slice ra P.rows.length rc, .slice ea P.rel.length ec, .slice ba P.b.length bc, .slice ca P.c.length cc] 32))
  clear hp b0 x0 z0 rS r0 r1 r2 r3
  go_enter Tryz.func11, Tryz.ntmps11
  go_wp2
  exact bodyPost_ret (v := .agg #[.slice ra P.rows.length rc, .slice ea P.rel.length ec, .slice ba P.b.length bc, .slice ca P.c.length cc]) (by simp [results, Tryz.results11, go_sem, HO.out.1, HO.out.2.1, HO.out.2.2.1, HO.out.2.2.2]) rfl ⟨rfl, by first | exact BN.out | exact BS.out⟩
end Go.Proofs.YtbdhanlenekdhaaGreatDoor
