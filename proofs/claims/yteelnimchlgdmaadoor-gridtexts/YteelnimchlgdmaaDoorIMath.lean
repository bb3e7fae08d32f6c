/- grid, plain: lines, what they join, the least zone that is come to. -/
namespace Go.Proofs.YteelnimchlgdmaaDoor
set_option linter.unusedVariables false
/-- A line: from, to, cap. -/
structure Ln where
  f : Int
  t : Int
  c : Int
instance : Inhabited Ln := ⟨⟨0, 0, 0⟩⟩
/-- What lines that may carry something join. -/
inductive Con (S : List Ln) : Nat → Nat → Prop
  | refl (a : Nat) : Con S a a
  | fwd {a : Nat} {l : Ln} : Con S a l.f.toNat → l ∈ S → 0 < l.c → Con S a l.t.toNat
  | bwd {a : Nat} {l : Ln} : Con S a l.t.toNat → l ∈ S → 0 < l.c → Con S a l.f.toNat
theorem Con.trans {S : List Ln} {a b c : Nat} (h : Con S a b) (k : Con S b c) : Con S a c := by
  induction k with
  | refl => exact h
  | fwd _ m p ih => exact .fwd ih m p
  | bwd _ m p ih => exact .bwd ih m p
theorem Con.one {S : List Ln} {l : Ln} (m : l ∈ S) (p : 0 < l.c) : Con S l.f.toNat l.t.toNat := .fwd (.refl _) m p
theorem Con.eno {S : List Ln} {l : Ln} (m : l ∈ S) (p : 0 < l.c) : Con S l.t.toNat l.f.toNat := .bwd (.refl _) m p
theorem Con.symm {S : List Ln} {a b : Nat} (h : Con S a b) : Con S b a := by
  induction h with
  | refl => exact .refl _
  | fwd _ m p ih => exact (Con.eno m p).trans ih
  | bwd _ m p ih => exact (Con.one m p).trans ih
/-- Lines of a grid that may be. -/
def Fit (S : List Ln) (n : Nat) : Prop := ∀ l ∈ S, 0 ≤ l.f ∧ l.f < n ∧ 0 ≤ l.t ∧ l.t < n ∧ l.f ≠ l.t ∧ 0 ≤ l.c
theorem Con.lt {S : List Ln} {n a b : Nat} (hS : Fit S n) (h : Con S a b) (ha : a < n) : b < n := by
  induction h with
  | refl => exact ha
  | fwd _ m p ih => have := hS _ m; omega
  | bwd _ m p ih => have := hS _ m; omega
def at' (R : List Nat) (i : Nat) : Nat := R.getD i 0
theorem at_set (R : List Nat) (i j x : Nat) : at' (R.set i x) j = if i = j ∧ i < R.length then x else at' R j := by
  unfold at'
  simp only [List.getD_eq_getElem?_getD, List.getElem?_set]
  by_cases h : i = j
  · subst h
    by_cases h2 : i < R.length
    · simp [h2]
    · simp [h2]
  · simp [h]
/-- What each list of least zones keeps. -/
structure Isl (S : List Ln) (n : Nat) (R : List Nat) : Prop where
  len : R.length = n
  le : ∀ z, z < n → at' R z ≤ z
  con : ∀ z, z < n → Con S z (at' R z)
/-- Where all lines join what is alike. -/
def Clo (S : List Ln) (R : List Nat) : Prop := ∀ l ∈ S, 0 < l.c → at' R l.f.toNat = at' R l.t.toNat
theorem Clo.con {S : List Ln} {R : List Nat} (h : Clo S R) {a b : Nat} (k : Con S a b) : at' R a = at' R b := by
  induction k with
  | refl => rfl
  | fwd _ m p ih => exact ih.trans (h _ m p)
  | bwd _ m p ih => exact ih.trans (h _ m p).symm
theorem isl_le {S : List Ln} {n : Nat} {R Q : List Nat} (hS : Fit S n) (a : Isl S n R) (c : Clo S R) (b : Isl S n Q) (z : Nat) (hz : z < n) : at' R z ≤ at' Q z := by
  have k := b.con z hz
  rw [c.con k]
  exact a.le _ (k.lt hS hz)
theorem isl_uniq {S : List Ln} {n : Nat} {R Q : List Nat} (hS : Fit S n) (a : Isl S n R) (c : Clo S R) (b : Isl S n Q) (d : Clo S Q) : R = Q := by
  apply List.ext_getElem (by rw [a.len, b.len])
  intro i h1 h2
  have hi : i < n := by rw [← a.len]; exact h1
  have e := Nat.le_antisymm (isl_le hS a c b i hi) (isl_le hS b d a i hi)
  unfold at' at e
  simpa [List.getD_eq_getElem?_getD, h1, h2] using e
theorem isl_self {S : List Ln} {n : Nat} {R : List Nat} (hS : Fit S n) (a : Isl S n R) (c : Clo S R) (z : Nat) (hz : z < n) : at' R (at' R z) = at' R z := (c.con (a.con z hz)).symm
/-- The two ends of a line made alike. -/
def joinL (R : List Nat) (l : Ln) : List Nat := (R.set l.f.toNat (min (at' R l.f.toNat) (at' R l.t.toNat))).set l.t.toNat (min (at' R l.f.toNat) (at' R l.t.toNat))
theorem join_at {S : List Ln} {n : Nat} {R : List Nat} (hS : Fit S n) (hR : R.length = n) {l : Ln} (m : l ∈ S) (z : Nat) :
    at' (joinL R l) z = if z = l.f.toNat ∨ z = l.t.toNat then min (at' R l.f.toNat) (at' R l.t.toNat) else at' R z := by
  have k := hS _ m
  unfold joinL
  rw [at_set, at_set]
  simp only [List.length_set]
  by_cases h1 : l.t.toNat = z
  · rw [if_pos ⟨h1, by omega⟩, if_pos (Or.inr h1.symm)]
  · rw [if_neg (fun h => h1 h.1)]
    by_cases h2 : l.f.toNat = z
    · rw [if_pos ⟨h2, by omega⟩, if_pos (Or.inl h2.symm)]
    · rw [if_neg (fun h => h2 h.1), if_neg (by omega)]
theorem join_isl {S : List Ln} {n : Nat} {R : List Nat} (hS : Fit S n) (a : Isl S n R) {l : Ln} (m : l ∈ S) (p : 0 < l.c) : Isl S n (joinL R l) := by
  have k := hS _ m
  have af := a.le l.f.toNat (by omega)
  have at2 := a.le l.t.toNat (by omega)
  have cf := a.con l.f.toNat (by omega)
  have ct := a.con l.t.toNat (by omega)
  refine ⟨by unfold joinL; simpa using a.len, ?_, ?_⟩
  · intro z hz
    rw [join_at hS a.len m]
    split
    · rename_i h
      rcases h with rfl | rfl
      · omega
      · omega
    · exact a.le z hz
  · intro z hz
    rw [join_at hS a.len m]
    split
    · rename_i h
      have hm : Con S l.f.toNat (min (at' R l.f.toNat) (at' R l.t.toNat)) := by
        rcases Nat.le_total (at' R l.f.toNat) (at' R l.t.toNat) with q | q
        · rw [Nat.min_eq_left q]; exact cf
        · rw [Nat.min_eq_right q]; exact (Con.one m p).trans ct
      rcases h with rfl | rfl
      · exact hm
      · exact (Con.eno m p).trans hm
    · exact a.con z hz
theorem join_le {S : List Ln} {n : Nat} {R : List Nat} (hS : Fit S n) (hR : R.length = n) {l : Ln} (m : l ∈ S) (z : Nat) : at' (joinL R l) z ≤ at' R z := by
  rw [join_at hS hR m]
  split
  · rename_i h
    rcases h with rfl | rfl
    · exact Nat.min_le_left _ _
    · exact Nat.min_le_right _ _
  · exact Nat.le_refl _
/-- The sum of all: what sinks. -/
def sumR : List Nat → Nat
  | [] => 0
  | x :: xs => x + sumR xs
theorem sumR_le : ∀ (A B : List Nat), A.length = B.length → (∀ z, at' A z ≤ at' B z) → sumR A ≤ sumR B := by
  intro A
  induction A with
  | nil => intro B h _; cases B with
    | nil => exact Nat.le_refl _
    | cons => simp at h
  | cons x xs ih =>
    intro B h k
    cases B with
    | nil => simp at h
    | cons y ys =>
      have h0 := k 0
      have h1 := ih ys (by simpa using h) (fun z => by simpa [at'] using k (z + 1))
      simp only [at', List.getD_cons_zero] at h0
      simp only [sumR]
      omega
theorem sumR_lt : ∀ (A B : List Nat), A.length = B.length → (∀ z, at' A z ≤ at' B z) → (∃ z, at' A z < at' B z) → sumR A < sumR B := by
  intro A
  induction A with
  | nil => intro B h _ k; cases B with
    | nil => obtain ⟨z, hz⟩ := k; simp at hz
    | cons => simp at h
  | cons x xs ih =>
    intro B h k q
    cases B with
    | nil => simp at h
    | cons y ys =>
      have h0 := k 0
      have kk : ∀ z, at' xs z ≤ at' ys z := fun z => by simpa [at'] using k (z + 1)
      have hl : xs.length = ys.length := by simpa using h
      simp only [at', List.getD_cons_zero] at h0
      simp only [sumR]
      obtain ⟨z, hz⟩ := q
      cases z with
      | zero =>
        have h1 := sumR_le xs ys hl kk
        simp only [at', List.getD_cons_zero] at hz
        omega
      | succ z =>
        have h1 := ih ys hl kk ⟨z, by simpa [at'] using hz⟩
        omega
theorem join_sinks {S : List Ln} {n : Nat} {R : List Nat} (hS : Fit S n) (hR : R.length = n) {l : Ln} (m : l ∈ S) (hn : at' R l.f.toNat ≠ at' R l.t.toNat) : sumR (joinL R l) < sumR R := by
  apply sumR_lt
  · unfold joinL; simp
  · exact fun z => join_le hS hR m z
  · rcases Nat.lt_or_ge (at' R l.f.toNat) (at' R l.t.toNat) with q | q
    · exact ⟨l.t.toNat, by rw [join_at hS hR m, if_pos (Or.inr rfl), Nat.min_eq_left (by omega)]; exact q⟩
    · exact ⟨l.f.toNat, by rw [join_at hS hR m, if_pos (Or.inl rfl), Nat.min_eq_right (by omega)]; omega⟩
/-- What grows till it is closed is closed behind n rounds at the latest. -/
theorem closed_by (n : Nat) (c : Nat → Nat) (P : Nat → Prop) (hc : ∀ k, c k ≤ n) (h1 : 1 ≤ c 0) (hs : ∀ k, k < n → ¬ P k → c k + 1 ≤ c (k + 1)) : ∃ k, k ≤ n ∧ P k := by
  apply Classical.byContradiction
  intro hn
  have up : ∀ k, k ≤ n → k + 1 ≤ c k := by
    intro k
    induction k with
    | zero => intro _; exact h1
    | succ k ih =>
      intro hk
      have a := ih (by omega)
      have b := hs k (by omega) (fun h => hn ⟨k, by omega, h⟩)
      omega
  have := up n (Nat.le_refl _)
  have := hc n
  omega
/-- How many below n are so. -/
def cnt (p : Nat → Bool) : Nat → Nat
  | 0 => 0
  | n + 1 => cnt p n + (if p n then 1 else 0)
theorem cnt_le (p : Nat → Bool) (n : Nat) : cnt p n ≤ n := by
  induction n with
  | zero => exact Nat.le_refl _
  | succ n ih => simp only [cnt]; split <;> omega
theorem cnt_mono (p q : Nat → Bool) (n : Nat) (h : ∀ z, z < n → p z = true → q z = true) : cnt p n ≤ cnt q n := by
  induction n with
  | zero => exact Nat.le_refl _
  | succ n ih =>
    have a := ih (fun z hz => h z (by omega))
    have b := h n (by omega)
    simp only [cnt]
    cases hp : p n with
    | false => simp only [Bool.false_eq_true, if_false]; omega
    | true => rw [b hp]; simp only [if_true]; omega
theorem cnt_lt (p q : Nat → Bool) (n : Nat) (h : ∀ z, z < n → p z = true → q z = true) (z0 : Nat) (h0 : z0 < n) (hp : p z0 = false) (hq : q z0 = true) : cnt p n + 1 ≤ cnt q n := by
  induction n with
  | zero => omega
  | succ n ih =>
    simp only [cnt]
    by_cases e : z0 = n
    · subst e
      have a := cnt_mono p q z0 (fun z hz => h z (by omega))
      rw [hp, hq]
      simp only [Bool.false_eq_true, if_false, if_true]
      omega
    · have a := ih (fun z hz => h z (by omega)) (by omega)
      have b := h n (by omega)
      cases hp' : p n with
      | false => simp only [Bool.false_eq_true, if_false]; omega
      | true => rw [b hp']; simp only [if_true]; omega
theorem cnt_pos (p : Nat → Bool) (n z : Nat) (hz : z < n) (h : p z = true) : 1 ≤ cnt p n := by
  have := cnt_lt (fun _ => false) p n (fun _ _ h => by simp at h) z hz rfl h
  omega
/-- The least zone that is come to. -/
theorem least_con (S : List Ln) (a : Nat) : ∃ m, Con S a m ∧ ∀ b, Con S a b → m ≤ b := by
  have key : ∀ k, ∀ b, b ≤ k → Con S a b → ∃ m, Con S a m ∧ ∀ b, Con S a b → m ≤ b := by
    intro k
    induction k with
    | zero => exact fun b hb h => ⟨b, h, fun c _ => by omega⟩
    | succ k ih =>
      intro b hb h
      by_cases q : ∃ c, c < b ∧ Con S a c
      · obtain ⟨c, h1, h2⟩ := q
        exact ih c (by omega) h2
      · exact ⟨b, h, fun c hc => Nat.le_of_not_lt fun hl => q ⟨c, hl, hc⟩⟩
  exact key a a (Nat.le_refl _) (.refl _)
/-- A round of the document's: each line that may carry something is joined. -/
def rnd (S : List Ln) (R : List Nat) : List Nat := S.foldl (fun R l => if 0 < l.c then joinL R l else R) R
theorem fold_isl {S : List Ln} {n : Nat} (hS : Fit S n) : ∀ (T : List Ln) (R : List Nat), (∀ l ∈ T, l ∈ S) → Isl S n R → Isl S n (rnd T R) := by
  intro T
  induction T with
  | nil => exact fun R _ h => h
  | cons l T ih =>
    intro R hT h
    simp only [rnd, List.foldl_cons]
    refine ih _ (fun x hx => hT x (List.mem_cons_of_mem _ hx)) ?_
    split
    · rename_i p; exact join_isl hS h (hT l (List.mem_cons_self ..)) p
    · exact h
theorem fold_le {S : List Ln} {n : Nat} (hS : Fit S n) : ∀ (T : List Ln) (R : List Nat), (∀ l ∈ T, l ∈ S) → Isl S n R → ∀ z, at' (rnd T R) z ≤ at' R z := by
  intro T
  induction T with
  | nil => exact fun R _ h z => Nat.le_refl _
  | cons l T ih =>
    intro R hT h z
    simp only [rnd, List.foldl_cons]
    by_cases p : 0 < l.c
    · rw [if_pos p]
      exact Nat.le_trans (ih _ (fun x hx => hT x (List.mem_cons_of_mem _ hx)) (join_isl hS h (hT l (List.mem_cons_self ..)) p) z) (join_le hS h.len (hT l (List.mem_cons_self ..)) z)
    · rw [if_neg p]
      exact ih _ (fun x hx => hT x (List.mem_cons_of_mem _ hx)) h z
/-- An end that has the least makes the other end have it. -/
theorem fold_both {S : List Ln} {n : Nat} (hS : Fit S n) (m : Nat) : ∀ (T : List Ln) (R : List Nat), (∀ l ∈ T, l ∈ S) → Isl S n R → ∀ l ∈ T, 0 < l.c → (∀ b, Con S l.f.toNat b → m ≤ b) → (at' R l.f.toNat = m ∨ at' R l.t.toNat = m) → at' (rnd T R) l.f.toNat = m ∧ at' (rnd T R) l.t.toNat = m := by
  intro T
  induction T with
  | nil => intro R _ _ l hl; simp at hl
  | cons x T ih =>
    intro R hT h l hl p hm ho
    have hx := hT x (List.mem_cons_self ..)
    have hT' := fun y hy => hT y (List.mem_cons_of_mem x hy)
    have kl := hS _ (hT l hl)
    simp only [rnd, List.foldl_cons]
    have hI : Isl S n (if 0 < x.c then joinL R x else R) := by
      split
      · rename_i q; exact join_isl hS h hx q
      · exact h
    have hle : ∀ z, at' (if 0 < x.c then joinL R x else R) z ≤ at' R z := by
      intro z
      split
      · exact join_le hS h.len hx z
      · exact Nat.le_refl _
    have lowf : ∀ Q, Isl S n Q → m ≤ at' Q l.f.toNat := fun Q hQ => hm _ (hQ.con _ (by omega))
    have lowt : ∀ Q, Isl S n Q → m ≤ at' Q l.t.toNat := fun Q hQ => hm _ ((Con.one (hT l hl) p).trans (hQ.con _ (by omega)))
    rcases List.mem_cons.1 hl with e | e
    · subst e
      rw [if_pos p] at hI hle ⊢
      have v : at' (joinL R l) l.f.toNat = m ∧ at' (joinL R l) l.t.toNat = m := by
        rw [join_at hS h.len hx, join_at hS h.len hx, if_pos (Or.inl rfl), if_pos (Or.inr rfl)]
        have a := lowf R h
        have b := lowt R h
        rcases ho with o | o <;> omega
      have c1 := fold_le hS T _ hT' hI l.f.toNat
      have c2 := fold_le hS T _ hT' hI l.t.toNat
      have d1 := lowf _ (fold_isl hS T _ hT' hI)
      have d2 := lowt _ (fold_isl hS T _ hT' hI)
      simp only [rnd] at c1 c2 d1 d2
      omega
    · refine ih _ hT' hI l e p hm ?_
      have a := lowf _ hI
      have b := lowt _ hI
      have c := hle l.f.toNat
      have d := hle l.t.toNat
      rcases ho with o | o
      · left; omega
      · right; omega
def rnds (S : List Ln) (R : List Nat) : Nat → List Nat
  | 0 => R
  | k + 1 => rnd S (rnds S R k)
theorem range_at (n z : Nat) (hz : z < n) : at' (List.range n) z = z := by
  unfold at'
  simp [List.getD_eq_getElem?_getD, hz]
theorem isl_range (S : List Ln) (n : Nat) : Isl S n (List.range n) := by
  refine ⟨by simp, fun z hz => ?_, fun z hz => ?_⟩
  · rw [range_at n z hz]; exact Nat.le_refl _
  · rw [range_at n z hz]; exact .refl _
theorem rnds_isl {S : List Ln} {n : Nat} (hS : Fit S n) (k : Nat) : Isl S n (rnds S (List.range n) k) := by
  induction k with
  | zero => exact isl_range S n
  | succ k ih => exact fold_isl hS S _ (fun l h => h) ih
/-- Behind as many rounds as there are zones all lines join what is alike. -/
theorem rnds_clo {S : List Ln} {n : Nat} (hS : Fit S n) : Clo S (rnds S (List.range n) n) := by
  intro l hl hp
  have kl := hS _ hl
  obtain ⟨m, hm, least⟩ := least_con S l.f.toNat
  have hmn : m < n := hm.lt hS (by omega)
  have low : ∀ k z, z < n → Con S l.f.toNat z → m ≤ at' (rnds S (List.range n) k) z := fun k z hz hc => least _ (hc.trans ((rnds_isl hS k).con z hz))
  have keep : ∀ k z, z < n → at' (rnds S (List.range n) k) z = m → at' (rnds S (List.range n) (k + 1)) z = m := by
    intro k z hz h
    have c := (rnds_isl hS k).con z hz
    rw [h] at c
    have a := low (k + 1) z hz (hm.trans c.symm)
    have b := fold_le hS S _ (fun l h => h) (rnds_isl hS k) z
    simp only [rnds] at a ⊢
    omega
  have e0 : ∀ k, at' (rnds S (List.range n) k) m = m := by
    intro k
    induction k with
    | zero => exact range_at n m hmn
    | succ k ih => exact keep k m hmn ih
  have hcon : ∀ k z, z < n → at' (rnds S (List.range n) k) z = m → Con S l.f.toNat z := by
    intro k z hz h
    have c := (rnds_isl hS k).con z hz
    rw [h] at c
    exact hm.trans c.symm
  have cl := closed_by n (fun k => cnt (fun z => at' (rnds S (List.range n) k) z == m) n) (fun k => ∀ x ∈ S, 0 < x.c → (at' (rnds S (List.range n) k) x.f.toNat = m ↔ at' (rnds S (List.range n) k) x.t.toNat = m))
    (fun k => cnt_le _ _) (cnt_pos _ n m hmn (by simpa using e0 0))
    (by
      intro k _ hn
      have hn' : ∃ x ∈ S, 0 < x.c ∧ ¬ (at' (rnds S (List.range n) k) x.f.toNat = m ↔ at' (rnds S (List.range n) k) x.t.toNat = m) := by
        apply Classical.byContradiction
        intro hno
        apply hn
        intro x hx hxp
        apply Classical.byContradiction
        exact fun h => hno ⟨x, hx, hxp, h⟩
      obtain ⟨x, hx, hxp, hxn⟩ := hn'
      have kx := hS _ hx
      have ho : at' (rnds S (List.range n) k) x.f.toNat = m ∨ at' (rnds S (List.range n) k) x.t.toNat = m := by
        by_cases q : at' (rnds S (List.range n) k) x.f.toNat = m
        · exact Or.inl q
        · by_cases q2 : at' (rnds S (List.range n) k) x.t.toNat = m
          · exact Or.inr q2
          · exact absurd ⟨fun h => absurd h q, fun h => absurd h q2⟩ hxn
      have hlx : ∀ b, Con S x.f.toNat b → m ≤ b := by
        intro b hb
        apply least
        rcases ho with o | o
        · exact (hcon k _ (by omega) o).trans hb
        · exact ((hcon k _ (by omega) o).trans (Con.eno hx hxp)).trans hb
      obtain ⟨b1, b2⟩ := fold_both hS m S _ (fun l h => h) (rnds_isl hS k) x hx hxp hlx ho
      have mono : ∀ z, z < n → (at' (rnds S (List.range n) k) z == m) = true → (at' (rnds S (List.range n) (k + 1)) z == m) = true := by
        intro z hz h
        simpa using keep k z hz (by simpa using h)
      by_cases q : at' (rnds S (List.range n) k) x.f.toNat = m
      · refine cnt_lt _ _ n mono x.t.toNat (by omega) ?_ (by simpa [rnds] using b2)
        simp only [beq_eq_false_iff_ne, ne_eq]
        exact fun h => hxn ⟨fun _ => h, fun _ => q⟩
      · refine cnt_lt _ _ n mono x.f.toNat (by omega) ?_ (by simpa [rnds] using b1)
        simpa using q)
  obtain ⟨k, hk, cl⟩ := cl
  have all : ∀ z, Con S m z → z < n → at' (rnds S (List.range n) k) z = m := by
    intro z hz
    induction hz with
    | refl => exact fun _ => e0 k
    | fwd q hx hxp ih =>
      intro _
      have kx := hS _ hx
      exact (cl _ hx hxp).1 (ih (by omega))
    | bwd q hx hxp ih =>
      intro _
      have kx := hS _ hx
      exact (cl _ hx hxp).2 (ih (by omega))
  have later : ∀ d z, z < n → at' (rnds S (List.range n) k) z = m → at' (rnds S (List.range n) (k + d)) z = m := by
    intro d
    induction d with
    | zero => exact fun z _ h => h
    | succ d ih => exact fun z hz h => keep (k + d) z hz (ih z hz h)
  have e1 := later (n - k) l.f.toNat (by omega) (all _ hm.symm (by omega))
  have e2 := later (n - k) l.t.toNat (by omega) (all _ (.fwd hm.symm hl hp) (by omega))
  rw [show k + (n - k) = n by omega] at e1 e2
  rw [e1, e2]
/-- What a round reaches. -/
def bat (B : List Bool) (i : Nat) : Bool := B.getD i false
theorem bat_set (B : List Bool) (i j : Nat) (x : Bool) : bat (B.set i x) j = if i = j ∧ i < B.length then x else bat B j := by
  unfold bat
  simp only [List.getD_eq_getElem?_getD, List.getElem?_set]
  by_cases h : i = j
  · subst h
    by_cases h2 : i < B.length
    · simp [h2]
    · simp [h2]
  · simp [h]
def reach1 (B : List Bool) (l : Ln) : List Bool := if 0 < l.c ∧ (bat B l.f.toNat = true ∨ bat B l.t.toNat = true) then (B.set l.f.toNat true).set l.t.toNat true else B
def reach (S : List Ln) (B : List Bool) : List Bool := S.foldl reach1 B
theorem reach1_len (B : List Bool) (l : Ln) : (reach1 B l).length = B.length := by
  unfold reach1
  split <;> simp
theorem reach_len (S : List Ln) : ∀ B : List Bool, (reach S B).length = B.length := by
  induction S with
  | nil => exact fun B => rfl
  | cons l S ih => exact fun B => by simp only [reach, List.foldl_cons] at ih ⊢; rw [ih, reach1_len]
theorem reach1_mono (B : List Bool) (l : Ln) (z : Nat) (h : bat B z = true) : bat (reach1 B l) z = true := by
  unfold reach1
  split
  · rw [bat_set, bat_set]
    split
    · rfl
    · split
      · rfl
      · exact h
  · exact h
theorem reach_mono (S : List Ln) : ∀ (B : List Bool) (z : Nat), bat B z = true → bat (reach S B) z = true := by
  induction S with
  | nil => exact fun B z h => h
  | cons l S ih => exact fun B z h => ih _ z (reach1_mono B l z h)
theorem reach_both {n : Nat} (S : List Ln) (hS : Fit S n) : ∀ (B : List Bool), B.length = n → ∀ l ∈ S, 0 < l.c → (bat B l.f.toNat = true ∨ bat B l.t.toNat = true) → bat (reach S B) l.f.toNat = true ∧ bat (reach S B) l.t.toNat = true := by
  induction S with
  | nil => intro B _ l hl; simp at hl
  | cons x S ih =>
    intro B hB l hl p ho
    have kl := hS _ hl
    rcases List.mem_cons.1 hl with e | e
    · subst e
      have v : bat (reach1 B l) l.f.toNat = true ∧ bat (reach1 B l) l.t.toNat = true := by
        unfold reach1
        rw [if_pos ⟨p, ho⟩, bat_set, bat_set, bat_set, bat_set]
        constructor
        · split
          · rfl
          · rw [if_pos ⟨rfl, by omega⟩]
        · rw [if_pos ⟨rfl, by simp; omega⟩]
      exact ⟨reach_mono S _ _ v.1, reach_mono S _ _ v.2⟩
    · refine ih (fun y hy => hS y (List.mem_cons_of_mem _ hy)) (reach1 B x) (by rw [reach1_len]; exact hB) l e p ?_
      rcases ho with o | o
      · exact Or.inl (reach1_mono B x _ o)
      · exact Or.inr (reach1_mono B x _ o)
def reaches (S : List Ln) (B : List Bool) : Nat → List Bool
  | 0 => B
  | k + 1 => reach S (reaches S B k)
theorem reaches_len (S : List Ln) (B : List Bool) (k : Nat) : (reaches S B k).length = B.length := by
  induction k with
  | zero => rfl
  | succ k ih => simp only [reaches]; rw [reach_len, ih]
theorem reaches_all {S : List Ln} {n : Nat} (hS : Fit S n) (B : List Bool) (hB : B.length = n) (a z : Nat) (ha : a < n) (h : bat B a = true) (hc : Con S a z) : bat (reaches S B n) z = true := by
  have keep : ∀ k z, bat (reaches S B k) z = true → bat (reaches S B (k + 1)) z = true := fun k z h => reach_mono S _ z h
  have e0 : ∀ k, bat (reaches S B k) a = true := by
    intro k
    induction k with
    | zero => exact h
    | succ k ih => exact keep k a ih
  obtain ⟨k, hk, cl⟩ := closed_by n (fun k => cnt (bat (reaches S B k)) n) (fun k => ∀ x ∈ S, 0 < x.c → (bat (reaches S B k) x.f.toNat = true ↔ bat (reaches S B k) x.t.toNat = true))
    (fun k => cnt_le _ _) (cnt_pos _ n a ha (e0 0))
    (by
      intro k _ hn
      have hn' : ∃ x ∈ S, 0 < x.c ∧ ¬ (bat (reaches S B k) x.f.toNat = true ↔ bat (reaches S B k) x.t.toNat = true) := by
        apply Classical.byContradiction
        intro hno
        apply hn
        intro x hx hxp
        apply Classical.byContradiction
        exact fun h => hno ⟨x, hx, hxp, h⟩
      obtain ⟨x, hx, hxp, hxn⟩ := hn'
      have kx := hS _ hx
      have mono : ∀ z, z < n → bat (reaches S B k) z = true → bat (reaches S B (k + 1)) z = true := fun z _ h => keep k z h
      by_cases q : bat (reaches S B k) x.f.toNat = true
      · have b := (reach_both S hS (reaches S B k) (by rw [reaches_len]; exact hB) x hx hxp (Or.inl q)).2
        refine cnt_lt _ _ n mono x.t.toNat (by omega) ?_ b
        exact Bool.not_eq_true _ ▸ (fun h => hxn ⟨fun _ => h, fun _ => q⟩)
      · by_cases q2 : bat (reaches S B k) x.t.toNat = true
        · have b := (reach_both S hS (reaches S B k) (by rw [reaches_len]; exact hB) x hx hxp (Or.inr q2)).1
          exact cnt_lt _ _ n mono x.f.toNat (by omega) (Bool.not_eq_true _ ▸ q) b
        · exact absurd ⟨fun h => absurd h q, fun h => absurd h q2⟩ hxn)
  have all : ∀ z, Con S a z → bat (reaches S B k) z = true := by
    intro z hz
    induction hz with
    | refl => exact e0 k
    | fwd q hx hxp ih => exact (cl _ hx hxp).1 ih
    | bwd q hx hxp ih => exact (cl _ hx hxp).2 ih
  have later : ∀ d z, bat (reaches S B k) z = true → bat (reaches S B (k + d)) z = true := by
    intro d
    induction d with
    | zero => exact fun z h => h
    | succ d ih => exact fun z h => keep (k + d) z (ih z h)
  have e := later (n - k) z (all z hc)
  rwa [show k + (n - k) = n by omega] at e
end Go.Proofs.YteelnimchlgdmaaDoor
