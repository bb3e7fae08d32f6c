/- YBase, YAdd, YCalls, YRepl, YLaw, YMath. -/
import Derived.Test.YtjldlmonccgopaaGreatPk16
import Derived.Test.YtjldlmonccgopaaGreatZRcBack
import Derived.Test.YtjldlmonccgopaaGreatZRcJoin
import Derived.Test.YtjldlmonccgopaaGreatPk30
import Derived.Test.YtjldlmonccgopaaGreatZFLaw
import Derived.Test.YtjldlmonccgopaaGreatPk29
/- The document's store in memory. -/
namespace Go.Proofs.YtjldlmonccgopaaGreat.Rc
open Go.RowKit Go.Deep
set_option linter.unusedVariables false
set_option maxRecDepth 100000
set_option linter.unusedSimpArgs false

/-- The document's store in block y, its log in block r, its records vL. -/
structure YAt (w : World) (y r : Nat) (vL : Value) : Prop where
  blk : w.heap[y]? = some (.cells #[.pointer (some ⟨r, 0, none⟩), vL] 48 (0, 0))
theorem YAt.cells {w : World} {y r : Nat} {vL : Value} (h : YAt w y r vL) : w.cell? ⟨y, 0, none⟩ = some (.pointer (some ⟨r, 0, none⟩)) ∧ w.cell? ⟨y, 1, none⟩ = some vL ∧ ∀ k, w.frozen? ⟨y, k, none⟩ = false :=
  ⟨cell_at (L := [_, _]) h.blk 0 _ rfl, cell_at (L := [_, _]) h.blk 1 _ rfl, fun k => free_at (L := [_, _]) h.blk k⟩
theorem YAt.below {w w' : World} {y r : Nat} {vL : Value} (h : YAt w y r vL) (k : Below w.heap.size w w') : YAt w' y r vL := ⟨(k.block y (lt_of_block h.blk)).trans h.blk⟩
theorem YAt.kt {w w' : World} {y r : Nat} {vL : Value} (h : YAt w y r vL) (k : Kt w w') : YAt w' y r vL := ⟨(k y _ _ _ h.blk (by decide) (by decide) (by decide) (by decide) (by decide) (by decide)).trans h.blk⟩
theorem YAt.set {w : World} {y r : Nat} {vL : Value} (h : YAt w y r vL) (v : Value) : YAt (w.setCell ⟨y, 1, none⟩ v) y r v := ⟨set_at (L := [_, _]) h.blk⟩
theorem StoreAt.kt {w w' : World} {s l m : Nat} (h : StoreAt w s l m) (k : Kt w w') : StoreAt w' s l m := ⟨(k s _ _ _ h.blk (by decide) (by decide) (by decide) (by decide) (by decide) (by decide)).trans h.blk⟩
theorem IsInts.lowb {B : Nat} {w w' : World} {v : Value} {L : List Int} (h : IsInts w v L) (hb : L ≠ [] → ∃ b, v.ownBlock = some b ∧ b < B) (k : Below B w w') : IsInts w' v L := by
  obtain ⟨h0, a, c, h1, h2, h3, h4⟩ := h
  refine ⟨h0, a, c, h1, h2, h3, ?_⟩
  rcases h4 with h4 | ⟨b, off, h4, h5⟩
  · exact Or.inl h4
  · by_cases hL : L = []
    · exact Or.inl hL
    · obtain ⟨b', e1, e2⟩ := hb hL
      rw [h1, h4] at e1
      have e3 : b = b' := by simpa [Value.ownBlock] using e1
      exact Or.inr ⟨b, off, h4, fun i hi => (k.cell (p := ⟨b, off + i, none⟩) (by show b < B; omega)).trans (h5 i hi)⟩
/-- Records of the document's store: a row of their own, whose numbers came in. -/
theorem GRow.kt {B base : Nat} {w w' : World} {l : Value} {L : List Rec} (h : GRow B w base l L) (k : Kt w w') (hb : Below B w w') : GRow B w' base l L := by
  obtain ⟨h1, vs, h2, h3, h4⟩ := h
  refine ⟨h1, vs, h2, ⟨h3.1, ?_⟩, fun i hi hi' => ⟨(h4 i hi hi').1.lowb (h4 i hi hi').2 hb, (h4 i hi hi').2⟩⟩
  rcases h3.2 with h3 | ⟨g, cap, cur, hv, hg, hh, r⟩
  · exact Or.inl h3
  · exact Or.inr ⟨g, cap, cur, hv, hg, (k g _ _ _ hh (by decide) (by decide) (by decide) (by decide) (by decide) (by decide)).trans hh, r⟩
/-- The cells of records that came in. -/
theorem recs_src {w : World} {ad : Addr} {c n : Nat} {L : List Rec} (h : IsRecs w (.slice (some ad) n c) L) : n = L.length ∧ L.length ≤ c ∧ c ≤ maxLen ∧ ∃ us, us.length = L.length ∧ (∀ j u, (flat L us)[j]? = some u → w.cell? (ad.add j) = some u) ∧ (∀ q ∈ L, RecFits q) ∧ ∀ i (h : i < L.length) (h' : i < us.length), IsInts w us[i] L[i].nums := by
  obtain ⟨a, c', h1, h2, h3, h4⟩ := h
  simp only [Value.slice.injEq] at h1
  obtain ⟨rfl, rfl, rfl⟩ := h1
  refine ⟨rfl, h2, h3, ?_⟩
  rcases h4 with rfl | ⟨b, off, e, h5⟩
  · exact ⟨[], rfl, fun j u hu => by simp [flat] at hu, by simp, fun i hi => by simp at hi⟩
  · simp only [Option.some.injEq] at e
    subst e
    have : Inhabited Value := ⟨.bool false⟩
    obtain ⟨f, hf⟩ := choose_lt (n := L.length) (p := fun i (u : Value) => ∀ hi : i < L.length, RecFits L[i] ∧ RecAt w b (off + i * 4) L[i] u) (fun i hi => by
      obtain ⟨k1, u, k2⟩ := h5 i hi
      exact ⟨u, fun _ => ⟨k1, k2⟩⟩)
    have hul : ((List.range L.length).map f).length = L.length := by simp
    refine ⟨(List.range L.length).map f, hul, fun j u hu => ?_, fun q hq => ?_, fun i hi hi' => ?_⟩
    · have hj : j < L.length * 4 := by
        have := (List.getElem?_eq_some_iff.1 hu).1
        rwa [flat_len _ _ hul] at this
      obtain ⟨i, k, hk, rfl, hi⟩ : ∃ i k, k < 4 ∧ j = i * 4 + k ∧ i < L.length := ⟨j / 4, j % 4, by omega, by omega, by omega⟩
      rw [flat_at L _ i hi (by rw [hul]; exact hi) k hk] at hu
      have hr := (hf i hi hi).2
      simp only [List.getElem_map, List.getElem_range] at hu
      rw [add_off]
      match k, hk with
      | 0, _ => simp at hu; subst hu; exact hr.kind
      | 1, _ => simp at hu; subst hu; rw [← Nat.add_assoc]; exact hr.who
      | 2, _ => simp at hu; subst hu; rw [← Nat.add_assoc]; exact hr.nums
      | 3, _ => simp at hu; subst hu; rw [← Nat.add_assoc]; exact hr.text
    · obtain ⟨i, hi, rfl⟩ := List.mem_iff_getElem.1 hq
      exact (hf i hi hi).1
    · simp only [List.getElem_map, List.getElem_range]
      exact (hf i hi hi).2.ints
/-- Records put behind the store's own. -/
theorem GRow.join {B base : Nat} {w w' : World} {l' : Value} {A L : List Rec} {vs us : List Value} (hA : ∀ q ∈ A, Good q) (h1 : vs.length = A.length) (h3 : ∀ i (h : i < A.length) (h' : i < vs.length), IsInts w vs[i] A[i].nums ∧ (A[i].nums ≠ [] → ∃ b, vs[i].ownBlock = some b ∧ b < B))
    (hL : ∀ q ∈ L, Good q) (k1 : us.length = L.length) (k3 : ∀ i (h : i < L.length) (h' : i < us.length), IsInts w us[i] L[i].nums ∧ (L[i].nums ≠ [] → ∃ b, us[i].ownBlock = some b ∧ b < B))
    (ho : w'.ownsRow base 81 4 l' (A.length + L.length) (flat A vs ++ flat L us)) (hb : Below B w w') : GRow B w' base l' (A ++ L) := by
  refine ⟨fun q hq => ?_, vs ++ us, by simp [h1, k1], by rw [flat_app A L vs us h1]; simpa using ho, fun i hi hi' => ?_⟩
  · rcases List.mem_append.1 hq with hq | hq
    · exact hA q hq
    · exact hL q hq
  · by_cases hlt : i < A.length
    · simp only [List.getElem_append_left hlt, List.getElem_append_left (show i < vs.length by omega)]
      have := h3 i hlt (by omega)
      exact ⟨this.1.lowb this.2 hb, this.2⟩
    · simp only [List.getElem_append_right (show A.length ≤ i by omega), List.getElem_append_right (show vs.length ≤ i by omega), h1]
      have hil : i - A.length < L.length := by simp at hi; omega
      have := k3 (i - A.length) hil (by omega)
      exact ⟨this.1.lowb this.2 hb, this.2⟩
end Go.Proofs.YtjldlmonccgopaaGreat.Rc
/- The document's store: Add, Replace. -/
namespace Go.Proofs.YtjldlmonccgopaaGreat.Rc
open Go.RowKit Go.Deep
set_option linter.unusedVariables false
set_option maxRecDepth 100000
set_option linter.unusedSimpArgs false

/-- Records in a row of the call's own, their numbers as they came in. -/
def Yr (w0 w : World) (v : Value) (L : List Rec) : Prop :=
  (∀ q ∈ L, Good q) ∧ ∃ us : List Value, us.length = L.length ∧ w.ownsRow w0.heap.size 81 4 v L.length (flat L us) ∧ ∀ i (h : i < L.length) (h' : i < us.length), IsInts w0 us[i] L[i].nums
/-- Blocks of other kinds, and but one, lie as they lay. -/
def Ky (y : Nat) (w w' : World) : Prop := ∀ (p : Nat) (x : Array Value) (T : TypeId) (fz : Nat × Nat), w.heap[p]? = some (Obj.cells x T fz) → T ≠ 57 → T ≠ 3 → T ≠ 93 → T ≠ 62 → T ≠ 9 → T ≠ 83 → p ≠ y → w'.heap[p]? = w.heap[p]?
theorem Ky.of {y : Nat} {w w' : World} (k : Kt w w') : Ky y w w' := fun p x T fz hp h1 h2 h3 h4 h5 h6 _ => k p x T fz hp h1 h2 h3 h4 h5 h6
theorem Ky.trans {y : Nat} {u v w : World} (h : Ky y u v) (k : Ky y v w) : Ky y u w := fun p x T fz hp h1 h2 h3 h4 h5 h6 h7 =>
  have e := h p x T fz hp h1 h2 h3 h4 h5 h6 h7
  (k p x T fz (e.trans hp) h1 h2 h3 h4 h5 h6 h7).trans e
theorem Ky.set {y k : Nat} {u w : World} {v : Value} (h : Ky y u w) : Ky y u (w.setCell ⟨y, k, none⟩ v) := fun p x T fz hp h1 h2 h3 h4 h5 h6 h7 =>
  (Below.heap_setCell w ⟨y, k, none⟩ v p h7).trans (h p x T fz hp h1 h2 h3 h4 h5 h6 h7)
theorem Ky.grown {y : Nat} {u w w' : World} {row : Option Nat} (h : Ky y u w) (g : w.grownBy w' row) (hr : ∀ k, row = some k → u.heap.size ≤ k) (hs : u.heap.size ≤ w.heap.size) : Ky y u w' := fun p x T fz hp h1 h2 h3 h4 h5 h6 h7 => by
  have hp' := lt_of_block hp
  refine (g.block p (by omega) fun e => ?_).trans (h p x T fz hp h1 h2 h3 h4 h5 h6 h7)
  have := hr p e.symm
  omega
theorem Yr.ky {y r : Nat} {w0 w w' : World} {v vL : Value} {L : List Rec} (h : Yr w0 w v L) (k : Ky y w w') (hy : YAt w y r vL) : Yr w0 w' v L := by
  obtain ⟨h1, us, h2, h3, h4⟩ := h
  refine ⟨h1, us, h2, ⟨h3.1, ?_⟩, h4⟩
  rcases h3.2 with h3 | ⟨g, cap, cur, hv, hg, hh, q⟩
  · exact Or.inl h3
  · exact Or.inr ⟨g, cap, cur, hv, hg, (k g _ _ _ hh (by decide) (by decide) (by decide) (by decide) (by decide) (by decide) (kind_ne hh hy.blk (by decide))).trans hh, q⟩
theorem Yr.kt {w0 w w' : World} {v : Value} {L : List Rec} (h : Yr w0 w v L) (k : Kt w w') : Yr w0 w' v L := by
  obtain ⟨h1, us, h2, h3, h4⟩ := h
  refine ⟨h1, us, h2, ⟨h3.1, ?_⟩, h4⟩
  rcases h3.2 with h3 | ⟨g, cap, cur, hv, hg, hh, q⟩
  · exact Or.inl h3
  · exact Or.inr ⟨g, cap, cur, hv, hg, (k g _ _ _ hh (by decide) (by decide) (by decide) (by decide) (by decide) (by decide)).trans hh, q⟩
theorem Yr.recs {w0 w : World} {v : Value} {L : List Rec} (h : Yr w0 w v L) (k : Below w0.heap.size w0 w) : IsRecs w v L := by
  obtain ⟨h1, us, h2, h3, h4⟩ := h
  refine Row.recs (base := w0.heap.size) ⟨fun q hq => (h1 q hq).fits, us, h2, h3, fun i hi hi' => ⟨(h4 i hi hi').below k, fun hn e => ?_⟩⟩
  obtain ⟨b, hb, hlt⟩ := (h4 i hi hi').lt hn
  have := (h3.lt b (by rw [← e, hb])).1
  omega
/-- What is appended. -/
def SrcF (w : World) (u : Value) (L : List Rec) (us : List Value) : Prop :=
  us.length = L.length ∧ (∀ x ∈ us, x.oneCell' = true) ∧ ((u = .slice none 0 0 ∧ L = []) ∨ ∃ ad c, u = .slice (some ad) L.length c ∧ ∀ j x, (flat L us)[j]? = some x → w.cell? (ad.add j) = some x)
theorem SrcF.below {w w' : World} {u : Value} {L : List Rec} {us : List Value} (h : SrcF w u L us) (k : Below w.heap.size w w') : SrcF w' u L us := by
  obtain ⟨h1, h2, h3⟩ := h
  refine ⟨h1, h2, ?_⟩
  rcases h3 with h3 | ⟨ad, c, h3, h4⟩
  · exact Or.inl h3
  · exact Or.inr ⟨ad, c, h3, fun j x hx => (k.cell (by
      have := World.block_lt_of_cell? w _ (h4 j x hx)
      exact this)).trans (h4 j x hx)⟩
theorem Yr.src {w0 w : World} {v : Value} {L : List Rec} (h : Yr w0 w v L) : ∃ us, SrcF w v L us ∧ ∀ i (h : i < L.length) (h' : i < us.length), IsInts w0 us[i] L[i].nums := by
  obtain ⟨h1, us, h2, h3, h4⟩ := h
  refine ⟨us, ⟨h2, fun x hx => ?_, ?_⟩, h4⟩
  · obtain ⟨i, hi, rfl⟩ := List.getElem_of_mem hx
    exact (h4 i (by omega) hi).one
  · rcases h3.2 with ⟨rfl, h0⟩ | ⟨g, cap, cur, rfl, _⟩
    · exact Or.inl ⟨rfl, List.eq_nil_of_length_eq_zero h0⟩
    · exact Or.inr ⟨_, cap, rfl, h3.cells (g := g) rfl⟩
/-- Records that came in: nil, or somewhere. -/
theorem src_in {w0 w : World} {v : Value} {L : List Rec} (h : IsRecs w0 v L) (hf : v = .slice none 0 0 ∨ ∃ ad n c, v = .slice (some ad) n c) (k : Below w0.heap.size w0 w) : ∃ us, SrcF w v L us ∧ ∀ i (h : i < L.length) (h' : i < us.length), IsInts w0 us[i] L[i].nums := by
  rcases hf with rfl | ⟨ad, n, c, rfl⟩
  · obtain ⟨a, c, h1, _⟩ := h
    simp only [Value.slice.injEq] at h1
    have : L = [] := List.eq_nil_of_length_eq_zero h1.2.1.symm
    subst this
    exact ⟨[], ⟨rfl, by simp, Or.inl ⟨rfl, rfl⟩⟩, fun i hi => by simp at hi⟩
  · obtain ⟨rfl, _, _, us, h1, h2, _, h4⟩ := recs_src h
    refine ⟨us, SrcF.below ⟨h1, fun x hx => ?_, Or.inr ⟨ad, c, rfl, h2⟩⟩ k, h4⟩
    obtain ⟨i, hi, rfl⟩ := List.getElem_of_mem hx
    exact (h4 i (by omega) hi).one
theorem wpList_append_recs {w : World} {ops : Array Oper} {rest : List Oper} {o : Oper} {a : Act} {Q : Exit → Act → World → Prop} (hgd : o.guard = none) (s x : Operand) (ho : o.op = .call { callee := .builtin .append, args := #[s, x], argTypes := #[29, 29] })
    (base : Nat) (v : Value) (n : Nat) (xs : List Value) (hs : a.eval s = v) (hown : w.ownsRow base 81 4 v n xs) (u : Value) (L : List Rec) (us : List Value) (hx : a.eval x = u) (hsrc : SrcF w u L us) (hn : n + L.length ≤ 10000000) (hbase : base ≤ w.heap.size)
    (h : ∀ sa sc w', w'.ownsRow base 81 4 (.slice sa (n + L.length) sc) (n + L.length) (xs ++ flat L us) → w.grownBy w' v.ownBlock → wpList Tryz.prog ops Q rest (a.put o.dst (.slice sa (n + L.length) sc)) w') : wpList Tryz.prog ops Q (o :: rest) a w := by
  obtain ⟨i0, hi, hz0, hz1, hz2⟩ := info_parts info_rec
  obtain ⟨h1, h2, h3⟩ := hsrc
  rcases h3 with ⟨rfl, rfl⟩ | ⟨ad, c, rfl, h3⟩
  · refine wpList_append_own_none hgd s x 29 ho base 81 i0 4 Tryz.underlying29 hi v n xs hs hown hx ?_
    obtain ⟨sa, sc, rfl⟩ := own_slice hown
    have e : us = [] := List.eq_nil_of_length_eq_zero h1
    subst e
    exact h sa sc w (by simpa [flat] using hown) ⟨rfl, rfl, rfl, Nat.le_refl _, fun _ _ _ => rfl⟩
  · refine wpList_append_own _ hgd s x 29 ho base 81 i0 (.agg #[.int .i64 0, .string ⟨#[]⟩, .slice none 0 0, .string ⟨#[]⟩]) 4 64 Tryz.underlying29 hi hz0 hz1 hz2 rfl (by decide) v n xs hs hown ad L.length c (flat L us) hx (by rw [flat_len _ _ h1]) h3 (flat_one L us h2) (by unfold maxLen; omega) (by omega) hbase ?_
    intro v' w' o1 g1 _
    obtain ⟨sa, sc, rfl⟩ := own_slice o1
    exact h sa sc w' o1 g1
end Go.Proofs.YtjldlmonccgopaaGreat.Rc
/- The document's store: Add, Replace, walked. -/
namespace Go.Proofs.YtjldlmonccgopaaGreat.Rc
open Go.RowKit Go.Deep
set_option linter.unusedVariables false
set_option maxRecDepth 100000
set_option linter.unusedSimpArgs false

theorem Pr.yset {B : Nat} {w0 w : World} {b l c r y r' : Nat} {D E : Dsk} {L : Lg} {t : ByteArray} {n a : Nat} {er : Int} {vL : Value} (h : Pr B w0 w b l c r D L E t n a er) (hy : YAt w y r' vL) (hb : B ≤ y) (v : Value) : Pr B w0 (w.setCell ⟨y, 1, none⟩ v) b l c r D L E t n a er := by
  obtain ⟨sl, vw, vi, vc, cl, fk, keep, h2⟩ := h.two
  have hnd : ¬ Sd b sl y := h2.d.out hy.blk (by decide) (by decide)
  have hnr : ¬ Sr c vw vi vc y := h2.r.out hy.blk (by decide) (by decide) (by decide)
  refine ⟨⟨sl, vw, vi, vc, cl, fk, keep, ⟨(Below.heap_setCell w ⟨y, 1, none⟩ v b (fun e => hnd (Or.inl e.symm))).trans h2.d.blk, ownsRow_same h2.d.own fun g hg => Below.heap_setCell w ⟨y, 1, none⟩ v g (fun e => hnd (Or.inr (by rw [← show g = y from e]; exact hg))), h2.d.good⟩, h2.r.far hnr, h2.ne⟩,
    ⟨(Below.heap_setCell w ⟨y, 1, none⟩ v l (kind_ne (LogAt.blk h.log) hy.blk (by decide))).trans (LogAt.blk h.log)⟩,
    ⟨(Below.heap_setCell w ⟨y, 1, none⟩ v r (kind_ne h.vat.blk hy.blk (by decide))).trans h.vat.blk⟩, h.bel.setCell (p := ⟨y, 1, none⟩) hb v, h.hb, h.hl, h.hc, h.hr⟩
/-- What the document's store comes to. -/
def yst (D : Dsk) (t : ByteArray) (n a : Nat) (er : Int) (R : List Rec) (S : VSt) : VSt := if allE R = 0 then S else ⟨D, t, n, a, er, allE R⟩
def YPost (w0 w w' : World) (b l c r y : Nat) (D1 : Dsk) (L1 : Lg) (X : VSt) (Rs R' : List Rec) (e : Ending) : Prop :=
  e = .returned (.int .i64 X.E) ∧ Pr w0.heap.size w0 w' b l c r D1 L1 X.D X.t X.n X.a X.er ∧ Ky y w w' ∧ ∃ vL, YAt w' y r vL ∧ Yr w0 w' vL (if X.E = 0 then R' else Rs) ∧ ∃ sa m sc, vL = .slice sa m sc
theorem allE_all_good {w : World} {v : Value} {R : List Rec} (h : IsRecs w v R) (h0 : allE R = 0) : ∀ q ∈ R, Good q := fun q hq => (encE_good (h.fit q hq)).1 (allE_zero h0 q hq)
set_option maxHeartbeats 8000000 in
theorem y_add {w0 w : World} {b l c r y : Nat} {D1 D : Dsk} {L1 : Lg} {t : ByteArray} {n a : Nat} {er : Int} {vL : Value} {Rs : List Rec} (h : Pr w0.heap.size w0 w b l c r D1 L1 D t n a er) (hf : Fine D) (hv : VFit t n a) (ho : D.ops + 1000 < 4611686018427387904) (hy : YAt w y r vL) (hyb : w0.heap.size ≤ y) (hR : Yr w0 w vL Rs) (hRl : Rs.length ≤ 1048576) (hvL : ∃ sa m sc, vL = .slice sa m sc)
    (v : Value) (R : List Rec) (hv0 : IsRecs w0 v R) (hform : v = .slice none 0 0 ∨ ∃ ad n c, v = .slice (some ad) n c) (hRR : R.length ≤ 1048576) :
    Calls Tryz.prog 10 #[.pointer (some ⟨y, 0, none⟩), v] w fun e w' => YPost w0 w w' b l c r y D1 L1 (yst D t n a er R (vapp D t n a er (allT R))) Rs (Rs ++ R) e := by
  have hvw := hv0.below h.bel
  have hts := allT_size hv0.fit hRR
  have htext := ybytes_any w v R hRR hvw
  have HGD := hid (fun h0 => allE_all_good hv0 h0)
  have HSRC := hid (fun W (k : Below w0.heap.size w0 W) => src_in hv0 hform k)
  obtain ⟨va, vc, rfl, _⟩ := hv0.slice
  obtain ⟨sa, m, sc, rfl⟩ := hvL
  have HA := hid (fun W (p : Pr w0.heap.size w0 W b l c r D1 L1 D t n a er) => f_append2 p hf hv (allT R) hts ho)
  have HX := hid (show yst D t n a er R (vapp D t n a er (allT R)) = if allE R = 0 then vapp D t n a er (allT R) else ⟨D, t, n, a, er, allE R⟩ from rfl)
  have HP := hid h
  have HY := hid hy
  have HR := hid hR
  have hBw := h.bel.size
  have hyw := lt_of_block hy.blk
  clear hvw hv0 hform h hy hR hf hv
  generalize yst D t n a er R (vapp D t n a er (allT R)) = X at *
  generalize allE R = E at *
  generalize allT R = T at *
  generalize vapp D t n a er T = S at *
  go_enter Tryz.func10, Tryz.ntmps10
  go_wp2_with fail
  refine htext.mono ?_
  rintro e w1 ⟨rfl, b1⟩
  clear htext
  have hy1 := HY.out.below b1
  have hp1 := HP.out.below b1
  have k1 : Ky y w w1 := Ky.of (Kt.of_below b1)
  have hR1 := HR.out.ky k1 HY.out
  have s1 := b1.size
  by_cases h0 : E = 0
  · subst h0
    have HX1 := hid (HX.out.trans (if_pos rfl))
    obtain ⟨c0, c1, cf⟩ := hy1.cells
    go_wp2_with fail
    refine (HA.out w1 hp1).mono ?_
    rintro e w2 ⟨rfl, hp2, kt2⟩
    have hy2 := hy1.kt kt2
    have hR2 := hR1.kt kt2
    have k2 := k1.trans (Ky.of kt2)
    have HE := hid (show X = S from HX1.out)
    clear HX HX1 hy1 hp1 hR1 c0 c1 cf k1
    have hpB := hp2.bel.size
    by_cases hE : S.E = 0
    · obtain ⟨us1, hs1, hi1⟩ := hR2.src
      obtain ⟨us2, hs2, hi2⟩ := HSRC.out w2 hp2.bel
      have hgA := hR2.1
      have hgR := HGD.out (by first | rfl | trivial)
      have o0 : (w2.alloc (Obj.cells #[] 81)).ownsRow w2.heap.size 81 4 (.slice (some ⟨w2.heap.size, 0, none⟩) 0 0) 0 [] := World.ownsRow_made w2 #[] 0 (Nat.le_refl _) (Nat.zero_le _) (by simp)
      have b3 := (Below.refl w2.heap.size w2).alloc (Nat.le_refl _) (Obj.cells #[] 81)
      have hs1' := hs1.below b3
      have hy3 := hy2.below b3
      obtain ⟨c0, c1, cf⟩ := hy3.cells
      have HI1 := hid hi1
      have HI2 := hid hi2
      have HGA := hid hgA
      have HGR := hid hgR
      have HS2 := hid hs2
      have HP2 := hid hp2
      have HY2 := hid hy2
      have HK2 := hid k2
      have s3 := b3.size
      rw [hE]
      have HE0 := hid hE
      have hs1l := hs1.1
      clear hs1 hi1 hi2 hgA hgR hs2 hp2 hy2 k2 hE hR2
      go_wp2_with (at_builtin; refine wpList_append_recs rfl _ _ rfl w2.heap.size _ _ _ rfl o0 _ Rs us1 rfl hs1' (by omega) (by omega) ?_)
      intro sa4 sc4 w4 o4 g4
      have b4 : Below w2.heap.size w2 w4 := b3.grown g4 (by omega) (fun q hq => (o0.lt q hq).1)
      have s4 := b4.size
      have hs2' := HS2.out.below b4
      have hy4 := HY2.out.below b4
      clear o0 b3 g4 hy3 c0 c1 cf hs1'
      obtain ⟨c0, c1, cf⟩ := hy4.cells
      have hrl := HS2.out.1
      go_wp2_with (at_builtin; refine wpList_append_recs rfl _ _ rfl w2.heap.size _ _ _ rfl o4 _ R us2 rfl hs2' (by omega) (by omega) ?_)
      intro sa5 sc5 w5 o5 g5
      have b5 : Below w2.heap.size w2 w5 := b4.grown g5 (by omega) (fun q hq => (o4.lt q hq).1)
      have hy5 := HY2.out.below b5
      have hp5 := HP2.out.below b5
      have k5 : Ky y w w5 := HK2.out.trans (Ky.of (Kt.of_below b5))
      clear c0 c1 cf hy4 o4 g5 b4
      have hl5 : Rs.length + R.length = (Rs ++ R).length := by rw [List.length_append]
      obtain ⟨M, hM⟩ : ∃ M, M = Rs.length + R.length := ⟨_, rfl⟩
      rw [← hM] at o5 ⊢
      have HM := hid (hM.trans hl5)
      clear hM hl5
      obtain ⟨c0, c1, cf⟩ := hy5.cells
      have HFIN := hid (show YPost w0 w (w5.setCell ⟨y, 1, none⟩ (.slice sa5 M sc5)) b l c r y D1 L1 X Rs (Rs ++ R) (.returned (.int .i64 0)) from by
        have eM : M = (Rs ++ R).length := HM.out
        subst eM
        have hpF := Pr.yset hp5 hy5 hyb (.slice sa5 (Rs ++ R).length sc5)
        rw [HE.out]
        refine ⟨by rw [HE0.out], hpF, k5.set, _, hy5.set _, ?_, _, _, _, rfl⟩
        rw [if_pos HE0.out]
        have hne : ∀ g, (Value.slice sa5 (Rs ++ R).length sc5).ownBlock = some g → g ≠ y := fun g hg => by
          obtain ⟨c', fz, hc⟩ := own_kind o5 g hg
          exact kind_ne hc hy5.blk (by decide)
        refine ⟨fun q hq => ?_, us1 ++ us2, by rw [List.length_append, List.length_append, hs1l, hrl], ?_, fun i hi hi' => ?_⟩
        · rcases List.mem_append.1 hq with hq | hq
          · exact HGA.out q hq
          · exact HGR.out q hq
        · rw [flat_app Rs R us1 us2 hs1l]
          exact ownsRow_same (own_mono o5 hpB) fun g hg => Below.heap_setCell w5 ⟨y, 1, none⟩ _ g (hne g hg)
        · by_cases hlt : i < Rs.length
          · simp only [List.getElem_append_left hlt, List.getElem_append_left (show i < us1.length by omega)]
            exact HI1.out i hlt (by omega)
          · simp only [List.getElem_append_right (show Rs.length ≤ i by omega), List.getElem_append_right (show us1.length ≤ i by omega), hs1l]
            have hil : i - Rs.length < R.length := by simp at hi; omega
            exact HI2.out (i - Rs.length) hil (by omega))
      clear o5 hp5 b5
      go_wp2
      go_ret
      exact HFIN.out
    · have HFIN := hid (show YPost w0 w w2 b l c r y D1 L1 X Rs (Rs ++ R) (.returned (.int .i64 S.E)) from by
        rw [HE.out]
        exact ⟨rfl, hp2, k2, _, hy2, by rw [if_neg hE]; exact hR2, _, _, _, rfl⟩)
      generalize S.E = F at *
      go_wp2
      go_ret
      exact HFIN.out
  · have HX1 := hid (HX.out.trans (if_neg h0))
    go_wp2
    go_ret
    rw [HX1.out]
    exact ⟨rfl, hp1, k1, _, hy1, by rw [if_neg h0]; exact hR1, _, _, _, rfl⟩
end Go.Proofs.YtjldlmonccgopaaGreat.Rc
/- The document's store: Replace, walked. -/
namespace Go.Proofs.YtjldlmonccgopaaGreat.Rc
open Go.RowKit Go.Deep
set_option linter.unusedVariables false
set_option maxRecDepth 100000
set_option linter.unusedSimpArgs false

set_option maxHeartbeats 8000000 in
theorem y_replace {w0 w : World} {b l c r y : Nat} {D1 D : Dsk} {L1 : Lg} {t : ByteArray} {n a : Nat} {er : Int} {vL : Value} {Rs : List Rec} (h : Pr w0.heap.size w0 w b l c r D1 L1 D t n a er) (hf : Fine D) (hv : VFit t n a) (ho : D.ops + 1000 < 4611686018427387904) (hy : YAt w y r vL) (hyb : w0.heap.size ≤ y) (hR : Yr w0 w vL Rs) (hRl : Rs.length ≤ 1048576) (hvL : ∃ sa m sc, vL = .slice sa m sc)
    (v : Value) (R : List Rec) (hv0 : IsRecs w0 v R) (hform : v = .slice none 0 0 ∨ ∃ ad n c, v = .slice (some ad) n c) (hRR : R.length ≤ 1048576) :
    Calls Tryz.prog 12 #[.pointer (some ⟨y, 0, none⟩), v] w fun e w' => YPost w0 w w' b l c r y D1 L1 (yst D t n a er R (vchk D t n a er (allT R))) Rs R e := by
  have hvw := hv0.below h.bel
  have hts := allT_size hv0.fit hRR
  have htext := ybytes_any w v R hRR hvw
  have HGD := hid (fun h0 => allE_all_good hv0 h0)
  have HSRC := hid (fun W (k : Below w0.heap.size w0 W) => src_in hv0 hform k)
  obtain ⟨va, vc, rfl, _⟩ := hv0.slice
  obtain ⟨sa, m, sc, rfl⟩ := hvL
  have HA := hid (fun W (p : Pr w0.heap.size w0 W b l c r D1 L1 D t n a er) => f_check2 p hf hv (allT R) hts ho)
  have HX := hid (show yst D t n a er R (vchk D t n a er (allT R)) = if allE R = 0 then vchk D t n a er (allT R) else ⟨D, t, n, a, er, allE R⟩ from rfl)
  have HP := hid h
  have HY := hid hy
  have HR := hid hR
  have hBw := h.bel.size
  have hyw := lt_of_block hy.blk
  clear hvw hv0 hform h hy hR hf hv
  generalize yst D t n a er R (vchk D t n a er (allT R)) = X at *
  generalize allE R = E at *
  generalize allT R = T at *
  generalize vchk D t n a er T = S at *
  go_enter Tryz.func12, Tryz.ntmps12
  go_wp2_with fail
  refine htext.mono ?_
  rintro e w1 ⟨rfl, b1⟩
  clear htext
  have hy1 := HY.out.below b1
  have hp1 := HP.out.below b1
  have k1 : Ky y w w1 := Ky.of (Kt.of_below b1)
  have hR1 := HR.out.ky k1 HY.out
  have s1 := b1.size
  by_cases h0 : E = 0
  · subst h0
    have HX1 := hid (HX.out.trans (if_pos rfl))
    obtain ⟨c0, c1, cf⟩ := hy1.cells
    go_wp2_with fail
    refine (HA.out w1 hp1).mono ?_
    rintro e w2 ⟨rfl, hp2, kt2⟩
    have hy2 := hy1.kt kt2
    have hR2 := hR1.kt kt2
    have k2 := k1.trans (Ky.of kt2)
    have HE := hid (show X = S from HX1.out)
    clear HX HX1 hy1 hp1 hR1 c0 c1 cf k1
    have hpB := hp2.bel.size
    by_cases hE : S.E = 0
    · have hy3 := hy2.set (.slice none 0 0)
      have hp3 := Pr.yset hp2 hy2 hyb (.slice none 0 0)
      have k3 : Ky y w (w2.setCell ⟨y, 1, none⟩ (.slice none 0 0)) := k2.set
      have hgR := HGD.out (by first | rfl | trivial)
      obtain ⟨c0, c1, cf⟩ := hy2.cells
      rw [hE]
      have HE0 := hid hE
      have HP3 := hid hp3
      have HY3 := hid hy3
      have HK3 := hid k3
      have HGR := hid hgR
      clear hp2 hp3 hy3 k3 k2 hE hR2 hgR
      have HSS := hid (HSRC.out _ HP3.out.bel)
      have s3 : w2.heap.size ≤ (w2.setCell ⟨y, 1, none⟩ (.slice none 0 0)).heap.size := by simp
      obtain ⟨W3, hW3⟩ : ∃ W3, W3 = w2.setCell ⟨y, 1, none⟩ (.slice none 0 0) := ⟨_, rfl⟩
      rw [← hW3] at HP3 HY3 HK3 HSS s3
      have hy3 := HY3.out
      obtain ⟨z0, z1, zf⟩ := hy3.cells
      rw [hW3] at z0 z1 zf
      obtain ⟨us2, hs2, hi2⟩ := HSS.out
      have hs2' : SrcF (w2.setCell ⟨y, 1, none⟩ (.slice none 0 0)) (.slice va R.length vc) R us2 := by rw [← hW3]; exact hs2
      have HI2 := hid hi2
      have HW3 := hid hW3
      have hul := hs2.1
      clear hi2 hs2 hy3 hW3
      go_wp2_with (at_builtin; refine wpList_append_recs rfl _ _ rfl w2.heap.size (.slice none 0 0) 0 [] rfl (World.ownsRow_nil _ _ _ _) _ R us2 rfl hs2' (by omega) (by simp) ?_)
      intro sa5 sc5 w5 o5 g5
      rw [← HW3.out] at g5
      have b5 : Below W3.heap.size W3 w5 := (Below.refl W3.heap.size W3).grown g5 (Nat.le_refl _) (fun q hq => by simp [Value.ownBlock] at hq)
      have hy5 := HY3.out.below b5
      have hp5 := HP3.out.below b5
      have k5 : Ky y w w5 := HK3.out.trans (Ky.of (Kt.of_below b5))
      clear c0 c1 cf g5 z0 z1 zf hs2'
      (try simp only [Nat.zero_add, List.nil_append] at o5)
      obtain ⟨c0, c1, cf⟩ := hy5.cells
      have HFIN := hid (show YPost w0 w (w5.setCell ⟨y, 1, none⟩ (.slice sa5 R.length sc5)) b l c r y D1 L1 X Rs R (.returned (.int .i64 0)) from by
        have hpF := Pr.yset hp5 hy5 hyb (.slice sa5 R.length sc5)
        rw [HE.out]
        refine ⟨by rw [HE0.out], hpF, k5.set, _, hy5.set _, ?_, _, _, _, rfl⟩
        rw [if_pos HE0.out]
        have hne : ∀ g, (Value.slice sa5 R.length sc5).ownBlock = some g → g ≠ y := fun g hg => by
          obtain ⟨c', fz, hc⟩ := own_kind o5 g hg
          exact kind_ne hc hy5.blk (by decide)
        exact ⟨HGR.out, us2, hul, ownsRow_same (own_mono o5 hpB) fun g hg => Below.heap_setCell w5 ⟨y, 1, none⟩ _ g (hne g hg), HI2.out⟩)
      clear o5 hp5 b5
      (try simp only [Nat.zero_add])
      go_wp2
      go_ret
      exact HFIN.out
    · have HFIN := hid (show YPost w0 w w2 b l c r y D1 L1 X Rs R (.returned (.int .i64 S.E)) from by
        rw [HE.out]
        exact ⟨rfl, hp2, k2, _, hy2, by rw [if_neg hE]; exact hR2, _, _, _, rfl⟩)
      generalize S.E = F at *
      go_wp2
      go_ret
      exact HFIN.out
  · have HX1 := hid (HX.out.trans (if_neg h0))
    go_wp2
    go_ret
    rw [HX1.out]
    exact ⟨rfl, hp1, k1, _, hy1, by rw [if_neg h0]; exact hR1, _, _, _, rfl⟩
end Go.Proofs.YtjldlmonccgopaaGreat.Rc
/- Both stores: what StoreCuts calls. -/
namespace Go.Proofs.YtjldlmonccgopaaGreat.Rc
open Go.RowKit Go.Deep
set_option linter.unusedVariables false
set_option maxRecDepth 100000
set_option linter.unusedSimpArgs false

theorem yat_new (w : World) (r : Nat) (v : Value) : YAt (w.alloc (Obj.cells #[.pointer (some ⟨r, 0, none⟩), v] 48)) w.heap.size r v := ⟨heap_alloc_last w _⟩
/-- What the document's Open answers. -/
def YOpens (w w' : World) (b : Nat) (c : Com) (t : ByteArray) (e : Ending) : Prop :=
  ∃ (L : List Rec) (n : Nat), Dec (Bs.of t) L n ∧ ((n ≠ t.size ∧ e = .returned (.tuple #[.pointer none, .slice none 0 0, .int .i64 51])) ∨
    (n = t.size ∧ ∃ y r v, e = .returned (.tuple #[.pointer (some ⟨y, 0, none⟩), v, .int .i64 0]) ∧ w.heap.size ≤ y ∧ w.heap.size ≤ r ∧ VAt w' r b t c.num c.area 0 ∧ YAt w' y r v ∧ Row w' w.heap.size v L))
set_option maxHeartbeats 4000000 in
theorem yopen_any (w : World) (b : Nat) (D : Dsk) (hz : Sz D.wr) (hd : RIs w b D) :
    Calls Tryz.prog 8 #[.pointer (some ⟨b, 0, none⟩)] w fun e w' => (∃ c t, Tells D.wr c t ∧ YOpens w w' b c t e) ∧ Below w.heap.size w w' := by
  go_enter Tryz.func8, Tryz.ntmps8
  go_wp2_with fail
  refine (vopen_any w b D hz hd).mono ?_
  rintro e w1 ⟨⟨r, c, t, rfl, hT, hV, hr⟩, b1⟩
  have hts := tells_size hT
  go_wp2_with fail
  refine (xdecode_any w1 t (by omega)).mono ?_
  rintro e w2 ⟨v, L, n, rfl, hD, hR, b2⟩
  have hnle : n ≤ t.size := by have := hD.le; rwa [of_len] at this
  have bw := chain2 b1 b2
  have HD := hid hD
  have HR := hid hR
  have hLn := hD.few
  have HT := hid hT
  obtain ⟨a, cc, rfl, hLl⟩ := hR.recs.slice
  have HV := hid hV
  clear hD hR hT hV
  by_cases hn : n = t.size
  · have hn' : ((n : Int) != (t.size : Int)) = false := by simp [hn]
    have ba := (Below.refl w2.heap.size w2).alloc (Nat.le_refl _) (Obj.cells #[.pointer (some ⟨r, 0, none⟩), .slice a L.length cc] 48)
    have bw2 := chain2 bw ba
    have hY := yat_new w2 r (.slice a L.length cc)
    have HR2 := hid (HR.out.below ba)
    have HV2 := hid ((HV.out.below b2).below ba)
    have h1 := b1.size
    have h2 := b2.size
    have HNE := hid hn
    clear hn
    go_wp2
    refine bodyPost_ret (v := .tuple #[.pointer (some ⟨w2.heap.size, 0, none⟩), .slice a L.length cc, .int .i64 0]) (by simp [results, Tryz.results8, go_sem]) rfl ?_
    exact ⟨⟨c, t, HT.out, L, n, HD.out, Or.inr ⟨HNE.out, w2.heap.size, r, _, rfl, by omega, hr, HV2.out, hY, HR2.out.mono h1⟩⟩, bw2⟩
  · have hn' : ((n : Int) != (t.size : Int)) = true := by simp; omega
    have HNE := hid hn
    clear hn
    go_wp2
    refine bodyPost_ret (v := .tuple #[.pointer none, .slice none 0 0, .int .i64 51]) (by simp [results, Tryz.results8, go_sem]) rfl ?_
    exact ⟨⟨c, t, HT.out, L, n, HD.out, Or.inl ⟨HNE.out, rfl⟩⟩, bw⟩
/-- A step of the program's side, which may write its log and its store. -/
theorem two_dstep2 {w w' : World} {B b c : Nat} {D D' E : Dsk} {sl vw vi vc : Value} {cl fk : Int} {keep : Nat} {S : Nat → Prop} (h : Two w b c D E sl vw vi vc cl fk keep) (hS : ∀ k, S k → Sd b sl k ∨ ∃ x T fz, w.heap[k]? = some (Obj.cells x T fz) ∧ T ≠ 62 ∧ T ≠ 9 ∧ T ≠ 3)
    (k : DS S B b sl D' w w') : ∃ sl', Two w' b c D' E sl' vw vi vc cl fk keep := by
  obtain ⟨sl', h1, h2, h3⟩ := k
  have hO : ∀ g c' t fz, w.heap[g]? = some (Obj.cells c' t fz) → (t = 62 ∨ t = 9 ∨ t = 3) → ¬ Sd b sl g → ¬ S g := by
    intro g c' t fz hg ht n3 hs
    rcases hS g hs with e | ⟨x, T, fz', hx, t1, t2, t3⟩
    · exact n3 e
    · rw [hg] at hx
      simp only [Option.some.injEq, Obj.cells.injEq] at hx
      obtain ⟨_, rfl, _⟩ := hx
      rcases ht with e | e | e
      · exact t1 e
      · exact t2 e
      · exact t3 e
  have hStr : ∀ v base e n xs, w.ownsRow base e 1 v n xs → e = 9 → ∀ g, v.ownBlock = some g → ¬ S g := by
    intro v base e n xs hv he g hg
    obtain ⟨c', fz, hc⟩ := Go.Proofs.YtjldlmonccgopaaGreat.own_kind hv g hg
    subst he
    exact hO g _ _ _ hc (Or.inr (Or.inl rfl)) (h.d.out hc (by decide) (by decide))
  have hvc : ∀ g, vc.ownBlock = some g → ¬ S g := by
    intro g hg
    obtain ⟨c', fz, hc⟩ := Go.Proofs.YtjldlmonccgopaaGreat.own_kind h.r.ca g hg
    refine hO g _ _ _ hc (Or.inr (Or.inr rfl)) fun hs => ?_
    rcases hs with e | e
    · exact kind_ne hc h.d.blk (by decide) e
    · exact h.ne g e hg
  refine ⟨sl', h1, ⟨(h3.oth c (lt_of_block h.r.blk) (hO c _ _ _ h.r.blk (Or.inl rfl) (h.d.out h.r.blk (by decide) (by decide)))).trans h.r.blk, own_kf h.r.was h3 (hStr _ _ _ _ _ h.r.was rfl), own_kf h.r.is h3 (hStr _ _ _ _ _ h.r.is rfl), own_kf h.r.ca h3 hvc, h.r.ne, h.r.good, h.r.cl, h.r.fk, h.r.kp⟩, fun g hg e => ?_⟩
  rcases h2 g hg with e2 | e2
  · exact h.ne g e2 e
  · obtain ⟨c', fz, hc⟩ := Go.Proofs.YtjldlmonccgopaaGreat.own_kind h.r.ca g e
    have := lt_of_block hc
    omega
section
variable {B : Nat} {w0 w : World} {b l c r s m : Nat} {D : Dsk} {L : Lg} {E : Dsk} {t : ByteArray} {n a : Nat} {er : Int}
theorem pr_snext {w' : World} {D' : Dsk} {L' : Lg} {m' : Nat} {sl vw vi vc : Value} {cl fk : Int} {keep : Nat} (h : Pr B w0 w b l c r D L E t n a er) (hs : StoreAt w s l m) (h2 : Two w b c D E sl vw vi vc cl fk keep) (k : SNext B b l s sl D' L' m' w w') : Pr B w0 w' b l c r D' L' E t n a er ∧ StoreAt w' s l m' ∧ Ky s w w' := by
  obtain ⟨k1, k2, k3⟩ := k
  obtain ⟨sl', hT⟩ := two_dstep2 h2 (fun k e => by
    rcases e with (e | e) | e
    · exact Or.inl e
    · exact Or.inr ⟨_, _, _, by rw [e]; exact LogAt.blk h.log, by decide, by decide, by decide⟩
    · exact Or.inr ⟨_, _, _, by rw [e]; exact hs.blk, by decide, by decide, by decide⟩) k3
  obtain ⟨_, _, _, kf⟩ := k3
  have hr : ¬ Ss b l s sl r := fun e => by
    rcases e with (e | e) | e
    · exact h2.d.out h.vat.blk (by decide) (by decide) e
    · exact kind_ne h.vat.blk (LogAt.blk h.log) (by decide) e
    · exact kind_ne h.vat.blk hs.blk (by decide) e
  refine ⟨⟨⟨sl', vw, vi, vc, cl, fk, keep, hT⟩, k2, ⟨(kf.oth r (lt_of_block h.vat.blk) hr).trans h.vat.blk⟩, h.bel.trans kf.bel, h.hb, h.hl, h.hc, h.hr⟩, k1, fun p x T fz hp h1 h2' h3 h4 h5 h6 h7 => kf.oth p (lt_of_block hp) fun e => ?_⟩
  rcases e with (e | e) | e
  · exact h2.d.out hp h1 h2' e
  · exact kind_ne hp (LogAt.blk h.log) h3 e
  · exact h7 e
theorem p_add (h : Pr B w0 w b l c r D L E t n a er) (hs : StoreAt w s l m) (hsb : B ≤ s) (hf : L.c.Fit) (ht : L.tail.size ≤ 32512) (ho : D.ops + 1000 < 4611686018427387904) (hm : m ≤ 1099511627776) (v : Value) (R : List Rec) (hR : R.length ≤ 1048576) (hv : IsRecs w v R) :
    Calls Tryz.prog 9 #[.pointer (some ⟨s, 0, none⟩), v] w fun e w' => e = .returned (.int .i64 (laid D L m (L.append D (allT R)) m R).2.2.2) ∧ Pr B w0 w' b l c r (laid D L m (L.append D (allT R)) m R).1 (laid D L m (L.append D (allT R)) m R).2.1 E t n a er ∧ StoreAt w' s l (laid D L m (L.append D (allT R)) m R).2.2.1 ∧ Ky s w w' := by
  obtain ⟨sl, vw, vi, vc, cl, fk, keep, h2⟩ := h.two
  exact (Add_any w B s l b m D sl L v R hR hm hf ht ho h.hb h.hl hsb h2.d h.log hs hv).mono fun e w' ⟨h1, h3⟩ => ⟨h1, pr_snext h hs h2 h3⟩
theorem p_replace (h : Pr B w0 w b l c r D L E t n a er) (hs : StoreAt w s l m) (hsb : B ≤ s) (hf : L.c.Fit) (ht : L.tail.size ≤ 32512) (ho : D.ops + 1000 < 4611686018427387904) (hm : m ≤ 1099511627776) (v : Value) (R : List Rec) (hR : R.length ≤ 1048576) (hv : IsRecs w v R) :
    Calls Tryz.prog 11 #[.pointer (some ⟨s, 0, none⟩), v] w fun e w' => e = .returned (.int .i64 (laid D L m (L.checkpoint D (allT R)) 0 R).2.2.2) ∧ Pr B w0 w' b l c r (laid D L m (L.checkpoint D (allT R)) 0 R).1 (laid D L m (L.checkpoint D (allT R)) 0 R).2.1 E t n a er ∧ StoreAt w' s l (laid D L m (L.checkpoint D (allT R)) 0 R).2.2.1 ∧ Ky s w w' := by
  obtain ⟨sl, vw, vi, vc, cl, fk, keep, h2⟩ := h.two
  exact (Replace_any w B s l b m D sl L v R hR hm hf ht ho h.hb h.hl hsb h2.d h.log hs hv).mono fun e w' ⟨h1, h3⟩ => ⟨h1, pr_snext h hs h2 h3⟩
theorem g_cut (h : Pr B w0 w b l c r D L E t n a er) (i : Int) (keep : Nat) (hi : -9223372036854775808 ≤ i ∧ i < 9223372036854775808) (hk : keep < 18446744073709551616) :
    Calls Tryz.prog 13 #[.pointer (some ⟨b, 0, none⟩), .int .i64 i, .int .u64 (keep : Int)] w fun e w' => e = .returned (.tuple #[]) ∧ Pr B w0 w' b l c r (D.cut i keep) L E t n a er ∧ Kt w w' := by
  obtain ⟨sl, vw, vi, vc, cl, fk, kp, h2⟩ := h.two
  exact (cut_at w B b D sl i keep hi hk h.hb h2.d).mono fun e w' ⟨h1, h3⟩ => ⟨h1, h.dnext h2 h3, Pr.dkt h2 h3⟩
theorem g_crash (h : Pr B w0 w b l c r D L E t n a er) (keep : Nat) (hk : keep < 18446744073709551616) :
    Calls Tryz.prog 17 #[.pointer (some ⟨b, 0, none⟩), .int .u64 (keep : Int)] w fun e w' => e = .returned (.tuple #[]) ∧ Pr B w0 w' b l c r (D.crash keep) L E t n a er ∧ Kt w w' := by
  obtain ⟨sl, vw, vi, vc, cl, fk, kp, h2⟩ := h.two
  exact (crash_at w B b D sl keep hk h.hb h2.d).mono fun e w' ⟨h1, h3⟩ => ⟨h1, h.dnext h2 h3, Pr.dkt h2 h3⟩
theorem g_power (h : Pr B w0 w b l c r D L E t n a er) :
    Calls Tryz.prog 21 #[.pointer (some ⟨b, 0, none⟩)] w fun e w' => e = .returned (.tuple #[]) ∧ Pr B w0 w' b l c r D.power L E t n a er ∧ Kt w w' := by
  obtain ⟨sl, vw, vi, vc, cl, fk, kp, h2⟩ := h.two
  exact (power_at w B b D sl h.hb h2.d).mono fun e w' ⟨h1, h3⟩ => ⟨h1, h.dnext h2 h3, Pr.dkt h2 h3⟩
end
/-- The program's step and the document's come to the same. -/
theorem laid_add (D : Dsk) (t : ByteArray) (n a m : Nat) (er : Int) (R : List Rec) : laid D (VL t n a er) m ((VL t n a er).append D (allT R)) m R = ((yst D t n a er R (vapp D t n a er (allT R))).D, VL (yst D t n a er R (vapp D t n a er (allT R))).t (yst D t n a er R (vapp D t n a er (allT R))).n (yst D t n a er R (vapp D t n a er (allT R))).a (yst D t n a er R (vapp D t n a er (allT R))).er, if (yst D t n a er R (vapp D t n a er (allT R))).E = 0 then m + R.length else m, (yst D t n a er R (vapp D t n a er (allT R))).E) := by
  rw [vapp_is]
  unfold laid yst
  by_cases h : allE R = 0
  · simp only [h, if_true]
    by_cases h2 : (vapp D t n a er (allT R)).E = 0
    · simp only [h2, if_true]
    · simp only [h2, if_false]
  · simp only [h, if_false]
theorem laid_rep (D : Dsk) (t : ByteArray) (n a m : Nat) (er : Int) (R : List Rec) : laid D (VL t n a er) m ((VL t n a er).checkpoint D (allT R)) 0 R = ((yst D t n a er R (vchk D t n a er (allT R))).D, VL (yst D t n a er R (vchk D t n a er (allT R))).t (yst D t n a er R (vchk D t n a er (allT R))).n (yst D t n a er R (vchk D t n a er (allT R))).a (yst D t n a er R (vchk D t n a er (allT R))).er, if (yst D t n a er R (vchk D t n a er (allT R))).E = 0 then 0 + R.length else m, (yst D t n a er R (vchk D t n a er (allT R))).E) := by
  rw [vchk_is]
  unfold laid yst
  by_cases h : allE R = 0
  · simp only [h, if_true]
    by_cases h2 : (vchk D t n a er (allT R)).E = 0
    · simp only [h2, if_true]
    · simp only [h2, if_false]
  · simp only [h, if_false]
end Go.Proofs.YtjldlmonccgopaaGreat.Rc
/- StoreCuts in plain terms. -/
namespace Go.Proofs.YtjldlmonccgopaaGreat.Rc
open Go.RowKit Go.Deep
set_option linter.unusedVariables false
set_option maxRecDepth 100000
set_option linter.unusedSimpArgs false

/-- The document's step on a disk that does what it is told. -/
theorem yst_app {D : Dsk} {t : ByteArray} {n a : Nat} {er : Int} {txt : ByteArray} {k : Nat} {R : List Rec} {X : VSt} (hX : X = yst D t n a er R (vapp D t n a er (allT R))) (hc : Hc D (VL t n a er) txt k) (hf : Fine D) (hv : VFit t n a) (hk : k ≤ 1000000) :
    (X.E = 0 → allE R = 0 ∧ Hc X.D (VL X.t X.n X.a X.er) (txt ++ allT R) (k + 1)) ∧ (X.E ≠ 0 → Hc X.D (VL X.t X.n X.a X.er) txt (k + 1)) ∧ Fine X.D ∧ VFit X.t X.n X.a := by
  have hmono : ∀ {D L u}, Hc D L u k → Hc D L u (k + 1) := fun h => ⟨h.hl, h.calm, by have := h.ops; omega, by have := h.num; omega⟩
  unfold yst at hX
  by_cases hE : allE R = 0
  · rw [if_pos hE] at hX
    have hi := vapp_is D t n a er (allT R)
    rw [← hX] at hi
    have hF : Fine X.D := by rw [hX]; exact (hf.bec hv.a).1
    have hV : VFit X.t X.n X.a := by rw [hX]; exact bec_fit hv hv.a
    by_cases hb : txt.size + (allT R).size ≤ 32512
    · obtain ⟨a1, a2⟩ := hc.append (s := allT R) hb (by omega)
      rw [hi] at a1 a2
      exact ⟨fun _ => ⟨hE, a2⟩, fun h => absurd a1 h, hF, hV⟩
    · have hfull := hc.full (s := allT R) (by omega)
      rw [hi] at hfull
      simp only [Prod.mk.injEq] at hfull
      obtain ⟨e1, e2, e3⟩ := hfull
      refine ⟨fun h => absurd (e3.symm.trans h) (by omega), fun _ => ?_, hF, hV⟩
      rw [e1, e2]; exact hmono hc
  · rw [if_neg hE] at hX
    subst hX
    exact ⟨fun h => absurd h hE, fun _ => hmono hc, hf, hv⟩
theorem yst_zero {D : Dsk} {t : ByteArray} {n a : Nat} {er : Int} {R : List Rec} {S : VSt} (h : (yst D t n a er R S).E = 0) : allE R = 0 := by
  unfold yst at h
  by_cases hE : allE R = 0
  · exact hE
  · rw [if_neg hE] at h; exact absurd h hE
theorem laid_pos {D : Dsk} {L : Lg} {m el : Nat} {x : Dsk × Lg × Int} {R : List Rec} (h : allE R = 0) : (laid D L m x el R).1 = x.1 ∧ (laid D L m x el R).2.2.2 = x.2.2 := by
  unfold laid
  rw [if_pos h]
  by_cases h2 : x.2.2 = 0
  · rw [if_pos h2]; exact ⟨rfl, h2.symm⟩
  · rw [if_neg h2]; exact ⟨rfl, rfl⟩
theorem Hc.cutl {D : Dsk} {L : Lg} {t : ByteArray} {k : Nat} (h : Hc D L t k) (n : Int) (keep : Nat) (hn : n < 9223372036854775808) (hk : keep < 18446744073709551616) : Hl (D.cut n keep) L t := ⟨h.hl.er, h.hl.ok, h.hl.tail, h.hl.good.cut n keep hn hk, h.hl.sz⟩
theorem str_app (x y : Bs) : Bs.str x ++ Bs.str y = Bs.str (x ++ y) := arr_app x y
theorem allT_enc {R : List Rec} (h : allE R = 0) : allT R = Bs.str (encs R) := by unfold allT; rw [if_pos h]
/-- A text of records is decoded as they were. -/
theorem dec_str {R L : List Rec} {n : Nat} (hg : ∀ r ∈ R, Good r) (h : Dec (Bs.of (Bs.str (encs R))) L n) : L = R ∧ n = (Bs.str (encs R)).size := by
  rw [of_str] at h
  obtain ⟨e1, e2⟩ := h.uniq (Dec.all hg)
  exact ⟨e1, by rw [e2, str_size]⟩
/-- Blocks of other kinds than records lie as they lay: both sides do. -/
theorem pr_same {B : Nat} {w0 w w' : World} {b l c r : Nat} {D E : Dsk} {L : Lg} {t : ByteArray} {n a : Nat} {er : Int} (h : Pr B w0 w b l c r D L E t n a er) (hs : ∀ (p : Nat) (x : Array Value) (T : TypeId) (fz : Nat × Nat), w.heap[p]? = some (Obj.cells x T fz) → T ≠ 81 → w'.heap[p]? = w.heap[p]?) (hb : Below B w0 w') : Pr B w0 w' b l c r D L E t n a er := by
  obtain ⟨sl, vw, vi, vc, cl, fk, keep, h2⟩ := h.two
  have hrow : ∀ {base : Nat} {e : TypeId} {u : Value} {n : Nat} {xs : List Value}, w.ownsRow base e 1 u n xs → e ≠ 81 → w'.ownsRow base e 1 u n xs := fun ho he => ownsRow_same ho fun g hg => by
    obtain ⟨c', fz, hc⟩ := Go.Proofs.YtjldlmonccgopaaGreat.own_kind ho g hg
    exact hs g _ _ _ hc he
  refine ⟨⟨sl, vw, vi, vc, cl, fk, keep, ⟨(hs b _ _ _ h2.d.blk (by decide)).trans h2.d.blk, hrow h2.d.own (by decide), h2.d.good⟩, ⟨(hs c _ _ _ h2.r.blk (by decide)).trans h2.r.blk, hrow h2.r.was (by decide), hrow h2.r.is (by decide), hrow h2.r.ca (by decide), h2.r.ne, h2.r.good, h2.r.cl, h2.r.fk, h2.r.kp⟩, h2.ne⟩, ⟨(hs l _ _ _ (LogAt.blk h.log) (by decide)).trans (LogAt.blk h.log)⟩, ⟨(hs r _ _ _ h.vat.blk (by decide)).trans h.vat.blk⟩, hb, h.hb, h.hl, h.hc, h.hr⟩
theorem yr_made (w0 w : World) (h : w0.heap.size ≤ w.heap.size) : Yr w0 (w.alloc (Obj.cells #[] 81)) (.slice (some ⟨w.heap.size, 0, none⟩) 0 0) [] :=
  ⟨by simp, [], rfl, World.ownsRow_made w #[] 0 h (Nat.zero_le _) (by simp), fun i hi => by simp at hi⟩
theorem Yr.ne {w0 w : World} {v : Value} {L : List Rec} (h : Yr w0 w v L) : v.ownBlock ≠ some w.heap.size := fun e => by
  obtain ⟨_, us, _, h3, _⟩ := h
  have := (h3.lt _ e).2
  omega
theorem Yr.kept {w0 w w' : World} {v : Value} {L : List Rec} {row : Option Nat} (h : Yr w0 w v L) (g : w.grownBy w' row) (hn : v.ownBlock = none ∨ v.ownBlock ≠ row) : Yr w0 w' v L := by
  obtain ⟨h1, us, h2, h3, h4⟩ := h
  exact ⟨h1, us, h2, h3.kept g hn, h4⟩
theorem Yr.below {w0 w w' : World} {v : Value} {L : List Rec} (h : Yr w0 w v L) (k : Below w.heap.size w w') : Yr w0 w' v L := by
  obtain ⟨h1, us, h2, h3, h4⟩ := h
  exact ⟨h1, us, h2, own_below h3 k, h4⟩
theorem Yr.kys {s l m : Nat} {w0 w w' : World} {v : Value} {L : List Rec} (h : Yr w0 w v L) (k : Ky s w w') (hs : StoreAt w s l m) : Yr w0 w' v L := by
  obtain ⟨h1, us, h2, h3, h4⟩ := h
  refine ⟨h1, us, h2, ⟨h3.1, ?_⟩, h4⟩
  rcases h3.2 with h3 | ⟨g, cap, cur, hv, hg, hh, q⟩
  · exact Or.inl h3
  · exact Or.inr ⟨g, cap, cur, hv, hg, (k g _ _ _ hh (by decide) (by decide) (by decide) (by decide) (by decide) (by decide) (kind_ne hh hs.blk (by decide))).trans hh, q⟩
theorem YAt.kys {s l m y r : Nat} {w w' : World} {v : Value} (h : YAt w y r v) (k : Ky s w w') (hs : StoreAt w s l m) : YAt w' y r v := ⟨(k y _ _ _ h.blk (by decide) (by decide) (by decide) (by decide) (by decide) (by decide) (kind_ne h.blk hs.blk (by decide))).trans h.blk⟩
theorem StoreAt.ky {s l m y r : Nat} {w w' : World} {v : Value} (h : StoreAt w s l m) (k : Ky y w w') (hy : YAt w y r v) : StoreAt w' s l m := ⟨(k s _ _ _ h.blk (by decide) (by decide) (by decide) (by decide) (by decide) (by decide) (kind_ne h.blk hy.blk (by decide))).trans h.blk⟩
/-- What the store tells behind the crash. -/
def Tale (R1 R2 : List Rec) (f : Int) (R : List Rec) : Prop := R = R2 ∨ (f ≠ 0 ∧ R = R1)
theorem After.tale {D : Dsk} {f : Int} {R1 R2 : List Rec} {c0 : Com} {t0 : ByteArray} (h : After D f (Bs.str (encs R1)) (Bs.str (encs R2))) (k : Tells D.wr c0 t0) : ∃ R, t0 = Bs.str (encs R) ∧ Tale R1 R2 f R := by
  rcases After.tells h k with ⟨_, h2, h3⟩ | ⟨_, h2, h3⟩ | ⟨_, h2, h3 | h3⟩
  · exact ⟨R1, h3, Or.inr ⟨by rw [h2]; omega, rfl⟩⟩
  · exact ⟨R2, h3, Or.inl rfl⟩
  · exact ⟨R1, h3, Or.inr ⟨h2, rfl⟩⟩
  · exact ⟨R2, h3, Or.inl rfl⟩
theorem p_add_y {B : Nat} {w0 w : World} {b l c r s m : Nat} {D : Dsk} {t : ByteArray} {n a : Nat} {er : Int} {E : Dsk} {t' : ByteArray} {n' a' : Nat} {er' : Int} {X : VSt} (h : Pr B w0 w b l c r D (VL t n a er) E t' n' a' er') (hs : StoreAt w s l m) (hsb : B ≤ s) (hv : VFit t n a) (ho : D.ops + 1000 < 4611686018427387904) (hm : m ≤ 1099511627776) (v : Value) (R : List Rec) (hR : R.length ≤ 1048576) (hi : IsRecs w v R) (hX : X = yst D t n a er R (vapp D t n a er (allT R))) :
    Calls Tryz.prog 9 #[.pointer (some ⟨s, 0, none⟩), v] w fun e w' => e = .returned (.int .i64 X.E) ∧ Pr B w0 w' b l c r X.D (VL X.t X.n X.a X.er) E t' n' a' er' ∧ StoreAt w' s l (if X.E = 0 then m + R.length else m) ∧ Ky s w w' := by
  have k := p_add h hs hsb hv.com (tail_le t) ho hm v R hR hi
  rw [laid_add, ← hX] at k
  exact k
theorem p_rep_y {B : Nat} {w0 w : World} {b l c r s m : Nat} {D : Dsk} {t : ByteArray} {n a : Nat} {er : Int} {E : Dsk} {t' : ByteArray} {n' a' : Nat} {er' : Int} {X : VSt} (h : Pr B w0 w b l c r D (VL t n a er) E t' n' a' er') (hs : StoreAt w s l m) (hsb : B ≤ s) (hv : VFit t n a) (ho : D.ops + 1000 < 4611686018427387904) (hm : m ≤ 1099511627776) (v : Value) (R : List Rec) (hR : R.length ≤ 1048576) (hi : IsRecs w v R) (hX : X = yst D t n a er R (vchk D t n a er (allT R))) :
    Calls Tryz.prog 11 #[.pointer (some ⟨s, 0, none⟩), v] w fun e w' => e = .returned (.int .i64 X.E) ∧ Pr B w0 w' b l c r X.D (VL X.t X.n X.a X.er) E t' n' a' er' ∧ StoreAt w' s l (if X.E = 0 then 0 + R.length else m) ∧ Ky s w w' := by
  have k := p_replace h hs hsb hv.com (tail_le t) ho hm v R hR hi
  rw [laid_rep, ← hX] at k
  exact k
theorem after_check {D : Dsk} {L : Lg} {t s b : ByteArray} (h : Hl D L t) (hn : L.c.num + 1 < 18446744073709551616) (hb : s = b) : After (L.checkpoint D s).1 (L.checkpoint D s).2.2 t b := by
  subst hb
  exact After.checkpoint h hn
end Go.Proofs.YtjldlmonccgopaaGreat.Rc
