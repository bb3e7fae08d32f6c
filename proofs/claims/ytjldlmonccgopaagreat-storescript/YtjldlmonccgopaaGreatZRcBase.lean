/- Records in memory. -/
import Derived.Test.YtjldlmonccgopaaGreatRows
import Derived.Test.YtjldlmonccgopaaGreatPk0
import Derived.WalkKit
import Derived.WalkSpells
import Derived.WalkLawsBesides
import Derived.Deep.WholeRow
import Derived.Lib.OthersKept
import Derived.Lib.UnsafeStr
import Derived.Lib.AppendStr
import Derived.Maps.AppendAt
import Derived.Laws.Bits64b
namespace Go.Proofs.YtjldlmonccgopaaGreat.Rc
open Go.RowKit
set_option linter.unusedVariables false
set_option linter.unusedSimpArgs false

theorem hid {p : Prop} (h : p) : Hid p := h
theorem add_off (g o j : Nat) : (⟨g, o, none⟩ : Addr).add j = ⟨g, o + j, none⟩ := by unfold Addr.add; split <;> simp_all
theorem cell_at {w : World} {b : Nat} {L : List Value} {t : TypeId} {fz : Nat × Nat} (h : w.heap[b]? = some (.cells L.toArray t fz)) (k : Nat) (v : Value) (hk : L[k]? = some v) : w.cell? ⟨b, k, none⟩ = some v := by
  rw [cell_of_row _ _ k _ _ _ h]; simpa using hk
theorem free_at {w : World} {b : Nat} {L : List Value} {t : TypeId} (h : w.heap[b]? = some (.cells L.toArray t (0, 0))) (k : Nat) : w.frozen? ⟨b, k, none⟩ = false := by simp [World.frozen?, h]
theorem set_at {w : World} {b k : Nat} {L : List Value} {v : Value} {t : TypeId} {fz : Nat × Nat} (h : w.heap[b]? = some (.cells L.toArray t fz)) : (w.setCell ⟨b, k, none⟩ v).heap[b]? = some (.cells (L.set k v).toArray t fz) := by
  have hlt := lt_of_block h
  have h' : w.heap[b] = .cells L.toArray t fz := by simpa [Array.getElem?_eq_getElem hlt] using h
  show (w.heap.modify b _)[b]? = _
  simp [Array.getElem_modify, hlt, h']
theorem own_slice {w : World} {base size : Nat} {e : TypeId} {v : Value} {n : Nat} {xs : List Value} (h : w.ownsRow base e size v n xs) : ∃ sa sc, v = .slice sa n sc := by
  rcases h.2 with ⟨rfl, rfl⟩ | ⟨g, cap, cur, rfl, _⟩
  · exact ⟨_, _, rfl⟩
  · exact ⟨_, _, rfl⟩
theorem own_below {w w' : World} {base size : Nat} {e : TypeId} {v : Value} {n : Nat} {xs : List Value} (h : w.ownsRow base e size v n xs) (k : Below w.heap.size w w') : w'.ownsRow base e size v n xs := by
  obtain ⟨h1, h2⟩ := h
  refine ⟨h1, ?_⟩
  rcases h2 with h2 | ⟨g, cap, cur, hv, hb, hh, r⟩
  · exact Or.inl h2
  · exact Or.inr ⟨g, cap, cur, hv, hb, (k.block g (lt_of_block hh)).trans hh, r⟩
theorem own_mono {w : World} {base base' size : Nat} {e : TypeId} {v : Value} {n : Nat} {xs : List Value} (h : w.ownsRow base e size v n xs) (hb : base' ≤ base) : w.ownsRow base' e size v n xs := by
  obtain ⟨h1, h2⟩ := h
  refine ⟨h1, ?_⟩
  rcases h2 with h2 | ⟨g, cap, cur, hv, hg, r⟩
  · exact Or.inl h2
  · exact Or.inr ⟨g, cap, cur, hv, by omega, r⟩
theorem below_dn {B : Nat} {w X : World} (h : Below B w X) (n : Nat) : Below B w (X.drewN n) := ⟨h.os, h.tape, h.output, h.size, h.block⟩
theorem chain2 {w a b : World} (h : Below w.heap.size w a) (k : Below a.heap.size a b) : Below w.heap.size w b := h.trans (k.mono h.size)
theorem info_u8 : (Tryz.prog.info? 5).map (fun i => (i.zero, i.size, i.bytes)) = some (some (.int .u8 0), 1, 1) := by kernel_rfl
theorem info_int : (Tryz.prog.info? 3).map (fun i => (i.zero, i.size, i.bytes)) = some (some (.int .i64 0), 1, 8) := by kernel_rfl
theorem info_rec : (Tryz.prog.info? 81).map (fun i => (i.zero, i.size, i.bytes)) = some (some (.agg #[.int .i64 0, .string ⟨#[]⟩, .slice none 0 0, .string ⟨#[]⟩]), 4, 64) := by kernel_rfl

def i64s (L : List Int) : List Value := L.map fun x => Value.int .i64 x
theorem i64s_app (L M : List Int) : i64s (L ++ M) = i64s L ++ i64s M := by simp [i64s]
theorem i64s_len (L : List Int) : (i64s L).length = L.length := by simp [i64s]
/-- A slice of ints. -/
def IsInts (w : World) (v : Value) (L : List Int) : Prop :=
  (∀ n ∈ L, I64 n) ∧ ∃ a c, v = .slice a L.length c ∧ L.length ≤ c ∧ c ≤ maxLen ∧ (L = [] ∨ ∃ b off, a = some ⟨b, off, none⟩ ∧ ∀ i (h : i < L.length), w.cell? ⟨b, off + i, none⟩ = some (.int .i64 L[i]))
theorem IsInts.below {w w' : World} {v : Value} {L : List Int} (h : IsInts w v L) (k : Below w.heap.size w w') : IsInts w' v L := by
  obtain ⟨h0, a, c, h1, h2, h3, h4⟩ := h
  refine ⟨h0, a, c, h1, h2, h3, ?_⟩
  rcases h4 with h4 | ⟨b, off, h4, h5⟩
  · exact Or.inl h4
  · exact Or.inr ⟨b, off, h4, fun i hi => (k.cell (World.block_lt_of_cell? w _ (h5 i hi))).trans (h5 i hi)⟩
theorem IsInts.len {w : World} {v : Value} {L : List Int} (h : IsInts w v L) : L.length ≤ 140737488355328 ∨ True := Or.inr trivial
theorem IsInts.nil (w : World) : IsInts w (.slice none 0 0) [] := ⟨by simp, none, 0, rfl, Nat.le_refl _, Nat.zero_le _, Or.inl rfl⟩
theorem IsInts.of_own {w : World} {base : Nat} {v : Value} {L : List Int} (h : w.ownsRow base 3 1 v L.length (i64s L)) (hf : ∀ n ∈ L, I64 n) : IsInts w v L := by
  refine ⟨hf, ?_⟩
  rcases h.2 with ⟨rfl, h0⟩ | ⟨g, cap, cur, rfl, _, hh, h1, h2, _⟩
  · refine ⟨none, 0, by rw [h0], by omega, Nat.zero_le _, Or.inl (List.eq_nil_of_length_eq_zero h0)⟩
  · refine ⟨_, cap, rfl, h1, h2, Or.inr ⟨g, 0, rfl, fun i hi => ?_⟩⟩
    have := h.cells (g := g) rfl i (.int .i64 L[i]) (by simp [i64s, hi])
    rw [add_off] at this
    exact this
/-- A number of a row that is written elsewhere. -/
theorem IsInts.grown {w w' : World} {v : Value} {L : List Int} {row : Option Nat} (h : IsInts w v L) (k : w.grownBy w' row) (hne : L ≠ [] → v.ownBlock ≠ row) : IsInts w' v L := by
  obtain ⟨h0, a, c, h1, h2, h3, h4⟩ := h
  refine ⟨h0, a, c, h1, h2, h3, ?_⟩
  rcases h4 with h4 | ⟨b, off, h4, h5⟩
  · exact Or.inl h4
  · by_cases hL : L = []
    · exact Or.inl hL
    · refine Or.inr ⟨b, off, h4, fun i hi => k.cell (h5 i hi) ?_⟩
      have := hne hL
      rw [h1, h4] at this
      exact this
theorem IsInts.lt {w : World} {v : Value} {L : List Int} (h : IsInts w v L) (hL : L ≠ []) : ∃ b, v.ownBlock = some b ∧ b < w.heap.size := by
  obtain ⟨h0, a, c, h1, h2, h3, h4⟩ := h
  rcases h4 with h4 | ⟨b, off, h4, h5⟩
  · exact absurd h4 hL
  · refine ⟨b, by rw [h1, h4]; rfl, ?_⟩
    exact World.block_lt_of_cell? w _ (h5 0 (by cases L; (· exact absurd rfl hL); simp))
/-- A record as a value, v being its numbers. -/
def rv (r : Rec) (v : Value) : Value := .agg #[.int .i64 r.kind, .string r.who, v, .string r.text]
/-- The cells of records one behind the other. -/
def flat : List Rec → List Value → List Value
  | r :: L, v :: vs => .int .i64 r.kind :: .string r.who :: v :: .string r.text :: flat L vs
  | _, _ => []
theorem flat_len : ∀ (L : List Rec) (vs : List Value), vs.length = L.length → (flat L vs).length = L.length * 4
  | [], _, _ => by simp [flat]
  | r :: L, [], h => by simp at h
  | r :: L, v :: vs, h => by simp only [flat, List.length_cons, flat_len L vs (by simpa using h)]; omega
theorem flat_snoc : ∀ (L : List Rec) (vs : List Value) (r : Rec) (v : Value), vs.length = L.length → flat (L ++ [r]) (vs ++ [v]) = flat L vs ++ [.int .i64 r.kind, .string r.who, v, .string r.text]
  | [], [], r, v, _ => by simp [flat]
  | [], v' :: vs, _, _, h => by simp at h
  | r' :: L, [], _, _, h => by simp at h
  | r' :: L, v' :: vs, r, v, h => by simp only [flat, List.cons_append, flat_snoc L vs r v (by simpa using h)]
theorem flat_app : ∀ (L M : List Rec) (vs us : List Value), vs.length = L.length → flat (L ++ M) (vs ++ us) = flat L vs ++ flat M us
  | [], M, [], us, _ => by simp [flat]
  | [], M, v' :: vs, _, h => by simp at h
  | r' :: L, M, [], _, h => by simp at h
  | r' :: L, M, v' :: vs, us, h => by simp only [flat, List.cons_append, flat_app L M vs us (by simpa using h)]
theorem flat_at : ∀ (L : List Rec) (vs : List Value) (i : Nat) (h : i < L.length) (h' : i < vs.length) (j : Nat), j < 4 → (flat L vs)[i * 4 + j]? = [Value.int .i64 L[i].kind, .string L[i].who, vs[i], .string L[i].text][j]?
  | [], _, i, h, _, _, _ => by simp at h
  | r :: L, [], i, _, h', _, _ => by simp at h'
  | r :: L, v :: vs, 0, _, _, j, hj => by
    match j, hj with
    | 0, _ => rfl
    | 1, _ => rfl
    | 2, _ => rfl
    | 3, _ => rfl
  | r :: L, v :: vs, i + 1, h, h', j, hj => by
    simp only [flat]
    rw [show (i + 1) * 4 + j = i * 4 + j + 1 + 1 + 1 + 1 by omega]
    simp only [List.getElem?_cons_succ]
    exact flat_at L vs i (by simpa using h) (by simpa using h') j hj
/-- The record r lies at b, off; its numbers are v. -/
structure RecAt (w : World) (b off : Nat) (r : Rec) (v : Value) : Prop where
  kind : w.cell? ⟨b, off, none⟩ = some (.int .i64 r.kind)
  who : w.cell? ⟨b, off + 1, none⟩ = some (.string r.who)
  nums : w.cell? ⟨b, off + 2, none⟩ = some v
  text : w.cell? ⟨b, off + 3, none⟩ = some (.string r.text)
  ints : IsInts w v r.nums
/-- What a record's parts may be at most. -/
structure RecFits (r : Rec) : Prop where
  kind : I64 r.kind
  who : r.who.size ≤ maxLen
  text : r.text.size ≤ maxLen
/-- A slice of records. -/
def IsRecs (w : World) (v : Value) (L : List Rec) : Prop :=
  ∃ a c, v = .slice a L.length c ∧ L.length ≤ c ∧ c ≤ maxLen ∧ (L = [] ∨ ∃ b off, a = some ⟨b, off, none⟩ ∧ ∀ i (h : i < L.length), RecFits L[i] ∧ ∃ u, RecAt w b (off + i * 4) L[i] u)
theorem RecAt.below {w w' : World} {b off : Nat} {r : Rec} {v : Value} (h : RecAt w b off r v) (k : Below w.heap.size w w') : RecAt w' b off r v :=
  have hl : b < w.heap.size := World.block_lt_of_cell? w _ h.kind
  ⟨(k.cell (p := ⟨b, off, none⟩) hl).trans h.kind, (k.cell (p := ⟨b, off + 1, none⟩) hl).trans h.who, (k.cell (p := ⟨b, off + 2, none⟩) hl).trans h.nums, (k.cell (p := ⟨b, off + 3, none⟩) hl).trans h.text, h.ints.below k⟩
theorem IsRecs.below {w w' : World} {v : Value} {L : List Rec} (h : IsRecs w v L) (k : Below w.heap.size w w') : IsRecs w' v L := by
  obtain ⟨a, c, h1, h2, h3, h4⟩ := h
  refine ⟨a, c, h1, h2, h3, ?_⟩
  rcases h4 with h4 | ⟨b, off, h4, h5⟩
  · exact Or.inl h4
  · refine Or.inr ⟨b, off, h4, fun i hi => ?_⟩
    obtain ⟨h6, u, h7⟩ := h5 i hi
    exact ⟨h6, u, h7.below k⟩
theorem IsRecs.at {w : World} {v : Value} {L : List Rec} (h : IsRecs w v L) (i : Nat) (hi : i < L.length) : ∃ b off c u, v = .slice (some ⟨b, off, none⟩) L.length c ∧ L.length ≤ c ∧ c ≤ maxLen ∧ RecFits L[i] ∧ RecAt w b (off + i * 4) L[i] u := by
  obtain ⟨a, c, h1, h2, h3, h4⟩ := h
  rcases h4 with h4 | ⟨b, off, h4, h5⟩
  · rw [h4] at hi; simp at hi
  · obtain ⟨h6, u, h7⟩ := h5 i hi
    exact ⟨b, off, c, u, by rw [h1, h4], h2, h3, h6, h7⟩
/-- Records that the call itself has laid. -/
def Row (w : World) (base : Nat) (l : Value) (L : List Rec) : Prop :=
  (∀ r ∈ L, RecFits r) ∧ ∃ vs : List Value, vs.length = L.length ∧ w.ownsRow base 81 4 l L.length (flat L vs) ∧ ∀ i (h : i < L.length) (h' : i < vs.length), IsInts w vs[i] L[i].nums ∧ (L[i].nums ≠ [] → vs[i].ownBlock ≠ l.ownBlock)
theorem Row.recs {w : World} {base : Nat} {l : Value} {L : List Rec} (h : Row w base l L) : IsRecs w l L := by
  obtain ⟨hf, vs, h1, h2, h3⟩ := h
  rcases h2.2 with ⟨rfl, h0⟩ | ⟨g, cap, cur, rfl, _, hh, h4, h5, _⟩
  · exact ⟨none, 0, by rw [h0], by omega, Nat.zero_le _, Or.inl (List.eq_nil_of_length_eq_zero h0)⟩
  · refine ⟨_, cap, rfl, h4, h5, Or.inr ⟨g, 0, rfl, fun i hi => ⟨hf _ (List.getElem_mem hi), vs[i]'(by omega), ?_⟩⟩⟩
    have hc : ∀ j, j < 4 → ∀ u, [Value.int .i64 L[i].kind, .string L[i].who, vs[i]'(by omega), .string L[i].text][j]? = some u → w.cell? ⟨g, 0 + i * 4 + j, none⟩ = some u := by
      intro j hj u hu
      have := h2.cells (g := g) rfl (i * 4 + j) u (by rw [flat_at L vs i hi (by omega) j hj]; exact hu)
      rw [add_off] at this
      rw [Nat.add_assoc]
      exact this
    exact ⟨hc 0 (by omega) _ rfl, hc 1 (by omega) _ rfl, hc 2 (by omega) _ rfl, hc 3 (by omega) _ rfl, (h3 i hi (by omega)).1⟩
theorem Row.below {w w' : World} {base : Nat} {l : Value} {L : List Rec} (h : Row w base l L) (k : Below w.heap.size w w') : Row w' base l L := by
  obtain ⟨hf, vs, h1, h2, h3⟩ := h
  exact ⟨hf, vs, h1, own_below h2 k, fun i hi hi' => ⟨(h3 i hi hi').1.below k, (h3 i hi hi').2⟩⟩
theorem Row.mono {w : World} {base base' : Nat} {l : Value} {L : List Rec} (h : Row w base l L) (hb : base' ≤ base) : Row w base' l L := by
  obtain ⟨hf, vs, h1, h2, h3⟩ := h
  exact ⟨hf, vs, h1, own_mono h2 hb, h3⟩
theorem Row.nil (w : World) (base : Nat) : Row w base (.slice none 0 0) [] := ⟨by simp, [], rfl, World.ownsRow_nil _ _ _ _, fun i hi => by simp at hi⟩
theorem Row.made (w : World) (base : Nat) (hb : base ≤ w.heap.size) : Row (w.alloc (.cells #[] 81)) base (.slice (some ⟨w.heap.size, 0, none⟩) 0 0) [] :=
  ⟨by simp, [], rfl, World.ownsRow_made w #[] 0 hb (Nat.zero_le _) (by simp), fun i hi => by simp at hi⟩
/-- One more. -/
theorem Row.snoc {w w' : World} {base : Nat} {l l' v : Value} {L : List Rec} {r : Rec} {vs : List Value} (hf : ∀ q ∈ L, RecFits q) (h1 : vs.length = L.length) (h3 : ∀ i (h : i < L.length) (h' : i < vs.length), IsInts w vs[i] L[i].nums ∧ (L[i].nums ≠ [] → vs[i].ownBlock ≠ l.ownBlock))
    (hr : RecFits r) (hv : IsInts w v r.nums) (hn : r.nums ≠ [] → v.ownBlock ≠ l.ownBlock)
    (ho : w'.ownsRow base 81 4 l' (L.length + 1) (flat L vs ++ [.int .i64 r.kind, .string r.who, v, .string r.text])) (hg : w.grownBy w' l.ownBlock) (hat : l'.ownBlock = l.ownBlock ∨ l'.ownBlock = some w.heap.size) : Row w' base l' (L ++ [r]) := by
  refine ⟨fun q hq => ?_, vs ++ [v], by simp [h1], by rw [flat_snoc L vs r v h1]; simpa using ho, fun i hi hi' => ?_⟩
  · rcases List.mem_append.1 hq with hq | hq
    · exact hf q hq
    · simp at hq; subst hq; exact hr
  · have key : ∀ (u : Value) (M : List Int), IsInts w u M → (M ≠ [] → u.ownBlock ≠ l.ownBlock) → IsInts w' u M ∧ (M ≠ [] → u.ownBlock ≠ l'.ownBlock) := by
      intro u M hu hne
      refine ⟨hu.grown hg hne, fun hM => ?_⟩
      rcases hat with e | e
      · rw [e]; exact hne hM
      · obtain ⟨b, hb, hlt⟩ := hu.lt hM
        rw [e, hb]
        intro e2
        simp only [Option.some.injEq] at e2
        omega
    by_cases hlt : i < L.length
    · simp only [List.getElem_append_left hlt, List.getElem_append_left (show i < vs.length by omega)]
      exact key _ _ (h3 i hlt (by omega)).1 (h3 i hlt (by omega)).2
    · obtain rfl : i = L.length := by simp at hi; omega
      simp only [List.getElem_append_right (Nat.le_refl _), List.getElem_append_right (show vs.length ≤ L.length by omega), Nat.sub_self, h1, List.getElem_cons_zero]
      exact key _ _ hv hn
/-- Four cells. -/
theorem set4 {X : World} {b : Nat} {t : TypeId} {a0 a1 a2 a3 : Value} (h : X.heap[b]? = some (.cells #[a0, a1, a2, a3] t (0, 0))) (v0 v1 v2 v3 : Value) : ((((X.setCell ⟨b, 0, none⟩ v0).setCell ⟨b, 1, none⟩ v1).setCell ⟨b, 2, none⟩ v2).setCell ⟨b, 3, none⟩ v3).heap[b]? = some (.cells #[v0, v1, v2, v3] t (0, 0)) :=
  set_at (L := [_, _, _, _]) (k := 3) (v := v3) (set_at (L := [_, _, _, _]) (k := 2) (v := v2) (set_at (L := [_, _, _, _]) (k := 1) (v := v1) (set_at (L := [_, _, _, _]) (k := 0) (v := v0) h)))
theorem below4 {B b : Nat} {w X : World} (h : Below B w X) (hB : B ≤ b) (v0 v1 v2 v3 : Value) : Below B w ((((X.setCell ⟨b, 0, none⟩ v0).setCell ⟨b, 1, none⟩ v1).setCell ⟨b, 2, none⟩ v2).setCell ⟨b, 3, none⟩ v3) :=
  (((h.setCell (p := ⟨b, 0, none⟩) hB _).setCell (p := ⟨b, 1, none⟩) hB _).setCell (p := ⟨b, 2, none⟩) hB _).setCell (p := ⟨b, 3, none⟩) hB _
structure Box4 (X : World) (b : Nat) (t : TypeId) (v0 v1 v2 v3 : Value) : Prop where
  blk : X.heap[b]? = some (.cells #[v0, v1, v2, v3] t (0, 0))
  c0 : X.cell? ⟨b, 0, none⟩ = some v0
  c1 : X.cell? ⟨b, 1, none⟩ = some v1
  c2 : X.cell? ⟨b, 2, none⟩ = some v2
  c3 : X.cell? ⟨b, 3, none⟩ = some v3
  fr : ∀ k, X.frozen? ⟨b, k, none⟩ = false
theorem Box4.of {X : World} {b : Nat} {t : TypeId} {v0 v1 v2 v3 : Value} (h : X.heap[b]? = some (.cells #[v0, v1, v2, v3] t (0, 0))) : Box4 X b t v0 v1 v2 v3 :=
  ⟨h, cell_at (L := [_, _, _, _]) h 0 _ rfl, cell_at (L := [_, _, _, _]) h 1 _ rfl, cell_at (L := [_, _, _, _]) h 2 _ rfl, cell_at (L := [_, _, _, _]) h 3 _ rfl, free_at (L := [_, _, _, _]) h⟩
theorem Box4.set {X : World} {b : Nat} {t : TypeId} {a0 a1 a2 a3 : Value} (h : Box4 X b t a0 a1 a2 a3) (v0 v1 v2 v3 : Value) : Box4 ((((X.setCell ⟨b, 0, none⟩ v0).setCell ⟨b, 1, none⟩ v1).setCell ⟨b, 2, none⟩ v2).setCell ⟨b, 3, none⟩ v3) b t v0 v1 v2 v3 := Box4.of (set4 h.blk _ _ _ _)
theorem Box4.below {X Y : World} {b : Nat} {t : TypeId} {v0 v1 v2 v3 : Value} (h : Box4 X b t v0 v1 v2 v3) {B : Nat} (k : Below B X Y) (hb : b < B) : Box4 Y b t v0 v1 v2 v3 := Box4.of ((k.block b hb).trans h.blk)
theorem Box4.drewN {X : World} {b : Nat} {t : TypeId} {v0 v1 v2 v3 : Value} (h : Box4 X b t v0 v1 v2 v3) (n : Nat) : Box4 (X.drewN n) b t v0 v1 v2 v3 := Box4.of h.blk
theorem Box4.new (w : World) (t : TypeId) (v0 v1 v2 v3 : Value) : Box4 (w.alloc (Obj.cells #[v0, v1, v2, v3] t)) w.heap.size t v0 v1 v2 v3 := Box4.of (heap_alloc_last w _)
end Go.Proofs.YtjldlmonccgopaaGreat.Rc
