/- wal in plain terms: a log that is as it should be, and what a call makes of it. -/
import Derived.Test.YthcefjkpiaecjaaWText
namespace Go.Proofs.Ythcefjkpiaecjaa
set_option linter.unusedVariables false
set_option linter.unusedSimpArgs false

theorem sz_set {V : List ByteArray} {i : Nat} {s : ByteArray} (h : Sz V) (hi : i < V.length) (hs : s.size ≤ 256) : Sz (V.set i s) := fun j => by
  rw [getD_set hi]
  split
  · exact hs
  · exact h j
theorem lay_sz {D : Dsk} {xs : List (Nat × ByteArray)} {i : Nat} {t : ByteArray} (h : All Sz D) (hg : D.Good) (hx : ∀ x ∈ xs, x.1 < 256 ∧ x.2.size ≤ 256) (hi : i < 256) (ht : t.size ≤ 256) : All Sz (D.lay xs i t).1 := by
  have h1 := h.wrs xs hg hx (fun x hx' V hV k => sz_set k (by rw [hV]; exact (hx x hx').1) (hx x hx').2)
  have g1 := wrs_good xs D hg
  have h2 := h1.sync g1
  have g2 := g1.sync
  have h3 := h2.write (Q := Sz) (i := i) (s := t) g2 hi ht (fun _ k => k) (fun V hV k => sz_set k (by rw [hV]; exact hi) ht)
  have g3 := g2.write (i : Int) t
  unfold Dsk.lay
  (repeat' split)
  · exact h1
  · exact h2
  · exact h3
  · exact h3.sync g3
theorem sz_new : All Sz Dsk.new := all_flat (fun i => by
  show ((List.replicate 256 ByteArray.empty).getD i ByteArray.empty).size ≤ 256
  rw [List.getD_eq_getElem?_getD, List.getElem?_replicate]
  split <;> simp) rfl Dsk.good_new
theorem ok_new : All (Ok · com0 ByteArray.empty) Dsk.new := all_flat (by
  have hz : ∀ i d, ¬ IsCom ((List.replicate 256 ByteArray.empty).getD i ByteArray.empty) d := fun i d k => by
    have := k.size
    rw [List.getD_eq_getElem?_getD, List.getElem?_replicate] at this
    split at this <;> simp at this
  exact ⟨com0_fit, rfl, fun k hk => absurd hk (by simp), rfl, fun k => absurd rfl k, fun d k => absurd k (hz _ d), fun _ => ⟨rfl, fun d => hz 0 d⟩⟩) rfl Dsk.good_new
theorem tailT_at (u : ByteArray) (k : Nat) (h : k < u.size % 256) : bt (tailT u) k = bt u (u.size - u.size % 256 + k) := by
  have hm : u.size % 256 ≤ u.size := Nat.mod_le _ _
  unfold tailT
  exact bt_extract u _ _ k (Nat.le_refl _) (by omega)
theorem tail_tail (t s : ByteArray) : tailT (tailT t ++ s) = tailT (t ++ s) := by
  have h1 := tailT_size t
  have h2 := tailT_size (tailT t ++ s)
  have h3 := tailT_size (t ++ s)
  have h4 : (tailT t ++ s).size = t.size % 256 + s.size := by rw [ByteArray.size_append, h1]
  have h5 : (t ++ s).size = t.size + s.size := ByteArray.size_append
  have h6 := tail_at t s
  have a1 := tailT_at (tailT t ++ s)
  have a2 := tailT_at (t ++ s)
  generalize tailT (tailT t ++ s) = X at *
  generalize tailT (t ++ s) = Y at *
  generalize tailT t ++ s = U at *
  generalize t ++ s = W at *
  refine ext_bt (by omega) fun k hk => ?_
  rw [a1 k (by omega), a2 k (by omega), h6 _ (by omega)]
  congr 1; omega
/-- A log whose text is t, on the disk D. -/
structure Hl (D : Dsk) (L : Lg) (t : ByteArray) : Prop where
  er : L.er = 0
  ok : All (Ok · L.c t) D
  tail : L.tail = tailT t
  good : D.Good
  sz : All Sz D
theorem Hl.len {D : Dsk} {L : Lg} {t : ByteArray} (h : Hl D L t) : L.c.len = t.size ∧ t.size ≤ 32512 ∧ L.c.Fit ∧ L.tail.size ≤ 32512 := by
  have hO := h.ok.now h.good
  have h1 := hO.size
  have h2 := hO.fit.len
  have h3 := tailT_size t
  exact ⟨h1.symm, by omega, hO.fit, by rw [h.tail]; omega⟩
/-- What is behind a call that did not answer OK. -/
structure Either (D : Dsk) (c c' : Com) (t t' : ByteArray) : Prop where
  ok : All (fun V => Ok V c t ∨ Ok V c' t') D
  good : D.Good
  sz : All Sz D
/-- What step answers: OK, and the new text; or an error of the disk. -/
theorem step_cases {D : Dsk} {L : Lg} {t t' : ByteArray} {f : Com} {tl s : ByteArray} (h : Hl D L t) (hlen : f.len + s.size ≤ 32512) (htl : tailT (tl ++ s) = tailT t')
    (hx : ∀ x ∈ chg f tl s, x.1 < 256 ∧ x.2.size ≤ 256)
    (hl : (D.lay (chg f tl s) ((comNext f s).num % 2) (comT (comNext f s))).1.Good ∧ (((D.lay (chg f tl s) ((comNext f s).num % 2) (comT (comNext f s))).2 = 0 ∧ Ok (D.lay (chg f tl s) ((comNext f s).num % 2) (comT (comNext f s))).1.wr (comNext f s) t' ∧ Flat (D.lay (chg f tl s) ((comNext f s).num % 2) (comT (comNext f s))).1) ∨ ((D.lay (chg f tl s) ((comNext f s).num % 2) (comT (comNext f s))).2 ≠ 0 ∧ All (fun V => Ok V L.c t ∨ Ok V (comNext f s) t') (D.lay (chg f tl s) ((comNext f s).num % 2) (comT (comNext f s))).1))) :
    (L.step D f tl s).1 = (D.lay (chg f tl s) ((comNext f s).num % 2) (comT (comNext f s))).1 ∧ (L.step D f tl s).2.2 = (D.lay (chg f tl s) ((comNext f s).num % 2) (comT (comNext f s))).2 ∧
    (((L.step D f tl s).2.2 = 0 ∧ Hl (L.step D f tl s).1 (L.step D f tl s).2.1 t' ∧ Flat (L.step D f tl s).1 ∧ (L.step D f tl s).2.1.c = comNext f s) ∨ ((L.step D f tl s).2.2 ≠ 0 ∧ (L.step D f tl s).2.1 = { L with er := (L.step D f tl s).2.2 } ∧ Either (L.step D f tl s).1 L.c (comNext f s) t t')) := by
  have hsz := lay_sz (i := (comNext f s).num % 2) (t := comT (comNext f s)) h.sz h.good hx (by omega) (by rw [comT_size]; omega)
  have he : L.step D f tl s = if (D.lay (chg f tl s) ((comNext f s).num % 2) (comT (comNext f s))).2 ≠ 0 then ((D.lay (chg f tl s) ((comNext f s).num % 2) (comT (comNext f s))).1, { L with er := (D.lay (chg f tl s) ((comNext f s).num % 2) (comT (comNext f s))).2 }, (D.lay (chg f tl s) ((comNext f s).num % 2) (comT (comNext f s))).2) else ((D.lay (chg f tl s) ((comNext f s).num % 2) (comT (comNext f s))).1, ⟨comNext f s, tailT (tl ++ s), 0⟩, 0) := by
    unfold Lg.step
    rw [if_neg (by simp [h.er]), if_neg (by omega)]
  generalize D.lay (chg f tl s) ((comNext f s).num % 2) (comT (comNext f s)) = R at *
  obtain ⟨g, hc⟩ := hl
  rcases hc with ⟨e0, hO, hF⟩ | ⟨e0, hA⟩
  · rw [if_neg (by simp [e0])] at he
    rw [he]
    exact ⟨rfl, e0.symm, Or.inl ⟨rfl, ⟨rfl, all_flat hO hF.1 g, htl, g, hsz⟩, hF, rfl⟩⟩
  · rw [if_pos e0] at he
    rw [he]
    exact ⟨rfl, rfl, Or.inr ⟨e0, rfl, ⟨hA, g, hsz⟩⟩⟩
theorem chg_ok {f : Com} {tl s : ByteArray} (ha : f.area ≤ 1) (hlen : f.len + s.size ≤ 32512) (ht : tl.size = f.len % 256) : ∀ x ∈ chg f tl s, x.1 < 256 ∧ x.2.size ≤ 256 := fun x hx => by
  unfold chg at hx
  split at hx
  · simp at hx
  · obtain ⟨j, hj, rfl⟩ := mem_pcs hx
    have : nP (tl ++ s) = (tl.size + s.size + 255) / 256 := by unfold nP; rw [ByteArray.size_append]
    exact ⟨by show 2 + f.area * 127 + f.len / 256 + j < 256; omega, pc_size _ _⟩
theorem Hl.append {D : Dsk} {L : Lg} {t s : ByteArray} (h : Hl D L t) (hlen : t.size + s.size ≤ 32512) (hnum : L.c.num + 1 < 18446744073709551616) :
    (L.append D s).2.2 = (D.lay (chg L.c L.tail s) ((comNext L.c s).num % 2) (comT (comNext L.c s))).2 ∧ (L.append D s).1 = (D.lay (chg L.c L.tail s) ((comNext L.c s).num % 2) (comT (comNext L.c s))).1 ∧
    (((L.append D s).2.2 = 0 ∧ Hl (L.append D s).1 (L.append D s).2.1 (t ++ s) ∧ Flat (L.append D s).1 ∧ (L.append D s).2.1.c = comNext L.c s) ∨ ((L.append D s).2.2 ≠ 0 ∧ (L.append D s).2.1 = { L with er := (L.append D s).2.2 } ∧ Either (L.append D s).1 L.c (comNext L.c s) t (t ++ s))) := by
  obtain ⟨e1, e2, e3, e4⟩ := h.len
  have hl := append_lay (s := s) h.ok h.good (by omega) hnum
  rw [← h.tail] at hl
  have hc := step_cases (f := L.c) (tl := L.tail) (s := s) (t' := t ++ s) h (by omega) (by rw [h.tail, tail_tail]) (chg_ok e3.area (by omega) (by rw [h.tail, tailT_size, e1])) hl
  exact ⟨hc.2.1, hc.1, hc.2.2⟩
theorem Hl.checkpoint {D : Dsk} {L : Lg} {t s : ByteArray} (h : Hl D L t) (hlen : s.size ≤ 32512) (hnum : L.c.num + 1 < 18446744073709551616) :
    (L.checkpoint D s).2.2 = (D.lay (chg ⟨L.c.num, 1 - L.c.area, 0, 2166136261⟩ ByteArray.empty s) ((comNext ⟨L.c.num, 1 - L.c.area, 0, 2166136261⟩ s).num % 2) (comT (comNext ⟨L.c.num, 1 - L.c.area, 0, 2166136261⟩ s))).2 ∧ (L.checkpoint D s).1 = (D.lay (chg ⟨L.c.num, 1 - L.c.area, 0, 2166136261⟩ ByteArray.empty s) ((comNext ⟨L.c.num, 1 - L.c.area, 0, 2166136261⟩ s).num % 2) (comT (comNext ⟨L.c.num, 1 - L.c.area, 0, 2166136261⟩ s))).1 ∧
    (((L.checkpoint D s).2.2 = 0 ∧ Hl (L.checkpoint D s).1 (L.checkpoint D s).2.1 s ∧ Flat (L.checkpoint D s).1 ∧ (L.checkpoint D s).2.1.c.num = L.c.num + 1) ∨ ((L.checkpoint D s).2.2 ≠ 0 ∧ (L.checkpoint D s).2.1 = { L with er := (L.checkpoint D s).2.2 } ∧ ∃ c', Either (L.checkpoint D s).1 L.c c' t s)) := by
  obtain ⟨e1, e2, e3, e4⟩ := h.len
  have hl := check_lay (s := s) h.ok h.good hlen hnum ⟨L.c.num, 1 - L.c.area, 0, 2166136261⟩ rfl
  have hc := step_cases (f := ⟨L.c.num, 1 - L.c.area, 0, 2166136261⟩) (tl := ByteArray.empty) (s := s) (t' := s) h (by simpa using hlen) (by rw [ByteArray.empty_append]) (chg_ok (by show 1 - L.c.area ≤ 1; omega) (by simpa using hlen) rfl) hl
  refine ⟨hc.2.1, hc.1, ?_⟩
  rcases hc.2.2 with ⟨a1, a2, a3, a4⟩ | ⟨a1, a2, a3⟩
  · refine Or.inl ⟨a1, a2, a3, ?_⟩
    show (L.step D _ _ _).2.1.c.num = _
    rw [a4]
    show (L.c.num + 1) % 18446744073709551616 = _
    exact Nat.mod_eq_of_lt hnum
  · exact Or.inr ⟨a1, a2, _, a3⟩
theorem append_full {D : Dsk} {L : Lg} {t s : ByteArray} (h : Hl D L t) (hlen : 32512 < t.size + s.size) : L.append D s = (D, L, 50) := by
  unfold Lg.append Lg.step
  rw [if_neg (by simp [h.er]), if_pos (by rw [h.len.1]; exact hlen)]
theorem checkpoint_full {D : Dsk} {L : Lg} {t s : ByteArray} (h : Hl D L t) (hlen : 32512 < s.size) : L.checkpoint D s = (D, L, 50) := by
  unfold Lg.checkpoint Lg.step
  rw [if_neg (by simp [h.er]), if_pos (by simpa using hlen)]
/-- What Open answers. -/
theorem open_hl {D : Dsk} {c c0 : Com} {t t0 : ByteArray} (h : All (Ok · c t) D) (hg : D.Good) (hz : All Sz D) (k : Tells D.wr c0 t0) : t0 = t ∧ c0 = c ∧ Hl D ⟨c0, tailT t0, 0⟩ t := by
  obtain ⟨rfl, rfl⟩ := k.unique (h.now hg).tells
  exact ⟨rfl, rfl, rfl, h, rfl, hg, hz⟩
/-- A disk that does what it is told. -/
theorem calm_wrs : ∀ (xs : List (Nat × ByteArray)) {D : Dsk}, Calm D → (∀ x ∈ xs, x.1 < 256 ∧ x.2.size ≤ 256) → (wrs D xs).2 = 0 ∧ Calm (wrs D xs).1 ∧ (wrs D xs).1.ops = D.ops + xs.length
  | [], D, h, _ => ⟨rfl, h, rfl⟩
  | x :: xs, D, h, hx => by
    obtain ⟨e1, e2, _, _, _, e3⟩ := h.write x.1 x.2 (hx x (by simp)).1 (hx x (by simp)).2
    obtain ⟨i1, i2, i3⟩ := calm_wrs xs e2 (fun y hy => hx y (List.mem_cons_of_mem _ hy))
    simp only [wrs]
    rw [if_pos e1]
    exact ⟨i1, i2, by rw [i3, e3]; simp; omega⟩
theorem calm_lay {D : Dsk} {xs : List (Nat × ByteArray)} {i : Nat} {t : ByteArray} (h : Calm D) (hx : ∀ x ∈ xs, x.1 < 256 ∧ x.2.size ≤ 256) (hi : i < 256) (ht : t.size ≤ 256) : (D.lay xs i t).2 = 0 ∧ Calm (D.lay xs i t).1 ∧ (D.lay xs i t).1.ops = D.ops + xs.length + 3 := by
  obtain ⟨a1, a2, a3⟩ := calm_wrs xs h hx
  obtain ⟨b1, b2, _, _, _, b3⟩ := a2.sync
  obtain ⟨c1, c2, _, _, _, c3⟩ := b2.write i t hi ht
  obtain ⟨d1, d2, _, _, _, d3⟩ := c2.sync
  unfold Dsk.lay
  rw [if_neg (fun k => k a1), if_neg (fun k => k b1), if_neg (fun k => k c1)]
  exact ⟨d1, d2, by omega⟩
theorem chg_len {f : Com} {tl s : ByteArray} (hlen : tl.size + s.size ≤ 65000) : (chg f tl s).length ≤ 254 := by
  unfold chg
  split
  · simp
  · rw [pcs_len]; unfold nP; rw [ByteArray.size_append]; omega
end Go.Proofs.Ythcefjkpiaecjaa
