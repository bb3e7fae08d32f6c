/- wal in plain terms: a disk that is to fail. -/
import Derived.Test.YthcefjkpiaecjaaWLaw
namespace Go.Proofs.Ythcefjkpiaecjaa
set_option linter.unusedVariables false
set_option linter.unusedSimpArgs false

theorem append_calm {D : Dsk} {L : Lg} {s : ByteArray} (h : Calm D) (he : L.er = 0) (hf : L.c.Fit) (ht : L.tail.size = L.c.len % 256) (hs : L.c.len + s.size ≤ 32512) : (L.append D s).2.2 = 0 ∧ Calm (L.append D s).1 ∧ (L.append D s).1.ops = D.ops + (chg L.c L.tail s).length + 3 ∧ (L.append D s).2.1.c = comNext L.c s ∧ (L.append D s).2.1.er = 0 := by
  obtain ⟨a1, a2, a3⟩ := calm_lay (xs := chg L.c L.tail s) (i := (comNext L.c s).num % 2) (t := comT (comNext L.c s)) h (chg_ok hf.area hs ht) (by omega) (by rw [comT_size]; omega)
  unfold Lg.append Lg.step
  rw [if_neg (by simp [he]), if_neg (by omega), if_neg (fun k => k a1)]
  exact ⟨rfl, a2, a3, rfl, rfl⟩
theorem checkpoint_calm {D : Dsk} {L : Lg} {s : ByteArray} (h : Calm D) (he : L.er = 0) (hs : s.size ≤ 32512) : (L.checkpoint D s).2.2 = 0 ∧ Calm (L.checkpoint D s).1 ∧ (L.checkpoint D s).1.ops ≤ D.ops + 260 := by
  have hlen := chg_len (f := ⟨L.c.num, 1 - L.c.area, 0, 2166136261⟩) (tl := ByteArray.empty) (s := s) (by simp; omega)
  obtain ⟨a1, a2, a3⟩ := calm_lay (xs := chg ⟨L.c.num, 1 - L.c.area, 0, 2166136261⟩ ByteArray.empty s) (i := (comNext ⟨L.c.num, 1 - L.c.area, 0, 2166136261⟩ s).num % 2) (t := comT (comNext ⟨L.c.num, 1 - L.c.area, 0, 2166136261⟩ s)) h (chg_ok (by show 1 - L.c.area ≤ 1; omega) (by simpa using hs) rfl) (by omega) (by rw [comT_size]; omega)
  unfold Lg.checkpoint Lg.step
  rw [if_neg (by simp [he]), if_neg (by simp; omega), if_neg (fun k => k a1)]
  exact ⟨rfl, a2, by rw [a3]; omega⟩
/-- Power, and no cut is ordered. -/
structure Whole (D : Dsk) : Prop where
  dead : D.dead = false
  cg : D.cg = false
theorem Whole.begin {D : Dsk} (h : Whole D) : Whole D.begin.1 ∧ (D.begin.2 = 0 ∨ D.begin.2 = 42) ∧ (D.begin.2 = 0 → D.fg = true → D.begin.1.fg = true ∧ D.begin.1.fk + 1 = D.fk) := by
  unfold Dsk.begin
  rw [h.dead, h.cg]
  simp only [Bool.false_eq_true, if_false, Bool.false_and]
  by_cases h2 : D.fl = true
  · rw [if_pos h2]
    exact ⟨h, Or.inr rfl, fun k => by simp at k⟩
  · rw [if_neg h2]
    by_cases h4 : (D.fg && D.fk == 0) = true
    · rw [if_pos h4]
      exact ⟨⟨rfl, rfl⟩, Or.inr rfl, fun k => by simp at k⟩
    · rw [if_neg h4]
      refine ⟨⟨rfl, rfl⟩, Or.inl rfl, fun _ hf => ⟨hf, ?_⟩⟩
      rw [hf] at h4
      simp at h4
      show D.fk - 1 + 1 = D.fk
      omega
theorem Whole.write {D : Dsk} (h : Whole D) {i : Nat} {s : ByteArray} (hi : i < 256) (hs : s.size ≤ 256) : Whole (D.write i s).1 ∧ ((D.write i s).2 = 0 ∨ (D.write i s).2 = 42) ∧ ((D.write i s).2 = 0 → D.fg = true → (D.write i s).1.fg = true ∧ (D.write i s).1.fk + 1 = D.fk) := by
  obtain ⟨b1, b2, b3⟩ := h.begin
  rw [write_begin D i s hi hs]
  by_cases h0 : D.begin.2 = 0
  · rw [if_pos h0]
    exact ⟨⟨b1.dead, b1.cg⟩, Or.inl rfl, fun _ hf => b3 h0 hf⟩
  · rw [if_neg h0]
    exact ⟨b1, b2, fun k => absurd k h0⟩
theorem Whole.sync {D : Dsk} (h : Whole D) : Whole D.sync.1 ∧ (D.sync.2 = 0 ∨ D.sync.2 = 42) ∧ (D.sync.2 = 0 → D.fg = true → D.sync.1.fg = true ∧ D.sync.1.fk + 1 = D.fk) := by
  obtain ⟨b1, b2, b3⟩ := h.begin
  unfold Dsk.sync
  by_cases h0 : D.begin.2 = 0
  · rw [if_pos h0]
    exact ⟨⟨b1.dead, b1.cg⟩, Or.inl rfl, fun _ hf => b3 h0 hf⟩
  · rw [if_neg h0]
    exact ⟨b1, b2, fun k => absurd k h0⟩
theorem Whole.wrs : ∀ (xs : List (Nat × ByteArray)) {D : Dsk}, Whole D → (∀ x ∈ xs, x.1 < 256 ∧ x.2.size ≤ 256) → Whole (wrs D xs).1 ∧ ((wrs D xs).2 = 0 ∨ (wrs D xs).2 = 42) ∧ ((wrs D xs).2 = 0 → D.fg = true → (wrs D xs).1.fg = true ∧ (wrs D xs).1.fk + xs.length = D.fk)
  | [], D, h, _ => ⟨h, Or.inl rfl, fun _ hf => ⟨hf, rfl⟩⟩
  | x :: xs, D, h, hx => by
    obtain ⟨a1, a2, a3⟩ := h.write (hx x (by simp)).1 (hx x (by simp)).2
    obtain ⟨b1, b2, b3⟩ := Whole.wrs xs a1 (fun y hy => hx y (List.mem_cons_of_mem _ hy))
    simp only [Go.Proofs.Ythcefjkpiaecjaa.wrs]
    by_cases h0 : (D.write x.1 x.2).2 = 0
    · rw [if_pos h0]
      refine ⟨b1, b2, fun k hf => ?_⟩
      obtain ⟨c1, c2⟩ := a3 h0 hf
      obtain ⟨d1, d2⟩ := b3 k c1
      exact ⟨d1, by rw [List.length_cons]; omega⟩
    · rw [if_neg h0]
      exact ⟨a1, a2, fun k => absurd k h0⟩
theorem Whole.lay {D : Dsk} (h : Whole D) {xs : List (Nat × ByteArray)} {i : Nat} {t : ByteArray} (hx : ∀ x ∈ xs, x.1 < 256 ∧ x.2.size ≤ 256) (hi : i < 256) (ht : t.size ≤ 256) : Whole (D.lay xs i t).1 ∧ ((D.lay xs i t).2 = 0 ∨ (D.lay xs i t).2 = 42) ∧ ((D.lay xs i t).2 = 0 → D.fg = true → 3 ≤ D.fk) := by
  obtain ⟨a1, a2, a3⟩ := Whole.wrs xs h hx
  obtain ⟨b1, b2, b3⟩ := a1.sync
  obtain ⟨c1, c2, c3⟩ := b1.write hi ht
  obtain ⟨d1, d2, d3⟩ := c1.sync
  unfold Dsk.lay
  by_cases e0 : (Go.Proofs.Ythcefjkpiaecjaa.wrs D xs).2 = 0
  · rw [if_neg (fun k => k e0)]
    by_cases e1 : (Go.Proofs.Ythcefjkpiaecjaa.wrs D xs).1.sync.2 = 0
    · rw [if_neg (fun k => k e1)]
      by_cases e2 : ((Go.Proofs.Ythcefjkpiaecjaa.wrs D xs).1.sync.1.write i t).2 = 0
      · rw [if_neg (fun k => k e2)]
        refine ⟨d1, d2, fun k hf => ?_⟩
        have f1 := a3 e0 hf
        have f2 := b3 e1 f1.1
        have f3 := c3 e2 f2.1
        have f4 := d3 k f3.1
        omega
      · rw [if_pos e2]
        exact ⟨c1, c2, fun k => absurd k e2⟩
    · rw [if_pos e1]
      exact ⟨b1, b2, fun k => absurd k e1⟩
  · rw [if_pos e0]
    exact ⟨a1, a2, fun k => absurd k e0⟩
theorem Hl.fail {D : Dsk} {L : Lg} {t : ByteArray} (h : Hl D L t) (n : Int) (hn : n < 9223372036854775808) : Hl (D.fail n) L t := ⟨h.er, h.ok, h.tail, h.good.fail n hn, h.sz⟩
theorem Hl.cut {D : Dsk} {L : Lg} {t : ByteArray} (h : Hl D L t) (n : Int) (keep : Nat) (hn : n < 9223372036854775808) (hk : keep < 18446744073709551616) : Hl (D.cut n keep) L t := ⟨h.er, h.ok, h.tail, h.good.cut n keep hn hk, h.sz⟩
theorem append_dead {D : Dsk} {L : Lg} (h : L.er ≠ 0) (s : ByteArray) : L.append D s = (D, L, L.er) ∧ L.checkpoint D s = (D, L, L.er) := by
  unfold Lg.append Lg.checkpoint Lg.step
  rw [if_pos h, if_pos h]
  exact ⟨rfl, rfl⟩
theorem power_calm (D : Dsk) : Calm D.power := ⟨rfl, rfl, rfl, rfl⟩
end Go.Proofs.Ythcefjkpiaecjaa
