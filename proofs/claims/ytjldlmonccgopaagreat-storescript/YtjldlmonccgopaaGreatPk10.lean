/- DStr, DCalm. -/
import Derived.Test.YtjldlmonccgopaaGreatPk6
import Derived.OpenShut
import Derived.SliceStrings
/- What several laws of the disk share: strings that came in; plain facts. -/
namespace Go.Proofs.YtjldlmonccgopaaGreat
open Go.RowKit
set_option linter.unusedVariables false
set_option maxRecDepth 100000
set_option linter.unusedSimpArgs false

/-- A slice of strings that came in: nil, or a row of cells. -/
def IsStrs (w : World) (a : Option Addr) (len cap : Nat) (ss : List ByteArray) : Prop :=
  (a = none ∧ len = 0 ∧ cap = 0 ∧ ss = []) ∨
  ∃ x, a = some x ∧ len ≤ cap ∧ cap ≤ maxLen ∧ len ≤ ss.length ∧ (∀ i, i < ss.length → w.cell? (x.add i) = some (.string (ss.getD i ByteArray.empty))) ∧ ∀ s ∈ ss, s.size ≤ maxLen
theorem IsStrs.at {w : World} {a : Option Addr} {len cap : Nat} {ss : List ByteArray} (h : IsStrs w a len cap ss) (i : Nat) (hi : i < len) :
    ∃ b off, a = some ⟨b, off, none⟩ ∧ w.cell? ⟨b, off + i, none⟩ = some (.string (ss.getD i ByteArray.empty)) ∧ (ss.getD i ByteArray.empty).size ≤ 9223372036854775807 ∧ len ≤ cap ∧ cap ≤ maxLen := by
  rcases h with ⟨_, h, _⟩ | ⟨x, rfl, h1, h2, h3, h4, h5⟩
  · omega
  · have hx := h4 i (by omega)
    obtain ⟨b, off, s⟩ := x
    cases s with
    | none => exact ⟨b, off, rfl, by simpa [add_off] using hx, by have := h5 (ss.getD i ByteArray.empty) (by rw [List.getD_eq_getElem?_getD, List.getElem?_eq_getElem (by omega)]; simp); unfold maxLen at this; omega, h1, h2⟩
    | some q =>
      have h0 := h4 0 (by omega)
      unfold World.cell? at h0
      simp [Addr.add] at h0
      split at h0 <;> simp_all
theorem below_kp {B b : Nat} {w u v : World} (h : Below B w u) (k : Kp B b u v) : Below B w v := h.trans k.bel
theorem ret_eq {a b : Int} (h : a = b) : Ending.returned (.bool (a == b)) = .returned (.bool true) := by rw [h]; simp
theorem write_big (D : Dsk) (i : Nat) (s : ByteArray) (hi : i < 256) (hs : 256 < s.size) : D.write i s = (D, 41) := by
  unfold Dsk.write; rw [if_neg (by omega), if_pos hs]
theorem write_begin (D : Dsk) (i : Nat) (s : ByteArray) (hi : i < 256) (hs : s.size ≤ 256) : D.write i s = if D.begin.2 = 0 then (D.begin.1.put i s, 0) else D.begin := by
  unfold Dsk.write; rw [if_neg (by omega), if_neg (by omega)]; simp
theorem read_in (D : Dsk) (i : Nat) (hi : i < 256) : D.read i = D.wr.getD i ByteArray.empty := by
  unfold Dsk.read; rw [if_neg (by omega)]; simp
theorem readE_in (i : Nat) (hi : i < 256) : readE i = 0 := by
  unfold readE; rw [if_neg (by omega)]
end Go.Proofs.YtjldlmonccgopaaGreat
/- A disk that has power, does not fail, and of which nothing is ordered. -/
namespace Go.Proofs.YtjldlmonccgopaaGreat
open Go.RowKit
set_option linter.unusedVariables false
set_option linter.unusedSimpArgs false

structure Calm (D : Dsk) : Prop where
  dead : D.dead = false
  fl : D.fl = false
  cg : D.cg = false
  fg : D.fg = false
theorem calm_new : Calm Dsk.new := ⟨rfl, rfl, rfl, rfl⟩
theorem Calm.begin {D : Dsk} (h : Calm D) : D.begin = ({ D with ops := D.ops + 1, cl := D.cl - 1, fk := D.fk - 1 }, 0) := by
  simp [Dsk.begin, h.dead, h.fl, h.cg, h.fg]
theorem Calm.write {D : Dsk} (h : Calm D) (i : Nat) (s : ByteArray) (hi : i < 256) (hs : s.size ≤ 256) :
    (D.write i s).2 = 0 ∧ Calm (D.write i s).1 ∧ (D.write i s).1.wr = D.wr.set i s ∧ (D.write i s).1.la = D.la ∧ (D.write i s).1.ca = (if i ∈ D.ca then D.ca else D.ca ++ [i]) ∧ (D.write i s).1.ops = D.ops + 1 := by
  rw [write_begin D i s hi hs, h.begin, if_pos rfl]
  exact ⟨rfl, ⟨h.dead, h.fl, h.cg, h.fg⟩, rfl, rfl, rfl, rfl⟩
theorem Calm.sync {D : Dsk} (h : Calm D) : D.sync.2 = 0 ∧ Calm D.sync.1 ∧ D.sync.1.wr = D.wr ∧ D.sync.1.la = D.wr ∧ D.sync.1.ca = [] ∧ D.sync.1.ops = D.ops + 1 := by
  unfold Dsk.sync
  rw [h.begin, if_pos rfl]
  exact ⟨rfl, ⟨h.dead, h.fl, h.cg, h.fg⟩, rfl, rfl, rfl, rfl⟩
theorem Calm.crash {D : Dsk} (h : Calm D) (keep : Nat) : (D.crash keep).wr = loseL keep D.wr D.ca 0 D.la ∧ (D.crash keep).dead = true := by
  unfold Dsk.crash
  rw [h.dead]
  exact ⟨rfl, rfl⟩
theorem DiskIs.drew {w : World} {b : Nat} {D : Dsk} (h : DiskIs w b D) : DiskIs w.drew b D := by
  obtain ⟨sl, h⟩ := h
  exact ⟨sl, h.drew⟩
theorem getD_set {L : List ByteArray} {i j : Nat} {s : ByteArray} (hi : i < L.length) : (L.set i s).getD j ByteArray.empty = if j = i then s else L.getD j ByteArray.empty := by
  simp only [List.getD_eq_getElem?_getD, List.getElem?_set]
  by_cases h : j = i
  · subst h; simp [hi]
  · rw [if_neg (fun e => h e.symm), if_neg h]
theorem loseL_range (keep : Nat) (W L : List ByteArray) (hL : L.length = 256) : ∀ k, k ≤ 256 → ∀ j, (loseL keep W (List.range k) 0 L).getD j ByteArray.empty = if j < k ∧ kbit keep j = true then W.getD j ByteArray.empty else L.getD j ByteArray.empty
  | 0, _, j => by simp [loseL]
  | k + 1, hk, j => by
    rw [List.range_succ, loseL_snoc, List.length_range, Nat.zero_add]
    have ih := loseL_range keep W L hL k (by omega) j
    by_cases hb : kbit keep k = true
    · rw [if_pos hb, getD_set (by rw [loseL_len]; omega), ih]
      by_cases e : j = k
      · subst e; rw [if_pos rfl, if_pos ⟨by omega, hb⟩]
      · rw [if_neg e]
        by_cases hj : j < k
        · by_cases hb' : kbit keep j = true
          · rw [if_pos ⟨hj, hb'⟩, if_pos ⟨by omega, hb'⟩]
          · rw [if_neg (fun h => hb' h.2), if_neg (fun h => hb' h.2)]
        · rw [if_neg (by omega), if_neg (by omega)]
    · rw [if_neg hb, ih]
      by_cases e : j = k
      · subst e; rw [if_neg (by omega), if_neg (fun h => hb h.2)]
      · by_cases hj : j < k
        · by_cases hb' : kbit keep j = true
          · rw [if_pos ⟨hj, hb'⟩, if_pos ⟨by omega, hb'⟩]
          · rw [if_neg (fun h => hb' h.2), if_neg (fun h => hb' h.2)]
        · rw [if_neg (by omega), if_neg (by omega)]
theorem kp_cell {B b : Nat} {u v : World} {p : Addr} {x : Value} (h : Kp B b u v) (hp : p.block < B) (hx : u.cell? p = some x) : v.cell? p = some x := (h.bel.cell hp).trans hx
end Go.Proofs.YtjldlmonccgopaaGreat
