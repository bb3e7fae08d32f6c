/- LBase, IBase, IHeavy. -/
import Derived.Test.YtmoailbilnkfnaaGreatDoorZLRune
import Derived.Deep.WholeRow
import Derived.Lib.OthersKept
import Derived.Lib.AppendStr
import Derived.Maps.AppendAt
import Derived.Test.YtmoailbilnkfnaaGreatDoorPk0
/- Slices of texts and of numbers in memory. -/
namespace Go.Proofs.YtmoailbilnkfnaaGreatDoor
open Go.RowKit
set_option linter.unusedVariables false
set_option linter.unusedSimpArgs false

theorem add_off (g o j : Nat) : (⟨g, o, none⟩ : Addr).add j = ⟨g, o + j, none⟩ := by unfold Addr.add; split <;> simp_all
theorem cell_at {w : World} {b : Nat} {L : List Value} {t : TypeId} {fz : Nat × Nat} (h : w.heap[b]? = some (.cells L.toArray t fz)) (k : Nat) (v : Value) (hk : L[k]? = some v) : w.cell? ⟨b, k, none⟩ = some v := by
  rw [cell_of_row _ _ k _ _ _ h]; simpa using hk
theorem free_at {w : World} {b : Nat} {L : List Value} {t : TypeId} (h : w.heap[b]? = some (.cells L.toArray t (0, 0))) (k : Nat) : w.frozen? ⟨b, k, none⟩ = false := by simp [World.frozen?, h]
theorem set_at {w : World} {b k : Nat} {L : List Value} {v : Value} {t : TypeId} {fz : Nat × Nat} (h : w.heap[b]? = some (.cells L.toArray t fz)) : (w.setCell ⟨b, k, none⟩ v).heap[b]? = some (.cells (L.set k v).toArray t fz) := by
  have hlt := lt_of_block h
  have h' : w.heap[b] = .cells L.toArray t fz := by simpa [Array.getElem?_eq_getElem hlt] using h
  show (w.heap.modify b _)[b]? = _
  simp [Array.getElem_modify, hlt, h']
theorem own_slice {w : World} {base size : Nat} {e : TypeId} {v : Value} {n : Nat} {xs : List Value} (h : w.ownsRow base e size v n xs) : ∃ sa sc, v = .slice sa n sc := by
  rcases h.2 with ⟨rfl, rfl⟩ | ⟨g, cap, cur, rfl, _⟩
  · exact ⟨_, _, rfl⟩
  · exact ⟨_, _, rfl⟩
theorem own_below {w w' : World} {base size : Nat} {e : TypeId} {v : Value} {n : Nat} {xs : List Value} (h : w.ownsRow base e size v n xs) (k : Below w.heap.size w w') : w'.ownsRow base e size v n xs := by
  obtain ⟨h1, h2⟩ := h
  refine ⟨h1, ?_⟩
  rcases h2 with h2 | ⟨g, cap, cur, hv, hb, hh, r⟩
  · exact Or.inl h2
  · exact Or.inr ⟨g, cap, cur, hv, hb, (k.block g (lt_of_block hh)).trans hh, r⟩
theorem own_mono {w : World} {base base' size : Nat} {e : TypeId} {v : Value} {n : Nat} {xs : List Value} (h : w.ownsRow base e size v n xs) (hb : base' ≤ base) : w.ownsRow base' e size v n xs := by
  obtain ⟨h1, h2⟩ := h
  refine ⟨h1, ?_⟩
  rcases h2 with h2 | ⟨g, cap, cur, hv, hg, r⟩
  · exact Or.inl h2
  · exact Or.inr ⟨g, cap, cur, hv, by omega, r⟩
theorem below_dn {B : Nat} {w X : World} (h : Below B w X) (n : Nat) : Below B w (X.drewN n) := ⟨h.os, h.tape, h.output, h.size, h.block⟩
theorem chain2 {w a b : World} (h : Below w.heap.size w a) (k : Below a.heap.size a b) : Below w.heap.size w b := h.trans (k.mono h.size)
theorem info_u8 : (Tryz.prog.info? 5).map (fun i => (i.zero, i.size, i.bytes)) = some (some (.int .u8 0), 1, 1) := by kernel_rfl
theorem info_i32 : (Tryz.prog.info? 21).map (fun i => (i.zero, i.size, i.bytes)) = some (some (.int .i32 0), 1, 4) := by kernel_rfl
theorem info_int : (Tryz.prog.info? 3).map (fun i => (i.zero, i.size, i.bytes)) = some (some (.int .i64 0), 1, 8) := by kernel_rfl
theorem info_string : (Tryz.prog.info? 9).map (fun i => (i.zero, i.size, i.bytes)) = some (some (.string ByteArray.empty), 1, 16) := by kernel_rfl
/-- A slice whose cells are the values of xs. -/
def Row1 (w : World) (v : Value) (xs : List Value) : Prop :=
  ∃ a c, v = .slice a xs.length c ∧ xs.length ≤ c ∧ c ≤ maxLen ∧ (xs = [] ∨ ∃ b off, a = some ⟨b, off, none⟩ ∧ ∀ i (h : i < xs.length), w.cell? ⟨b, off + i, none⟩ = some xs[i])
theorem Row1.below {w w' : World} {v : Value} {L : List Value} (h : Row1 w v L) (k : Below w.heap.size w w') : Row1 w' v L := by
  obtain ⟨a, c, h1, h2, h3, h4⟩ := h
  refine ⟨a, c, h1, h2, h3, ?_⟩
  rcases h4 with h4 | ⟨b, off, h4, h5⟩
  · exact Or.inl h4
  · exact Or.inr ⟨b, off, h4, fun i hi => (k.cell (World.block_lt_of_cell? w _ (h5 i hi))).trans (h5 i hi)⟩
theorem Row1.nil (w : World) : Row1 w (.slice none 0 0) [] := ⟨none, 0, rfl, Nat.le_refl _, Nat.zero_le _, Or.inl rfl⟩
theorem Row1.of_own {w : World} {base : Nat} {e : TypeId} {v : Value} {L : List Value} (h : w.ownsRow base e 1 v L.length L) : Row1 w v L := by
  rcases h.2 with ⟨rfl, h0⟩ | ⟨g, cap, cur, rfl, _, hh, h1, h2, _⟩
  · exact ⟨none, 0, by rw [h0], by omega, Nat.zero_le _, Or.inl (List.eq_nil_of_length_eq_zero h0)⟩
  · refine ⟨_, cap, rfl, h1, h2, Or.inr ⟨g, 0, rfl, fun i hi => ?_⟩⟩
    have := h.cells (g := g) rfl i L[i] (by simp [hi])
    rw [add_off] at this
    exact this
theorem Row1.of_block {w : World} {b : Nat} {t : TypeId} {fz : Nat × Nat} {L : List Value} (h : w.heap[b]? = some (.cells L.toArray t fz)) (hl : L.length ≤ maxLen) : Row1 w (.slice (some ⟨b, 0, none⟩) L.length L.length) L :=
  ⟨_, _, rfl, Nat.le_refl _, hl, Or.inr ⟨b, 0, rfl, fun i hi => by rw [Nat.zero_add]; exact cell_at h i _ (by simp [hi])⟩⟩
theorem Row1.at {w : World} {v : Value} {L : List Value} (h : Row1 w v L) (i : Nat) (hi : i < L.length) : ∃ b off c, v = .slice (some ⟨b, off, none⟩) L.length c ∧ L.length ≤ c ∧ c ≤ maxLen ∧ w.cell? ⟨b, off + i, none⟩ = some L[i] := by
  obtain ⟨a, c, h1, h2, h3, h4⟩ := h
  rcases h4 with h4 | ⟨b, off, h4, h5⟩
  · rw [h4] at hi; simp at hi
  · exact ⟨b, off, c, by rw [h1, h4], h2, h3, h5 i hi⟩
theorem Row1.slice {w : World} {v : Value} {L : List Value} (h : Row1 w v L) : ∃ a c, v = .slice a L.length c ∧ L.length ≤ c ∧ c ≤ maxLen := by
  obtain ⟨a, c, h1, h2, h3, _⟩ := h
  exact ⟨a, c, h1, h2, h3⟩
/-- A slice of texts. -/
def strV (L : List ByteArray) : List Value := L.map Value.string
theorem strV_len (L : List ByteArray) : (strV L).length = L.length := by simp [strV]
theorem strV_app (L M : List ByteArray) : strV (L ++ M) = strV L ++ strV M := by simp [strV]
theorem strV_at (L : List ByteArray) (i : Nat) (h : i < L.length) : (strV L)[i]'(by rw [strV_len]; exact h) = .string L[i] := by simp [strV]
def Strs (w : World) (v : Value) (L : List ByteArray) : Prop := Row1 w v (strV L) ∧ ∀ x ∈ L, x.size ≤ maxLen
theorem Strs.below {w w' : World} {v : Value} {L : List ByteArray} (h : Strs w v L) (k : Below w.heap.size w w') : Strs w' v L := ⟨h.1.below k, h.2⟩
theorem Strs.nil (w : World) : Strs w (.slice none 0 0) [] := ⟨Row1.nil w, by simp⟩
theorem Strs.slice {w : World} {v : Value} {L : List ByteArray} (h : Strs w v L) : ∃ a c, v = .slice a L.length c ∧ L.length ≤ c ∧ c ≤ maxLen := by
  have := h.1.slice
  rwa [strV_len] at this
theorem Strs.at {w : World} {v : Value} {L : List ByteArray} (h : Strs w v L) (i : Nat) (hi : i < L.length) : ∃ b off c, v = .slice (some ⟨b, off, none⟩) L.length c ∧ L.length ≤ c ∧ c ≤ maxLen ∧ w.cell? ⟨b, off + i, none⟩ = some (.string L[i]) ∧ L[i].size ≤ maxLen := by
  obtain ⟨b, off, c, h1, h2, h3, h4⟩ := h.1.at i (by rw [strV_len]; exact hi)
  rw [strV_at L i hi] at h4
  rw [strV_len] at h1 h2
  exact ⟨b, off, c, h1, h2, h3, h4, h.2 _ (List.getElem_mem hi)⟩
/-- A slice of numbers. -/
def intV (L : List Int) : List Value := L.map fun x => Value.int .i64 x
theorem intV_len (L : List Int) : (intV L).length = L.length := by simp [intV]
theorem intV_app (L M : List Int) : intV (L ++ M) = intV L ++ intV M := by simp [intV]
theorem intV_at (L : List Int) (i : Nat) (h : i < L.length) : (intV L)[i]'(by rw [intV_len]; exact h) = .int .i64 L[i] := by simp [intV]
def Ints (w : World) (v : Value) (L : List Int) : Prop := Row1 w v (intV L)
theorem Ints.below {w w' : World} {v : Value} {L : List Int} (h : Ints w v L) (k : Below w.heap.size w w') : Ints w' v L := Row1.below h k
theorem Ints.slice {w : World} {v : Value} {L : List Int} (h : Ints w v L) : ∃ a c, v = .slice a L.length c ∧ L.length ≤ c ∧ c ≤ maxLen := by
  have := Row1.slice h
  rwa [intV_len] at this
theorem Ints.at {w : World} {v : Value} {L : List Int} (h : Ints w v L) (i : Nat) (hi : i < L.length) : ∃ b off c, v = .slice (some ⟨b, off, none⟩) L.length c ∧ L.length ≤ c ∧ c ≤ maxLen ∧ w.cell? ⟨b, off + i, none⟩ = some (.int .i64 L[i]) := by
  obtain ⟨b, off, c, h1, h2, h3, h4⟩ := Row1.at h i (by rw [intV_len]; exact hi)
  rw [intV_at L i hi] at h4
  rw [intV_len] at h1 h2
  exact ⟨b, off, c, h1, h2, h3, h4⟩
end Go.Proofs.YtmoailbilnkfnaaGreatDoor
/- grid: lines and grids in memory. -/
namespace Go.Proofs.YtmoailbilnkfnaaGreatDoor
open Go.RowKit
set_option linter.unusedVariables false
set_option maxRecDepth 100000
set_option linter.unusedSimpArgs false

structure Gr where
  zones : Int
  hours : Int
  low : Int
  high : Int
  lines : List Ln
def btw (lo n hi : Int) : Bool := decide (lo ≤ n) && decide (n ≤ hi)
theorem btw_true {lo n hi : Int} (h : btw lo n hi = true) : lo ≤ n ∧ n ≤ hi := by simpa [btw] using h
theorem btw_false {lo n hi : Int} (h : btw lo n hi = false) : ¬ (lo ≤ n ∧ n ≤ hi) := by
  intro k
  rw [show btw lo n hi = true by simp [btw, k.1, k.2]] at h
  cases h
def lnok (z : Int) (l : Ln) : Bool := btw 0 l.f (z - 1) && btw 0 l.t (z - 1) && decide (l.f ≠ l.t) && btw 0 l.c 1000
/-- Which grids may be. -/
def gok (g : Gr) : Bool := btw 1 g.zones 3 && btw 1 g.hours 3 && (btw (-100000) g.low g.high && decide (g.high ≤ 100000)) && decide (g.lines.length ≤ 3) && g.lines.all (lnok g.zones)
theorem lnok_iff {z : Int} {l : Ln} : lnok z l = true ↔ 0 ≤ l.f ∧ l.f ≤ z - 1 ∧ 0 ≤ l.t ∧ l.t ≤ z - 1 ∧ l.f ≠ l.t ∧ 0 ≤ l.c ∧ l.c ≤ 1000 := by
  simp only [lnok, btw, Bool.and_eq_true, decide_eq_true_eq]
  constructor
  · rintro ⟨⟨⟨⟨h1, h2⟩, h3, h4⟩, h5⟩, h6, h7⟩
    exact ⟨h1, h2, h3, h4, h5, h6, h7⟩
  · rintro ⟨h1, h2, h3, h4, h5, h6, h7⟩
    exact ⟨⟨⟨⟨h1, h2⟩, h3, h4⟩, h5⟩, h6, h7⟩
theorem gok_iff {g : Gr} : gok g = true ↔ (1 ≤ g.zones ∧ g.zones ≤ 3) ∧ (1 ≤ g.hours ∧ g.hours ≤ 3) ∧ (-100000 ≤ g.low ∧ g.low ≤ g.high ∧ g.high ≤ 100000) ∧ g.lines.length ≤ 3 ∧ ∀ l ∈ g.lines, lnok g.zones l = true := by
  simp only [gok, btw, Bool.and_eq_true, decide_eq_true_eq, List.all_eq_true]
  constructor
  · rintro ⟨⟨⟨⟨h1, h2⟩, ⟨h3, h4⟩, h5⟩, h6⟩, h7⟩
    exact ⟨h1, h2, ⟨h3, h4, h5⟩, h6, h7⟩
  · rintro ⟨h1, h2, ⟨h3, h4, h5⟩, h6, h7⟩
    exact ⟨⟨⟨⟨h1, h2⟩, ⟨h3, h4⟩, h5⟩, h6⟩, h7⟩
theorem gok_fit {g : Gr} (h : gok g = true) : Fit g.lines g.zones.toNat := by
  obtain ⟨h1, -, -, -, h2⟩ := gok_iff.1 h
  intro l hl
  have k := lnok_iff.1 (h2 l hl)
  omega
def errG (g : Gr) : Int := if gok g = true then 0 else 140
/-- Lines in memory. -/
def Lns (w : World) (v : Value) (S : List Ln) : Prop :=
  ∃ a c, v = .slice a S.length c ∧ S.length ≤ c ∧ c ≤ maxLen ∧ (S = [] ∨ ∃ b off, a = some ⟨b, off, none⟩ ∧ ∀ i (h : i < S.length), w.cell? ⟨b, off + i * 3, none⟩ = some (.int .i64 S[i].f) ∧ w.cell? ⟨b, off + i * 3 + 1, none⟩ = some (.int .i64 S[i].t) ∧ w.cell? ⟨b, off + i * 3 + 2, none⟩ = some (.int .i64 S[i].c))
theorem Lns.below {w w' : World} {v : Value} {S : List Ln} (h : Lns w v S) (k : Below w.heap.size w w') : Lns w' v S := by
  obtain ⟨a, c, h1, h2, h3, h4⟩ := h
  refine ⟨a, c, h1, h2, h3, ?_⟩
  rcases h4 with h4 | ⟨b, off, h4, h5⟩
  · exact Or.inl h4
  · refine Or.inr ⟨b, off, h4, fun i hi => ?_⟩
    obtain ⟨q0, q1, q2⟩ := h5 i hi
    exact ⟨(k.cell (World.block_lt_of_cell? w _ q0)).trans q0, (k.cell (World.block_lt_of_cell? w _ q1)).trans q1, (k.cell (World.block_lt_of_cell? w _ q2)).trans q2⟩
theorem Lns.slice {w : World} {v : Value} {S : List Ln} (h : Lns w v S) : ∃ a c, v = .slice a S.length c ∧ S.length ≤ c ∧ c ≤ maxLen := by
  obtain ⟨a, c, h1, h2, h3, _⟩ := h
  exact ⟨a, c, h1, h2, h3⟩
theorem Lns.at {w : World} {v : Value} {S : List Ln} (h : Lns w v S) (i : Nat) (hi : i < S.length) : ∃ b off c, v = .slice (some ⟨b, off, none⟩) S.length c ∧ S.length ≤ c ∧ c ≤ maxLen ∧ w.cell? ⟨b, off + i * 3, none⟩ = some (.int .i64 S[i].f) ∧ w.cell? ⟨b, off + i * 3 + 1, none⟩ = some (.int .i64 S[i].t) ∧ w.cell? ⟨b, off + i * 3 + 2, none⟩ = some (.int .i64 S[i].c) := by
  obtain ⟨a, c, h1, h2, h3, h4⟩ := h
  rcases h4 with h4 | ⟨b, off, h4, h5⟩
  · rw [h4] at hi; simp at hi
  · exact ⟨b, off, c, by rw [h1, h4], h2, h3, h5 i hi⟩
theorem ibx {w : World} {b : Nat} {C : Array Value} {t : TypeId} {fz : Nat × Nat} (h : w.heap[b]? = some (.cells C t fz)) (k : Nat) (v : Value) (hk : C[k]? = some v) : w.cell? ⟨b, k, none⟩ = some v := by
  rw [cell_of_row _ _ k _ _ _ h]; simpa using hk
theorem ikc {W X : World} {p : Addr} {a : Value} (h : Below W.heap.size W X) (h1 : W.cell? p = some a) : X.cell? p = some a := (h.cell (World.block_lt_of_cell? W _ h1)).trans h1
theorem inew (w : World) (o : Obj) : (w.alloc o).heap[w.heap.size]? = some o := by
  show (w.heap.push o)[w.heap.size]? = _
  simp
theorem ibel (w : World) (o : Obj) : Below w.heap.size w (w.alloc o) := (Below.refl _ _).alloc (Nat.le_refl _) o
/-- A grid's five cells. -/
def gC (g : Gr) (la : Option Addr) (lc : Nat) : Array Value := #[.int .i64 g.zones, .int .i64 g.hours, .slice la g.lines.length lc, .int .i64 g.low, .int .i64 g.high]
end Go.Proofs.YtmoailbilnkfnaaGreatDoor
/- The laws of grid: heavy. -/
namespace Go.Proofs.YtmoailbilnkfnaaGreatDoor
open Go.RowKit
set_option linter.unusedVariables false
set_option maxRecDepth 100000
set_option linter.unusedSimpArgs false

/-- What heavy says where it says no. -/
def Hvy14 (g : Gr) (F : List ByteArray) : Prop := F.length ≤ 256 ∧ (∀ s ∈ F, s.size ≤ 256) ∧ g.lines.length ≤ 256
set_option maxHeartbeats 3200000 in
theorem heavy14_any (w : World) (g : Gr) (la : Option Addr) (lc : Nat) (h : Lns w (.slice la g.lines.length lc) g.lines) (fv : Value) (F : List ByteArray) (hf : Strs w fv F) :
    Calls Tryz.prog 6 #[.agg #[.int .i64 g.zones, .int .i64 g.hours, .slice la g.lines.length lc, .int .i64 g.low, .int .i64 g.high], fv] w fun e w' => ∃ R : Bool, e = .returned (.bool R) ∧ (R = false → Hvy14 g F) ∧ Below w.heap.size w w' := by
  have b0 := ibel w (Obj.cells #[.int .i64 g.zones, .int .i64 g.hours, .slice la g.lines.length lc, .int .i64 g.low, .int .i64 g.high] 24)
  have x0 := inew w (Obj.cells #[.int .i64 g.zones, .int .i64 g.hours, .slice la g.lines.length lc, .int .i64 g.low, .int .i64 g.high] 24)
  have z2 := ibx x0 2 (.slice la g.lines.length lc) rfl
  obtain ⟨a', c', e', hl, hm⟩ := h.slice
  simp only [Value.slice.injEq] at e'
  obtain ⟨rfl, -, rfl⟩ := e'
  have HF := hid (hf.below b0)
  obtain ⟨fa, fc, rfl, fl, fm⟩ := hf.slice
  unfold maxLen at hm fm
  have HQ := hid (show ∀ (m : Nat), (F.length ≤ 256 ∧ (∀ s ∈ F, s.size ≤ 256)) → g.lines.length ≤ 256 → Hvy14 g F from fun _ k1 k2 => ⟨k1.1, k1.2, k2⟩)
  clear h hf x0
  generalize g.lines.length = sl at *
  go_enter Tryz.func6, Tryz.ntmps6
  go_wp2_with fail
  generalize hW : w.alloc (Obj.cells #[.int .i64 g.zones, .int .i64 g.hours, .slice la sl lc, .int .i64 g.low, .int .i64 g.high] 24) = W at *
  clear hW
  go_loopw [5, 6] (fun n i wr => ∃ (k m : Nat), k ≤ F.length ∧ n = .int .i64 (m : Int) ∧ i = .int .i64 (k : Int) ∧ F.length ≤ m ∧ (m ≤ 1049600 ∨ (k = 0 ∧ m = F.length)) ∧ Hid (m ≤ 256 → ∀ j, j < k → ∀ hj : j < F.length, F[j].size ≤ 256) ∧ wr = W) (fun n i _ => F.length - (intOf i).toNat)
  case atStart => exact ⟨0, F.length, Nat.zero_le _, rfl, rfl, Nat.le_refl _, Or.inr ⟨rfl, rfl⟩, hid (fun _ j hj => absurd hj (Nat.not_lt_zero _)), rfl⟩
  case round =>
    obtain ⟨k, m, hk, rfl, rfl, hFm, hmm, HK, hw⟩ := hrel
    rw [hw]
    clear hw
    by_cases hlt : k < F.length
    · have hltI : decide ((k : Int) < (F.length : Int)) = true := decide_eq_true (by omega)
      by_cases h256 : m ≤ 256
      · have h2' : decide ((m : Int) ≤ 256) = true := decide_eq_true (by omega)
        obtain ⟨b, off, c', e, _, _, q0, q1⟩ := HF.out.at k hlt
        simp only [Value.slice.injEq] at e
        obtain ⟨rfl, -, rfl⟩ := e
        unfold maxLen at q1
        have hli : (0 : Int) ≤ (k : Int) ∧ (k : Int) < (F.length : Int) := by omega
        have HS1 := hid (show m + min F[k].size 1048576 ≤ 256 → ∀ j, j < k + 1 → ∀ hj : j < F.length, F[j].size ≤ 256 from fun hh j hj hjl => by
          rcases Nat.lt_or_ge j k with q | q
          · exact HK.out (by omega) j q hjl
          · obtain rfl : j = k := by omega
            omega)
        generalize F[k] = s at *
        obtain ⟨d, HD⟩ : ∃ d : Nat, Hid (min s.size 1048576 = d) := ⟨_, hid rfl⟩
        have hd1 : (if (1048576 : Int) < (s.size : Int) then (1048576 : Int) else (s.size : Int)) = (d : Int) := by rw [← HD.out]; split <;> omega
        have hd2 : (if 1048576 < s.size then (1048576 : Int) else (s.size : Int)) = (d : Int) := by rw [← HD.out]; split <;> omega
        have hd3 : min (s.size : Int) 1048576 = (d : Int) := by rw [← HD.out]; omega
        have hdl : d ≤ 1048576 := by rw [← HD.out]; omega
        rw [HD.out] at HS1
        clear HK HD
        go_wp2_with fail
        go_roundw
        case rel => exact ⟨k + 1, m + d, by omega, by go_num, by go_num, by omega, Or.inl (by omega), HS1, by first | rfl | trivial⟩
        case measure => simp [intOf]; omega
      · have h2' : decide ((m : Int) ≤ 256) = false := decide_eq_false (by omega)
        have h3' : decide ((256 : Int) < (m : Int)) = true := decide_eq_true (by omega)
        clear HK h256
        go_wp2_with fail
        go_ret
        exact ⟨true, rfl, (fun h => by cases h), b0⟩
    · have hltI : decide ((k : Int) < (F.length : Int)) = false := decide_eq_false (by omega)
      by_cases h256 : m ≤ 256
      · have h3' : decide ((256 : Int) < (m : Int)) = false := decide_eq_false (by omega)
        have HA := hid (show F.length ≤ 256 ∧ ∀ s ∈ F, s.size ≤ 256 from ⟨by omega, fun s hs => by
          obtain ⟨j, hj, rfl⟩ := List.mem_iff_getElem.1 hs
          exact HK.out h256 j (by omega) hj⟩)
        clear HK
        by_cases hs : sl ≤ 256
        · have h4' : decide ((256 : Int) < (sl : Int)) = false := decide_eq_false (by omega)
          go_wp2_with fail
          go_ret
          exact ⟨false, rfl, fun _ => HQ.out 0 HA.out hs, b0⟩
        · have h4' : decide ((256 : Int) < (sl : Int)) = true := decide_eq_true (by omega)
          go_wp2_with fail
          go_ret
          exact ⟨true, rfl, (fun h => by cases h), b0⟩
      · have h3' : decide ((256 : Int) < (m : Int)) = true := decide_eq_true (by omega)
        clear HK h256
        go_wp2_with fail
        go_ret
        exact ⟨true, rfl, (fun h => by cases h), b0⟩
end Go.Proofs.YtmoailbilnkfnaaGreatDoor
