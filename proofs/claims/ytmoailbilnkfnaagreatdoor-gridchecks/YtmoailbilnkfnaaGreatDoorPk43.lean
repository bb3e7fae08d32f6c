/- IRats, IRead, IExp0, IFlowsM, HNumsT. -/
import Derived.Test.YtmoailbilnkfnaaGreatDoorZCRow
import Derived.Test.YtmoailbilnkfnaaGreatDoorZCLev
import Derived.Test.YtmoailbilnkfnaaGreatDoorZIBlk
import Derived.Deep.MidRow
import Derived.Test.YtmoailbilnkfnaaGreatDoorPk16
import Derived.Test.YtmoailbilnkfnaaGreatDoorPk42
import Derived.Test.YtmoailbilnkfnaaGreatDoorPk0
import Derived.Test.YtmoailbilnkfnaaGreatDoorPk39
/- grid: fractions in a block of one's own. -/
namespace Go.Proofs.YtmoailbilnkfnaaGreatDoor
open Go.RowKit
set_option linter.unusedVariables false
set_option maxRecDepth 100000
set_option linter.unusedSimpArgs false

theorem flat_len : ∀ (C : List (List Value)), (∀ c ∈ C, c.length = 4) → C.flatten.length = C.length * 4
  | [], _ => rfl
  | x :: T, h => by
    rw [List.flatten_cons, List.length_append, flat_len T (fun c hc => h c (List.mem_cons_of_mem _ hc)), h x List.mem_cons_self, List.length_cons]
    omega
theorem flat_set (C : List (List Value)) (h : ∀ c ∈ C, c.length = 4) (i : Nat) (hi : i < C.length) (y0 y1 y2 y3 : Value) :
    ((((C.flatten.set (i * 4) y0).set (i * 4 + 1) y1).set (i * 4 + 2) y2).set (i * 4 + 3) y3) = (C.set i [y0, y1, y2, y3]).flatten := by
  have h' : ∀ c ∈ C.set i [y0, y1, y2, y3], c.length = 4 := fun c hc => by
    rcases List.mem_or_eq_of_mem_set hc with k | k
    · exact h c k
    · subst k; rfl
  apply List.ext_getElem?
  intro p
  obtain ⟨k, j, hj, rfl⟩ : ∃ k j, j < 4 ∧ p = k * 4 + j := ⟨p / 4, p % 4, Nat.mod_lt _ (by omega), by omega⟩
  have hL := flat_len C h
  by_cases hk : k < C.length
  · rw [four_at (C.set i [y0, y1, y2, y3]) h' k j (by simpa using hk) hj]
    simp only [List.getElem?_set, List.length_set, hL]
    by_cases e : i = k
    · subst e
      have e0 : (C.set i [y0, y1, y2, y3])[i]'(by simpa using hk) = [y0, y1, y2, y3] := by simp
      rw [e0]
      match j, hj with
      | 0, _ => simp; omega
      | 1, _ => simp; omega
      | 2, _ => simp; omega
      | 3, _ => simp; omega
    · have e0 : (C.set i [y0, y1, y2, y3])[k]'(by simpa using hk) = C[k] := by simp [List.getElem_set, e]
      rw [e0, if_neg (by omega), if_neg (by omega), if_neg (by omega), if_neg (by omega)]
      exact four_at C h k j hk hj
  · rw [List.getElem?_eq_none (by simp [hL]; omega), List.getElem?_eq_none (by rw [flat_len _ h']; simp; omega)]
/-- Fractions in a block. -/
structure Qb (w : World) (b : Nat) (C : List (List Value)) (X : List Rat) (K : Nat) : Prop where
  blk : w.heap[b]? = some (.cells C.flatten.toArray 66 (0, 0))
  len : C.length = X.length
  four : ∀ c ∈ C, c.length = 4
  is_ : ∀ i (h1 : i < C.length) (h2 : i < X.length), QIs w (.agg (C[i]).toArray) X[i] K
theorem Qb.below {w w' : World} {b : Nat} {C : List (List Value)} {X : List Rat} {K : Nat} (h : Qb w b C X K) (k : Below w.heap.size w w') : Qb w' b C X K :=
  ⟨(k.block b (lt_of_block h.blk)).trans h.blk, h.len, h.four, fun i h1 h2 => (h.is_ i h1 h2).below k⟩
theorem Qb.mono {w : World} {b : Nat} {C : List (List Value)} {X : List Rat} {K K' : Nat} (h : Qb w b C X K) (k : K ≤ K') : Qb w b C X K' := ⟨h.blk, h.len, h.four, fun i h1 h2 => (h.is_ i h1 h2).mono k⟩
theorem Qb.at {w : World} {b : Nat} {C : List (List Value)} {X : List Rat} {K : Nat} (h : Qb w b C X K) (i : Nat) (hi : i < X.length) : ∃ x0 x1 x2 x3, w.cell? ⟨b, i * 4, none⟩ = some x0 ∧ w.cell? ⟨b, i * 4 + 1, none⟩ = some x1 ∧ w.cell? ⟨b, i * 4 + 2, none⟩ = some x2 ∧ w.cell? ⟨b, i * 4 + 3, none⟩ = some x3 ∧ QIs w (.agg #[x0, x1, x2, x3]) X[i] K := by
  have hiC : i < C.length := by rw [h.len]; exact hi
  have h4 := h.four _ (List.getElem_mem hiC)
  obtain ⟨x0, x1, x2, x3, hx⟩ : ∃ x0 x1 x2 x3, C[i] = [x0, x1, x2, x3] := by
    match hc : C[i], h4 with
    | [x0, x1, x2, x3], _ => exact ⟨x0, x1, x2, x3, rfl⟩
  have hI := h.is_ i hiC hi
  rw [hx] at hI
  have key : ∀ j u, j < 4 → [x0, x1, x2, x3][j]? = some u → w.cell? ⟨b, i * 4 + j, none⟩ = some u := fun j u hj hu => cell_at h.blk _ _ (by rw [four_at C h.four i j hiC hj, hx]; exact hu)
  exact ⟨x0, x1, x2, x3, key 0 x0 (by omega) rfl, key 1 x1 (by omega) rfl, key 2 x2 (by omega) rfl, key 3 x3 (by omega) rfl, hI⟩
theorem Qb.free {w : World} {b : Nat} {C : List (List Value)} {X : List Rat} {K : Nat} (h : Qb w b C X K) (i : Nat) : w.frozen? ⟨b, i, none⟩ = false := blk_free h.blk i
theorem Qb.set {w : World} {b : Nat} {C : List (List Value)} {X : List Rat} {K : Nat} (h : Qb w b C X K) (i : Nat) (hi : i < X.length) {y0 y1 y2 y3 : Value} {q : Rat} (hq : QIs w (.agg #[y0, y1, y2, y3]) q K) :
    Qb ((((w.setCell ⟨b, i * 4, none⟩ y0).setCell ⟨b, i * 4 + 1, none⟩ y1).setCell ⟨b, i * 4 + 2, none⟩ y2).setCell ⟨b, i * 4 + 3, none⟩ y3) b (C.set i [y0, y1, y2, y3]) (X.set i q) K := by
  have hiC : i < C.length := by rw [h.len]; exact hi
  have kt := set4_kty (o := i * 4) (t1 := 66) (t2 := 66) h.blk (Or.inl rfl) y0 y1 y2 y3
  refine ⟨?_, by simp [h.len], fun c hc => ?_, fun k h1 h2 => ?_⟩
  · rw [← flat_set C h.four i hiC]
    exact set_at (set_at (set_at (set_at h.blk)))
  · rcases List.mem_or_eq_of_mem_set hc with k | k
    · exact h.four c k
    · subst k; rfl
  · by_cases e : i = k
    · subst e
      simp only [List.getElem_set_self]
      exact hq.kty kt (by decide) (by decide)
    · simp only [List.getElem_set_ne e]
      exact (h.is_ k (by simpa using h1) (by simpa using h2)).kty kt (by decide) (by decide)
theorem Qb.put {w : World} {b : Nat} {C : List (List Value)} {X : List Rat} {K : Nat} (h : Qb w b C X K) (i : Nat) (hi : i < X.length) {y0 y1 y2 y3 : Value} {q : Rat} (hq : QIs w (.agg #[y0, y1, y2, y3]) q K) :
    Qb (w.setCells b (i * 4) [y0, y1, y2, y3]) b (C.set i [y0, y1, y2, y3]) (X.set i q) K := h.set i hi hq
theorem put_below {B : Nat} {w X : World} {r o : Nat} (h : Below B w X) (hr : B ≤ r) (x0 x1 x2 x3 : Value) : Below B w (X.setCells r o [x0, x1, x2, x3]) := set4_below (o := o) h hr x0 x1 x2 x3
theorem put_kty {X : World} {r o : Nat} {C : Array Value} {t t1 t2 : TypeId} (h : X.heap[r]? = some (.cells C t (0, 0))) (ht : t = t1 ∨ t = t2) (x0 x1 x2 x3 : Value) : Kty t1 t2 X (X.setCells r o [x0, x1, x2, x3]) := set4_kty (o := o) h ht x0 x1 x2 x3
theorem Qb.there {w : World} {b : Nat} {C : List (List Value)} {X : List Rat} {K : Nat} (h : Qb w b C X K) (i : Nat) (hi : i < X.length) : w.there b (i * 4) 4 := fun j hj => by
  obtain ⟨x0, x1, x2, x3, h0, h1, h2, h3, -⟩ := h.at i hi
  refine ⟨?_, h.free _⟩
  match j, hj with
  | 0, _ => rw [Nat.add_zero, h0]; rfl
  | 1, _ => rw [h1]; rfl
  | 2, _ => rw [h2]; rfl
  | 3, _ => rw [h3]; rfl
theorem Qb.range {w : World} {b : Nat} {C : List (List Value)} {X : List Rat} {K : Nat} (h : Qb w b C X K) (i : Nat) (hi : i < X.length) : ∃ a1 l1 c1 d1 a2 l2 c2 d2, w.rangeAt b (i * 4) [.slice a1 l1 c1, .bool d1, .slice a2 l2 c2, .bool d2] ∧ QIs w (.agg #[.slice a1 l1 c1, .bool d1, .slice a2 l2 c2, .bool d2]) X[i] K := by
  obtain ⟨x0, x1, x2, x3, h0, h1, h2, h3, hq⟩ := h.at i hi
  obtain ⟨a1, l1, c1, d1, a2, l2, c2, d2, e⟩ := hq.form
  simp only [Value.agg.injEq, Array.mk.injEq, List.cons.injEq, and_true] at e
  obtain ⟨rfl, rfl, rfl, rfl⟩ := e
  refine ⟨a1, l1, c1, d1, a2, l2, c2, d2, fun j v hv => ?_, hq⟩
  match j, hv with
  | 0, hv => simp at hv; rw [Nat.add_zero, h0, hv]
  | 1, hv => simp at hv; rw [h1, hv]
  | 2, hv => simp at hv; rw [h2, hv]
  | 3, hv => simp at hv; rw [h3, hv]
/-- A store elsewhere into a block of fractions or of lines leaves fractions. -/
theorem Qb.kty {w w' : World} {b : Nat} {C : List (List Value)} {X : List Rat} {K : Nat} (h : Qb w b C X K) {t1 t2 : TypeId} (k : Kty t1 t2 w w') (hb : w'.heap[b]? = w.heap[b]?) (h1 : 125 ≠ t1) (h2 : 125 ≠ t2) : Qb w' b C X K :=
  ⟨hb.trans h.blk, h.len, h.four, fun i q1 q2 => (h.is_ i q1 q2).kty k h1 h2⟩
/-- Nought, as a new row has it. -/
theorem q_nought (w : World) (K : Nat) : QIs w (.agg #[.slice none 0 0, .bool false, .slice none 0 0, .bool false]) 0 K := by
  have hn : NatIs w (.agg #[.slice none 0 0]) 0 K := (nat_zero w).mono (Nat.zero_le _)
  exact ⟨none, 0, 0, none, 0, 0, rfl, ⟨none, 0, 0, rfl, hn⟩, ⟨none, 0, 0, rfl, hn⟩⟩
theorem made_rats (n : Nat) : madeCells (Value.cells (.agg #[.slice none 0 0, .bool false, .slice none 0 0, .bool false])) (n * 4) = (List.replicate n [Value.slice none 0 0, .bool false, .slice none 0 0, .bool false]).flatten.toArray := by
  apply Array.toList_inj.1
  apply List.ext_getElem?
  intro p
  have h4 : ∀ c ∈ List.replicate n [Value.slice none 0 0, .bool false, .slice none 0 0, .bool false], c.length = 4 := fun c hc => by
    rw [(List.mem_replicate.1 hc).2]; rfl
  obtain ⟨k, j, hj, rfl⟩ : ∃ k j, j < 4 ∧ p = k * 4 + j := ⟨p / 4, p % 4, Nat.mod_lt _ (by omega), by omega⟩
  by_cases hk : k < n
  · have := four_at _ h4 k j (by simpa using hk) hj
    simp only [List.getElem_replicate] at this
    rw [show (List.replicate n [Value.slice none 0 0, .bool false, .slice none 0 0, .bool false]).flatten.toArray.toList = (List.replicate n [Value.slice none 0 0, .bool false, .slice none 0 0, .bool false]).flatten from rfl, this]
    unfold madeCells
    simp only [Value.cells]
    have hm : (k * 4 + j) % 4 = j := by omega
    rw [Array.getElem?_toList, Array.getElem?_map, Array.getElem?_range, if_pos (by omega)]
    match j, hj with
    | 0, _ => simp [hm]
    | 1, _ => simp [hm]
    | 2, _ => simp [hm]
    | 3, _ => simp [hm]
  · rw [List.getElem?_eq_none (by simp [size_madeCells]; omega), List.getElem?_eq_none (by simp; omega)]
theorem rmake (n : Nat) (hn : n ≤ 1000) (V : World) : (Instr.makeSlice 57 (.int .i64 (n : Int)) (.int .i64 (n : Int))).run Tryz.prog V = .ok (.slice (some ⟨V.heap.size, 0, none⟩) n n) (V.alloc (.cells (List.replicate n [Value.slice none 0 0, .bool false, .slice none 0 0, .bool false]).flatten.toArray 66)) := by
  obtain ⟨i0, hi0, hz0, hz1, hz2⟩ := info_parts info_RatZ
  have := run_make (P := Tryz.prog) (w := V) 57 66 i0 (.agg #[.slice none 0 0, .bool false, .slice none 0 0, .bool false]) Tryz.underlying57 hi0 hz0 .i64 .i64 (n : Int) (n : Int) (by omega) (by omega) (by rw [hz2]; omega) (by omega)
  rw [hz1] at this
  simp only [Int.toNat_natCast] at this
  rw [made_rats] at this
  exact this
theorem Qb.made (V : World) (n K : Nat) : Qb (V.alloc (.cells (List.replicate n [Value.slice none 0 0, .bool false, .slice none 0 0, .bool false]).flatten.toArray 66)) V.heap.size (List.replicate n [Value.slice none 0 0, .bool false, .slice none 0 0, .bool false]) (List.replicate n 0) K := by
  refine ⟨inew _ _, by simp, fun c hc => ?_, fun i h1 h2 => ?_⟩
  · rw [(List.mem_replicate.1 hc).2]; rfl
  · simp only [List.getElem_replicate]
    exact q_nought _ K
end Go.Proofs.YtmoailbilnkfnaaGreatDoor
/- grid: the program's read. -/
namespace Go.Proofs.YtmoailbilnkfnaaGreatDoor
open Go.RowKit
set_option linter.unusedVariables false
set_option maxRecDepth 100000
set_option linter.unusedSimpArgs false

/-- What read tells. -/
def IRd (F : List ByteArray) (n base K : Nat) (e : Ending) (w' : World) : Prop :=
  (F.length ≠ n ∧ e = .returned (.tuple #[.slice none 0 0, .int .i64 120])) ∨
  (F.length = n ∧ (¬ ∃ X, Nums F X) ∧ e = .returned (.tuple #[.slice none 0 0, .int .i64 10])) ∨
  (F.length = n ∧ ∃ X b C, Nums F X ∧ e = .returned (.tuple #[.slice (some ⟨b, 0, none⟩) n n, .int .i64 0]) ∧ Qb w' b C X K ∧ base ≤ b)
/-- The numbers that were read so far, and noughts. -/
def sofar (n : Nat) (X : List Rat) : List Rat := X ++ List.replicate (n - X.length) 0
theorem sofar_len {n : Nat} {X : List Rat} (h : X.length ≤ n) : (sofar n X).length = n := by simp [sofar]; omega
theorem sofar_set {n : Nat} {X : List Rat} (h : X.length < n) (q : Rat) : (sofar n X).set X.length q = sofar n (X ++ [q]) := by
  unfold sofar
  obtain ⟨d, hd⟩ : ∃ d, n - X.length = d + 1 := ⟨n - X.length - 1, by omega⟩
  rw [hd, List.length_append, List.length_singleton, show n - (X.length + 1) = d by omega, List.set_append_right _ _ (Nat.le_refl _), Nat.sub_self, List.replicate_succ]
  simp
theorem sofar_all (X : List Rat) : sofar X.length X = X := by simp [sofar]
set_option maxHeartbeats 6400000 in
theorem iread_any (w : World) (g : Gr) (la : Option Addr) (lc : Nat) (h : Lns w (.slice la g.lines.length lc) g.lines) (ok : gok g = true) (fv : Value) (F : List ByteArray) (hf : Strs w fv F) (m K : Nat) (hm100 : m ≤ 100000) (hmK : m / 9 + 8 ≤ K) (hsz : ∀ s ∈ F, s.size ≤ m) (hmx : Mx w) (htab : Tab w) :
    Calls Tryz.prog 30 #[.agg #[.int .i64 g.zones, .int .i64 g.hours, .slice la g.lines.length lc, .int .i64 g.low, .int .i64 g.high], fv] w fun e w' => IRd F g.lines.length w.heap.size K e w' ∧ Below w.heap.size w w' := by
  have HE0 := hid (show errG g = 0 by unfold errG; rw [if_pos ok])
  obtain ⟨-, -, -, hl3, -⟩ := gok_iff.1 ok
  have HIC := hid (fun (Y : World) (hY : Lns Y (.slice la g.lines.length lc) g.lines) => icheck_any Y g la lc hY)
  rw [HE0.out] at HIC
  obtain ⟨Z, H, lo, hi, S⟩ := g
  simp only at h hl3 HIC ⊢
  have b0 := ibel w (Obj.cells #[.int .i64 Z, .int .i64 H, .slice la S.length lc, .int .i64 lo, .int .i64 hi] 24)
  have x0 := inew w (Obj.cells #[.int .i64 Z, .int .i64 H, .slice la S.length lc, .int .i64 lo, .int .i64 hi] 24)
  have z0 := ibx x0 0 (.int .i64 Z) rfl
  have z1 := ibx x0 1 (.int .i64 H) rfl
  have z2 := ibx x0 2 (.slice la S.length lc) rfl
  have z3 := ibx x0 3 (.int .i64 lo) rfl
  have z4 := ibx x0 4 (.int .i64 hi) rfl
  have HL := hid (h.below b0)
  obtain ⟨a', c', e', hl, hm⟩ := h.slice
  simp only [Value.slice.injEq] at e'
  obtain ⟨rfl, -, rfl⟩ := e'
  obtain ⟨fa, fc, rfl, fl, fm⟩ := hf.slice
  unfold maxLen at hm fm
  have HB0 := hid b0
  have HF := hid (hf.below b0)
  have HMX := hid (hmx.below b0)
  have HTAB := hid (htab.below b0)
  have HSZ := hid (fun (s : ByteArray) (hs : s ∈ F) => show s.size ≤ 100000 ∧ s.size / 9 + 8 ≤ K by have := hsz s hs; omega)
  have HMK := rmake F.length
  clear h x0 b0 ok HE0 hf hmx htab hsz hm100 hmK
  go_enter Tryz.func30, Tryz.ntmps30
  go_wp2_with fail
  generalize hW : w.alloc (Obj.cells #[.int .i64 Z, .int .i64 H, .slice la S.length lc, .int .i64 lo, .int .i64 hi] 24) = W at *
  clear hW
  refine (HIC.out W HL.out).mono ?_
  rintro e X1 ⟨rfl, bX1⟩
  have B1 := HB0.out.trans (bX1.mono HB0.out.size)
  have z2 := ikc bX1 z2
  have HF := hid (HF.out.below bX1)
  have HMX := hid (HMX.out.below bX1)
  have HTAB := hid (HTAB.out.below bX1)
  clear HIC HL HB0 bX1 z0 z1 z3 z4
  by_cases hn : F.length = S.length
  case neg =>
    have hn1 : ((F.length : Int) == (S.length : Int)) = false := by simp; omega
    have hn2 : ((F.length : Int) != (S.length : Int)) = true := by simp; omega
    have HQ := hid (show IRd F S.length w.heap.size K (.returned (.tuple #[.slice none 0 0, .int .i64 120])) X1 from Or.inl ⟨hn, rfl⟩)
    clear hn
    go_wp2_with fail
    go_ret2
    exact ⟨HQ.out, B1⟩
  have HMK := HMK (by omega)
  obtain ⟨sl, HSL⟩ : ∃ sl, Hid (S.length = sl) := ⟨_, hid rfl⟩
  have HNS := hid hn
  rw [HSL.out] at HNS z2
  have hsf : sl = F.length := by rw [HNS.out]
  subst hsf
  have HM0 := hid (Qb.made X1 F.length K)
  have BM0 := ibel X1 (Obj.cells (List.replicate F.length [Value.slice none 0 0, .bool false, .slice none 0 0, .bool false]).flatten.toArray 66)
  obtain ⟨rb, hrb⟩ : ∃ rb, X1.heap.size = rb := ⟨_, rfl⟩
  have HRB := hid hrb
  rw [hrb] at HM0 BM0
  have HRW := hid (show IRd F S.length w.heap.size K = IRd F F.length w.heap.size K by rw [HSL.out])
  simp only [HRW.out]
  clear hn HNS hl3 hl
  go_wp2_with fail
  go_loopw [28] (fun i wr => ∃ (k : Nat) (X : List Rat) (C : List (List Value)), k ≤ F.length ∧ i = .int .i64 (k : Int) ∧ Hid (Nums (F.take k) X) ∧ Hid (Qb wr rb C (sofar F.length X) K) ∧ Below rb X1 wr) (fun i _ => F.length - (intOf i).toNat)
  case atStart => exact ⟨0, [], _, Nat.zero_le _, rfl, hid Nums.nil, by simpa [sofar] using HM0, BM0⟩
  case round =>
    obtain ⟨k, X, C, hk, rfl, HN, HQB, bW⟩ := hrel
    have bW' : Below X1.heap.size X1 wr := by rw [HRB.out]; exact bW
    by_cases hlt : k < F.length
    · obtain ⟨b, off, c', e, _, _, q0, q1⟩ := (HF.out.below bW').at k hlt
      simp only [Value.slice.injEq] at e
      obtain ⟨rfl, -, rfl⟩ := e
      have hli : (0 : Int) ≤ (k : Int) ∧ (k : Int) < (F.length : Int) := by omega
      have hXk : X.length = k := by rw [HN.out.len]; simp; omega
      have HSK := hid (HSZ.out _ (List.getElem_mem hlt))
      have HPU := hid (fun q (hq : CanR F[k] q) => HN.out.push hlt hq)
      have HNO := hid (fun (hq : ∀ q, ¬ CanR F[k] q) => nums_no hlt hq)
      have HPA := hid (q_parse F[k] wr HSK.out.1 (HMX.out.below bW') (HTAB.out.below bW'))
      generalize F[k] = s at *
      go_wp2_with fail
      refine HPA.out.mono ?_
      rintro e X2 ⟨hr, bX2⟩
      have hrbw : rb ≤ wr.heap.size := by have := bW.size; have := HRB.out; omega
      have bV := bW.trans (bX2.mono hrbw)
      rcases hr with ⟨q, v, hq, rfl, hv⟩ | ⟨hno, rfl⟩
      · obtain ⟨a1, l1, c1, d1, a2, l2, c2, d2, rfl⟩ := hv.form
        have hv40 := hv.mono HSK.out.2
        have bA := ibel X2 (Obj.cells #[.slice a1 l1 c1, .bool d1, .slice a2 l2 c2, .bool d2] 66)
        have xA := inew X2 (Obj.cells #[.slice a1 l1 c1, .bool d1, .slice a2 l2 c2, .bool d2] 66)
        obtain ⟨r0, r1, r2, r3⟩ := four_cell xA
        have HQ2 := (HQB.out.below bX2).below bA
        have hvA := hv40.below bA
        have bVA := bV.trans (bA.mono (by have := bX2.size; omega))
        have HQN := HQ2.set k (by rw [sofar_len (by omega)]; exact hlt) hvA
        have bVN := set4_below (o := k * 4) bVA (Nat.le_refl _) (.slice a1 l1 c1) (.bool d1) (.slice a2 l2 c2) (.bool d2)
        obtain ⟨p0, p1, p2, p3, c0, c1', c2', c3', -⟩ := HQ2.at k (by rw [sofar_len (by omega)]; exact hlt)
        have fr := fun j => HQ2.free j
        have hss : (sofar F.length X).set k q = sofar F.length (X ++ [q]) := by rw [← hXk]; exact sofar_set (by omega) q
        rw [hss] at HQN
        have HQN := hid HQN
        have HNX := hid (HPU.out q hq)
        clear HPU HNO HPA HQB HN HQ2 hvA hv40 hv hss bV bX2 xA bVA bW HSK hXk hq bA
        go_wp2_with fail
        go_roundw
        case rel => exact ⟨k + 1, X ++ [q], _, by omega, by go_num, HNX, HQN, bVN⟩
        case measure => simp [intOf]; omega
      · have HQ := hid (show IRd F F.length w.heap.size K (.returned (.tuple #[.slice none 0 0, .int .i64 10])) (X2.alloc (Obj.cells #[.slice none 0 0, .bool false, .slice none 0 0, .bool false] 66)) from Or.inr (Or.inl ⟨rfl, HNO.out hno, rfl⟩))
        have bA := ibel X2 (Obj.cells #[.slice none 0 0, .bool false, .slice none 0 0, .bool false] 66)
        have BF := B1.trans ((bV.trans (bA.mono (by have := bX2.size; omega))).mono (by have := B1.size; have := HRB.out; omega))
        clear HPU HNO HPA HQB HN
        go_wp2_with fail
        go_ret2
        exact ⟨by rw [HRW.out]; exact HQ.out, BF⟩
    · have hkl : k = F.length := by omega
      have HNX := hid (show Nums F X by have := HN.out; rwa [hkl, List.take_length] at this)
      have hXl : X.length = F.length := HNX.out.len
      have HQ := hid (show IRd F F.length w.heap.size K (.returned (.tuple #[.slice (some ⟨rb, 0, none⟩) F.length F.length, .int .i64 0])) wr from Or.inr (Or.inr ⟨rfl, X, rb, C, HNX.out, rfl, by have := HQB.out; rw [← hXl, sofar_all] at this; exact this, by have := B1.size; have := HRB.out; omega⟩))
      have BF := B1.trans (bW.mono (by have := B1.size; have := HRB.out; omega))
      clear hkl HNX hXl HN HQB
      go_wp2_with fail
      go_ret2
      exact ⟨by rw [HRW.out]; exact HQ.out, BF⟩
end Go.Proofs.YtmoailbilnkfnaaGreatDoor
/- grid: what Export tells; texts in a block. -/
namespace Go.Proofs.YtmoailbilnkfnaaGreatDoor
open Go.RowKit
set_option linter.unusedVariables false
set_option maxRecDepth 100000
set_option linter.unusedSimpArgs false

/-- All zones' exports, up to zone z. -/
def exps (S : List Ln) (X : List Rat) (z : Nat) : List Rat := (List.range z).map fun i => expo S X i S.length
theorem exps_len (S : List Ln) (X : List Rat) (z : Nat) : (exps S X z).length = z := by simp [exps]
theorem exps_succ (S : List Ln) (X : List Rat) (z : Nat) : exps S X (z + 1) = exps S X z ++ [expo S X z S.length] := by simp [exps, List.range_succ]
theorem exps_at (S : List Ln) (X : List Rat) (z i : Nat) (h : i < (exps S X z).length) : (exps S X z)[i] = expo S X i S.length := by simp [exps]
theorem expL_exps {S : List Ln} {n : Nat} (hS : Fit S n) (X : List Rat) : expL S X n S.length = exps S X n := by
  apply List.ext_getElem (by rw [expL_len, exps_len])
  intro i h1 h2
  rw [exps_at, rat_get h1]
  exact expL_at hS i (by rw [expL_len] at h1; exact h1) S.length (Nat.le_refl _)
theorem txr_can {s : ByteArray} {q : Rat} (h : TxR s q) : CanR s q := ⟨h, by have := q.den_pos; omega, by rw [Int.natAbs_natCast]; exact q.reduced⟩
theorem TxR.eq {s : ByteArray} {p q : Rat} (h : TxR s p) (k : TxR s q) : p = q := (txr_can h).inj (txr_can k)
/-- The texts of these numbers. -/
structure TxL (Z : List ByteArray) (Y : List Rat) : Prop where
  len : Z.length = Y.length
  is_ : ∀ i (h1 : i < Z.length) (h2 : i < Y.length), TxR Z[i] Y[i]
theorem TxL.nil : TxL [] [] := ⟨rfl, fun i h => by simp at h⟩
theorem TxL.push {Z : List ByteArray} {Y : List Rat} {k : Nat} {s : ByteArray} (h : TxL Z (Y.take k)) (hk : k < Y.length) (hs : TxR s Y[k]) : TxL (Z ++ [s]) (Y.take (k + 1)) := by
  have hl : Z.length = k := by rw [h.len, List.length_take]; omega
  refine ⟨by rw [List.length_append, hl, List.length_take]; simp; omega, fun i h1 h2 => ?_⟩
  rw [List.getElem_take]
  by_cases hi : i < k
  · rw [List.getElem_append_left (by omega)]
    have := h.is_ i (by omega) (by rw [List.length_take]; omega)
    rwa [List.getElem_take] at this
  · have e : i = k := by rw [List.length_take] at h2; omega
    subst e
    rw [List.getElem_append_right (by omega)]
    simpa [hl] using hs
theorem TxL.uniq {Z Z' : List ByteArray} {Y : List Rat} (h : TxL Z Y) (k : TxL Z' Y) : Z = Z' := List.ext_getElem (by rw [h.len, k.len]) (fun i h1 h2 => TxR.inj (h.is_ i h1 (by rw [← h.len]; exact h1)) (k.is_ i h2 (by rw [← k.len]; exact h2)))
theorem TxL.nums {Z : List ByteArray} {Y : List Rat} (h : TxL Z Y) : Nums Z Y := ⟨h.len.symm, fun i h1 h2 => txr_can (h.is_ i h1 h2)⟩
theorem strs_own {w : World} {base : Nat} {v : Value} {Z : List ByteArray} {k M : Nat} (h : w.ownsRow base 9 1 v k (strV Z)) (hk : Z.length = k) (hz : ∀ s ∈ Z, s.size ≤ M) (hM : M ≤ 1000000000) : Strs w v Z := by
  subst hk
  refine ⟨Row1.of_own (base := base) (e := 9) (by rw [strV_len]; exact h), fun x hx => ?_⟩
  have := hz x hx
  unfold maxLen
  omega
theorem str_newE (X : World) (st : ByteArray) : ∀ j u, [Value.string st][j]? = some u → (X.alloc (.cells #[.string st] 9)).cell? ((⟨X.heap.size, 0, none⟩ : Addr).add j) = some u := by
  intro j u hu
  match j, hu with
  | 0, hu => simp at hu; subst hu; simp [Addr.add]
theorem strV_push (Z : List ByteArray) (st : ByteArray) : strV Z ++ [Value.string st] = strV (Z ++ [st]) := by simp [strV]
/-- What Export tells. -/
def IExp (F : List ByteArray) (S : List Ln) (n M : Nat) (e : Ending) (w' : World) : Prop :=
  (F.length ≠ S.length ∧ e = .returned (.tuple #[.slice none 0 0, .int .i64 120])) ∨
  (F.length = S.length ∧ (¬ ∃ X, Nums F X) ∧ e = .returned (.tuple #[.slice none 0 0, .int .i64 10])) ∨
  (F.length = S.length ∧ ∃ X tv Z, Nums F X ∧ e = .returned (.tuple #[tv, .int .i64 0]) ∧ Strs w' tv Z ∧ TxL Z (exps S X n) ∧ ∀ s ∈ Z, s.size ≤ M)
theorem IExp.short {F : List ByteArray} {S : List Ln} {n M : Nat} {e : Ending} {w' : World} (h : IExp F S n M e w') (hn : F.length ≠ S.length) : e = .returned (.tuple #[.slice none 0 0, .int .i64 120]) := by
  rcases h with ⟨_, h⟩ | ⟨h, _⟩ | ⟨h, _⟩
  · exact h
  · exact absurd h hn
  · exact absurd h hn
theorem IExp.full {F : List ByteArray} {S : List Ln} {n M : Nat} {e : Ending} {w' : World} (h : IExp F S n M e w') (hn : F.length = S.length) {X : List Rat} (hX : Nums F X) : ∃ tv Z, e = .returned (.tuple #[tv, .int .i64 0]) ∧ Strs w' tv Z ∧ TxL Z (exps S X n) ∧ ∀ s ∈ Z, s.size ≤ M := by
  rcases h with ⟨h, _⟩ | ⟨_, h, _⟩ | ⟨_, Y, tv, Z, h1, h2, h3, h4, h5⟩
  · exact absurd hn h
  · exact absurd ⟨X, hX⟩ h
  · obtain rfl := Nums.uniq h1 hX
    exact ⟨tv, Z, h2, h3, h4, h5⟩
/-- How many limbs, behind so many lines. -/
def KK (K : Nat) : Nat → Nat
  | 0 => K
  | k + 1 => 4 * KK K k + 36
theorem kk_ge (K : Nat) : ∀ k, K ≤ KK K k
  | 0 => Nat.le_refl _
  | k + 1 => by have := kk_ge K k; simp only [KK]; omega
theorem kk_le (K k : Nat) (h : k ≤ 3) : KK K k ≤ 64 * K + 756 := by
  match k, h with
  | 0, _ => simp only [KK]; omega
  | 1, _ => simp only [KK]; omega
  | 2, _ => simp only [KK]; omega
  | 3, _ => simp only [KK]; omega
theorem smade (n : Nat) : madeCells (Value.cells (.string ByteArray.empty)) (n * 1) = (strV (List.replicate n ByteArray.empty)).toArray := by
  apply Array.ext
  · simp [size_madeCells, strV]
  · intro i h1 h2
    simp [madeCells, strV, Value.cells, Nat.mod_one]
theorem smake (n : Nat) (hn : n ≤ 1000) (V : World) : (Instr.makeSlice 25 (.int .i64 (n : Int)) (.int .i64 (n : Int))).run Tryz.prog V = .ok (.slice (some ⟨V.heap.size, 0, none⟩) n n) (V.alloc (.cells (strV (List.replicate n ByteArray.empty)).toArray 9)) := by
  obtain ⟨i0, hi0, hz0, hz1, hz2⟩ := iparts info_string
  have := run_make (P := Tryz.prog) (w := V) 25 9 i0 (.string ByteArray.empty) Tryz.underlying25 hi0 hz0 .i64 .i64 (n : Int) (n : Int) (by omega) (by omega) (by rw [hz2]; omega) (by omega)
  rw [hz1] at this
  simp only [Int.toNat_natCast] at this
  rw [smade] at this
  exact this
/-- Texts in a block. -/
def Sb (w : World) (b : Nat) (Z : List ByteArray) : Prop := w.heap[b]? = some (.cells (strV Z).toArray 9 (0, 0))
theorem Sb.set {w : World} {b : Nat} {Z : List ByteArray} (h : Sb w b Z) (i : Nat) (x : ByteArray) : Sb (w.setCell ⟨b, i, none⟩ (.string x)) b (Z.set i x) := by
  have := set_at (k := i) (v := .string x) h
  rwa [show (strV Z).set i (.string x) = strV (Z.set i x) by simp [strV, List.map_set]] at this
theorem Sb.below {w w' : World} {b : Nat} {Z : List ByteArray} (h : Sb w b Z) (k : Below w.heap.size w w') : Sb w' b Z := (k.block b (lt_of_block h)).trans h
theorem Sb.cell {w : World} {b : Nat} {Z : List ByteArray} (h : Sb w b Z) (i : Nat) (hi : i < Z.length) : w.cell? ⟨b, i, none⟩ = some (.string Z[i]) := cell_at h i _ (by simp [strV, hi])
theorem Sb.free {w : World} {b : Nat} {Z : List ByteArray} (h : Sb w b Z) (i : Nat) : w.frozen? ⟨b, i, none⟩ = false := free_at h i
/-- The texts that were laid so far. -/
def sofarS (n : Nat) (Z : List ByteArray) : List ByteArray := Z ++ List.replicate (n - Z.length) ByteArray.empty
theorem sofarS_len {n : Nat} {Z : List ByteArray} (h : Z.length ≤ n) : (sofarS n Z).length = n := by simp [sofarS]; omega
theorem sofarS_set {n : Nat} {Z : List ByteArray} (h : Z.length < n) (q : ByteArray) : (sofarS n Z).set Z.length q = sofarS n (Z ++ [q]) := by
  unfold sofarS
  obtain ⟨d, hd⟩ : ∃ d, n - Z.length = d + 1 := ⟨n - Z.length - 1, by omega⟩
  rw [hd, List.length_append, List.length_singleton, show n - (Z.length + 1) = d by omega, List.set_append_right _ _ (Nat.le_refl _), Nat.sub_self, List.replicate_succ]
  simp
theorem sofarS_all (Z : List ByteArray) : sofarS Z.length Z = Z := by simp [sofarS]
end Go.Proofs.YtmoailbilnkfnaaGreatDoor
/- GridFlows: plain parts. -/
namespace Go.Proofs.YtmoailbilnkfnaaGreatDoor
open Go.RowKit
set_option linter.unusedVariables false
set_option maxRecDepth 100000
set_option linter.unusedSimpArgs false

/-- Two lists of numbers, added. -/
def sumL (X Y : List Rat) : List Rat := List.zipWith (fun a b => a + b) X Y
theorem sumL_len {X Y : List Rat} (h : X.length = Y.length) : (sumL X Y).length = X.length := by simp [sumL, h]
theorem sumL_at {X Y : List Rat} {k : Nat} (h1 : k < X.length) (h2 : k < Y.length) (h3 : k < (sumL X Y).length) : (sumL X Y)[k] = X[k] + Y[k] := by simp [sumL]
theorem sumL_rat {X Y : List Rat} {k : Nat} (h : X.length = Y.length) (h1 : k < X.length) : rat' (sumL X Y) k = rat' X k + rat' Y k := by
  rw [← rat_get (show k < (sumL X Y).length by rw [sumL_len h]; exact h1), ← rat_get h1, ← rat_get (show k < Y.length by omega)]
  exact sumL_at h1 (by omega) _
theorem expo_add {S : List Ln} {X Y : List Rat} (h : X.length = Y.length) (hS : X.length = S.length) (z : Nat) : ∀ k, k ≤ S.length → expo S (sumL X Y) z k = expo S X z k + expo S Y z k
  | 0, _ => by simp only [expo]; grind
  | k + 1, hk => by
    simp only [expo]
    rw [expo_add h hS z k (by omega), sumL_rat h (by omega)]
    split <;> split <;> grind
/-- What heavy lets by. -/
theorem hvy_sz {g : Gr} {F : List ByteArray} (h : F.length ≤ 256 ∧ (∀ s ∈ F, s.size ≤ 256) ∧ g.lines.length ≤ 256) : ∀ s ∈ F, s.size ≤ 256 := h.2.1
end Go.Proofs.YtmoailbilnkfnaaGreatDoor
/- the document's Numbers of texts of numbers that are known. -/
namespace Go.Proofs.YtmoailbilnkfnaaGreatDoor
open Go.RowKit
set_option linter.unusedVariables false

theorem hNumbersT_any (w : World) (sv : Value) (Z : List ByteArray) (Y : List Rat) (hs : Strs w sv Z) (hz : TxL Z Y) (m K : Nat) (hm100 : m ≤ 100000) (hmK : m / 9 + 8 ≤ K) (hsz : ∀ s ∈ Z, s.size ≤ m) (hn : Z.length ≤ 1000) :
    Calls Tryz.prog 9 #[sv] w fun e w' => (∃ tv C, e = .returned (.tuple #[tv, .int .i64 0]) ∧ TLs w' w.heap.size tv C Y K) ∧ Below w.heap.size w w' := by
  refine (hNumbersW_any w sv Z hs m K hm100 hmK hsz hn).mono ?_
  rintro e w' ⟨h, b⟩
  refine ⟨?_, b⟩
  rcases h with ⟨X, tv, C, h1, h2, h3⟩ | ⟨h1, _⟩
  · obtain rfl := Nums.uniq h1 hz.nums
    exact ⟨tv, C, h2, h3⟩
  · exact absurd ⟨Y, hz.nums⟩ h1
end Go.Proofs.YtmoailbilnkfnaaGreatDoor
