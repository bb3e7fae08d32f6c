/- record: the closure that hands out bytes; takeCount. -/
import Derived.Test.YtfpifjejooineaaRcApp
namespace Go.Proofs.Ytfpifjejooineaa.Rc
open Go.RowKit
set_option linter.unusedVariables false
set_option maxRecDepth 100000
set_option linter.unusedSimpArgs false

/-- In block q lies the text s, in block p how many of its bytes are taken: k. -/
structure Tk (w : World) (p q : Nat) (s : ByteArray) (k : Nat) : Prop where
  pb : w.heap[p]? = some (.cells #[.int .i64 (k : Int)] 3 (0, 0))
  qb : w.heap[q]? = some (.cells #[.string s] 9 (0, 0))
  lt : q < p
  le : k ≤ s.size
  sz : s.size ≤ 1000000
/-- Of what was there only block p may have changed. -/
structure Fr (p : Nat) (w w' : World) : Prop where
  bel : Below p w w'
  oth : ∀ b, b < w.heap.size → b ≠ p → w'.heap[b]? = w.heap[b]?
theorem Fr.refl (p : Nat) (w : World) : Fr p w w := ⟨Below.refl _ _, fun _ _ _ => rfl⟩
theorem Fr.size {p : Nat} {w w' : World} (h : Fr p w w') : w.heap.size ≤ w'.heap.size := h.bel.size
theorem Fr.trans {p : Nat} {u v w : World} (h : Fr p u v) (k : Fr p v w) : Fr p u w := ⟨h.bel.trans k.bel, fun b hb hn => (k.oth b (by have := h.size; omega) hn).trans (h.oth b hb hn)⟩
theorem Fr.of_below {p : Nat} {u w : World} (h : Below u.heap.size u w) (hp : p ≤ u.heap.size) : Fr p u w := ⟨h.mono hp, fun b hb _ => h.block b hb⟩
theorem Fr.alloc {p : Nat} {u w : World} (h : Fr p u w) (hp : p ≤ w.heap.size) (o : Obj) : Fr p u (w.alloc o) := h.trans (Fr.of_below ((Below.refl _ _).alloc (Nat.le_refl _) o) hp)
theorem Fr.set {p k : Nat} {u w : World} (h : Fr p u w) (v : Value) : Fr p u (w.setCell ⟨p, k, none⟩ v) :=
  ⟨h.bel.setCell (p := ⟨p, k, none⟩) (Nat.le_refl _) v, fun i hi hs => (Below.heap_setCell w ⟨p, k, none⟩ v i hs).trans (h.oth i hi hs)⟩
theorem Fr.grown {p : Nat} {u w w' : World} {row : Option Nat} (h : Fr p u w) (hg : w.grownBy w' row) (hp : p < u.heap.size) (hr : ∀ k, row = some k → u.heap.size ≤ k) : Fr p u w' := by
  have hs := h.size
  refine ⟨h.bel.grown hg (by omega) (fun k hk => by have := hr k hk; omega), fun b hb hn => ?_⟩
  refine (hg.block b (by omega) (fun e => ?_)).trans (h.oth b hb hn)
  have := hr b e.symm
  omega
theorem Fr.own {p : Nat} {w w' : World} {base size : Nat} {e : TypeId} {v : Value} {n : Nat} {xs : List Value} (k : Fr p w w') (h : w.ownsRow base e size v n xs) (hp : p < base) : w'.ownsRow base e size v n xs := by
  obtain ⟨h1, h2⟩ := h
  refine ⟨h1, ?_⟩
  rcases h2 with h2 | ⟨g, cap, cur, hv, hb, hh, r⟩
  · exact Or.inl h2
  · exact Or.inr ⟨g, cap, cur, hv, hb, (k.oth g (lt_of_block hh) (by omega)).trans hh, r⟩
theorem Tk.keep {w w' : World} {p q : Nat} {s : ByteArray} {k : Nat} (h : Tk w p q s k) (b : Below w.heap.size w w') : Tk w' p q s k :=
  ⟨(b.block p (lt_of_block h.pb)).trans h.pb, (b.block q (lt_of_block h.qb)).trans h.qb, h.lt, h.le, h.sz⟩
theorem Tk.grown {w w' : World} {p q B : Nat} {s : ByteArray} {k : Nat} {row : Option Nat} (h : Tk w p q s k) (hg : w.grownBy w' row) (hp : p < B) (hr : ∀ k, row = some k → B ≤ k) : Tk w' p q s k := by
  have h1 := lt_of_block h.pb
  have h2 := lt_of_block h.qb
  have h3 := h.lt
  exact ⟨(hg.block p h1 (fun e => by have := hr p e.symm; omega)).trans h.pb, (hg.block q h2 (fun e => by have := hr q e.symm; omega)).trans h.qb, h.lt, h.le, h.sz⟩
theorem Tk.pl {w : World} {p q : Nat} {s : ByteArray} {k : Nat} (h : Tk w p q s k) : p < w.heap.size := lt_of_block h.pb
set_option maxHeartbeats 1000000 in
/-- No more bytes. -/
theorem take_end (w : World) (p q : Nat) (s : ByteArray) (h : Tk w p q s s.size) :
    Calls Try.prog 48 #[.pointer (some ⟨p, 0, none⟩), .pointer (some ⟨q, 0, none⟩)] w fun e w' => e = .returned (.tuple #[.int .u8 0, .bool false]) ∧ w' = w := by
  have c0 := cell_at (L := [_]) h.pb 0 _ rfl
  have c1 := cell_at (L := [_]) h.qb 0 _ rfl
  have hs := h.sz
  clear h
  go_enter Try.func48, Try.ntmps48
  go_wp2
  exact bodyPost_ret (v := .tuple #[.int .u8 0, .bool false]) (by simp [results, Try.results48, go_sem]) rfl ⟨rfl, rfl⟩
set_option maxHeartbeats 1000000 in
/-- The next byte. -/
theorem take_next (w : World) (p q : Nat) (s : ByteArray) (k : Nat) (hk : k < s.size) (h : Tk w p q s k) :
    Calls Try.prog 48 #[.pointer (some ⟨p, 0, none⟩), .pointer (some ⟨q, 0, none⟩)] w fun e w' => e = .returned (.tuple #[.int .u8 (bt s k : Int), .bool true]) ∧ Tk w' p q s (k + 1) ∧ Fr p w w' := by
  have c0 := cell_at (L := [_]) h.pb 0 _ rfl
  have c1 := cell_at (L := [_]) h.qb 0 _ rfl
  have f0 := free_at (L := [_]) h.pb 0
  have hs := h.sz
  have hne : q ≠ p := by have := h.lt; omega
  have ek := bt_at s k hk
  have hlt : ((k : Int) == (s.size : Int)) = false := beq_eq_false_iff_ne.2 (by omega)
  have HT := hid (show Tk (w.setCell ⟨p, 0, none⟩ (.int .i64 ((k + 1 : Nat) : Int))) p q s (k + 1) from
    ⟨set_at (L := [_]) (k := 0) h.pb, (Below.heap_setCell w ⟨p, 0, none⟩ _ q hne).trans h.qb, h.lt, by omega, h.sz⟩)
  have HF := hid ((Fr.refl p w).set (k := 0) (.int .i64 ((k + 1 : Nat) : Int)))
  have e1 : ((k + 1 : Nat) : Int) = (k : Int) + 1 := by simp
  rw [e1] at HT HF
  clear h e1
  go_enter Try.func48, Try.ntmps48
  go_wp2
  exact bodyPost_ret (v := .tuple #[.int .u8 (bt s k : Int), .bool true]) (by simp [results, Try.results48, go_sem]) rfl ⟨rfl, HT.out, HF.out⟩
/-- The number of the next j bytes, the highest first. -/
def bev (s : ByteArray) (k : Nat) : Nat → Nat
  | 0 => 0
  | j + 1 => bev s k j * 256 + bt s (k + j)
theorem bev_lt (s : ByteArray) (k : Nat) : ∀ j, bev s k j < 256 ^ j
  | 0 => by simp [bev]
  | j + 1 => by
    have h1 := bev_lt s k j
    have h2 := bt_lt s (k + j)
    rw [bev, Nat.pow_succ]; omega
set_option maxHeartbeats 2000000 in
theorem takeCount_any (w : World) (p q : Nat) (s : ByteArray) (k K most : Nat) (hK : K ≤ 2) (hm : most ≤ 1000000) (h : Tk w p q s k) :
    Calls Try.prog 83 #[.func (.func 48) #[] #[.pointer (some ⟨p, 0, none⟩), .pointer (some ⟨q, 0, none⟩)], .int .i64 (K : Int), .int .i64 (most : Int)] w fun e w' => Fr p w w' ∧
      ((k + K ≤ s.size ∧ e = .returned (.tuple #[.int .i64 (bev s k K : Int), .bool (decide (bev s k K ≤ most))]) ∧ Tk w' p q s (k + K)) ∨ (s.size < k + K ∧ e = .returned (.tuple #[.int .i64 0, .bool false]) ∧ Tk w' p q s s.size)) := by
  have hsz := h.sz
  go_enter Try.func83, Try.ntmps83
  go_wp2
  go_loopw [8, 12] (fun n c wr => ∃ j : Nat, j ≤ K ∧ c = .int .i64 j ∧ n = .int .i64 (bev s k j : Int) ∧ Tk wr p q s (k + j) ∧ Fr p w wr) (fun _ c _ => K - (intOf c).toNat)
  case atStart => exact ⟨0, Nat.zero_le _, rfl, rfl, h, Fr.refl _ _⟩
  case round =>
    obtain ⟨j, hj, rfl, rfl, hT, hF⟩ := hrel
    clear h
    by_cases hlt : j < K
    · by_cases hk : k + j < s.size
      · have hu : bev s k j < 256 := Nat.lt_of_lt_of_le (bev_lt s k j) (Nat.pow_le_pow_right (n := 256) (by omega) (show j ≤ 1 by omega))
        have hb := bt_lt s (k + j)
        have HE := hid (show bev s k (j + 1) = bev s k j * 256 + bt s (k + j) from rfl)
        have ho := or256i _ _ hu hb
        have ht := take_next wr p q s (k + j) hk hT
        generalize bev s k j = u at *
        generalize bt s (k + j) = y at *
        go_wp2_with fail
        refine ht.mono ?_
        rintro e w1 ⟨rfl, hT1, hF1⟩
        have hF2 := hF.trans hF1
        clear hT hF ht hF1
        go_wp2
        go_roundw
        case rel => exact ⟨j + 1, by omega, by go_num, by simp [HE.out, ho], hT1, hF2⟩
        case measure => simp [intOf]; omega
      · have hk' : k + j = s.size := by have := hT.le; omega
        rw [hk'] at hT
        have ht := take_end wr p q s hT
        clear hk'
        go_wp2_with fail
        refine ht.mono ?_
        rintro e w1 ⟨rfl, rfl⟩
        go_wp2
        exact bodyPost_ret (v := .tuple #[.int .i64 0, .bool false]) (by simp [results, Try.results83, go_sem]) rfl ⟨hF, Or.inr ⟨by omega, rfl, hT⟩⟩
    · obtain rfl : j = K := by omega
      have hl := hT.le
      have hu := bev_lt s k j
      have hu2 : bev s k j < 65536 := Nat.lt_of_lt_of_le hu (Nat.pow_le_pow_right (n := 256) (by omega) hK)
      clear hu
      go_wp2
      exact bodyPost_ret (v := .tuple #[.int .i64 (bev s k j : Int), .bool (decide (bev s k j ≤ most))]) (by simp [results, Try.results83, go_sem]) rfl ⟨hF, Or.inl ⟨hl, rfl, hT⟩⟩
end Go.Proofs.Ytfpifjejooineaa.Rc
