/- order: a line's fields, one by one. -/
import Derived.Test.YthhikmlbpagknaaDoorKWide
import Derived.Test.YthhikmlbpagknaaDoorLNums
import Derived.BigQuiet
import Derived.Deep.QuietTactic
namespace Go.Proofs.YthhikmlbpagknaaDoor
open Go.RowKit
set_option linter.unusedVariables false
set_option maxRecDepth 100000
set_option linter.unusedSimpArgs false

theorem wrap_in (x : Int) (h1 : -9223372036854775808 ≤ x) (h2 : x < 9223372036854775808) : wrap64 x = x := by
  unfold wrap64; omega
theorem toL_inj {x y : ByteArray} (h : x.toList = y.toList) : x = y := by
  rw [ByteArray.toList_eq, ByteArray.toList_eq] at h
  exact ByteArray.ext (Array.ext' h)
theorem toL_ne {x : ByteArray} {l : List UInt8} (h : ¬ x = ⟨l.toArray⟩) : ¬ x.toList = l ∧ (x.toList == l) = false := by
  have : ¬ x.toList = l := fun k => h (toL_inj (by rw [k, ByteArray.toList_eq]))
  exact ⟨this, by simpa using this⟩
/-- What of a grid is asked. -/
structure Gd where
  zones : Int
  hours : Int
  low : Int
  high : Int
def numF (x : ByteArray) (lo hi bad : Int) : Int := if numE x ≠ 0 then 92 else if numR x < lo ∨ hi < numR x then bad else 0
def top (n : Int) : Int := max n 0 - 1
def buyB : ByteArray := ⟨#[98, 117, 121]⟩
def sellB : ByteArray := ⟨#[115, 101, 108, 108]⟩
def sideF (x : ByteArray) : Int := if x = buyB ∨ x = sellB then 0 else 91
def qtyBad (L : List Int) : Bool := L.any (fun q => decide (q < 0) || decide (1000 < q)) || !(L.any fun q => decide (0 < q))
def qF (x : ByteArray) (hours : Int) : Int := if numsE x ≠ 0 then 92 else if ((numsL x).length : Int) ≠ hours then 91 else if qtyBad (numsL x) = true then 95 else 0
def orE (e f : Int) : Int := if e = 0 then f else e
/-- The fields that are left, in block fb. -/
def FAt (A : Nat → Prop) (w : World) (fb : Nat) (g : Gd) (lv : Value) (L : List ByteArray) (e : Int) : Prop :=
  ∃ v, w.heap[fb]? = some (.cells #[v, .int .i64 g.zones, .int .i64 g.hours, lv, .int .i64 g.low, .int .i64 g.high, .int .i64 e] 52 (0, 0)) ∧ Strs w v L ∧ (∀ b off n c, v = .slice (some ⟨b, off, none⟩) n c → ¬ A b) ∧ A fb ∧ ∀ x ∈ L, x.size ≤ 200
theorem FAt.kx {A : Nat → Prop} {w w' : World} {fb : Nat} {g : Gd} {lv : Value} {L : List ByteArray} {e : Int} (h : FAt A w fb g lv L e) (k : Below w.heap.size w w') : FAt A w' fb g lv L e := by
  obtain ⟨v, h1, h2, h3⟩ := h
  exact ⟨v, blk_below h1 k, h2.below k, h3⟩
theorem FAt.set {A : Nat → Prop} {w : World} {fb : Nat} {g : Gd} {lv : Value} {L : List ByteArray} {e : Int} (h : FAt A w fb g lv L e) {b : Nat} (hb : A b) (hne : ¬ b = fb) (k : Nat) (x : Value) : FAt A (w.setCell ⟨b, k, none⟩ x) fb g lv L e := by
  obtain ⟨v, h1, h2, h3, h4⟩ := h
  have kk : Kx (fun c => c = b) w (w.setCell ⟨b, k, none⟩ x) := Kx.set (S := fun c => c = b) (g := b) (Kx.refl _ w) rfl _
  exact ⟨v, kk.blk h1 (fun k => hne k.symm), ⟨h2.1.kx kk (fun b' off n c e k' => h3 b' off n c e (k' ▸ hb)), h2.2⟩, h3, h4⟩
theorem FAt.grid {A : Nat → Prop} {w : World} {fb : Nat} {g : Gd} {lv : Value} {L : List ByteArray} {e : Int} (h : FAt A w fb g lv L e) : w.cell? ⟨fb, 1, none⟩ = some (.int .i64 g.zones) ∧ w.cell? ⟨fb, 2, none⟩ = some (.int .i64 g.hours) ∧ w.cell? ⟨fb, 4, none⟩ = some (.int .i64 g.low) ∧ w.cell? ⟨fb, 5, none⟩ = some (.int .i64 g.high) ∧ w.cell? ⟨fb, 6, none⟩ = some (.int .i64 e) ∧ fb < w.heap.size := by
  obtain ⟨v, h1, _⟩ := h
  exact ⟨blk_cell h1 1 _ rfl, blk_cell h1 2 _ rfl, blk_cell h1 4 _ rfl, blk_cell h1 5 _ rfl, blk_cell h1 6 _ rfl, lt_of_block h1⟩
theorem blk_set {w : World} {b k : Nat} {C : Array Value} {v : Value} {t : TypeId} {fz : Nat × Nat} (h : w.heap[b]? = some (.cells C t fz)) : (w.setCell ⟨b, k, none⟩ v).heap[b]? = some (.cells (C.setIfInBounds k v) t fz) := by
  have := set_at (L := C.toList) (k := k) (v := v) (by simpa using h)
  rw [this]; congr 2
  apply Array.ext'; simp
set_option maxHeartbeats 1600000 in
theorem next_any (A : Nat → Prop) (w : World) (fb : Nat) (g : Gd) (lv : Value) (x : ByteArray) (L : List ByteArray) (e : Int) (h : FAt A w fb g lv (x :: L) e) :
    Calls Tryd.prog 73 #[.pointer (some ⟨fb, 0, none⟩)] w fun r w' => r = .returned (.string x) ∧ FAt A w' fb g lv L e ∧ Kx (fun b => b = fb) w w' := by
  obtain ⟨v, h1, h2, h3, hA, h4⟩ := h
  obtain ⟨b, off, c, rfl, hlc, hcm, hc, hx⟩ := h2.at 0 (by simp)
  simp only [List.length_cons, Nat.add_zero, List.getElem_cons_zero] at hlc hc hx
  unfold maxLen at hcm
  have hnA := h3 b off _ c rfl
  have hne : ¬ b = fb := fun k => hnA (k ▸ hA)
  have c0 := blk_cell h1 0 (.slice (some ⟨b, off, none⟩) (L.length + 1) c) rfl
  have f0 := blk_free h1 0
  have hlen : ((L.length + 1 : Nat) : Int) = (L.length : Int) + 1 := by omega
  have key : ∀ a : Option Addr, (L = [] ∨ a = some ⟨b, off + 1, none⟩) → (∀ b' off' n' c', (Value.slice a L.length (c - 1)) = .slice (some ⟨b', off', none⟩) n' c' → ¬ A b') → FAt A (w.setCell ⟨fb, 0, none⟩ (.slice a L.length (c - 1))) fb g lv L e ∧ Kx (fun b => b = fb) w (w.setCell ⟨fb, 0, none⟩ (.slice a L.length (c - 1))) := by
    intro a ha hb
    have k : Kx (fun b => b = fb) w (w.setCell ⟨fb, 0, none⟩ (.slice a L.length (c - 1))) := Kx.set (S := fun b => b = fb) (g := fb) (Kx.refl _ w) rfl _
    refine ⟨⟨_, blk_set h1, ⟨?_, fun y hy => h2.2 y (by simp [hy])⟩, hb, hA, fun y hy => h4 y (by simp [hy])⟩, k⟩
    have r1 := h2.1
    rw [show strV (x :: L) = .string x :: strV L from rfl] at r1
    have r2 := Row1.tail (L := strV L) (c := c) (x := .string x) (by simpa [strV_len] using r1) a (by rcases ha with rfl | rfl; exact Or.inl rfl; exact Or.inr rfl)
    rw [strV_len] at r2
    exact r2.kx k (fun b' off' n' c' e' k' => hb b' off' n' c' e' (k' ▸ hA))
  have HK := hid key
  clear key h1 h2 h3 h4
  go_enter Tryd.func73, Tryd.ntmps73
  go_wp2
  · go_ret
    have hL : L = [] := List.eq_nil_of_length_eq_zero (by omega)
    subst h
    exact ⟨rfl, HK.out _ (Or.inl hL) (fun b' off' n' c' e' => by simp only [Value.slice.injEq, Option.some.injEq, Addr.mk.injEq] at e'; rw [← e'.1.1]; exact hnA)⟩
  · go_ret
    exact ⟨rfl, HK.out _ (Or.inr rfl) (fun b' off' n' c' e' => by simp only [Value.slice.injEq, Option.some.injEq, Addr.mk.injEq] at e'; rw [← e'.1.1]; exact hnA)⟩
set_option maxHeartbeats 1600000 in
theorem refuse_any (A : Nat → Prop) (w : World) (fb : Nat) (g : Gd) (lv : Value) (L : List ByteArray) (e f : Int) (h : FAt A w fb g lv L e) :
    Calls Tryd.prog 80 #[.pointer (some ⟨fb, 0, none⟩), .int .i64 f] w fun r w' => r = .returned (.tuple #[]) ∧ FAt A w' fb g lv L (orE e f) ∧ Kx (fun b => b = fb) w w' := by
  by_cases h0 : e = 0
  · subst h0
    have key : FAt A (w.setCell ⟨fb, 6, none⟩ (.int .i64 f)) fb g lv L (orE 0 f) ∧ Kx (fun b => b = fb) w (w.setCell ⟨fb, 6, none⟩ (.int .i64 f)) := by
      obtain ⟨v, h1, h2, h3, hA, h4⟩ := h
      have k : Kx (fun b => b = fb) w (w.setCell ⟨fb, 6, none⟩ (.int .i64 f)) := Kx.set (S := fun b => b = fb) (g := fb) (Kx.refl _ w) rfl _
      exact ⟨⟨v, blk_set h1, ⟨h2.1.kx k (fun b off n c e k' => h3 b off n c e (k' ▸ hA)), h2.2⟩, h3, hA, h4⟩, k⟩
    have c6 := h.grid.2.2.2.2.1
    have f6 : w.frozen? ⟨fb, 6, none⟩ = false := by obtain ⟨v, h1, _⟩ := h; exact blk_free h1 6
    clear h
    go_enter Tryd.func80, Tryd.ntmps80
    go_wp2
    go_end0
    exact ⟨rfl, key⟩
  · have c6 := h.grid.2.2.2.2.1
    have he : orE e f = e := by unfold orE; rw [if_neg h0]
    rw [he]
    have hb : (e == 0) = false := by simp [h0]
    go_enter Tryd.func80, Tryd.ntmps80
    go_wp2
    go_end0
    exact ⟨rfl, h, Kx.refl _ _⟩
set_option maxHeartbeats 3200000 in
theorem fnumber_any (A : Nat → Prop) (w : World) (fb : Nat) (g : Gd) (lv : Value) (x : ByteArray) (L : List ByteArray) (e lo hi bad : Int) (h : FAt A w fb g lv (x :: L) e) :
    Calls Tryd.prog 77 #[.pointer (some ⟨fb, 0, none⟩), .int .i64 lo, .int .i64 hi, .int .i64 bad] w fun r w' => r = .returned (.int .i64 (numR x)) ∧ FAt A w' fb g lv L (orE e (numF x lo hi bad)) ∧ Kx (fun b => b = fb) w w' := by
  have hx : x.size ≤ 200 := by obtain ⟨v, _, _, _, _, h4⟩ := h; exact h4 x (by simp)
  have hN := next_any A w fb g lv x L e h
  have hU := fun v => number_any x v (by omega)
  have hR := fun v f (k : FAt A v fb g lv L e) => refuse_any A v fb g lv L e f k
  have hF : numF x lo hi bad = if numE x ≠ 0 then 92 else if numR x < lo ∨ hi < numR x then bad else 0 := rfl
  have hO : orE e 0 = e := by unfold orE; split <;> omega
  rcases numE_ways x with h0 | h0
  · rw [h0] at hU hF
    simp only [ne_eq, not_true_eq_false, if_false] at hF
    by_cases h1 : numR x < lo ∨ hi < numR x
    · rw [if_pos h1] at hF
      rw [hF]
      have h2 : (decide (numR x < lo) || decide (hi < numR x)) = true := by simpa using h1
      generalize numR x = r at *
      clear hF h
      rcases Bool.eq_false_or_eq_true (decide (r < lo)) with h3 | h3
      all_goals
        first | (have h3' := of_decide_eq_true h3) | (have h3' := of_decide_eq_false h3; have h4' : hi < r := by omega)
        clear h1 h2 h3
        go_enter Tryd.func77, Tryd.ntmps77
        go_wp2_with fail
        refine hN.mono ?_
        rintro r1 w1 ⟨rfl, f1, k1⟩
        go_wp2_with fail
        refine (hU w1).mono ?_
        rintro r2 w2 ⟨rfl, b2⟩
        go_wp2_with fail
        refine (hR w2 bad (f1.kx b2)).mono ?_
        rintro r3 w3 ⟨rfl, f3, k3⟩
        go_wp2
        go_ret
        exact ⟨rfl, f3, (k1.trans (Kx.of_below b2)).trans k3⟩
    · rw [if_neg h1] at hF
      rw [hF, hO]
      generalize numR x = r at *
      have h3 : ¬ r < lo := fun k => h1 (Or.inl k)
      have h4 : ¬ hi < r := fun k => h1 (Or.inr k)
      clear h1 hF h hR hO
      go_enter Tryd.func77, Tryd.ntmps77
      go_wp2_with fail
      refine hN.mono ?_
      rintro r1 w1 ⟨rfl, f1, k1⟩
      go_wp2_with fail
      refine (hU w1).mono ?_
      rintro r2 w2 ⟨rfl, b2⟩
      go_wp2
      go_ret
      exact ⟨rfl, f1.kx b2, k1.trans (Kx.of_below b2)⟩
  · rw [h0] at hU hF
    simp only [ne_eq, show ¬ (81 : Int) = 0 by omega, not_false_eq_true, if_true] at hF
    rw [hF]
    generalize numR x = r at *
    clear hF h hO
    go_enter Tryd.func77, Tryd.ntmps77
    go_wp2_with fail
    refine hN.mono ?_
    rintro r1 w1 ⟨rfl, f1, k1⟩
    go_wp2_with fail
    refine (hU w1).mono ?_
    rintro r2 w2 ⟨rfl, b2⟩
    go_wp2_with fail
    refine (hR w2 92 (f1.kx b2)).mono ?_
    rintro r3 w3 ⟨rfl, f3, k3⟩
    go_wp2
    go_ret
    exact ⟨rfl, f3, (k1.trans (Kx.of_below b2)).trans k3⟩
set_option maxHeartbeats 1600000 in
theorem fplace_any (A : Nat → Prop) (w : World) (fb : Nat) (g : Gd) (lv : Value) (x : ByteArray) (L : List ByteArray) (e n bad : Int) (h : FAt A w fb g lv (x :: L) e) (hn : n ≤ 9223372036854775807) :
    Calls Tryd.prog 100 #[.pointer (some ⟨fb, 0, none⟩), .int .i64 n, .int .i64 bad] w fun r w' => r = .returned (.int .i64 (numR x)) ∧ FAt A w' fb g lv L (orE e (numF x 0 (top n) bad)) ∧ Kx (fun b => b = fb) w w' := by
  have hN := fnumber_any A w fb g lv x L e 0 (top n) bad h
  have e2 : wrap64 (max n 0 - 1) = max n 0 - 1 := wrap_in _ (by omega) (by omega)
  rw [show top n = max n 0 - 1 from rfl] at hN ⊢
  clear h
  go_enter Tryd.func100, Tryd.ntmps100
  go_wp2_with fail
  refine hN.mono ?_
  rintro r1 w1 ⟨rfl, f1, k1⟩
  go_wp2
  go_ret
  exact ⟨rfl, f1, k1⟩
set_option maxHeartbeats 1600000 in
theorem fside_any (A : Nat → Prop) (w : World) (fb : Nat) (g : Gd) (lv : Value) (x : ByteArray) (L : List ByteArray) (e : Int) (h : FAt A w fb g lv (x :: L) e) :
    Calls Tryd.prog 101 #[.pointer (some ⟨fb, 0, none⟩)] w fun r w' => r = .returned (.bool (decide (x = buyB))) ∧ FAt A w' fb g lv L (orE e (sideF x)) ∧ Kx (fun b => b = fb) w w' := by
  have hN := next_any A w fb g lv x L e h
  have hR := fun v f (k : FAt A v fb g lv L e) => refuse_any A v fb g lv L e f k
  have hO : orE e 0 = e := by unfold orE; split <;> omega
  clear h
  by_cases h1 : x = buyB
  · subst h1
    have hs : sideF buyB = 0 := by decide
    rw [hs, hO]
    clear hR hO hs
    simp only [decide_true]
    unfold buyB at *
    go_enter Tryd.func101, Tryd.ntmps101
    go_wp2_with fail
    refine hN.mono ?_
    rintro r1 w1 ⟨rfl, f1, k1⟩
    go_wp2
    go_ret
    exact ⟨rfl, f1, k1⟩
  by_cases h2 : x = sellB
  · subst h2
    have hs : sideF sellB = 0 := by decide
    rw [hs, hO]
    clear hR hO hs
    simp only [h1, decide_false]
    clear h1
    unfold sellB at *
    go_enter Tryd.func101, Tryd.ntmps101
    go_wp2_with fail
    refine hN.mono ?_
    rintro r1 w1 ⟨rfl, f1, k1⟩
    go_wp2
    go_ret
    exact ⟨rfl, f1, k1⟩
  · have hs : sideF x = 91 := by unfold sideF; rw [if_neg (fun k => k.elim h1 h2)]
    rw [hs]
    simp only [h1, decide_false]
    obtain ⟨t1, t3⟩ := toL_ne (l := [98, 117, 121]) h1
    obtain ⟨t2, t4⟩ := toL_ne (l := [115, 101, 108, 108]) h2
    clear h1 h2
    go_enter Tryd.func101, Tryd.ntmps101
    go_wp2_with fail
    refine hN.mono ?_
    rintro r1 w1 ⟨rfl, f1, k1⟩
    go_wp2_with fail
    refine (hR w1 91 f1).mono ?_
    rintro r3 w3 ⟨rfl, f3, k3⟩
    go_wp2
    go_ret
    exact ⟨rfl, f3, k1.trans k3⟩
end Go.Proofs.YthhikmlbpagknaaDoor
