/- book: who has had an Add that was OK. -/
import Derived.Test.YtbkobimbdiogfaaBCalls
import Derived.Maps.RangeWalk
import Derived.Sort.KeysCollected
import Derived.Sort.OwnSorted
import Derived.OwnWalk
namespace Go.Proofs.Ytbkobimbdiogfaa
open Go.RowKit Go.MapKept Go.Maps Go.Sort
open Go.WideElems (Fit rd rg rd_mk rg_of)
set_option linter.unusedVariables false
set_option maxRecDepth 100000
set_option linter.unusedSimpArgs false

theorem len_le_of : ∀ {α : Type} (l1 l2 : List α), l1.Pairwise (· ≠ ·) → (∀ x ∈ l1, x ∈ l2) → l1.length ≤ l2.length
  | _, [], _, _, _ => Nat.zero_le _
  | _, x :: l1, l2, h, hs => by
    obtain ⟨h1, h2⟩ := List.pairwise_cons.1 h
    obtain ⟨a, b, rfl⟩ := List.append_of_mem (hs x (by simp))
    have := len_le_of l1 (a ++ b) h2 (fun y hy => by
      have := hs y (by simp [hy])
      have hne := h1 y hy
      simp only [List.mem_append, List.mem_cons] at this ⊢
      rcases this with h | h | h
      · exact Or.inl h
      · exact absurd h.symm hne
      · exact Or.inr h)
    simp at this ⊢
    omega
/-- How an element is read where only keys are asked for. -/
def noElem : Value → Option (DataW Unit × List MemPlace) := fun _ => some (.agg [], [])
def bytesOf' (x : ByteArray) : List UInt8 := x.data.toList
/-- Names, rising. -/
def leN (x y : List UInt8) : Bool := decide (x ≤ y)
def bytesS (N : List ByteArray) : List (List UInt8) := (N.map bytesOf').mergeSort fun x y => decide (x ≤ y)
def namesS (N : List ByteArray) : List ByteArray := (bytesS N).map fun l => ⟨l.toArray⟩
section
variable {O : Nat → Prop} {C : Nat → Col} {w : World} {bb lb ab : Nat} {el ea : Array MapEntry} {cl ca : Nat} {N : List ByteArray} {S : ByteArray → Ps}
theorem BkIn.ea_len (h : BkIn O C w bb lb ab el ea cl ca N S) : ea.size ≤ N.length := by
  have h1 := ((stamped_iff _ _).1 h.accs.stamped).2.2
  have h2 := len_le_of (ea.toList.map (·.key)) (N.map Value.string) (by rw [List.pairwise_map]; exact h1) (fun x hx => by
    obtain ⟨e, he, rfl⟩ := List.mem_map.1 hx
    obtain ⟨who, sv, a1, a2, _⟩ := h.acc e he
    rw [a2]; exact List.mem_map.2 ⟨who, a1, rfl⟩)
  simpa using h2
theorem BkIn.owns (h : BkIn O C w bb lb ab el ea cl ca N S) (hN : N.length ≤ 1000) : ∃ D, w.ownsMap Try.prog 9 noElem ab 1000 D ∧ (∀ x, has D (.string x) = true ↔ x ∈ N.map bytesOf') ∧ Maps.size D ≤ 1000 := by
  have hlen := h.ea_len
  have hF : Fit Try.prog 9 noElem ea ca := by
    refine ⟨by unfold maxLen; omega, h.accs.stamped, fun x hx => ?_⟩
    obtain ⟨l, hl⟩ := h.accs.keys x hx
    obtain ⟨key, val, born⟩ := x
    exact ⟨_, rd_mk (R := noElem) hl rfl⟩
  have hown : w.ownsMap Try.prog 9 noElem ab 1000 (.map ((ea.toList.map (rg Try.prog 9 noElem)).foldr DataW.insert [])) := ⟨ea, ca, h.accs.blk, hF, by omega, rfl⟩
  refine ⟨_, hown, fun x => ?_, Nat.le_trans hown.size_le (Nat.le_refl _)⟩
  have hkey : ∀ e ∈ ea.toList, ∃ who ∈ N, (rg Try.prog 9 noElem e).1 = .string (bytesOf' who) ∧ e.key = .string who := fun e he => by
    obtain ⟨who, sv, a1, a2, _⟩ := h.acc e he
    have hk : keyOf Try.prog 9 e.key = some (.string (bytesOf' who)) := by
      rw [a2]
      exact WideMaps.keyOf_string_mk Try.underlying9 (by have := (h.names who a1).1; unfold maxLen; omega)
    obtain ⟨key, val, born⟩ := e
    refine ⟨who, a1, ?_, a2⟩
    rw [rg_of (rd_mk (R := noElem) (val := val) (born := born) hk rfl)]
  have hmem : ∀ p, p ∈ ((ea.toList.map (rg Try.prog 9 noElem)).foldr DataW.insert []) ↔ p ∈ ea.toList.map (rg Try.prog 9 noElem) := fun p => (WideShapes.sorted_perm _).mem_iff
  show (List.any _ _) = true ↔ _
  rw [List.any_eq_true]
  constructor
  · rintro ⟨p, hp, hs⟩
    obtain ⟨e, he, rfl⟩ := List.mem_map.1 ((hmem p).1 hp)
    obtain ⟨who, a1, a2, _⟩ := hkey e he
    rw [a2] at hs
    have := WideAt.sameKey_eq hs
    simp only [Lit.string.injEq] at this
    exact List.mem_map.2 ⟨who, a1, this⟩
  · intro hx
    obtain ⟨who, a1, a2⟩ := List.mem_map.1 hx
    obtain ⟨_, e, he, ek⟩ := h.names who a1
    obtain ⟨who', a1', a3, a4⟩ := hkey e he
    have : who' = who := by rw [a4] at ek; cases ek; rfl
    subst this
    refine ⟨_, (hmem _).2 (List.mem_map.2 ⟨e, he, rfl⟩), ?_⟩
    rw [a3, a2]
    exact WideAt.sameKey_self trivial
end
theorem perm_names {D : DataW Unit} {N : List ByteArray} {left : Lit → Bool} {ss : List (List UInt8)} (hN : N.Nodup) (hD : ∀ x, has D (.string x) = true ↔ x ∈ N.map bytesOf') (hC : Collected D left ss) (hl : ∀ kl, left kl = false) : ss.Perm (N.map bytesOf') := by
  have hes : strKeys (H := Unit) (.map (N.map fun x => (Lit.string (bytesOf' x), DataW.agg []))) = N.map bytesOf' := by
    simp [strKeys, strOf, Function.comp_def]
  rw [← hes]
  refine perm_strKeys ?_ ?_ hC.1 (fun x => ?_)
  · rw [List.pairwise_map]
    refine hN.imp (fun {a b} hab e => hab ?_)
    simp only [Lit.string.injEq, bytesOf'] at e
    cases a; cases b
    simp only at e
    congr
    exact Array.ext' e
  · intro p hp
    obtain ⟨who, _, rfl⟩ := List.mem_map.1 hp
    exact ⟨_, rfl⟩
  · rw [hC.2 x, hD x]
    show _ ↔ (List.any _ _) = true
    rw [List.any_eq_true]
    constructor
    · rintro ⟨hx, _⟩
      obtain ⟨who, a1, a2⟩ := List.mem_map.1 hx
      exact ⟨_, List.mem_map.2 ⟨who, a1, rfl⟩, by rw [a2]; exact WideAt.sameKey_self trivial⟩
    · rintro ⟨p, hp, hs⟩
      obtain ⟨who, a1, rfl⟩ := List.mem_map.1 hp
      have := WideAt.sameKey_eq hs
      simp only [Lit.string.injEq] at this
      exact ⟨List.mem_map.2 ⟨who, a1, this⟩, hl _⟩
theorem grown_of_below {w w' : World} (h : Below w.heap.size w w') (row : Option Nat) : w.grownBy w' row := ⟨h.os, h.tape, h.output, h.size, fun k hk _ => h.block k hk⟩
set_option maxHeartbeats 3200000 in
theorem who_any {O : Nat → Prop} {w : World} {v : Value} {N : List ByteArray} {S : ByteArray → Ps} (h : Bk O w v N S) (hN : N.length ≤ 1000) :
    Calls Try.prog 23 #[v] w fun e w' => ∃ r, e = .returned r ∧ w'.ownsRow w.heap.size 9 1 r N.length ((bytesS N).map encStr) ∧ Below w.heap.size w w' := by
  obtain ⟨C, bb, lb, ab, el, ea, cl, ca, rfl, hb⟩ := h
  obtain ⟨D0, hown, hD, hsz⟩ := hb.owns hN
  have hnd := hb.nodup
  have c1 := hb.cell1
  have hbl : ab < w.heap.size := hown.lt
  have HD := hid hD
  have hsmall : ∀ x : List UInt8, x ∈ N.map bytesOf' → x.length ≤ 1099511627776 := fun x hx => by
    obtain ⟨who, a1, rfl⟩ := List.mem_map.1 hx
    have := (hb.names who a1).1
    show who.data.toList.length ≤ _
    rw [Array.length_toList]
    exact this
  have HSM := hid hsmall
  obtain ⟨i0, hi, hz0, hz1, hz2⟩ := info_parts info_string
  clear hb hD hsmall
  go_enter Try.func23, Try.ntmps23
  go_wp2_with (first
    | (at_range; refine wpList_range_own _ rfl _ 71 rfl 9 76 lawStr Try.underlying71 _ ab 1000 _ rfl hown ?_; intro w0 hrg0 hg0 hs0)
    | go_in)
  go_frame
  go_loopw [3] (fun v wr => ∃ (left : Lit → Bool) (cnt : Nat) (ss : List (List UInt8)), wr.ranges Try.prog 9 noElem ab w.heap.size 1000 D0 left cnt ∧ ss.length + cnt ≤ Maps.size D0 ∧
      wr.ownsRow w.heap.size 9 1 v ss.length (ss.map encStr) ∧ Collected D0 left ss ∧ Below w.heap.size w wr)
    (fun _ wr => wr.rangeLeft ab w.heap.size)
  case atStart =>
    exact ⟨_, _, [], hrg0, by simp, World.ownsRow_nil _ _ _ 1, Collected.start D0, (Below.refl _ _).grown hg0 (Nat.le_refl _) (fun j hj => by cases hj)⟩
  case round =>
    obtain ⟨left, cnt, ss, hrg, hcs, hrow, hC, hnx⟩ := hrel
    go_wp2_with (first
      | (at_next; refine wpList_next_ranges _ rfl _ rfl 9 lawStr noElem encStr (fun v : Value => v) (fun key kl hk => by obtain ⟨x, hx, _⟩ := Maps.keyOf_str Try.underlying9 hk; exact ⟨x, hx⟩) (fun v y hv => ⟨v, rfl⟩) ab w.heap.size 1000 _ _ _ rfl hrg ?_ ?_)
      | go_in)
    · intro hc0 hl0
      have hperm := perm_names hnd HD.out hC hl0
      have hms : ss.mergeSort (fun x y => decide (x ≤ y)) = bytesS N := mergeSort_of_perm hperm
      have hlen : ss.length = N.length := by have := hperm.length_eq; simpa using this
      have HMS := hid hms
      have HLEN := hid hlen
      clear hlen hms
      rcases hrow.2 with ⟨hnil, h0⟩ | ⟨g, cap, cur, hv, hbase, hb, h1, h2, h3, h4⟩
      · subst hnil
        have hc := Try.slices_Sort_string_none none 0 wr
        have hss := hid (List.eq_nil_of_length_eq_zero h0 : ss = [])
        have H0 := hid h0
        clear h0
        go_wp2_with fail
        refine hc.mono ?_
        rintro e w' ⟨rfl, hw'⟩
        subst hw'
        go_wp2
        go_ret
        have hms := HMS.out
        rw [hss.out] at hms
        have hb0 : bytesS N = [] := by rw [← hms]; simp
        rw [hb0, ← HLEN.out, H0.out]
        exact ⟨_, rfl, World.ownsRow_nil _ _ _ 1, hnx⟩
      · subst hv
        have hH : Holds encStr wr g 0 ss.toArray := holds_of_block hb (by simpa using h4)
        have hgl : g < wr.heap.size := (Array.getElem?_eq_some_iff.1 hb).1
        have hc := Try.slices_Sort_string g 0 cap ss wr hH hgl (by omega)
        go_wp2_with fail
        refine hc.mono ?_
        rintro e w' ⟨rfl, nn, os, rfl⟩
        go_wp2
        go_ret
        have hms := HMS.out
        refine ⟨_, rfl, ?_, hnx.grown (grownBy_sorted _) hnx.size (fun j hj => by cases hj; exact hbase)⟩
        have := ownsRow_sorted (n := nn) (os := os) (ts := ss.mergeSort (fun x y => decide (x ≤ y))) (by simp) hbase hb h1 h2 h3
        rw [hms] at this ⊢
        rw [← HLEN.out]
        exact this
    · intro x c kl yd yp w2 cnt2 hkey hlk hv hat hrg2 hlt hg2 hs2 hen
      obtain ⟨x', ex, rfl, _⟩ := Maps.keyOf_str Try.underlying9 hkey
      obtain rfl : x = x' := encStr_inj ex
      have hC2 := hC.step hlk hat
      have hxN : x ∈ N.map bytesOf' := (HD.out x).1 ((hC2.2 x).1 (by simp)).1
      have hxl := HSM.out x hxN
      have hrow2 := hrow.kept hg2 (Or.inr (row_ne_iter hrow hrg).symm)
      clear hs2 hxN
      have hsc := sclone_any ⟨x.toArray⟩ w2 (by show x.toArray.size ≤ _; simpa using hxl)
      have hen' : (Instr.entry (.pointer (some ⟨w.heap.size, 0, none⟩))).run Try.prog w2 = .ok (.tuple #[.string ⟨x.toArray⟩, c]) w2 := hen
      clear hen
      unfold encStr
      go_wp2_with fail
      refine hsc.mono ?_
      rintro e w3 ⟨rfl, b3⟩
      have hrg3 := hrg2.kept (grown_of_below b3 none) (by simp) (by simp)
      have hrow3 := own_below hrow2 b3
      have hnx2 := hnx.grown hg2 hnx.size (fun j hj => by cases hj; exact Nat.le_refl _)
      have hnx3 : Below w.heap.size w w3 := hnx2.trans (b3.mono hnx2.size)
      clear hsc hen'
      go_wp2_with (first
        | (at_builtin; refine wpList_append_own _ rfl _ _ 59 rfl w.heap.size 9 i0 (.string ByteArray.empty) 1 16 Try.underlying59 hi hz0 hz1 hz2 rfl (by decide) _ _ _ rfl (hrow3.alloc _) ⟨w3.heap.size, 0, none⟩ 1 1 [encStr x] rfl rfl (cell_one_new _ _ _) (by simp [Value.oneCell', encStr]) (by unfold maxLen at *; omega) (by omega) (by have := hnx3.size; simp; omega) ?_; intro v' w4 hown' hg4 hnil4; go_frame)
        | go_in)
      have hrg4 := (hrg3.alloc _).kept hg4 (row_ne_low hrow3 hbl) (row_ne_iter hrow3 hrg3)
      go_roundw
      case rel =>
        refine ⟨_, cnt2, ss ++ [x], hrg4, by simp; omega, by simpa using hown', hC2, ?_⟩
        exact (hnx3.alloc hnx3.size _).grown hg4 (by have := hnx3.size; simp; omega) (fun j hj => (hrow3.lt j hj).1)
      case measure => rw [hrg4.left_eq, hrg.left_eq]; exact hlt
end Go.Proofs.Ytbkobimbdiogfaa
