/- lex: Join, the program's and the document's. -/
import Derived.Test.YteelnimchlgdmaaDoorLBase
import Derived.Test.YteelnimchlgdmaaDoorShelf
import Derived.Lib.UnsafeStr
import Derived.Laws.BytesArg
namespace Go.Proofs.YteelnimchlgdmaaDoor
open Go.RowKit
set_option linter.unusedVariables false
set_option maxRecDepth 100000
set_option linter.unusedSimpArgs false

theorem builder_below {T e : TypeId} {B b : Nat} {bs : List Value} {w w' : World} (h : Lib.IsBuilderF T e B b bs w) (hb : Below w.heap.size w w') : Lib.IsBuilderF T e B b bs w' := by
  have key : ∀ p, Lib.BuilderAtF T e B b p bs w → Lib.BuilderAtF T e B b p bs w' := by
    rintro p ⟨h1, v, h2, ⟨h3, h4⟩, h5⟩
    refine ⟨h1, v, by rw [hb.block b (lt_of_block h2)]; exact h2, ⟨h3, ?_⟩, h5⟩
    rcases h4 with h4 | ⟨g, cap, cur, fz, hv, hg, hh, r⟩
    · exact Or.inl h4
    · exact Or.inr ⟨g, cap, cur, fz, hv, hg, by rw [hb.block g (lt_of_block hh)]; exact hh, r⟩
  exact h.elim (fun x => Or.inl (key _ x)) (fun x => Or.inr (key _ x))
theorem builder_new (w : World) : Lib.IsBuilderF 56 5 w.heap.size w.heap.size (Lib.byteCells []) (w.alloc (Obj.cells #[.pointer none, .slice none 0 0] 56)) :=
  Or.inl ⟨Nat.le_refl _, .slice none 0 0, heap_alloc_last _ _, ⟨rfl, Or.inl ⟨rfl, rfl⟩⟩, by simp [Value.ownBlock]⟩
/-- The first k texts, joined. -/
def jk (L : List ByteArray) (k : Nat) : List UInt8 := jn 32 ((L.take k).map bl)
theorem jn_snoc (c : UInt8) (x : List UInt8) : ∀ (L : List (List UInt8)), L ≠ [] → jn c (L ++ [x]) = jn c L ++ c :: x
  | [], h => absurd rfl h
  | [a], _ => rfl
  | a :: b :: r, _ => by
    have := jn_snoc c x (b :: r) (by simp)
    simp only [List.cons_append, jn] at this ⊢
    rw [this]; simp
theorem jk_zero (L : List ByteArray) : jk L 0 = [] := rfl
theorem jk_one (L : List ByteArray) (h : 0 < L.length) : jk L 1 = bl L[0] := by
  unfold jk
  rw [List.take_succ_eq_append_getElem h]; rfl
theorem jk_succ (L : List ByteArray) (k : Nat) (h : k < L.length) (hk : k ≠ 0) : jk L (k + 1) = jk L k ++ 32 :: bl L[k] := by
  unfold jk
  rw [List.take_succ_eq_append_getElem h, List.map_append]
  refine jn_snoc 32 _ _ (fun e => ?_)
  have := congrArg List.length e
  simp only [List.length_map, List.length_take, List.length_nil] at this
  omega
theorem jk_all (L : List ByteArray) : jk L L.length = jn 32 (L.map bl) := by unfold jk; rw [List.take_of_length_le (Nat.le_refl _)]
theorem jk_le (L : List ByteArray) (k : Nat) : ∀ j, k + j ≤ L.length → (jk L k).length ≤ (jk L (k + j)).length
  | 0, _ => Nat.le_refl _
  | j + 1, h => by
    have h1 := jk_le L k j (by omega)
    rw [← Nat.add_assoc]
    by_cases hz : k + j = 0
    · have : k = 0 := by omega
      subst this; simp [jk_zero]
    · rw [jk_succ L (k + j) (by omega) hz, List.length_append]; omega
theorem jk_few {L : List ByteArray} {N : Nat} (h : (jn 32 (L.map bl)).length ≤ N) (k : Nat) (hk : k ≤ L.length) : (jk L k).length ≤ N := by
  have := jk_le L k (L.length - k) (by omega)
  rw [show k + (L.length - k) = L.length by omega, jk_all] at this
  omega
theorem byte_cell32 : ([.int .u8 32] : List Value) = Lib.byteCells [32] := rfl
set_option maxHeartbeats 3200000 in
theorem join_any (w : World) (v : Value) (L : List ByteArray) (h : Strs w v L) (hj : (jn 32 (L.map bl)).length ≤ 1000000) :
    Calls Tryd.prog 18 #[v] w fun e w' => e = .returned (.string (joinB L)) ∧ Below w.heap.size w w' := by
  obtain ⟨a, c, rfl, hlc, hcm⟩ := h.slice
  unfold maxLen at hcm
  have B0 := builder_new w
  have b0 := (Below.refl w.heap.size w).alloc (Nat.le_refl _) (Obj.cells #[.pointer none, .slice none 0 0] 56)
  go_enter Tryd.func18, Tryd.ntmps18
  go_wp2
  generalize w.alloc (Obj.cells #[.pointer none, .slice none 0 0] 56) = W at *
  go_loopw [8] (fun i wr => ∃ k : Nat, k ≤ L.length ∧ i = .int .i64 (k : Int) ∧ Lib.IsBuilderF 56 5 w.heap.size w.heap.size (Lib.byteCells (jk L k)) wr ∧ Below w.heap.size w wr) (fun i _ => L.length - (intOf i).toNat)
  case atStart => exact ⟨0, Nat.zero_le _, rfl, B0, b0⟩
  case round =>
    obtain ⟨k, hk, rfl, hB, hbel⟩ := hrel
    clear B0 b0
    have hsw := hbel.size
    by_cases hlt : k < L.length
    · obtain ⟨b1, o1, d1, e1, l1, m1, f1, r1⟩ := (h.below hbel).at k hlt
      simp only [Value.slice.injEq] at e1
      obtain ⟨rfl, _, rfl⟩ := e1
      unfold maxLen at m1
      have hN := jk_few hj (k + 1) (by omega)
      by_cases hz : k = 0
      · subst hz
        rw [Nat.add_zero] at f1
        have HJ := hid (jk_one L hlt)
        rw [HJ.out] at hN
        have HX := hid hN
        rw [bl_len] at hN
        generalize L[0] = x at *
        go_wp2_with (go_at_call 32; refine (Tryd.Builder_WriteString_k _ _ _ x _ hB (by simp [Lib.byteCells, jk_zero]; omega) hsw).mono ?_; rintro e w2 ⟨rfl, hB2, b2, _⟩)
        have hB3 : Lib.IsBuilderF 56 5 w.heap.size w.heap.size (Lib.byteCells (jk L (0 + 1))) w2 := Or.inr (by
          rw [show jk L (0 + 1) = bl x from HJ.out]
          simpa [jk_zero, Lib.byteCells, Lib.strCells_eq, bl] using hB2)
        have b3 := hbel.trans b2
        clear hB hB2
        go_roundw
        case rel => exact ⟨0 + 1, by omega, by go_num, hB3, b3⟩
        case measure => simp [intOf]; omega
      · have HJ := hid (jk_succ L k hlt hz)
        rw [HJ.out] at hN
        rw [List.length_append, List.length_cons, bl_len] at hN
        have hz' : 0 < k := by omega
        clear hz
        generalize L[k] = x at *
        generalize jk L k = J at *
        go_wp2_with (go_at_call 31; refine (Tryd.Builder_WriteByte_k _ _ _ 32 _ hB (by simp [Lib.byteCells]; omega) hsw).mono ?_)
        rintro e w2 ⟨rfl, hB2, b2, _⟩
        have hB3 : Lib.IsBuilderF 56 5 w.heap.size w.heap.size (Lib.byteCells (J ++ [32])) w2 := Or.inr (by rw [Lib.byteCells_append]; exact hB2)
        have b3 := hbel.trans b2
        have hs3 := b3.size
        clear hB hB2 b2 hbel
        go_wp2_with (go_at_call 32; refine (Tryd.Builder_WriteString_k _ _ _ x _ hB3 (by simp [Lib.byteCells]; omega) hs3).mono ?_)
        rintro e w4 ⟨rfl, hB4, b4, _⟩
        have hB5 : Lib.IsBuilderF 56 5 w.heap.size w.heap.size (Lib.byteCells (jk L (k + 1))) w4 := Or.inr (by
          rw [HJ.out, show J ++ 32 :: bl x = (J ++ [32]) ++ bl x by simp, Lib.byteCells_append (J ++ [32])]
          exact hB4)
        have b5 := b3.trans b4
        clear hB3 hB4 b4 b3
        go_wp2
        go_roundw
        case rel => exact ⟨k + 1, by omega, by go_num, hB5, b5⟩
        case measure => simp [intOf]; omega
    · obtain rfl : k = L.length := by omega
      rw [jk_all] at hB
      go_wp2_with (go_at_call 33; refine (Tryd.Builder_String_any_k _ _ _ _ hB hsw).mono ?_; rintro e w2 ⟨rfl, _, b2, _⟩)
      go_ret
      exact ⟨rfl, hbel.trans b2⟩
theorem bytes_at {w : World} {base g cap : Nat} {l : List UInt8} (h : w.ownsRow base 5 1 (.slice (some ⟨g, 0, none⟩) l.length cap) l.length (Lib.byteCells l)) (j : Nat) (hj : j < l.length) : w.cell? ⟨g, j, none⟩ = some (.int .u8 (l[j]'hj).toNat) := by
  have := h.cells (g := g) rfl j (.int .u8 (l[j]'hj).toNat) (by simp [Lib.byteCells, hj])
  rwa [add_off, Nat.zero_add] at this
theorem bytes_form {w : World} {base : Nat} {v : Value} {l : List UInt8} (h : w.ownsRow base 5 1 v l.length (Lib.byteCells l)) : (v = .slice none 0 0 ∧ l = []) ∨ ∃ g cap, v = .slice (some ⟨g, 0, none⟩) l.length cap ∧ g < w.heap.size := by
  rcases h.2 with ⟨h1, h2⟩ | ⟨g, cap, cur, hv, hg, hh, r1, r2, _⟩
  · exact Or.inl ⟨h1, List.eq_nil_of_length_eq_zero h2⟩
  · exact Or.inr ⟨g, cap, hv, lt_of_block hh⟩
theorem bytes_conv {w : World} {base g cap : Nat} {l : List UInt8} (h : w.ownsRow base 5 1 (.slice (some ⟨g, 0, none⟩) l.length cap) l.length (Lib.byteCells l)) :
    (convert 54 9 (.slice (some ⟨g, 0, none⟩) l.length cap)).run Tryd.prog w = .ok (.string (ofL l)) w :=
  run_convert_bytes_back (P := Tryd.prog) w 54 9 5 ⟨g, 0, none⟩ cap l Tryd.underlying54 Tryd.underlying5 Tryd.underlying9 (fun j hj => by
    rw [Addr.add_lit, Nat.zero_add]
    exact bytes_at h j hj)
theorem bytes_any {w : World} {base : Nat} {v : Value} {l : List UInt8} (h : w.ownsRow base 5 1 v l.length (Lib.byteCells l)) :
    (convert 54 9 v).run Tryd.prog w = .ok (.string (ofL l)) w := by
  rcases bytes_form h with ⟨rfl, rfl⟩ | ⟨g, cap, rfl, _⟩
  · exact run_convert_bytes_nil w 54 5 Tryd.underlying54 Tryd.underlying5 0 0 9 Tryd.underlying9
  · exact bytes_conv h
end Go.Proofs.YteelnimchlgdmaaDoor
