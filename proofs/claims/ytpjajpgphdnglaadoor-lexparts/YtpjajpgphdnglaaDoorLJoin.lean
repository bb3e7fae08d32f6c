/- lex: Join, the program's and the document's. -/
import Derived.Test.YtpjajpgphdnglaaDoorLBase
import Derived.Test.YtpjajpgphdnglaaDoorShelf
import Derived.Lib.UnsafeStr
import Derived.Laws.BytesArg
namespace Go.Proofs.YtpjajpgphdnglaaDoor
open Go.RowKit
set_option linter.unusedVariables false
set_option maxRecDepth 100000
set_option linter.unusedSimpArgs false

theorem builder_below {T e : TypeId} {B b : Nat} {bs : List Value} {w w' : World} (h : Lib.IsBuilderF T e B b bs w) (hb : Below w.heap.size w w') : Lib.IsBuilderF T e B b bs w' := by
  have key : ∀ p, Lib.BuilderAtF T e B b p bs w → Lib.BuilderAtF T e B b p bs w' := by
    rintro p ⟨h1, v, h2, ⟨h3, h4⟩, h5⟩
    refine ⟨h1, v, by rw [hb.block b (lt_of_block h2)]; exact h2, ⟨h3, ?_⟩, h5⟩
    rcases h4 with h4 | ⟨g, cap, cur, fz, hv, hg, hh, r⟩
    · exact Or.inl h4
    · exact Or.inr ⟨g, cap, cur, fz, hv, hg, by rw [hb.block g (lt_of_block hh)]; exact hh, r⟩
  exact h.elim (fun x => Or.inl (key _ x)) (fun x => Or.inr (key _ x))
theorem builder_new (w : World) : Lib.IsBuilderF 46 5 w.heap.size w.heap.size (Lib.byteCells []) (w.alloc (Obj.cells #[.pointer none, .slice none 0 0] 46)) :=
  Or.inl ⟨Nat.le_refl _, .slice none 0 0, heap_alloc_last _ _, ⟨rfl, Or.inl ⟨rfl, rfl⟩⟩, by simp [Value.ownBlock]⟩
/-- The first k texts, joined. -/
def jk (L : List ByteArray) (k : Nat) : List UInt8 := jn 32 ((L.take k).map bl)
theorem jn_snoc (c : UInt8) (x : List UInt8) : ∀ (L : List (List UInt8)), L ≠ [] → jn c (L ++ [x]) = jn c L ++ c :: x
  | [], h => absurd rfl h
  | [a], _ => rfl
  | a :: b :: r, _ => by
    have := jn_snoc c x (b :: r) (by simp)
    simp only [List.cons_append, jn] at this ⊢
    rw [this]; simp
theorem jk_zero (L : List ByteArray) : jk L 0 = [] := rfl
theorem jk_one (L : List ByteArray) (h : 0 < L.length) : jk L 1 = bl L[0] := by
  unfold jk
  rw [List.take_succ_eq_append_getElem h]; rfl
theorem jk_succ (L : List ByteArray) (k : Nat) (h : k < L.length) (hk : k ≠ 0) : jk L (k + 1) = jk L k ++ 32 :: bl L[k] := by
  unfold jk
  rw [List.take_succ_eq_append_getElem h, List.map_append]
  refine jn_snoc 32 _ _ (fun e => ?_)
  have := congrArg List.length e
  simp only [List.length_map, List.length_take, List.length_nil] at this
  omega
theorem jk_all (L : List ByteArray) : jk L L.length = jn 32 (L.map bl) := by unfold jk; rw [List.take_of_length_le (Nat.le_refl _)]
theorem jk_le (L : List ByteArray) (k : Nat) : ∀ j, k + j ≤ L.length → (jk L k).length ≤ (jk L (k + j)).length
  | 0, _ => Nat.le_refl _
  | j + 1, h => by
    have h1 := jk_le L k j (by omega)
    rw [← Nat.add_assoc]
    by_cases hz : k + j = 0
    · have : k = 0 := by omega
      subst this; simp [jk_zero]
    · rw [jk_succ L (k + j) (by omega) hz, List.length_append]; omega
theorem jk_few {L : List ByteArray} {N : Nat} (h : (jn 32 (L.map bl)).length ≤ N) (k : Nat) (hk : k ≤ L.length) : (jk L k).length ≤ N := by
  have := jk_le L k (L.length - k) (by omega)
  rw [show k + (L.length - k) = L.length by omega, jk_all] at this
  omega
theorem byte_cell32 : ([.int .u8 32] : List Value) = Lib.byteCells [32] := rfl
set_option maxHeartbeats 3200000 in
theorem join_any (w : World) (v : Value) (L : List ByteArray) (h : Strs w v L) (hj : (jn 32 (L.map bl)).length ≤ 1000000) :
    Calls Tryd.prog 18 #[v] w fun e w' => e = .returned (.string (joinB L)) ∧ Below w.heap.size w w' := by
  obtain ⟨a, c, rfl, hlc, hcm⟩ := h.slice
  unfold maxLen at hcm
  have B0 := builder_new w
  have b0 := (Below.refl w.heap.size w).alloc (Nat.le_refl _) (Obj.cells #[.pointer none, .slice none 0 0] 46)
  go_enter Tryd.func18, Tryd.ntmps18
  go_wp2
  generalize w.alloc (Obj.cells #[.pointer none, .slice none 0 0] 46) = W at *
  go_loopw [8] (fun i wr => ∃ k : Nat, k ≤ L.length ∧ i = .int .i64 (k : Int) ∧ Lib.IsBuilderF 46 5 w.heap.size w.heap.size (Lib.byteCells (jk L k)) wr ∧ Below w.heap.size w wr) (fun i _ => L.length - (intOf i).toNat)
  case atStart => exact ⟨0, Nat.zero_le _, rfl, B0, b0⟩
  case round =>
    obtain ⟨k, hk, rfl, hB, hbel⟩ := hrel
    clear B0 b0
    have hsw := hbel.size
    by_cases hlt : k < L.length
    · obtain ⟨b1, o1, d1, e1, l1, m1, f1, r1⟩ := (h.below hbel).at k hlt
      simp only [Value.slice.injEq] at e1
      obtain ⟨rfl, _, rfl⟩ := e1
      unfold maxLen at m1
      have hN := jk_few hj (k + 1) (by omega)
      by_cases hz : k = 0
      · subst hz
        rw [Nat.add_zero] at f1
        have HJ := hid (jk_one L hlt)
        rw [HJ.out] at hN
        have HX := hid hN
        rw [bl_len] at hN
        generalize L[0] = x at *
        go_wp2_with (go_at_call 28; refine (Tryd.Builder_WriteString_k _ _ _ x _ hB (by simp [Lib.byteCells, jk_zero]; omega) hsw).mono ?_; rintro e w2 ⟨rfl, hB2, b2, _⟩)
        have hB3 : Lib.IsBuilderF 46 5 w.heap.size w.heap.size (Lib.byteCells (jk L (0 + 1))) w2 := Or.inr (by
          rw [show jk L (0 + 1) = bl x from HJ.out]
          simpa [jk_zero, Lib.byteCells, Lib.strCells_eq, bl] using hB2)
        have b3 := hbel.trans b2
        clear hB hB2
        go_roundw
        case rel => exact ⟨0 + 1, by omega, by go_num, hB3, b3⟩
        case measure => simp [intOf]; omega
      · have HJ := hid (jk_succ L k hlt hz)
        rw [HJ.out] at hN
        rw [List.length_append, List.length_cons, bl_len] at hN
        have hz' : 0 < k := by omega
        clear hz
        generalize L[k] = x at *
        generalize jk L k = J at *
        go_wp2_with (go_at_call 27; refine (Tryd.Builder_WriteByte_k _ _ _ 32 _ hB (by simp [Lib.byteCells]; omega) hsw).mono ?_)
        rintro e w2 ⟨rfl, hB2, b2, _⟩
        have hB3 : Lib.IsBuilderF 46 5 w.heap.size w.heap.size (Lib.byteCells (J ++ [32])) w2 := Or.inr (by rw [Lib.byteCells_append]; exact hB2)
        have b3 := hbel.trans b2
        have hs3 := b3.size
        clear hB hB2 b2 hbel
        go_wp2_with (go_at_call 28; refine (Tryd.Builder_WriteString_k _ _ _ x _ hB3 (by simp [Lib.byteCells]; omega) hs3).mono ?_)
        rintro e w4 ⟨rfl, hB4, b4, _⟩
        have hB5 : Lib.IsBuilderF 46 5 w.heap.size w.heap.size (Lib.byteCells (jk L (k + 1))) w4 := Or.inr (by
          rw [HJ.out, show J ++ 32 :: bl x = (J ++ [32]) ++ bl x by simp, Lib.byteCells_append (J ++ [32])]
          exact hB4)
        have b5 := b3.trans b4
        clear hB3 hB4 b4 b3
        go_wp2
        go_roundw
        case rel => exact ⟨k + 1, by omega, by go_num, hB5, b5⟩
        case measure => simp [intOf]; omega
    · obtain rfl : k = L.length := by omega
      rw [jk_all] at hB
      go_wp2_with (go_at_call 29; refine (Tryd.Builder_String_any_k _ _ _ _ hB hsw).mono ?_; rintro e w2 ⟨rfl, _, b2, _⟩)
      go_ret
      exact ⟨rfl, hbel.trans b2⟩
theorem bytes_at {w : World} {base g cap : Nat} {l : List UInt8} (h : w.ownsRow base 5 1 (.slice (some ⟨g, 0, none⟩) l.length cap) l.length (Lib.byteCells l)) (j : Nat) (hj : j < l.length) : w.cell? ⟨g, j, none⟩ = some (.int .u8 (l[j]'hj).toNat) := by
  have := h.cells (g := g) rfl j (.int .u8 (l[j]'hj).toNat) (by simp [Lib.byteCells, hj])
  rwa [add_off, Nat.zero_add] at this
theorem bytes_form {w : World} {base : Nat} {v : Value} {l : List UInt8} (h : w.ownsRow base 5 1 v l.length (Lib.byteCells l)) : (v = .slice none 0 0 ∧ l = []) ∨ ∃ g cap, v = .slice (some ⟨g, 0, none⟩) l.length cap ∧ g < w.heap.size := by
  rcases h.2 with ⟨h1, h2⟩ | ⟨g, cap, cur, hv, hg, hh, r1, r2, _⟩
  · exact Or.inl ⟨h1, List.eq_nil_of_length_eq_zero h2⟩
  · exact Or.inr ⟨g, cap, hv, lt_of_block hh⟩
theorem bytes_conv {w : World} {base g cap : Nat} {l : List UInt8} (h : w.ownsRow base 5 1 (.slice (some ⟨g, 0, none⟩) l.length cap) l.length (Lib.byteCells l)) :
    (convert 36 9 (.slice (some ⟨g, 0, none⟩) l.length cap)).run Tryd.prog w = .ok (.string (ofL l)) w :=
  run_convert_bytes_back (P := Tryd.prog) w 36 9 5 ⟨g, 0, none⟩ cap l Tryd.underlying36 Tryd.underlying5 Tryd.underlying9 (fun j hj => by
    rw [Addr.add_lit, Nat.zero_add]
    exact bytes_at h j hj)
theorem bytes_any {w : World} {base : Nat} {v : Value} {l : List UInt8} (h : w.ownsRow base 5 1 v l.length (Lib.byteCells l)) :
    (convert 36 9 v).run Tryd.prog w = .ok (.string (ofL l)) w := by
  rcases bytes_form h with ⟨rfl, rfl⟩ | ⟨g, cap, rfl, _⟩
  · exact run_convert_bytes_nil w 36 5 Tryd.underlying36 Tryd.underlying5 0 0 9 Tryd.underlying9
  · exact bytes_conv h
set_option maxHeartbeats 3200000 in
theorem zjoin_any (w : World) (v : Value) (L : List ByteArray) (h : Strs w v L) (hj : (jn 32 (L.map bl)).length ≤ 1000000) :
    Calls Tryd.prog 8 #[v] w fun e w' => e = .returned (.string (joinB L)) ∧ Below w.heap.size w w' := by
  obtain ⟨a, c, rfl, hlc, hcm⟩ := h.slice
  unfold maxLen at hcm
  obtain ⟨i0, hi, hz0, hz1, hz2⟩ := info_parts info_u8
  have B0 : (w.alloc (Obj.cells #[] 5)).ownsRow w.heap.size 5 1 (.slice (some ⟨w.heap.size, 0, none⟩) 0 0) 0 [] := World.ownsRow_made w #[] 0 (Nat.le_refl _) (Nat.zero_le _) (by simp)
  have b0 := (Below.refl w.heap.size w).alloc (Nat.le_refl _) (Obj.cells #[] 5)
  go_enter Tryd.func8, Tryd.ntmps8
  go_wp2
  generalize w.alloc (Obj.cells #[] 5) = W at *
  go_loopw [3, 4] (fun l i wr => ∃ k : Nat, k ≤ L.length ∧ i = .int .i64 (k : Int) ∧ wr.ownsRow w.heap.size 5 1 l (jk L k).length (Lib.byteCells (jk L k)) ∧ Below w.heap.size w wr) (fun _ i _ => L.length - (intOf i).toNat)
  case atStart => exact ⟨0, Nat.zero_le _, rfl, B0, b0⟩
  case round =>
    obtain ⟨k, hk, rfl, o, hbel⟩ := hrel
    clear B0 b0
    have hsw := hbel.size
    by_cases hlt : k < L.length
    · obtain ⟨b1, o1, d1, e1, l1, m1, f0, r1⟩ := h.at k hlt
      have hb1 : b1 < w.heap.size := World.block_lt_of_cell? w _ f0
      have f1 := (hbel.cell (p := ⟨b1, o1 + k, none⟩) hb1).trans f0
      simp only [Value.slice.injEq] at e1
      obtain ⟨rfl, _, rfl⟩ := e1
      unfold maxLen at m1
      have hN := jk_few hj (k + 1) (by omega)
      obtain ⟨sa, sc, rfl⟩ := own_slice o
      by_cases hz : k = 0
      · subst hz
        rw [Nat.add_zero] at f1
        have HJ := hid (jk_one L hlt)
        rw [HJ.out] at hN
        rw [bl_len] at hN
        generalize L[0] = x at *
        have o' : wr.ownsRow w.heap.size 5 1 (.slice sa 0 sc) 0 [] := o
        clear o
        simp only [jk_zero, List.length_nil]
        go_wp2_with (at_builtin; refine Lib.wpList_append_own_string _ rfl _ _ 36 9 rfl w.heap.size 5 i0 Tryd.underlying36 Tryd.underlying9 hi hz0 hz1 hz2 _ _ _ rfl o' x rfl (by unfold maxLen; omega) (by omega) (by omega) ?_)
        intro v2 w2 o2 g2 _
        have b2 : Below w.heap.size w w2 := hbel.grown g2 (by omega) (fun q hq => (o'.lt q hq).1)
        have o3 : w2.ownsRow w.heap.size 5 1 v2 (jk L (0 + 1)).length (Lib.byteCells (jk L (0 + 1))) := by
          rw [show jk L (0 + 1) = bl x from HJ.out, bl_len]
          simpa [Lib.strCells_eq, bl] using o2
        clear o2 g2 o'
        go_wp2
        go_roundw
        case rel => exact ⟨0 + 1, by omega, by go_num, o3, b2⟩
        case measure => simp [intOf]; omega
      · have HJ := hid (jk_succ L k hlt hz)
        rw [HJ.out] at hN
        rw [List.length_append, List.length_cons, bl_len] at hN
        have hz' : 0 < k := by omega
        clear hz
        generalize L[k] = x at *
        obtain ⟨J, HJJ⟩ : ∃ J, Hid (J = jk L k) := ⟨_, rfl⟩
        rw [← HJJ.out] at o hN HJ ⊢
        go_wp2_with (at_builtin; refine wpList_append_own _ rfl _ _ 36 rfl w.heap.size 5 i0 (.int .u8 0) 1 1 Tryd.underlying36 hi hz0 hz1 hz2 rfl (by decide) _ _ _ rfl (o.alloc _) ⟨wr.heap.size, 0, none⟩ 1 1 [.int .u8 32] rfl rfl (by intro j u hu; match j, hu with | 0, hu => simp at hu; subst hu; simp [Addr.add]) (by intro u hu; simp at hu; subst hu; rfl) (by unfold maxLen; omega) (by omega) (by simp; omega) ?_)
        intro v2 w2 o2 g2 _
        have b2 : Below w.heap.size w w2 := (hbel.alloc hsw _).grown g2 (by simp; omega) (fun q hq => (o.lt q hq).1)
        have f2 := (b2.cell (p := ⟨b1, o1 + k, none⟩) hb1).trans f0
        have o3 : w2.ownsRow w.heap.size 5 1 v2 (J.length + 1) (Lib.byteCells (J ++ [32])) := by
          rw [Lib.byteCells_append]
          exact o2
        have hs2 := b2.size
        clear o2 g2 o f1 hbel
        obtain ⟨sa2, sc2, rfl⟩ := own_slice o3
        go_wp2_with (at_builtin; refine Lib.wpList_append_own_string _ rfl _ _ 36 9 rfl w.heap.size 5 i0 Tryd.underlying36 Tryd.underlying9 hi hz0 hz1 hz2 _ _ _ rfl o3 x rfl (by unfold maxLen; omega) (by omega) (by omega) ?_)
        intro v4 w4 o4 g4 _
        have b4 : Below w.heap.size w w4 := b2.grown g4 (by omega) (fun q hq => (o3.lt q hq).1)
        have o5 : w4.ownsRow w.heap.size 5 1 v4 (jk L (k + 1)).length (Lib.byteCells (jk L (k + 1))) := by
          have hlen : (jk L (k + 1)).length = J.length + 1 + x.size := by rw [HJ.out, List.length_append, List.length_cons, bl_len]; omega
          rw [hlen, HJ.out, show J ++ 32 :: bl x = (J ++ [32]) ++ bl x by simp, Lib.byteCells_append (J ++ [32])]
          exact o4
        clear o4 g4 o3 b2
        go_wp2
        go_roundw
        case rel => exact ⟨k + 1, by omega, by go_num, o5, b4⟩
        case measure => simp [intOf]; omega
    · obtain rfl : k = L.length := by omega
      have hcv := bytes_any o
      obtain ⟨sa, sc, rfl⟩ := own_slice o
      rw [jk_all] at hcv ⊢
      obtain ⟨J, HJJ⟩ : ∃ J, Hid (J = jn 32 (L.map bl)) := ⟨_, rfl⟩
      rw [← HJJ.out] at hcv ⊢
      have HF := hid (show ofL J = joinB L by rw [HJJ.out]; rfl)
      clear o
      go_wp2
      go_ret
      exact ⟨(by rw [HF.out]; rfl), hbel⟩
end Go.Proofs.YtpjajpgphdnglaaDoor
