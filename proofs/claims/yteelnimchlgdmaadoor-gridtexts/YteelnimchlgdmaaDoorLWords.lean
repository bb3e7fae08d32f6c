/- lex: Words. -/
import Derived.Test.YteelnimchlgdmaaDoorLBase
import Derived.Test.YteelnimchlgdmaaDoorLName
import Derived.Test.YteelnimchlgdmaaDoorShelf
import Derived.Lib.SlicesS
namespace Go.Proofs.YteelnimchlgdmaaDoor
open Go.RowKit
set_option linter.unusedVariables false
set_option maxRecDepth 100000
set_option linter.unusedSimpArgs false

/-- The library's own variable is some number. -/
def Mx (w : World) : Prop := ∃ m, w.cell? ⟨1, 0, none⟩ = some (.int .i64 m)
theorem Mx.below {w w' : World} (h : Mx w) (hb : Below w.heap.size w w') : Mx w' := by
  obtain ⟨m, hm⟩ := h
  exact ⟨m, (hb.cell (World.block_lt_of_cell? _ _ hm)).trans hm⟩
theorem split_any (s : ByteArray) (c : UInt8) (w : World) (hs : s.size ≤ 1000000000) (hm : Mx w) :
    Calls Tryd.prog 22 #[.string s, .string ⟨#[c]⟩] w fun e w' => e = .returned (.slice (some ⟨w.heap.size, 0, none⟩) (parts c s).length (parts c s).length) ∧ w' = w.alloc (.cells (strV (parts c s)).toArray 9) := by
  obtain ⟨m, hm⟩ := hm
  refine (Tryd.strings_Split s ⟨#[c]⟩ m w (by omega) hm (Nat.le_refl 1)).mono ?_
  rintro e w' ⟨rfl, rfl⟩
  rw [split_parts, ← parts_len]
  exact ⟨rfl, rfl⟩
set_option maxHeartbeats 800000 in
theorem sclone_any (s : ByteArray) (w : World) (hs : s.size ≤ 1000000000) :
    Calls Tryd.prog 24 #[.string s] w fun e w' => e = .returned (.string s) ∧ Below w.heap.size w w' := by
  go_enter Tryd.func24, Tryd.ntmps24
  go_wp2_with (go_at_call 39; refine (Tryd.stringslite_Clone s _ (by omega)).mono ?_; rintro e w' ⟨rfl, hb⟩)
  go_ret
  exact ⟨rfl, hb⟩
theorem hole_contains (L : List ByteArray) : Lib.containsS L ⟨#[]⟩ = hole L := by
  rw [Bool.eq_iff_iff, Lib.containsS_iff]
  unfold hole
  rw [List.any_eq_true]
  constructor
  · intro h; exact ⟨_, h, rfl⟩
  · rintro ⟨x, hx, h0⟩
    have e : x = ⟨#[]⟩ := by
      have : x.size = 0 := by simpa using h0
      apply ByteArray.ext
      exact Array.eq_empty_of_size_eq_zero this
    rwa [e] at hx
theorem contains_any (b : Nat) (L : List ByteArray) (w : World) (t : TypeId) (fz : Nat × Nat) (hl : L.length ≤ 1000000000) (h : w.heap[b]? = some (.cells (strV L).toArray t fz)) :
    Calls Tryd.prog 23 #[.slice (some ⟨b, 0, none⟩) L.length L.length, .string ⟨#[]⟩] w fun e w' => e = .returned (.bool (hole L)) ∧ w' = w := by
  refine (Tryd.slices_Contains_string b 0 L.length L.length L ⟨#[]⟩ w (Nat.le_refl _) (by omega) (fun j hj => ?_)).mono ?_
  · rw [Nat.zero_add]
    exact cell_at h j _ (by simp [strV, List.getD_eq_getElem?_getD, hj])
  · rintro e w' ⟨rfl, rfl⟩
    rw [List.take_of_length_le (Nat.le_refl _), hole_contains]
    exact ⟨rfl, rfl⟩
theorem set_same {α : Type} (L : List α) (k : Nat) (v : α) (h : L[k]? = some v) : L.set k v = L := by
  apply List.ext_getElem?
  intro j
  rw [List.getElem?_set]
  split
  · rename_i e; subst e
    have hlt : k < L.length := by
      rcases Nat.lt_or_ge k L.length with h' | h'
      · exact h'
      · rw [List.getElem?_eq_none h'] at h; cases h
    rw [if_pos hlt, h]
  · rfl
theorem wordsE_size {s : ByteArray} (h : 200 < s.size) : wordsE s = 41 := by unfold wordsE; rw [if_pos h]
theorem wordsE_rune {s : ByteArray} (h : ¬ 200 < s.size) (h1 : runs may (bl s) = false) : wordsE s = 80 := by unfold wordsE; rw [if_neg h, if_pos h1]
theorem wordsE_word {s : ByteArray} (h : ¬ 200 < s.size) (h1 : runs may (bl s) = true) (h2 : hole (parts 32 s) = true) : wordsE s = 81 := by unfold wordsE; rw [if_neg h, if_neg (by rw [h1]; simp), if_pos h2]
theorem wordsE_many {s : ByteArray} (h : ¬ 200 < s.size) (h1 : runs may (bl s) = true) (h2 : hole (parts 32 s) = false) (h3 : 16 < (parts 32 s).length) : wordsE s = 82 := by unfold wordsE; rw [if_neg h, if_neg (by rw [h1]; simp), if_neg (by rw [h2]; simp), if_pos h3]
theorem wordsE_ok {s : ByteArray} (h : ¬ 200 < s.size) (h1 : runs may (bl s) = true) (h2 : hole (parts 32 s) = false) (h3 : ¬ 16 < (parts 32 s).length) : wordsE s = 0 := by unfold wordsE; rw [if_neg h, if_neg (by rw [h1]; simp), if_neg (by rw [h2]; simp), if_neg h3]
theorem wordsL_no {s : ByteArray} (h : wordsE s ≠ 0) : wordsL s = [] := by unfold wordsL; rw [if_neg h]
theorem wordsL_ok {s : ByteArray} (h : wordsE s = 0) : wordsL s = parts 32 s := by unfold wordsL; rw [if_pos h]
theorem tup_no {x : Int} {y : ByteArray} (hx : wordsE y = x) (h0 : x ≠ 0) (w : World) : ∃ v, Ending.returned (.tuple #[.slice none 0 0, .int .i64 x]) = .returned (.tuple #[v, .int .i64 (wordsE y)]) ∧ Strs w v (wordsL y) := by
  rw [wordsL_no (by rw [hx]; exact h0), hx]
  exact ⟨_, rfl, Strs.nil w⟩
set_option maxHeartbeats 3200000 in
theorem words_any (s : ByteArray) (w : World) (hs : s.size ≤ 1000000000) (hm : Mx w) :
    Calls Tryd.prog 11 #[.string s] w fun e w' => (∃ v, e = .returned (.tuple #[v, .int .i64 (wordsE s)]) ∧ Strs w' v (wordsL s)) ∧ Below w.heap.size w w' := by
  by_cases hz : 200 < s.size
  · have HE := hid (wordsE_size hz)
    go_enter Tryd.func11, Tryd.ntmps11
    go_wp2
    go_ret2
    exact ⟨tup_no HE.out (by omega) _, Below.refl _ _⟩
  go_enter Tryd.func11, Tryd.ntmps11
  go_wp2
  go_loopw [] (fun wr => ∃ pos : Nat, pos ≤ s.size ∧ wr = w.iter s pos ∧ Hid (runs may (bl s) = runs may ((bl s).drop pos))) (fun wr => s.size - wr.iterPos w.heap.size)
  case atStart => exact ⟨0, Nat.zero_le _, rfl, by simp [Hid]⟩
  case round =>
    obtain ⟨pos, hpos, rfl, HR⟩ := hrel
    by_cases hp : pos < s.size
    · have hnx : ∀ ty, (Instr.next (.pointer (some ⟨w.heap.size, 0, none⟩)) true ty).run Tryd.prog (w.iter s pos) = _ := fun ty => run_next_any w s pos ty hp
      have hL := fun v => mayStand_any (Utf8.decode s pos).1 v
      rcases Bool.eq_false_or_eq_true (may (Utf8.decode s pos).1) with e1 | e1
      · have HY := hid (runs_yes few_may hp e1)
        rw [e1] at hL
        clear e1
        generalize Utf8.decode s pos = d at *
        go_wp2_with (go_at_call 21; refine (hL _).mono ?_; rintro e w' ⟨rfl, rfl⟩)
        go_roundw
        case rel => exact ⟨pos + d.2, HY.out.2.2.2, rfl, by show _ = _; rw [HR.out, HY.out.1]⟩
        case measure => have := HY.out.2.2; simp; omega
      · have HY := hid (runs_no few_may hp e1)
        rw [e1] at hL
        clear e1
        have HE := hid (wordsE_rune hz (by rw [HR.out, HY.out]))
        generalize Utf8.decode s pos = d at *
        go_wp2_with (go_at_call 21; refine (hL _).mono ?_; rintro e w' ⟨rfl, rfl⟩)
        go_ret2
        exact ⟨tup_no HE.out (by omega) _, iter_below w s _⟩
    · have hnx : ∀ ty, (Instr.next (.pointer (some ⟨w.heap.size, 0, none⟩)) true ty).run Tryd.prog (w.iter s pos) = _ := fun ty => run_next_end w s pos ty hp
      have H1 := hid (show runs may (bl s) = true by rw [HR.out, drop_all s pos hp]; rfl)
      have b1 := iter_below w s pos
      have hm1 := hm.below b1
      clear HR hpos hp
      go_wp2_with fail
      generalize w.iter s pos = w1 at *
      clear hnx
      have hps := parts_size 32 s
      obtain ⟨hp1, hp2⟩ := hps
      have hs1 : w.heap.size ≤ w1.heap.size := b1.size
      have HP2 := hid hp2
      refine (split_any s 32 w1 (by omega) hm1).mono ?_
      rintro e w' ⟨rfl, hw⟩
      rw [hw]
      clear hw hp2
      have b2 : Below w.heap.size w (w1.alloc (.cells (strV (parts 32 s)).toArray 9)) := b1.alloc hs1 _
      have hblk : (w1.alloc (.cells (strV (parts 32 s)).toArray 9)).heap[w1.heap.size]? = some (.cells (strV (parts 32 s)).toArray 9 (0, 0)) := heap_alloc_last w1 _
      have hlt : w1.heap.size < (w1.alloc (.cells (strV (parts 32 s)).toArray 9)).heap.size := by simp
      obtain ⟨L, HL⟩ : ∃ L, Hid (L = parts 32 s) := ⟨_, rfl⟩
      rw [← HL.out] at b2 hblk hlt hp1 ⊢
      generalize w1.alloc (.cells (strV L).toArray 9) = w2 at *
      have hLl : L.length ≤ 201 := by omega
      have hC := contains_any w1.heap.size L w2 _ _ (by omega) hblk
      clear hm hm1
      generalize w1.heap.size = g at *
      rcases Bool.eq_false_or_eq_true (hole L) with e1 | e1
      · have HE := hid (wordsE_word hz H1.out (by rw [← HL.out]; exact e1))
        rw [e1] at hC
        go_wp2_with (go_at_call 23; refine hC.mono ?_; rintro e w' ⟨rfl, hw⟩; rw [hw]; clear hw)
        go_ret2
        exact ⟨tup_no HE.out (by omega) _, b2⟩
      rw [e1] at hC
      by_cases h3 : 16 < L.length
      · have HE := hid (wordsE_many hz H1.out (by rw [← HL.out]; exact e1) (by rw [← HL.out]; exact h3))
        go_wp2_with (go_at_call 23; refine hC.mono ?_; rintro e w' ⟨rfl, hw⟩; rw [hw]; clear hw)
        go_ret2
        exact ⟨tup_no HE.out (by omega) _, b2⟩
      · have HE := hid (wordsE_ok hz H1.out (by rw [← HL.out]; exact e1) (by rw [← HL.out]; exact h3))
        have HW := hid (show wordsL s = L by rw [wordsL_ok HE.out, HL.out])
        clear e1
        go_wp2_with (go_at_call 23; refine hC.mono ?_; rintro e w' ⟨rfl, hw⟩; rw [hw]; clear hw)
        clear hC
        go_loopw [29] (fun i wr => ∃ k : Nat, k ≤ L.length ∧ i = .int .i64 (k : Int) ∧ wr.heap[g]? = some (.cells (strV L).toArray 9 (0, 0)) ∧ Below w.heap.size w wr) (fun i _ => L.length - (intOf i).toNat)
        case atStart => exact ⟨0, Nat.zero_le _, rfl, hblk, b2⟩
        case round =>
          obtain ⟨k, hk, rfl, hb, bw⟩ := hrel
          clear hblk b2
          have hsw := bw.size
          by_cases hlt2 : k < L.length
          · have hLk : (strV L)[k]? = some (.string L[k]) := by simp [strV, hlt2]
            have ck := cell_at hb k _ hLk
            have HS := hid (HP2.out L[k] (by rw [← HL.out]; exact List.getElem_mem hlt2))
            have HLk := hid hLk
            generalize L[k] = x at *
            go_wp2_with fail
            refine (sclone_any x wr (by have := HS.out; omega)).mono ?_
            rintro e w3 ⟨rfl, b3⟩
            have hb3 := (b3.block g (lt_of_block hb)).trans hb
            have fr := free_at hb3 k
            have ck3 := cell_at hb3 k _ HLk.out
            have bw3 : Below w.heap.size w w3 := chain2 bw b3
            have hst := set_at (k := k) (v := .string x) hb3
            rw [set_same _ _ _ HLk.out] at hst
            have bst := bw3.setCell (p := ⟨g, k, none⟩) (by show w.heap.size ≤ g; omega) (.string x)
            clear hb3 b3 bw hb ck hLk
            go_wp2
            go_roundw
            case rel => exact ⟨k + 1, by omega, by go_num, hst, bst⟩
            case measure => simp [intOf]; omega
          · go_wp2
            go_ret2
            refine ⟨⟨.slice (some ⟨g, 0, none⟩) L.length L.length, (by rw [HE.out]; rfl), ?_⟩, bw⟩
            rw [HW.out]
            refine ⟨?_, fun x hx => by have := HP2.out x (by rw [← HL.out]; exact hx); unfold maxLen; omega⟩
            have := Row1.of_block hb (by rw [strV_len]; unfold maxLen; omega)
            rwa [strV_len] at this
end Go.Proofs.YteelnimchlgdmaaDoor
