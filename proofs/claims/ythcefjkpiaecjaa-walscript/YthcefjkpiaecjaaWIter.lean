/- wal: changed, the iterator. -/
import Derived.Test.YthcefjkpiaecjaaWOpen
import Derived.RangeFuncNested
import Derived.RangeFuncBound
import Derived.RangeFuncCalls
import Derived.RangeFuncLeaves
import Derived.Shelf.Abstract
import Derived.Shelf.RegionOpen
import Derived.OwnWalkIn
import Derived.TacticsInMore
import Derived.LoopNIn
import Derived.LoopIn
namespace Go.Proofs.Ythcefjkpiaecjaa
open Go.RowKit Go.Shelf
attribute [local go_sem] Oper.semAt_some
set_option linter.unusedVariables false
set_option maxRecDepth 100000
set_option linter.unusedSimpArgs false

theorem tl_len (s : ByteArray) : s.toList.length = s.size := by rw [ByteArray.toList_eq]; rfl
theorem tl_empty {s : ByteArray} (h : s.size ≠ 0) : s.toList.isEmpty = false := by
  have := tl_len s
  cases hl : s.toList with
  | nil => rw [hl] at this; simp at this; omega
  | cons a r => rfl
theorem tl_none {s : ByteArray} (h : s.size = 0) : s.toList.isEmpty = true := by
  have := tl_len s
  cases hl : s.toList with
  | nil => rfl
  | cons a r => rw [hl] at this; simp at this; omega
/-- The sectors of a text. -/
def pc (T : ByteArray) (j : Nat) : ByteArray := T.extract (256 * j) (min T.size (256 * (j + 1)))
def pcs (i : Nat) (T : ByteArray) (k : Nat) : List (Nat × ByteArray) := (List.range k).map fun j => (i + j, pc T j)
def nP (T : ByteArray) : Nat := (T.size + 255) / 256
theorem pcs_succ (i : Nat) (T : ByteArray) (k : Nat) : pcs i T (k + 1) = pcs i T k ++ [(i + k, pc T k)] := by simp [pcs, List.range_succ]
theorem pcs_len (i : Nat) (T : ByteArray) (k : Nat) : (pcs i T k).length = k := by simp [pcs]
theorem pcs_prefix (i : Nat) (T : ByteArray) {k m : Nat} (h : k ≤ m) : pcs i T k <+: pcs i T m := by
  induction m with
  | zero => obtain rfl : k = 0 := by omega
            exact List.prefix_refl _
  | succ m ih =>
    by_cases e : k = m + 1
    · rw [e]; exact List.prefix_refl _
    · rw [pcs_succ]
      exact (ih (by omega)).trans (List.prefix_append _ _)
/-- What changes when s is laid down behind the text of the commit c, which ends in tail. -/
def chg (c : Com) (tail s : ByteArray) : List (Nat × ByteArray) := if s.size = 0 then [] else pcs (2 + c.area * 127 + c.len / 256) (tail ++ s) (nP (tail ++ s))
def encs (x : Nat × ByteArray) : Array Value := #[.int .i64 (x.1 : Int), .string x.2]
theorem changed_any (w : World) (c : Com) (tail s : ByteArray) :
    Calls Try.prog 62 #[cv c, .string tail, .string s] w fun e w' => e = .returned (.func (.func 72) #[] #[.pointer (some ⟨w.heap.size + 2, 0, none⟩), .pointer (some ⟨w.heap.size, 0, none⟩), .pointer (some ⟨w.heap.size + 1, 0, none⟩)]) ∧
      w'.cell? ⟨w.heap.size + 2, 0, none⟩ = some (.string s) ∧ Box4 w' w.heap.size 62 (.int .u64 (c.num : Int)) (.int .i64 (c.area : Int)) (.int .i64 (c.len : Int)) (.int .u32 c.sum) ∧ w'.cell? ⟨w.heap.size + 1, 0, none⟩ = some (.string tail) ∧ w.heap.size + 3 ≤ w'.heap.size ∧ Below w.heap.size w w' := by
  have b1 := (Below.refl w.heap.size w).alloc (Nat.le_refl _) (Obj.cells #[.int .u64 (c.num : Int), .int .i64 (c.area : Int), .int .i64 (c.len : Int), .int .u32 c.sum] 62)
  have q1 := Box4.new w 62 (.int .u64 (c.num : Int)) (.int .i64 (c.area : Int)) (.int .i64 (c.len : Int)) (.int .u32 c.sum)
  unfold cv
  go_enter Try.func62, Try.ntmps62
  go_wp2
  go_ret
  refine ⟨rfl, ?_, ?_, ?_, by simp, ?_⟩
  · have := cell_at (L := [_]) (heap_alloc_last ((w.alloc (Obj.cells #[.int .u64 (c.num : Int), .int .i64 (c.area : Int), .int .i64 (c.len : Int), .int .u32 c.sum] 62)).alloc (Obj.cells #[.string tail] 9)) (Obj.cells #[.string s] 9)) 0 _ rfl
    simpa using this
  · exact (q1.below ((Below.refl _ _).alloc (Nat.le_refl _) _) (by simp)).below ((Below.refl _ _).alloc (Nat.le_refl _) _) (by simp; omega)
  · have := cell_at (L := [_]) (heap_alloc_last (w.alloc (Obj.cells #[.int .u64 (c.num : Int), .int .i64 (c.area : Int), .int .i64 (c.len : Int), .int .u32 c.sum] 62)) (Obj.cells #[.string tail] 9)) 0 _ rfl
    rw [World.size_alloc] at this
    exact (((Below.refl _ _).alloc (Nat.le_refl _) _).cell (by simp)).trans this
  · exact (b1.alloc b1.size _).alloc (by simp; omega) _
set_option maxHeartbeats 2000000 in
theorem changed1_stops (n : Nat) (w : World) (b1 b2 b3 : Nat) (c : Com) (tail s : ByteArray) (hf : c.Fit) (hs : s.size ≤ 65536) (ht : tail.size ≤ 65536) (h1 : w.cell? ⟨b1, 0, none⟩ = some (.string s)) (h2 : Box4 w b2 62 (.int .u64 (c.num : Int)) (.int .i64 (c.area : Int)) (.int .i64 (c.len : Int)) (.int .u32 c.sum)) (h3 : w.cell? ⟨b3, 0, none⟩ = some (.string tail)) :
    SeqStopsK Fence.wide n Try.prog 72 #[.pointer (some ⟨b1, 0, none⟩), .pointer (some ⟨b2, 0, none⟩), .pointer (some ⟨b3, 0, none⟩)] encs (fun _ _ => True) (fun xs => xs = chg c tail s) (fun pre => pre <+: chg c tail s) (chg c tail s).length w := fun l J Jx W hW _ _ hY h0 => by
  have g1 := (hW.cell (World.block_lt_of_cell? _ _ h1)).trans h1
  have g2 := h2.below hW (lt_of_block h2.blk)
  have g3 := (hW.cell (World.block_lt_of_cell? _ _ h3)).trans h3
  obtain ⟨_, _, g4, g5, _, _⟩ := g2
  clear h1 h2 h3 hW
  have hfa := hf.area
  have hfl := hf.len
  refine callsIn_of_wp Try.func72 rfl trivial ?_ rfl
  simp only [Try.ntmps72, List.size_toArray, List.length_cons, List.length_nil, Nat.reduceAdd, Nat.reduceSub, Array.replicate_succ, Array.replicate_zero, List.push_toArray, List.append_toArray, List.nil_append, List.cons_append]
  by_cases hs0 : s.size = 0
  · have e1 := tl_none hs0
    have hch : chg c tail s = [] := by unfold chg; rw [if_pos hs0]
    have HC := hid hch
    clear hch
    gi_wp2
    refine bodyPost_ret (results_none rfl _ _ _) rfl ?_
    exact ⟨⟨_, rfl⟩, .inl (by rw [HC.out]; exact h0)⟩
  · have e1 := tl_empty hs0
    obtain ⟨T, hT⟩ : ∃ T, T = tail ++ s := ⟨_, rfl⟩
    have hTs : T.size = tail.size + s.size := by rw [hT, ByteArray.size_append]
    obtain ⟨i0, hi0⟩ : ∃ i0, i0 = 2 + c.area * 127 + c.len / 256 := ⟨_, rfl⟩
    have hch : chg c tail s = pcs i0 T (nP T) := by unfold chg; rw [if_neg hs0, hi0, hT]
    rw [hch] at hY ⊢
    rw [pcs_len] at hY
    have hi : i0 ≤ 300 := by omega
    have HY := hid hY
    clear hY hch
    have hse := sectorAt_any W c.area c.len hfa (by omega)
    rw [← hi0] at hse
    have hadd : tail ++ s = T := hT.symm
    gi_wp2
    refine ⟨trivial, fun h => (by cases h), ?_⟩
    refine (callsIn_wide.2 hse).mono ?_
    rintro e w' ⟨rfl, rfl⟩
    clear hse
    have HT := hid hT
    have HI := hid hi0
    clear hT hi0
    have hz : ∀ (k : Nat), k ≤ nP T → (T.extract (256 * k) T.size).size = T.size - 256 * k := fun k _ => by rw [ByteArray.size_extract]; omega
    gi_wp2
    gi_loopw [5, 6] (fun iv tv wr => ∃ k : Nat, k ≤ nP T ∧ iv = .int .i64 ((i0 + k : Nat) : Int) ∧ tv = .string (T.extract (256 * k) T.size) ∧ J (pcs i0 T k) wr) (fun iv tv wr => nP T + i0 - (intOf iv).toNat)
    case atStart => exact ⟨0, Nat.zero_le _, rfl, by rw [Nat.mul_zero]; exact congrArg _ (by simp), h0⟩
    case round =>
      obtain ⟨k, hk, rfl, rfl, hJs⟩ := hrel
      have hks := hz k hk
      have hnp : nP T = (T.size + 255) / 256 := rfl
      obtain ⟨t, htE⟩ : ∃ t, t = T.extract (256 * k) T.size := ⟨_, rfl⟩
      rw [← htE] at hks ⊢
      have HTE := hid htE
      clear htE
      by_cases hlt : k < nP T
      · have hpos : 0 < t.size := by omega
        have hne := tl_empty (show t.size ≠ 0 by omega)
        obtain ⟨m, hm⟩ : ∃ m, m = min t.size 256 := ⟨_, rfl⟩
        have hml : m ≤ t.size := by omega
        have hpc : t.extract 0 m = pc T k := by
          rw [HTE.out, ByteArray.extract_extract]
          unfold pc
          congr 1 <;> omega
        have hrest : t.extract m t.size = T.extract (256 * (k + 1)) T.size := by
          rw [hks, HTE.out, ByteArray.extract_extract, show min (256 * k + (T.size - 256 * k)) T.size = T.size by omega]
          by_cases h256 : 256 * (k + 1) ≤ T.size
          · rw [show 256 * k + m = 256 * (k + 1) by omega]
          · refine ext_bt (by rw [ByteArray.size_extract, ByteArray.size_extract]; omega) fun j hj => ?_
            rw [ByteArray.size_extract] at hj
            omega
        obtain ⟨fn, tmps, assign, body, hy, hR⟩ := HY.out (pcs i0 T k) (i0 + k, pc T k) wr hJs (by rw [pcs_len]; exact hlt)
        dsimp only [encs] at hy
        rw [← hpc] at hy
        have HR := hid hrest
        have HP := hid hpc
        clear hrest hpc
        have hmin : min (t.size : Int) 256 = (m : Int) := by omega
        obtain ⟨q, hq⟩ : ∃ q, q = i0 + k := ⟨_, rfl⟩
        rw [← hq] at hy ⊢
        have HM := hid (And.intro hm (And.intro hq (And.intro hks hTs)))
        have hT3 : t.size ≤ 131072 := by omega
        have hq3 : q ≤ 1000 := by omega
        clear hm hq hks hTs hz
        gi_wp2
        refine ⟨fun h => (by cases h), ?_⟩
        refine hR.mono ?_
        rintro e W3 (⟨rfl, hJ3, _⟩ | ⟨rfl, hJx3⟩)
        · gi_wp2
          go_roundw
          case rel => exact ⟨k + 1, by omega, by have := HM.out.2.1; go_num, by rw [← HR.out], by rw [pcs_succ]; exact hJ3⟩
          case measure =>
            have := HM.out.2.1
            simp [intOf]; omega
        · gi_wp2
          refine bodyPost_ret (results_none rfl _ _ _) rfl ?_
          exact ⟨⟨_, rfl⟩, .inr ⟨_, by rw [← pcs_succ]; exact pcs_prefix i0 T (by omega), hJx3⟩⟩
      · obtain rfl : k = nP T := by omega
        have h0s : t.size = 0 := by omega
        have hne := tl_none h0s
        gi_wp2
        go_end0
        exact ⟨⟨_, rfl⟩, .inl ⟨_, rfl, hJs⟩⟩
end Go.Proofs.Ythcefjkpiaecjaa
