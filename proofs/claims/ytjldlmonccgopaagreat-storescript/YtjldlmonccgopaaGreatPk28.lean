/- WIter, WWrite, WStep, WLog. -/
import Derived.Test.YtjldlmonccgopaaGreatPk25
import Derived.RangeFuncNested
import Derived.RangeFuncBound
import Derived.RangeFuncCalls
import Derived.RangeFuncLeaves
import Derived.Shelf.Abstract
import Derived.Shelf.RegionOpen
import Derived.OwnWalkIn
import Derived.TacticsInMore
import Derived.LoopNIn
import Derived.LoopIn
/- wal: changed, the iterator. -/
namespace Go.Proofs.YtjldlmonccgopaaGreat
open Go.RowKit Go.Shelf
attribute [local go_sem] Oper.semAt_some
set_option linter.unusedVariables false
set_option maxRecDepth 100000
set_option linter.unusedSimpArgs false

theorem tl_len (s : ByteArray) : s.toList.length = s.size := by rw [ByteArray.toList_eq]; rfl
theorem tl_empty {s : ByteArray} (h : s.size ≠ 0) : s.toList.isEmpty = false := by
  have := tl_len s
  cases hl : s.toList with
  | nil => rw [hl] at this; simp at this; omega
  | cons a r => rfl
theorem tl_none {s : ByteArray} (h : s.size = 0) : s.toList.isEmpty = true := by
  have := tl_len s
  cases hl : s.toList with
  | nil => rfl
  | cons a r => rw [hl] at this; simp at this; omega
/-- The sectors of a text. -/
def pc (T : ByteArray) (j : Nat) : ByteArray := T.extract (256 * j) (min T.size (256 * (j + 1)))
def pcs (i : Nat) (T : ByteArray) (k : Nat) : List (Nat × ByteArray) := (List.range k).map fun j => (i + j, pc T j)
def nP (T : ByteArray) : Nat := (T.size + 255) / 256
theorem pcs_succ (i : Nat) (T : ByteArray) (k : Nat) : pcs i T (k + 1) = pcs i T k ++ [(i + k, pc T k)] := by simp [pcs, List.range_succ]
theorem pcs_len (i : Nat) (T : ByteArray) (k : Nat) : (pcs i T k).length = k := by simp [pcs]
theorem pcs_prefix (i : Nat) (T : ByteArray) {k m : Nat} (h : k ≤ m) : pcs i T k <+: pcs i T m := by
  induction m with
  | zero => obtain rfl : k = 0 := by omega
            exact List.prefix_refl _
  | succ m ih =>
    by_cases e : k = m + 1
    · rw [e]; exact List.prefix_refl _
    · rw [pcs_succ]
      exact (ih (by omega)).trans (List.prefix_append _ _)
/-- What changes when s is laid down behind the text of the commit c, which ends in tail. -/
def chg (c : Com) (tail s : ByteArray) : List (Nat × ByteArray) := if s.size = 0 then [] else pcs (2 + c.area * 127 + c.len / 256) (tail ++ s) (nP (tail ++ s))
def encs (x : Nat × ByteArray) : Array Value := #[.int .i64 (x.1 : Int), .string x.2]
theorem changed_any (w : World) (c : Com) (tail s : ByteArray) :
    Calls Tryz.prog 94 #[cv c, .string tail, .string s] w fun e w' => e = .returned (.func (.func 104) #[] #[.pointer (some ⟨w.heap.size + 2, 0, none⟩), .pointer (some ⟨w.heap.size, 0, none⟩), .pointer (some ⟨w.heap.size + 1, 0, none⟩)]) ∧
      w'.cell? ⟨w.heap.size + 2, 0, none⟩ = some (.string s) ∧ Box4 w' w.heap.size 88 (.int .u64 (c.num : Int)) (.int .i64 (c.area : Int)) (.int .i64 (c.len : Int)) (.int .u32 c.sum) ∧ w'.cell? ⟨w.heap.size + 1, 0, none⟩ = some (.string tail) ∧ w.heap.size + 3 ≤ w'.heap.size ∧ Below w.heap.size w w' := by
  have b1 := (Below.refl w.heap.size w).alloc (Nat.le_refl _) (Obj.cells #[.int .u64 (c.num : Int), .int .i64 (c.area : Int), .int .i64 (c.len : Int), .int .u32 c.sum] 88)
  have q1 := Box4.new w 88 (.int .u64 (c.num : Int)) (.int .i64 (c.area : Int)) (.int .i64 (c.len : Int)) (.int .u32 c.sum)
  unfold cv
  go_enter Tryz.func94, Tryz.ntmps94
  go_wp2
  go_ret
  refine ⟨rfl, ?_, ?_, ?_, by simp, ?_⟩
  · have := cell_at (L := [_]) (heap_alloc_last ((w.alloc (Obj.cells #[.int .u64 (c.num : Int), .int .i64 (c.area : Int), .int .i64 (c.len : Int), .int .u32 c.sum] 88)).alloc (Obj.cells #[.string tail] 9)) (Obj.cells #[.string s] 9)) 0 _ rfl
    simpa using this
  · exact (q1.below ((Below.refl _ _).alloc (Nat.le_refl _) _) (by simp)).below ((Below.refl _ _).alloc (Nat.le_refl _) _) (by simp; omega)
  · have := cell_at (L := [_]) (heap_alloc_last (w.alloc (Obj.cells #[.int .u64 (c.num : Int), .int .i64 (c.area : Int), .int .i64 (c.len : Int), .int .u32 c.sum] 88)) (Obj.cells #[.string tail] 9)) 0 _ rfl
    rw [World.size_alloc] at this
    exact (((Below.refl _ _).alloc (Nat.le_refl _) _).cell (by simp)).trans this
  · exact (b1.alloc b1.size _).alloc (by simp; omega) _
set_option maxHeartbeats 2000000 in
theorem changed1_stops (n : Nat) (w : World) (b1 b2 b3 : Nat) (c : Com) (tail s : ByteArray) (hf : c.Fit) (hs : s.size ≤ 65536) (ht : tail.size ≤ 65536) (h1 : w.cell? ⟨b1, 0, none⟩ = some (.string s)) (h2 : Box4 w b2 88 (.int .u64 (c.num : Int)) (.int .i64 (c.area : Int)) (.int .i64 (c.len : Int)) (.int .u32 c.sum)) (h3 : w.cell? ⟨b3, 0, none⟩ = some (.string tail)) :
    SeqStopsK Fence.wide n Tryz.prog 104 #[.pointer (some ⟨b1, 0, none⟩), .pointer (some ⟨b2, 0, none⟩), .pointer (some ⟨b3, 0, none⟩)] encs (fun _ _ => True) (fun xs => xs = chg c tail s) (fun pre => pre <+: chg c tail s) (chg c tail s).length w := fun l J Jx W hW _ _ hY h0 => by
  have g1 := (hW.cell (World.block_lt_of_cell? _ _ h1)).trans h1
  have g2 := h2.below hW (lt_of_block h2.blk)
  have g3 := (hW.cell (World.block_lt_of_cell? _ _ h3)).trans h3
  obtain ⟨_, _, g4, g5, _, _⟩ := g2
  clear h1 h2 h3 hW
  have hfa := hf.area
  have hfl := hf.len
  refine callsIn_of_wp Tryz.func104 rfl trivial ?_ rfl
  simp only [Tryz.ntmps104, List.size_toArray, List.length_cons, List.length_nil, Nat.reduceAdd, Nat.reduceSub, Array.replicate_succ, Array.replicate_zero, List.push_toArray, List.append_toArray, List.nil_append, List.cons_append]
  by_cases hs0 : s.size = 0
  · have e1 := tl_none hs0
    have hch : chg c tail s = [] := by unfold chg; rw [if_pos hs0]
    have HC := hid hch
    clear hch
    gi_wp2
    refine bodyPost_ret (results_none rfl _ _ _) rfl ?_
    exact ⟨⟨_, rfl⟩, .inl (by rw [HC.out]; exact h0)⟩
  · have e1 := tl_empty hs0
    obtain ⟨T, hT⟩ : ∃ T, T = tail ++ s := ⟨_, rfl⟩
    have hTs : T.size = tail.size + s.size := by rw [hT, ByteArray.size_append]
    obtain ⟨i0, hi0⟩ : ∃ i0, i0 = 2 + c.area * 127 + c.len / 256 := ⟨_, rfl⟩
    have hch : chg c tail s = pcs i0 T (nP T) := by unfold chg; rw [if_neg hs0, hi0, hT]
    rw [hch] at hY ⊢
    rw [pcs_len] at hY
    have hi : i0 ≤ 300 := by omega
    have HY := hid hY
    clear hY hch
    have hse := sectorAt_any W c.area c.len hfa (by omega)
    rw [← hi0] at hse
    have hadd : tail ++ s = T := hT.symm
    gi_wp2
    refine ⟨trivial, fun h => (by cases h), ?_⟩
    refine (callsIn_wide.2 hse).mono ?_
    rintro e w' ⟨rfl, rfl⟩
    clear hse
    have HT := hid hT
    have HI := hid hi0
    clear hT hi0
    have hz : ∀ (k : Nat), k ≤ nP T → (T.extract (256 * k) T.size).size = T.size - 256 * k := fun k _ => by rw [ByteArray.size_extract]; omega
    gi_wp2
    gi_loopw [5, 6] (fun iv tv wr => ∃ k : Nat, k ≤ nP T ∧ iv = .int .i64 ((i0 + k : Nat) : Int) ∧ tv = .string (T.extract (256 * k) T.size) ∧ J (pcs i0 T k) wr) (fun iv tv wr => nP T + i0 - (intOf iv).toNat)
    case atStart => exact ⟨0, Nat.zero_le _, rfl, by rw [Nat.mul_zero]; exact congrArg _ (by simp), h0⟩
    case round =>
      obtain ⟨k, hk, rfl, rfl, hJs⟩ := hrel
      have hks := hz k hk
      have hnp : nP T = (T.size + 255) / 256 := rfl
      obtain ⟨t, htE⟩ : ∃ t, t = T.extract (256 * k) T.size := ⟨_, rfl⟩
      rw [← htE] at hks ⊢
      have HTE := hid htE
      clear htE
      by_cases hlt : k < nP T
      · have hpos : 0 < t.size := by omega
        have hne := tl_empty (show t.size ≠ 0 by omega)
        obtain ⟨m, hm⟩ : ∃ m, m = min t.size 256 := ⟨_, rfl⟩
        have hml : m ≤ t.size := by omega
        have hpc : t.extract 0 m = pc T k := by
          rw [HTE.out, ByteArray.extract_extract]
          unfold pc
          congr 1 <;> omega
        have hrest : t.extract m t.size = T.extract (256 * (k + 1)) T.size := by
          rw [hks, HTE.out, ByteArray.extract_extract, show min (256 * k + (T.size - 256 * k)) T.size = T.size by omega]
          by_cases h256 : 256 * (k + 1) ≤ T.size
          · rw [show 256 * k + m = 256 * (k + 1) by omega]
          · refine ext_bt (by rw [ByteArray.size_extract, ByteArray.size_extract]; omega) fun j hj => ?_
            rw [ByteArray.size_extract] at hj
            omega
        obtain ⟨fn, tmps, assign, body, hy, hR⟩ := HY.out (pcs i0 T k) (i0 + k, pc T k) wr hJs (by rw [pcs_len]; exact hlt)
        dsimp only [encs] at hy
        rw [← hpc] at hy
        have HR := hid hrest
        have HP := hid hpc
        clear hrest hpc
        have hmin : min (t.size : Int) 256 = (m : Int) := by omega
        obtain ⟨q, hq⟩ : ∃ q, q = i0 + k := ⟨_, rfl⟩
        rw [← hq] at hy ⊢
        have HM := hid (And.intro hm (And.intro hq (And.intro hks hTs)))
        have hT3 : t.size ≤ 131072 := by omega
        have hq3 : q ≤ 1000 := by omega
        clear hm hq hks hTs hz
        gi_wp2
        refine ⟨fun h => (by cases h), ?_⟩
        refine hR.mono ?_
        rintro e W3 (⟨rfl, hJ3, _⟩ | ⟨rfl, hJx3⟩)
        · gi_wp2
          go_roundw
          case rel => exact ⟨k + 1, by omega, by have := HM.out.2.1; go_num, by rw [← HR.out], by rw [pcs_succ]; exact hJ3⟩
          case measure =>
            have := HM.out.2.1
            simp [intOf]; omega
        · gi_wp2
          refine bodyPost_ret (results_none rfl _ _ _) rfl ?_
          exact ⟨⟨_, rfl⟩, .inr ⟨_, by rw [← pcs_succ]; exact pcs_prefix i0 T (by omega), hJx3⟩⟩
      · obtain rfl : k = nP T := by omega
        have h0s : t.size = 0 := by omega
        have hne := tl_none h0s
        gi_wp2
        go_end0
        exact ⟨⟨_, rfl⟩, .inl ⟨_, rfl, hJs⟩⟩
end Go.Proofs.YtjldlmonccgopaaGreat
/- wal: write. -/
namespace Go.Proofs.YtjldlmonccgopaaGreat
open Go.RowKit Go.Shelf
attribute [local go_sem] Oper.semAt_some
set_option linter.unusedVariables false
set_option maxRecDepth 100000
set_option linter.unusedSimpArgs false

/-- Sectors that are written one behind the other, till one fails. -/
def wrs (D : Dsk) : List (Nat × ByteArray) → Dsk × Int
  | [] => (D, 0)
  | x :: xs => if (D.write x.1 x.2).2 = 0 then wrs (D.write x.1 x.2).1 xs else D.write x.1 x.2
theorem wrs_app : ∀ (xs ys : List (Nat × ByteArray)) (D : Dsk), wrs D (xs ++ ys) = if (wrs D xs).2 = 0 then wrs (wrs D xs).1 ys else wrs D xs
  | [], ys, D => by simp [wrs]
  | x :: xs, ys, D => by
    simp only [List.cons_append, wrs]
    by_cases h : (D.write x.1 x.2).2 = 0
    · simp only [if_pos h]; exact wrs_app xs ys _
    · simp only [if_neg h]
theorem wrs_one (D Dp : Dsk) (pre : List (Nat × ByteArray)) (x : Nat × ByteArray) (h : wrs D pre = (Dp, 0)) : wrs D (pre ++ [x]) = Dp.write x.1 x.2 := by
  rw [wrs_app, h]
  simp only [if_pos, wrs]
  by_cases h2 : (Dp.write x.1 x.2).2 = 0
  · rw [if_pos h2]; exact Prod.ext rfl h2.symm
  · rw [if_neg h2]
theorem wrs_stop (D Dp : Dsk) (e : Int) (pre xs : List (Nat × ByteArray)) (h : wrs D pre = (Dp, e)) (he : e ≠ 0) (hp : pre <+: xs) : wrs D xs = (Dp, e) := by
  obtain ⟨r, rfl⟩ := hp
  rw [wrs_app, h]
  exact if_neg he
theorem wrs_ops : ∀ (xs : List (Nat × ByteArray)) (D : Dsk), (wrs D xs).1.ops ≤ D.ops + xs.length
  | [], D => by simp [wrs]
  | x :: xs, D => by
    have h1 := D.write_ops x.1 x.2
    simp only [wrs, List.length_cons]
    by_cases h : (D.write x.1 x.2).2 = 0
    · rw [if_pos h]; have := wrs_ops xs (D.write x.1 x.2).1; omega
    · rw [if_neg h]; omega
/-- What lies behind: the disk D' in block b; only blocks of S have changed. -/
def DS (S : Nat → Prop) (B b : Nat) (sl : Value) (D' : Dsk) (w w' : World) : Prop := ∃ sl', DiskAt w' b D' sl' ∧ (∀ g, sl'.ownBlock = some g → sl.ownBlock = some g ∨ w.heap.size ≤ g) ∧ Kf S B w w'
theorem ownsRow_same {w w' : World} {base : Nat} {e : TypeId} {size : Nat} {v : Value} {n : Nat} {xs : List Value} (h : w.ownsRow base e size v n xs) (hs : ∀ g, v.ownBlock = some g → w'.heap[g]? = w.heap[g]?) : w'.ownsRow base e size v n xs := by
  obtain ⟨h1, h2⟩ := h
  refine ⟨h1, ?_⟩
  rcases h2 with h2 | ⟨g, cap, cur, hv, hg, hh, r⟩
  · exact Or.inl h2
  · exact Or.inr ⟨g, cap, cur, hv, hg, by rw [hs g (by rw [hv]; rfl)]; exact hh, r⟩
theorem DiskAt.same {w w' : World} {b : Nat} {D : Dsk} {sl : Value} (h : DiskAt w b D sl) (hs : ∀ g, g = b ∨ sl.ownBlock = some g → w'.heap[g]? = w.heap[g]?) : DiskAt w' b D sl :=
  ⟨(hs b (Or.inl rfl)).trans h.blk, ownsRow_same h.own (fun g hg => hs g (Or.inr hg)), h.good⟩
theorem DS.grown {S : Nat → Prop} {B b : Nat} {sl : Value} {D' : Dsk} {w W W' : World} {row : Option Nat} (h : DS S B b sl D' w W) (hB : B ≤ w.heap.size) (hg : W.grownBy W' row) (hr : ∀ r, row = some r → w.heap.size ≤ r ∧ ∃ o : Obj, W.heap[r]? = some o ∧ o.isCells = false) : DS S B b sl D' w W' := by
  obtain ⟨sl', h1, h2, h3⟩ := h
  refine ⟨sl', h1.same fun g hgb => ?_, h2, h3.grown hg (Nat.le_trans hB h3.size) (fun k e => Nat.le_trans hB (hr k e).1) (fun k e => Or.inr (hr k e).1)⟩
  have hc : ∃ c t fz, W.heap[g]? = some (.cells c t fz) := by
    rcases hgb with rfl | hgb
    · exact ⟨_, _, _, h1.blk⟩
    · obtain ⟨c, fz, hc⟩ := own_kind h1.own g hgb
      exact ⟨_, _, _, hc⟩
  obtain ⟨c, t, fz, hc⟩ := hc
  refine hg.block g (lt_of_block hc) (fun e => ?_)
  obtain ⟨_, o, ho, hn⟩ := hr g e.symm
  rw [hc] at ho
  cases ho
  cases hn
theorem DS.keeps {S : Nat → Prop} {B b : Nat} {sl : Value} {D D' : Dsk} {w w' : World} (h : DS S B b sl D' w w') (hS : ∀ k, S k → ∃ c t fz, w.heap[k]? = some (.cells c t fz)) (B' : Nat) : KeepsFrom B' w w' := by
  obtain ⟨sl', h1, h2, h3⟩ := h
  refine ⟨h3.size, fun k o _ hk ho => (h3.oth k (lt_of_block hk) (fun e => ?_)).trans hk⟩
  obtain ⟨c, t, fz, hc⟩ := hS k e
  rw [hc] at hk
  cases hk
  cases ho
theorem Sd_cells {w : World} {b : Nat} {D : Dsk} {sl : Value} (h : DiskAt w b D sl) : ∀ k, Sd b sl k → ∃ c t fz, w.heap[k]? = some (.cells c t fz) := by
  intro k e
  rcases e with rfl | e
  · exact ⟨_, _, _, h.blk⟩
  · obtain ⟨c, fz, hc⟩ := own_kind h.own k e
    exact ⟨_, _, _, hc⟩
theorem Kf.weak {S S' : Nat → Prop} {B : Nat} {u w : World} (h : Kf S B u w) (hs : ∀ k, k < u.heap.size → S k → S' k) : Kf S' B u w := ⟨h.bel, fun k hk hn => h.oth k hk (fun e => hn (hs k hk e))⟩
/-- Two calls. -/
theorem DS.step {S : Nat → Prop} {B b : Nat} {sl sl1 : Value} {D2 : Dsk} {w w1 w2 : World} (h2 : ∀ g, sl1.ownBlock = some g → sl.ownBlock = some g ∨ w.heap.size ≤ g) (h3 : Kf S B w w1) (hS : ∀ k, Sd b sl k → S k) (k : DNext B b sl1 D2 w1 w2) : DS S B b sl D2 w w2 := by
  obtain ⟨sl2, k1, k2, k3⟩ := k
  refine ⟨sl2, k1, fun g hg => ?_, h3.bel.trans k3.bel, fun i hi hn => (k3.oth i (by have := h3.size; omega) (fun e => ?_)).trans (h3.oth i hi hn)⟩
  · rcases k2 g hg with e | e
    · exact h2 g e
    · right; have := h3.size; omega
  · rcases e with rfl | e
    · exact hn (hS _ (Or.inl rfl))
    · rcases h2 i e with e | e
      · exact hn (hS _ (Or.inr e))
      · omega
/-- A store elsewhere. -/
theorem DS.set {S S' : Nat → Prop} {B b : Nat} {sl : Value} {D2 : Dsk} {w w2 : World} (h : DS S B b sl D2 w w2) (q : Nat) (hS : ∀ k, S k → S' k) (hq : S' q) (hB : B ≤ q) (hqb : q ≠ b) (hql : q < w.heap.size) (hqs : sl.ownBlock ≠ some q) (n : Nat) (v : Value) : DS S' B b sl D2 w (w2.setCell ⟨q, n, none⟩ v) := by
  obtain ⟨sl2, h1, h2, h3⟩ := h
  refine ⟨sl2, h1.same fun g hg => Below.heap_setCell w2 ⟨q, n, none⟩ v g (fun e => ?_), h2, (h3.weak (fun k _ hk => hS k hk)).set hq hB v⟩
  have e' : g = q := e
  rcases hg with hg | hg
  · exact hqb (by rw [← e', hg])
  · rcases h2 g hg with h | h
    · exact hqs (by rw [← e']; exact h)
    · omega
theorem DS.up {S : Nat → Prop} {B b : Nat} {sl : Value} {D2 : Dsk} {w w1 w2 : World} (h : DS S B b sl D2 w1 w2) (b1 : Below w.heap.size w w1) (hB : B ≤ w.heap.size) (hS : ∀ k, k < w.heap.size → S k → Sd b sl k) : DNext B b sl D2 w w2 := by
  obtain ⟨sl2, h1, h2, h3⟩ := h
  have hs := b1.size
  refine ⟨sl2, h1, fun g hg => ?_, (b1.mono hB).trans h3.bel, fun k hk hn => (h3.oth k (by omega) (fun e => hn (hS k hk e))).trans (b1.block k hk)⟩
  rcases h2 g hg with e | e
  · exact Or.inl e
  · right; omega
/-- A commit behind its data. -/
def Dsk.lay (D : Dsk) (xs : List (Nat × ByteArray)) (i : Nat) (t : ByteArray) : Dsk × Int :=
  if (wrs D xs).2 ≠ 0 then wrs D xs else if (wrs D xs).1.sync.2 ≠ 0 then (wrs D xs).1.sync else if ((wrs D xs).1.sync.1.write i t).2 ≠ 0 then (wrs D xs).1.sync.1.write i t else ((wrs D xs).1.sync.1.write i t).1.sync
set_option maxHeartbeats 4000000 in
theorem write_log (w : World) (B l b : Nat) (D : Dsk) (sl : Value) (c c0 next : Com) (tl tail s : ByteArray) (er : Int) (hf : c.Fit) (hn : next.Fit) (hs : s.size ≤ 32512) (ht : tail.size ≤ 32512) (ho : D.ops + 1000 < 4611686018427387904) (hB : B ≤ b) (hd : DiskAt w b D sl) (hl : LogAt w l b c0 tl er) :
    Calls Tryz.prog 78 #[.pointer (some ⟨l, 0, none⟩), cv c, cv next, .string tail, .string s] w fun e w' => e = .returned (.int .i64 (D.lay (chg c tail s) (next.num % 2) (comT next)).2) ∧ DNext B b sl (D.lay (chg c tail s) (next.num % 2) (comT next)).1 w w' := by
  refine (callsIn_wide (n := 3)).1 ?_
  unfold cv
  refine callsIn_of_wp_marks Tryz.func78 rfl trivial ?_ rfl
  simp only [Tryz.ntmps78, List.size_toArray, List.length_cons, List.length_nil, Nat.reduceAdd, Nat.reduceSub, Array.replicate_succ, Array.replicate_zero, List.push_toArray, List.append_toArray, List.nil_append, List.cons_append]
  have b0 : Below w.heap.size w ((((w.alloc (Obj.cells #[Value.pointer (some ⟨l, 0, none⟩)] 63)).alloc (Obj.cells #[.int .u64 (c.num : Int), .int .i64 (c.area : Int), .int .i64 (c.len : Int), .int .u32 c.sum] 88)).alloc (Obj.cells #[.int .u64 (next.num : Int), .int .i64 (next.area : Int), .int .i64 (next.len : Int), .int .u32 next.sum] 88)).alloc (Obj.cells #[.int .i64 0] 30)) :=
    ((((Below.refl w.heap.size w).alloc (Nat.le_refl _) _).alloc (by simp) _).alloc (by simp; omega) _).alloc (by simp; omega) _
  have cp : ((((w.alloc (Obj.cells #[Value.pointer (some ⟨l, 0, none⟩)] 63)).alloc (Obj.cells #[.int .u64 (c.num : Int), .int .i64 (c.area : Int), .int .i64 (c.len : Int), .int .u32 c.sum] 88)).alloc (Obj.cells #[.int .u64 (next.num : Int), .int .i64 (next.area : Int), .int .i64 (next.len : Int), .int .u32 next.sum] 88)).alloc (Obj.cells #[.int .i64 0] 30)).heap[w.heap.size]? = some (Obj.cells #[Value.pointer (some ⟨l, 0, none⟩)] 63 (0, 0)) :=
    ((Below.heap_alloc _ _ _ (by simp; omega)).trans ((Below.heap_alloc _ _ _ (by simp; omega)).trans (Below.heap_alloc _ _ _ (by simp)))).trans (heap_alloc_last w _)
  have cn : ((((w.alloc (Obj.cells #[Value.pointer (some ⟨l, 0, none⟩)] 63)).alloc (Obj.cells #[.int .u64 (c.num : Int), .int .i64 (c.area : Int), .int .i64 (c.len : Int), .int .u32 c.sum] 88)).alloc (Obj.cells #[.int .u64 (next.num : Int), .int .i64 (next.area : Int), .int .i64 (next.len : Int), .int .u32 next.sum] 88)).alloc (Obj.cells #[.int .i64 0] 30)).heap[w.heap.size + 1 + 1]? = some (Obj.cells #[.int .u64 (next.num : Int), .int .i64 (next.area : Int), .int .i64 (next.len : Int), .int .u32 next.sum] 88 (0, 0)) := by
    have := (Below.heap_alloc (((w.alloc (Obj.cells #[Value.pointer (some ⟨l, 0, none⟩)] 63)).alloc (Obj.cells #[.int .u64 (c.num : Int), .int .i64 (c.area : Int), .int .i64 (c.len : Int), .int .u32 c.sum] 88)).alloc (Obj.cells #[.int .u64 (next.num : Int), .int .i64 (next.area : Int), .int .i64 (next.len : Int), .int .u32 next.sum] 88)) (Obj.cells #[.int .i64 0] 30) (w.heap.size + 1 + 1) (by simp)).trans (show _ = some (Obj.cells #[.int .u64 (next.num : Int), .int .i64 (next.area : Int), .int .i64 (next.len : Int), .int .u32 next.sum] 88 (0, 0)) by have := heap_alloc_last ((w.alloc (Obj.cells #[Value.pointer (some ⟨l, 0, none⟩)] 63)).alloc (Obj.cells #[.int .u64 (c.num : Int), .int .i64 (c.area : Int), .int .i64 (c.len : Int), .int .u32 c.sum] 88)) (Obj.cells #[.int .u64 (next.num : Int), .int .i64 (next.area : Int), .int .i64 (next.len : Int), .int .u32 next.sum] 88); rwa [World.size_alloc, World.size_alloc] at this)
    exact this
  have cr : ((((w.alloc (Obj.cells #[Value.pointer (some ⟨l, 0, none⟩)] 63)).alloc (Obj.cells #[.int .u64 (c.num : Int), .int .i64 (c.area : Int), .int .i64 (c.len : Int), .int .u32 c.sum] 88)).alloc (Obj.cells #[.int .u64 (next.num : Int), .int .i64 (next.area : Int), .int .i64 (next.len : Int), .int .u32 next.sum] 88)).alloc (Obj.cells #[.int .i64 0] 30)).heap[w.heap.size + 1 + 1 + 1]? = some (Obj.cells #[.int .i64 0] 30 (0, 0)) := by
    have := heap_alloc_last (((w.alloc (Obj.cells #[Value.pointer (some ⟨l, 0, none⟩)] 63)).alloc (Obj.cells #[.int .u64 (c.num : Int), .int .i64 (c.area : Int), .int .i64 (c.len : Int), .int .u32 c.sum] 88)).alloc (Obj.cells #[.int .u64 (next.num : Int), .int .i64 (next.area : Int), .int .i64 (next.len : Int), .int .u32 next.sum] 88)) (Obj.cells #[.int .i64 0] 30)
    rwa [World.size_alloc, World.size_alloc, World.size_alloc] at this
  gi_wp2
  generalize ((((w.alloc (Obj.cells #[Value.pointer (some ⟨l, 0, none⟩)] 63)).alloc (Obj.cells #[.int .u64 (c.num : Int), .int .i64 (c.area : Int), .int .i64 (c.len : Int), .int .u32 c.sum] 88)).alloc (Obj.cells #[.int .u64 (next.num : Int), .int .i64 (next.area : Int), .int .i64 (next.len : Int), .int .u32 next.sum] 88)).alloc (Obj.cells #[.int .i64 0] 30)) = W0 at *
  have hW0 : w.heap.size + 4 ≤ W0.heap.size := lt_of_block cr
  refine ⟨trivial, ?_⟩
  refine (callsIn_wide.2 (changed_any W0 c tail s)).mono ?_
  rintro e w1 ⟨rfl, k1, k2, k3, k4, b1⟩
  have d1 := (hd.below b0).below b1
  have l1 := (hl.below b0 (lt_of_block hl.blk)).below b1 (Nat.lt_of_lt_of_le (lt_of_block hl.blk) b0.size)
  have cp1 := (b1.block _ (by omega)).trans cp
  have cn1 := Box4.of ((b1.block _ (by omega)).trans cn)
  have cr1 := (b1.block _ (by omega)).trans cr
  have B1 := b0.trans (b1.mono b0.size)
  clear cp cn cr
  gi_wp2
  have hxs : (chg c tail s).length ≤ 300 := by
    unfold chg
    split
    · simp
    · rw [pcs_len]; unfold nP; rw [ByteArray.size_append]; omega
  have hbN : b < w1.heap.size := lt_of_block d1.blk
  have hB1 : B ≤ w1.heap.size := by omega
  have hlN : l < w.heap.size := lt_of_block hl.blk
  have hlb : l ≠ b := fun e => by
    have h1 := l1.blk
    rw [e, d1.blk] at h1
    simp at h1
  have hlS : ¬ Sd b sl l := fun e => by
    rcases e with e | e
    · exact hlb e
    · obtain ⟨c', fz, hc'⟩ := own_kind d1.own l e
      rw [l1.blk] at hc'
      simp at hc'
  have hbw : b < w.heap.size := lt_of_block hd.blk
  have hNS : ∀ k, w.heap.size ≤ k → ¬ Sd b sl k := fun k hk e => by
    rcases e with e | e
    · omega
    · have := (hd.own.lt k e).2; omega
  have hfacts : ∀ S : Nat → Prop, (∀ k, k ≤ w.heap.size + 2 → S k → Sd b sl k) → ∀ W, Kf S B w1 W → W.cell? ⟨w.heap.size, 0, none⟩ = some (.pointer (some ⟨l, 0, none⟩)) ∧ W.cell? ⟨l, 0, none⟩ = some (.pointer (some ⟨b, 0, none⟩)) ∧ W.heap[w.heap.size + 1 + 1]? = some (.cells #[.int .u64 (next.num : Int), .int .i64 (next.area : Int), .int .i64 (next.len : Int), .int .u32 next.sum] 88 (0, 0)) := fun S hS W k =>
    ⟨cell_at (L := [_]) ((k.oth _ (lt_of_block cp1) (fun e => hNS _ (Nat.le_refl _) (hS _ (by omega) e))).trans cp1) 0 _ rfl, cell_at (L := [_, _, _, _, _, _, _]) ((k.oth _ (lt_of_block l1.blk) (fun e => hlS (hS _ (by omega) e))).trans l1.blk) 0 _ rfl, (k.oth _ (lt_of_block cn1.blk) (fun e => hNS _ (by omega) (hS _ (by omega) e))).trans cn1.blk⟩
  have HF := hid hfacts
  have HCR := hid (show ∀ W, Kf (Sd b sl) B w1 W → W.heap[w.heap.size + 1 + 1 + 1]? = some (Obj.cells #[.int .i64 0] 30 (0, 0)) from fun W k => (k.oth _ (lt_of_block cr1) (hNS _ (by omega))).trans cr1)
  clear hfacts
  refine wpIn_rangeFunc_ownG rfl (by omega) (gf := 104) (lb := #[.pointer (some ⟨W0.heap.size + 2, 0, none⟩), .pointer (some ⟨W0.heap.size, 0, none⟩), .pointer (some ⟨W0.heap.size + 1, 0, none⟩)]) rfl trivial (enters_of Tryz.func104 (by kernel_rfl) rfl)
    (changed1_stops 2 w1 _ _ _ c tail s hf (by omega) (by omega) k1 k2 k3) (fun _ _ => trivial) (fun _ _ _ _ _ _ _ _ => trivial) (Below.refl _ _) (fun _ => rfl)
    (fun pre W => ∃ Dp, wrs D pre = (Dp, 0) ∧ DS (Sd b sl) B b sl Dp w1 W)
    (fun cd pre W => cd = .ret ∧ ∃ Dp e, e ≠ 0 ∧ wrs D pre = (Dp, e) ∧ DS (fun k => Sd b sl k ∨ k = w.heap.size + 1 + 1 + 1) B b sl Dp w1 W ∧ W.cell? ⟨w.heap.size + 1 + 1 + 1, 0, none⟩ = some (.int .i64 e))
    (fun pre A A' row ⟨Dp, h1, h2⟩ hg hr => ⟨Dp, h1, h2.grown hB1 hg hr⟩)
    (fun cd pre A A' row ⟨h0, Dp, e, h1, h2, h3, h4⟩ hg hr => ⟨h0, Dp, e, h1, h2, h3.grown hB1 hg hr, cell_kept h4 hg (fun r e => (hr r e).2)⟩)
    ⟨D, rfl, sl, d1, fun g hg => Or.inl hg, Kf.refl _ _ _⟩
    (fun x => { tmps := #[Value.pointer (some ⟨l, 0, none⟩), Value.agg #[.int .u64 (c.num : Int), .int .i64 (c.area : Int), .int .i64 (c.len : Int), .int .u32 c.sum], Value.agg #[.int .u64 (next.num : Int), .int .i64 (next.area : Int), .int .i64 (next.len : Int), .int .u32 next.sum], .string tail, .string s, .pointer (some ⟨w.heap.size, 0, none⟩), .pointer (some ⟨w.heap.size + 1, 0, none⟩), .pointer (some ⟨w.heap.size + 1 + 1, 0, none⟩), undef, undef, .pointer (some ⟨w.heap.size + 1 + 1 + 1, 0, none⟩), .int .i64 (x.1 : Int), .string x.2, undef, undef, undef, Value.agg #[.int .u64 (c.num : Int), .int .i64 (c.area : Int), .int .i64 (c.len : Int), .int .u32 c.sum], .string tail, .string s, .func (.func 104) #[] #[.pointer (some ⟨W0.heap.size + 2, 0, none⟩), .pointer (some ⟨W0.heap.size, 0, none⟩), .pointer (some ⟨W0.heap.size + 1, 0, none⟩)], .int .i64 (x.1 : Int), .string x.2, undef, undef, undef, undef, undef, undef, undef, undef, undef, undef, undef, undef, undef, undef, undef, undef, undef, undef, undef, undef, undef, undef, undef, undef, undef, undef, undef, undef, undef, undef, undef, undef, undef, undef, undef], defers := [] }) ?assign ?body ?done ?stop
  case assign =>
    intro l x W K hK
    dsimp only [encs]
    gi_wp2
    exact hK
  case body =>
    rintro lp pre x W ⟨Dp, hp, hDS⟩ hlen
    obtain ⟨sl', e1, e2, e3⟩ := hDS
    obtain ⟨f1, f2, _⟩ := HF.out _ (fun _ _ h => h) W e3
    have f3 := HCR.out W e3
    have f4 := cell_at (L := [_]) f3 0 _ rfl
    have f5 := free_at (L := [_]) f3
    have hops : Dp.ops < 4611686018427387904 := by have := wrs_ops pre D; rw [hp] at this; simp only at this; omega
    have hw1 := wrs_one D Dp pre x hp
    have HW := hid hw1
    clear hw1 hlen
    gi_wp2
    refine ⟨trivial, ?_⟩
    refine (CallsIn.inRound lp (callsIn_wide.2 (write_at W B b Dp sl' x.1 x.2 hops hB e1))).mono ?_
    rintro e W2 ⟨rfl, hN⟩
    have kp := DS.keeps (D := Dp) hN (Sd_cells e1) w1.heap.size
    have hD2 := DS.step e2 e3 (fun _ h => h) hN
    have f6 := HCR.out W2 (by obtain ⟨_, _, _, k⟩ := hD2; exact k)
    have f7 := cell_at (L := [_]) f6 0 _ rfl
    have f8 := free_at (L := [_]) f6
    obtain ⟨er1, her⟩ : ∃ er1, (Dp.write x.1 x.2).2 = er1 := ⟨_, rfl⟩
    rw [her]
    by_cases h0 : er1 = 0
    · have h0' : (er1 != 0) = false := by simp [h0]
      have HE := hid (her.trans h0)
      clear her
      subst h0
      gi_wp2
      exact ⟨kp, trivial, _, (HW.out.trans (Prod.ext rfl HE.out)), hD2⟩
    · have h0' : (er1 == 0) = false := beq_eq_false_iff_ne.2 h0
      have HE := hid (And.intro her h0)
      clear her
      have hD3 := hD2.set (S' := fun k => Sd b sl k ∨ k = w.heap.size + 1 + 1 + 1) (w.heap.size + 1 + 1 + 1) (fun k h => Or.inl h) (Or.inr rfl) (by omega) (by omega) (by omega) (fun e => hNS _ (by omega) (Or.inr e)) 0 (.int .i64 er1)
      have kp2 := kp.trans ((KeepsOthers.setCell W2 ⟨w.heap.size + 1 + 1 + 1, 0, none⟩ (.int .i64 er1)).from w1.heap.size)
      have f9 := cell_at (L := [_]) (set_at (L := [_]) (k := 0) (v := .int .i64 er1) f6) 0 _ rfl
      gi_wp2
      exact ⟨kp2, rfl, _, er1, HE.out.2, (HW.out.trans (Prod.ext rfl HE.out.1)), hD3, f9⟩
  case done =>
    rintro Db xs W hD rfl ⟨Dp, hp, hDS⟩ hK
    have hlay : D.lay (chg c tail s) (next.num % 2) (comT next) = if Dp.sync.2 ≠ 0 then Dp.sync else if (Dp.sync.1.write ((next.num % 2 : Nat) : Int) (comT next)).2 ≠ 0 then Dp.sync.1.write ((next.num % 2 : Nat) : Int) (comT next) else (Dp.sync.1.write ((next.num % 2 : Nat) : Int) (comT next)).1.sync := by
      unfold Dsk.lay
      rw [hp]
      exact if_neg (by simp)
    have hops : Dp.ops + 500 < 4611686018427387904 := by have := wrs_ops (chg c tail s) D; rw [hp] at this; simp only at this; omega
    have HLay := hid hlay
    clear hlay hp
    have fin : ∀ (D2 : Dsk) (e : Int) (W2 : World), DS (Sd b sl) B b sl D2 w1 W2 → W2.heap[Db]? = some (.deferred (some [])) → True := fun _ _ _ _ _ => trivial
    obtain ⟨sl', e1, e2, e3⟩ := hDS
    obtain ⟨f1, f2, f3⟩ := HF.out _ (fun _ _ h => h) W e3
    gi_wp2
    refine ⟨trivial, ?_⟩
    refine (callsIn_wide.2 (sync_at W B b Dp sl' (by omega) hB e1)).mono ?_
    rintro e W2 ⟨rfl, hN⟩
    have kp := DS.keeps (D := Dp) hN (Sd_cells e1) w1.heap.size
    have hD2 := DS.step e2 e3 (fun _ h => h) hN
    have hK2 := kp.same Db _ hD hK rfl
    clear f1 f2 f3 e1 e2 e3 hK kp hN
    obtain ⟨er1, her⟩ : ∃ er1, Dp.sync.2 = er1 := ⟨_, rfl⟩
    rw [her]
    have f6 := HCR.out W2 (by obtain ⟨_, _, _, k⟩ := hD2; exact k)
    have f7 := cell_at (L := [_]) f6 0 _ rfl
    have f8 := free_at (L := [_]) f6
    by_cases h0 : er1 = 0
    · have h0' : (er1 != 0) = false := by simp [h0]
      have HE := hid (her.trans h0)
      clear her
      subst h0
      obtain ⟨sl2, e1, e2, e3⟩ := hD2
      obtain ⟨f1, f2, f3⟩ := HF.out _ (fun _ _ h => h) W2 e3
      have hops2 : Dp.sync.1.ops + 400 < 4611686018427387904 := by have := Dp.sync_ops; omega
      have q3 := Box4.of f3
      obtain ⟨_, n0, n1, n2, n3, _⟩ := q3
      have hsz2 : w.heap.size < W2.heap.size := World.block_lt_of_cell? _ _ f1
      have hsz3 : l < W2.heap.size := by omega
      have hsz4 : w.heap.size + 1 + 1 < W2.heap.size := World.block_lt_of_cell? _ _ n0
      have hS6 : ∀ X, Below W2.heap.size W2 X → X.cell? ⟨w.heap.size, 0, none⟩ = some (.pointer (some ⟨l, 0, none⟩)) ∧ X.cell? ⟨l, 0, none⟩ = some (.pointer (some ⟨b, 0, none⟩)) ∧ X.cell? ⟨w.heap.size + 1 + 1, 0, none⟩ = some (.int .u64 (next.num : Int)) ∧ X.cell? ⟨w.heap.size + 1 + 1, 1, none⟩ = some (.int .i64 (next.area : Int)) ∧ X.cell? ⟨w.heap.size + 1 + 1, 2, none⟩ = some (.int .i64 (next.len : Int)) ∧ X.cell? ⟨w.heap.size + 1 + 1, 3, none⟩ = some (.int .u32 next.sum) := fun X h =>
        ⟨(h.cell hsz2).trans f1, (h.cell hsz3).trans f2, (h.cell hsz4).trans n0, (h.cell hsz4).trans n1, (h.cell hsz4).trans n2, (h.cell hsz4).trans n3⟩
      have HS6 := hid hS6
      have C0 : Below W2.heap.size W2 W2.drew := (Below.refl _ _).drew
      obtain ⟨pz, hpz⟩ : ∃ pz, pz = next.num % 2 := ⟨_, rfl⟩
      obtain ⟨ct, hct⟩ : ∃ ct, ct = comT next := ⟨_, rfl⟩
      have hsec := fun v => sector_com v next hn
      have htxt := fun v => text_com v next hn
      rw [← hpz] at hsec HLay
      rw [← hct] at htxt HLay
      unfold cv at hsec htxt
      have HPZ := hid (And.intro hpz hct)
      clear hpz hct
      have hstep : ∀ (X X3 : World), Below W2.heap.size W2 X → DNext B b sl2 (Dp.sync.1.write (pz : Int) ct).1 X X3 → DS (Sd b sl) B b sl (Dp.sync.1.write (pz : Int) ct).1 w1 X3 ∧ KeepsFrom w1.heap.size W2 X3 := fun X X3 hb hN =>
        ⟨DS.step e2 (e3.below (Nat.le_trans hB1 e3.size) hb) (fun _ h => h) hN, (KeepsFrom.mk hb.size (fun k o _ hk ho => (hb.block k (lt_of_block hk)).trans hk)).trans (DS.keeps (D := Dp) hN (Sd_cells (e1.below hb)) w1.heap.size)⟩
      have HST := hid hstep
      gi_wp2
      refine wpIn_wide.2 ?_
      go_region_held3 (fun X => X.cell? ⟨w.heap.size, 0, none⟩ = some (.pointer (some ⟨l, 0, none⟩)) ∧ X.cell? ⟨l, 0, none⟩ = some (.pointer (some ⟨b, 0, none⟩)) ∧ X.cell? ⟨w.heap.size + 1 + 1, 0, none⟩ = some (.int .u64 (next.num : Int)) ∧ X.cell? ⟨w.heap.size + 1 + 1, 1, none⟩ = some (.int .i64 (next.area : Int)) ∧ X.cell? ⟨w.heap.size + 1 + 1, 2, none⟩ = some (.int .i64 (next.len : Int)) ∧ X.cell? ⟨w.heap.size + 1 + 1, 3, none⟩ = some (.int .u32 next.sum)) (first | exact hSw | exact HS6.out _ C2 | exact HS6.out _ C1 | exact HS6.out _ C0) (first
        | (go_at_call 19; have gk := C2; refine (write_at _ B b Dp.sync.1 sl2 (pz : Int) ct (by omega) hB (e1.below C2)).mono ?_; rintro e X3 ⟨rfl, hN3⟩; have hst3 := HST.out _ _ C2 hN3; have hD4 := hst3.1; have kp3 := hst3.2; have hSw : X3.cell? ⟨w.heap.size, 0, none⟩ = some (.pointer (some ⟨l, 0, none⟩)) ∧ X3.cell? ⟨l, 0, none⟩ = some (.pointer (some ⟨b, 0, none⟩)) ∧ X3.cell? ⟨w.heap.size + 1 + 1, 0, none⟩ = some (.int .u64 (next.num : Int)) ∧ X3.cell? ⟨w.heap.size + 1 + 1, 1, none⟩ = some (.int .i64 (next.area : Int)) ∧ X3.cell? ⟨w.heap.size + 1 + 1, 2, none⟩ = some (.int .i64 (next.len : Int)) ∧ X3.cell? ⟨w.heap.size + 1 + 1, 3, none⟩ = some (.int .u32 next.sum) := by (obtain ⟨_, _, _, kk⟩ := hD4; obtain ⟨z1, z2, z3⟩ := HF.out _ (fun _ _ h => h) X3 kk; have z4 := Box4.of z3; exact ⟨z1, z2, z4.c0, z4.c1, z4.c2, z4.c3⟩))
        | (go_at_call 97; have gk := C1; refine (htxt _).mono ?_; rintro e X2 ⟨rfl, hb2⟩; have C2 := C1.trans (hb2.mono C1.size))
        | (go_at_call 96; refine (hsec _).mono ?_; rintro e X1 ⟨rfl, hb1⟩; have C1 := C0.trans (hb1.mono C0.size)))
      have hK4 := kp3.same Db _ hD hK2 rfl
      clear hSw hst3 hN3 f1 f2 n0 n1 n2 n3 e1 e2 e3 kp3 hb1 hb2 gk C0 C1 C2 HST hstep hS6 HS6 f6 f7 f8
      obtain ⟨er2, her⟩ : ∃ er2, (Dp.sync.1.write (pz : Int) ct).2 = er2 := ⟨_, rfl⟩
      rw [her]
      have f6 := HCR.out X3 (by obtain ⟨_, _, _, k⟩ := hD4; exact k)
      have f7 := cell_at (L := [_]) f6 0 _ rfl
      have f8 := free_at (L := [_]) f6
      by_cases h0 : er2 = 0
      · have h0' : (er2 != 0) = false := by simp [h0]
        have HE2 := hid (her.trans h0)
        clear her
        subst h0
        obtain ⟨sl4, e1, e2, e3⟩ := hD4
        obtain ⟨f1, f2, _⟩ := HF.out _ (fun _ _ h => h) X3 e3
        have hops3 : (Dp.sync.1.write (pz : Int) ct).1.ops + 300 < 4611686018427387904 := by have := Dp.sync.1.write_ops (pz : Int) ct; omega
        gi_wp2
        refine ⟨trivial, ?_⟩
        refine (callsIn_wide.2 (sync_at X3 B b _ sl4 (by omega) hB e1)).mono ?_
        rintro e X4 ⟨rfl, hN⟩
        have kp := DS.keeps (D := Dp) hN (Sd_cells e1) w1.heap.size
        have hD5 := DS.step e2 e3 (fun _ h => h) hN
        have hK5 := kp.same Db _ hD hK4 rfl
        clear f1 f2 e1 e2 e3 hK4 kp hN f6 f7 f8
        have f6 := HCR.out X4 (by obtain ⟨_, _, _, k⟩ := hD5; exact k)
        have f7 := cell_at (L := [_]) f6 0 _ rfl
        have f8 := free_at (L := [_]) f6
        obtain ⟨er3, her3⟩ : ∃ er3, (Dp.sync.1.write (pz : Int) ct).1.sync.2 = er3 := ⟨_, rfl⟩
        rw [her3]
        have HE3 := hid her3
        clear her3
        have hD6 := hD5.set (S' := fun k => Sd b sl k ∨ k = w.heap.size + 1 + 1 + 1) (w.heap.size + 1 + 1 + 1) (fun k h => Or.inl h) (Or.inr rfl) (by omega) (by omega) (by omega) (fun e => hNS _ (by omega) (Or.inr e)) 0 (.int .i64 er3)
        have hK6 := (KeepsOthers.setCell X4 ⟨w.heap.size + 1 + 1 + 1, 0, none⟩ (.int .i64 er3)).same Db _ hK5 rfl
        have f9 := cell_at (L := [_]) (set_at (L := [_]) (k := 0) (v := .int .i64 er3) f6) 0 _ rfl
        gi_wp2
        refine ⟨by simp, .inl ⟨_, _, rfl, run_takeDeferred hK6, ?_⟩⟩
        have hc5 := cell_kept f9 (grownBy_putObj' _ Db (.deferred none)) (fun r e => by cases e; exact ⟨_, hK6, rfl⟩)
        have hD7 := hD6.grown hB1 (grownBy_putObj' _ Db (.deferred none)) (fun r e => by cases e; exact ⟨hD, _, hK6, rfl⟩)
        refine ⟨.int .i64 er3, ?_, ?_⟩
        · simp [results, Tryz.f78, go_sem, hc5]
        · rw [← HPZ.out.1, ← HPZ.out.2, HLay.out, if_neg (by rw [HE.out]; simp), if_neg (by rw [HE2.out]; simp), HE3.out]
          exact ⟨rfl, hD7.up B1 (by omega) (fun k hk e => by rcases e with e | e; exact e; omega)⟩
      · have h0' : (er2 == 0) = false := beq_eq_false_iff_ne.2 h0
        have HE2 := hid (And.intro her h0)
        clear her
        have hD5 := hD4.set (S' := fun k => Sd b sl k ∨ k = w.heap.size + 1 + 1 + 1) (w.heap.size + 1 + 1 + 1) (fun k h => Or.inl h) (Or.inr rfl) (by omega) (by omega) (by omega) (fun e => hNS _ (by omega) (Or.inr e)) 0 (.int .i64 er2)
        have hK5 := (KeepsOthers.setCell X3 ⟨w.heap.size + 1 + 1 + 1, 0, none⟩ (.int .i64 er2)).same Db _ hK4 rfl
        have f9 := cell_at (L := [_]) (set_at (L := [_]) (k := 0) (v := .int .i64 er2) f6) 0 _ rfl
        gi_wp2
        refine ⟨by simp, .inl ⟨_, _, rfl, run_takeDeferred hK5, ?_⟩⟩
        have hc5 := cell_kept f9 (grownBy_putObj' _ Db (.deferred none)) (fun r e => by cases e; exact ⟨_, hK5, rfl⟩)
        have hD6 := hD5.grown hB1 (grownBy_putObj' _ Db (.deferred none)) (fun r e => by cases e; exact ⟨hD, _, hK5, rfl⟩)
        refine ⟨.int .i64 er2, ?_, ?_⟩
        · simp [results, Tryz.f78, go_sem, hc5]
        · rw [← HPZ.out.1, ← HPZ.out.2, HLay.out, if_neg (by rw [HE.out]; simp), if_pos (by rw [HE2.out.1]; exact HE2.out.2), HE2.out.1]
          exact ⟨rfl, hD6.up B1 (by omega) (fun k hk e => by rcases e with e | e; exact e; omega)⟩
    · have h0' : (er1 == 0) = false := beq_eq_false_iff_ne.2 h0
      have HE := hid (And.intro her h0)
      clear her
      have hD3 := hD2.set (S' := fun k => Sd b sl k ∨ k = w.heap.size + 1 + 1 + 1) (w.heap.size + 1 + 1 + 1) (fun k h => Or.inl h) (Or.inr rfl) (by omega) (by omega) (by omega) (fun e => hNS _ (by omega) (Or.inr e)) 0 (.int .i64 er1)
      have hK3 := (KeepsOthers.setCell W2 ⟨w.heap.size + 1 + 1 + 1, 0, none⟩ (.int .i64 er1)).same Db _ hK2 rfl
      have f9 := cell_at (L := [_]) (set_at (L := [_]) (k := 0) (v := .int .i64 er1) f6) 0 _ rfl
      gi_wp2
      refine ⟨by simp, .inl ⟨_, _, rfl, run_takeDeferred hK3, ?_⟩⟩
      have hc5 := cell_kept f9 (grownBy_putObj' _ Db (.deferred none)) (fun r e => by cases e; exact ⟨_, hK3, rfl⟩)
      have hD4 := hD3.grown hB1 (grownBy_putObj' _ Db (.deferred none)) (fun r e => by cases e; exact ⟨hD, _, hK3, rfl⟩)
      refine ⟨.int .i64 er1, ?_, ?_⟩
      · simp [results, Tryz.f78, go_sem, hc5]
      · rw [HLay.out, if_pos (by rw [HE.out.1]; exact HE.out.2), HE.out.1]
        exact ⟨rfl, hD4.up B1 (by omega) (fun k hk e => by rcases e with e | e; exact e; omega)⟩
  case stop =>
    rintro Db cd pre W hD hpre ⟨rfl, Dp, e, he, hp, hDS, hc⟩ hK
    have hlay : D.lay (chg c tail s) (next.num % 2) (comT next) = (Dp, e) := by
      unfold Dsk.lay
      rw [wrs_stop D Dp e pre _ hp he hpre]
      exact if_pos he
    have HLay := hid hlay
    clear hlay
    gi_wp2
    refine ⟨by simp, .inl ⟨_, _, rfl, run_takeDeferred hK, ?_⟩⟩
    have hc5 := cell_kept hc (grownBy_putObj' _ Db (.deferred none)) (fun r e => by cases e; exact ⟨_, hK, rfl⟩)
    have hD4 := hDS.grown hB1 (grownBy_putObj' _ Db (.deferred none)) (fun r e => by cases e; exact ⟨hD, _, hK, rfl⟩)
    refine ⟨.int .i64 e, ?_, ?_⟩
    · simp [results, Tryz.f78, go_sem, hc5]
    · rw [HLay.out]
      exact ⟨rfl, hD4.up B1 (by omega) (fun k hk e => by rcases e with e | e; exact e; omega)⟩
end Go.Proofs.YtjldlmonccgopaaGreat
/- wal: step, Append, Checkpoint, Len, Err. -/
namespace Go.Proofs.YtjldlmonccgopaaGreat
open Go.RowKit
set_option linter.unusedVariables false
set_option maxRecDepth 100000
set_option linter.unusedSimpArgs false

/-- A log in plain terms. -/
structure Lg where
  c : Com
  tail : ByteArray
  er : Int
def LgAt (w : World) (l b : Nat) (L : Lg) : Prop := LogAt w l b L.c L.tail L.er
def comNext (c : Com) (s : ByteArray) : Com := ⟨(c.num + 1) % 18446744073709551616, c.area, c.len + s.size, sumN c.sum s s.size⟩
theorem comNext_fit {c : Com} {s : ByteArray} (h : c.Fit) (hl : c.len + s.size ≤ 32512) : (comNext c s).Fit :=
  ⟨Nat.mod_lt _ (by omega), h.area, hl, sumN_lt _ h.sum s _⟩
/-- What step makes of a disk and a log, and what it answers. -/
def Lg.step (L : Lg) (D : Dsk) (fr : Com) (tl s : ByteArray) : Dsk × Lg × Int :=
  if L.er ≠ 0 then (D, L, L.er) else if 32512 < fr.len + s.size then (D, L, 50)
  else if (D.lay (chg fr tl s) ((comNext fr s).num % 2) (comT (comNext fr s))).2 ≠ 0 then ((D.lay (chg fr tl s) ((comNext fr s).num % 2) (comT (comNext fr s))).1, { L with er := (D.lay (chg fr tl s) ((comNext fr s).num % 2) (comT (comNext fr s))).2 }, (D.lay (chg fr tl s) ((comNext fr s).num % 2) (comT (comNext fr s))).2)
  else ((D.lay (chg fr tl s) ((comNext fr s).num % 2) (comT (comNext fr s))).1, ⟨comNext fr s, tailT (tl ++ s), 0⟩, 0)
/-- The blocks of a log and its disk. -/
def Sl (b l : Nat) (sl : Value) : Nat → Prop := fun k => Sd b sl k ∨ k = l
/-- What a call leaves. -/
def LNext (B b l : Nat) (sl : Value) (D' : Dsk) (L' : Lg) (w w' : World) : Prop := LgAt w' l b L' ∧ DS (Sl b l sl) B b sl D' w w'
theorem LogAt.cells {w : World} {l b : Nat} {c : Com} {tail : ByteArray} {er : Int} (h : LogAt w l b c tail er) : w.cell? ⟨l, 0, none⟩ = some (.pointer (some ⟨b, 0, none⟩)) ∧ w.cell? ⟨l, 1, none⟩ = some (.int .u64 (c.num : Int)) ∧ w.cell? ⟨l, 2, none⟩ = some (.int .i64 (c.area : Int)) ∧ w.cell? ⟨l, 3, none⟩ = some (.int .i64 (c.len : Int)) ∧ w.cell? ⟨l, 4, none⟩ = some (.int .u32 c.sum) ∧ w.cell? ⟨l, 5, none⟩ = some (.string tail) ∧ w.cell? ⟨l, 6, none⟩ = some (.int .i64 er) ∧ ∀ k, w.frozen? ⟨l, k, none⟩ = false :=
  ⟨cell_at (L := [_, _, _, _, _, _, _]) h.blk 0 _ rfl, cell_at (L := [_, _, _, _, _, _, _]) h.blk 1 _ rfl, cell_at (L := [_, _, _, _, _, _, _]) h.blk 2 _ rfl, cell_at (L := [_, _, _, _, _, _, _]) h.blk 3 _ rfl, cell_at (L := [_, _, _, _, _, _, _]) h.blk 4 _ rfl, cell_at (L := [_, _, _, _, _, _, _]) h.blk 5 _ rfl, cell_at (L := [_, _, _, _, _, _, _]) h.blk 6 _ rfl, free_at (L := [_, _, _, _, _, _, _]) h.blk⟩
theorem len_any (w : World) (l b : Nat) (L : Lg) (h : LgAt w l b L) :
    Calls Tryz.prog 46 #[.pointer (some ⟨l, 0, none⟩)] w fun e w' => e = .returned (.int .i64 (L.c.len : Int)) ∧ w' = w := by
  obtain ⟨_, _, _, c3, _⟩ := LogAt.cells h
  go_enter Tryz.func46, Tryz.ntmps46
  go_wp2
  go_ret
  exact ⟨rfl, rfl⟩
theorem log_off {w : World} {l b : Nat} {L : Lg} {D : Dsk} {sl : Value} (h : LgAt w l b L) (d : DiskAt w b D sl) : ¬ Sd b sl l := fun e => by
  rcases e with e | e
  · have h1 := LogAt.blk h
    rw [e, d.blk] at h1
    simp at h1
  · obtain ⟨c', fz, hc'⟩ := own_kind d.own l e
    rw [LogAt.blk h] at hc'
    simp at hc'
theorem DiskAt.ds {w w' : World} {b : Nat} {D : Dsk} {sl : Value} (S : Nat → Prop) {B : Nat} (h : DiskAt w b D sl) (hb : Below w.heap.size w w') (hB : B ≤ b) : DS S B b sl D w w' :=
  ⟨sl, h.below hb, fun g hg => Or.inl hg, Kf.of_below hb (by have := lt_of_block h.blk; omega)⟩
theorem DS.drew {S : Nat → Prop} {B b : Nat} {sl : Value} {D2 : Dsk} {w w2 : World} (h : DS S B b sl D2 w w2) : DS S B b sl D2 w w2.drew := by
  obtain ⟨sl2, h1, h2, h3⟩ := h
  exact ⟨sl2, h1.drew, h2, h3.drew⟩
/-- Block q is as it was. -/
structure Far (X Y : World) (q : Nat) : Prop where
  eq : Y.heap[q]? = X.heap[q]?
theorem far_refl (X : World) (q : Nat) : Far X X q := ⟨rfl⟩
theorem far_drew {X Y : World} {q : Nat} (h : Far X Y q) : Far X Y.drew q := ⟨h.eq⟩
theorem far_set {X Y : World} {q l n : Nat} {v : Value} (hne : q ≠ l) (h : Far X Y q) : Far X (Y.setCell ⟨l, n, none⟩ v) q := ⟨(Below.heap_setCell Y ⟨l, n, none⟩ v q hne).trans h.eq⟩
theorem far4 {X Y : World} {q : Nat} {t : TypeId} {v0 v1 v2 v3 : Value} (h : X.heap[q]? = some (.cells #[v0, v1, v2, v3] t (0, 0))) (f : Far X Y q) : Y.cell? ⟨q, 0, none⟩ = some v0 ∧ Y.cell? ⟨q, 1, none⟩ = some v1 ∧ Y.cell? ⟨q, 2, none⟩ = some v2 ∧ Y.cell? ⟨q, 3, none⟩ = some v3 := by
  have b := Box4.of (f.eq.trans h)
  exact ⟨b.c0, b.c1, b.c2, b.c3⟩
set_option maxHeartbeats 4000000 in
theorem step_any (w : World) (B l b : Nat) (D : Dsk) (sl : Value) (L : Lg) (fr : Com) (tl s : ByteArray) (hf : fr.Fit) (ht : tl.size ≤ 32512) (hs : s.size ≤ 1099511627776) (ho : D.ops + 1000 < 4611686018427387904) (hB : B ≤ b) (hBl : B ≤ l) (hd : DiskAt w b D sl) (hl : LgAt w l b L) :
    Calls Tryz.prog 57 #[.pointer (some ⟨l, 0, none⟩), cv fr, .string tl, .string s] w fun e w' => e = .returned (.int .i64 (L.step D fr tl s).2.2) ∧ LNext B b l sl (L.step D fr tl s).1 (L.step D fr tl s).2.1 w w' := by
  have hfl := hf.len
  have q0 := Box4.new w 88 (.int .u64 (fr.num : Int)) (.int .i64 (fr.area : Int)) (.int .i64 (fr.len : Int)) (.int .u32 fr.sum)
  have b0 := (Below.refl w.heap.size w).alloc (Nat.le_refl _) (Obj.cells #[.int .u64 (fr.num : Int), .int .i64 (fr.area : Int), .int .i64 (fr.len : Int), .int .u32 fr.sum] 88)
  have hne : ¬ l = w.heap.size := by have := lt_of_block (LogAt.blk hl); omega
  have hl0 := LogAt.below hl b0 (lt_of_block (LogAt.blk hl))
  have hd0 := hd.below b0
  have HD := hid hd
  have HL := hid hl
  by_cases he : L.er = 0
  · by_cases hfull : 32512 < fr.len + s.size
    · have hE : L.step D fr tl s = (D, L, 50) := by
        unfold Lg.step
        rw [if_neg (by simp [he]), if_pos hfull]
      have HE := hid hE
      have hx : (32512 : Int) < (fr.len : Int) + (s.size : Int) := by omega
      have HL0 := hid hl0
      rw [he] at hl0
      obtain ⟨c0, c1, c2, c3, c4, c5, c6, cf⟩ := LogAt.cells hl0
      unfold cv
      go_enter Tryz.func57, Tryz.ntmps57
      go_wp2
      go_ret
      rw [HE.out]
      exact ⟨rfl, HL0.out, HD.out.ds _ b0 hB⟩
    · have HL0 := hid hl0
      rw [he] at hl0
      obtain ⟨c0, c1, c2, c3, c4, c5, c6, cf⟩ := LogAt.cells hl0
      have hx : ¬ (32512 : Int) < (fr.len : Int) + (s.size : Int) := by omega
      unfold cv
      go_enter Tryz.func57, Tryz.ntmps57
      go_wp2_with fail
      have hfit := comNext_fit hf (show fr.len + s.size ≤ 32512 by omega)
      have hwith := with_any (w.alloc (Obj.cells #[.int .u64 (fr.num : Int), .int .i64 (fr.area : Int), .int .i64 (fr.len : Int), .int .u32 fr.sum] 88)) fr s hf (by omega)
      rw [show (⟨(fr.num + 1) % 18446744073709551616, fr.area, fr.len + s.size, sumN fr.sum s s.size⟩ : Com) = comNext fr s from rfl] at hwith
      obtain ⟨nx, hnx⟩ : ∃ nx, nx = comNext fr s := ⟨_, rfl⟩
      rw [← hnx] at hwith hfit
      have HNX := hid hnx
      clear hnx
      generalize w.alloc (Obj.cells #[.int .u64 (fr.num : Int), .int .i64 (fr.area : Int), .int .i64 (fr.len : Int), .int .u32 fr.sum] 88) = W0 at *
      refine hwith.mono ?_
      rintro e w1 ⟨rfl, b1⟩
      clear hwith c0 c1 c2 c3 c4 c5 c6 cf
      have hW0 := lt_of_block q0.blk
      have q1 := q0.below b1 hW0
      have l1 := hl0.below b1 (lt_of_block hl0.blk)
      have d1 := hd0.below b1
      have B1 := b0.trans (b1.mono b0.size)
      have b2 := (Below.refl w1.heap.size w1).alloc (Nat.le_refl _) (Obj.cells #[.int .u64 (nx.num : Int), .int .i64 (nx.area : Int), .int .i64 (nx.len : Int), .int .u32 nx.sum] 88)
      have p2 := Box4.new w1 88 (.int .u64 (nx.num : Int)) (.int .i64 (nx.area : Int)) (.int .i64 (nx.len : Int)) (.int .u32 nx.sum)
      have q2 := q1.below b2 (lt_of_block q1.blk)
      have l2 := l1.below b2 (lt_of_block l1.blk)
      have d2 := d1.below b2
      have B2 := B1.trans (b2.mono B1.size)
      have hww : w.heap.size < w1.heap.size := lt_of_block q1.blk
      clear q1 l1 d1 B1 b1 q0 b0 hl0 hd0 HL0
      have q2' := q2
      have p2' := p2
      have l2' := l2
      obtain ⟨c0, c1, c2, c3, c4, c5, c6, cf⟩ := LogAt.cells l2'
      obtain ⟨_, a0, a1, a2, a3, af⟩ := q2'
      obtain ⟨_, n0, n1, n2, n3, nf⟩ := p2'
      unfold cv
      go_wp2_with fail
      generalize w1.alloc (Obj.cells #[.int .u64 (nx.num : Int), .int .i64 (nx.area : Int), .int .i64 (nx.len : Int), .int .u32 nx.sum] 88) = W2 at *
      have hlay := write_log W2 B l b D sl fr L.c nx L.tail tl s 0 hf hfit (by omega) ht ho hB d2 l2
      have hstepE : L.step D fr tl s = if (D.lay (chg fr tl s) (nx.num % 2) (comT nx)).2 ≠ 0 then ((D.lay (chg fr tl s) (nx.num % 2) (comT nx)).1, { L with er := (D.lay (chg fr tl s) (nx.num % 2) (comT nx)).2 }, (D.lay (chg fr tl s) (nx.num % 2) (comT nx)).2) else ((D.lay (chg fr tl s) (nx.num % 2) (comT nx)).1, ⟨nx, tailT (tl ++ s), 0⟩, 0) := by
        unfold Lg.step
        rw [if_neg (by simp [he]), if_neg hfull, ← HNX.out]
      have HST := hid hstepE
      clear hstepE
      generalize D.lay (chg fr tl s) (nx.num % 2) (comT nx) = R at *
      obtain ⟨D', e'⟩ := R
      simp only at hlay HST
      refine hlay.mono ?_
      rintro e W3 ⟨rfl, hN⟩
      have hlS := log_off (L := ⟨L.c, L.tail, 0⟩) l2 d2
      have hlw : l < w.heap.size := lt_of_block (LogAt.blk hl)
      have hbw : b < w.heap.size := lt_of_block hd.blk
      have hNS : ∀ k, w.heap.size ≤ k → ¬ Sd b sl k := fun k hk e => by
        rcases e with e | e
        · omega
        · have := (hd.own.lt k e).2; omega
      have hkeep : ∀ k, k < W2.heap.size → ¬ Sd b sl k → W3.heap[k]? = W2.heap[k]? := by obtain ⟨_, _, _, kf⟩ := hN; exact kf.oth
      have l3 : LogAt W3 l b L.c L.tail 0 := ⟨(hkeep l (lt_of_block l2.blk) hlS).trans l2.blk⟩
      have p3 := Box4.of ((hkeep w1.heap.size (lt_of_block p2.blk) (hNS _ (by omega))).trans p2.blk)
      have D3 := DS.up (S := Sd b sl) hN B2 (by omega) (fun k _ h => h)
      have hlsl : sl.ownBlock ≠ some l := fun e => hlS (Or.inr e)
      have hlb : l ≠ b := fun e => hlS (Or.inl e)
      have D4 := DS.set (S := Sd b sl) (S' := Sl b l sl) D3 l (fun k h => Or.inl h) (Or.inr rfl) hBl hlb hlw hlsl 6 (.int .i64 e')
      have l4 : LogAt (W3.setCell ⟨l, 6, none⟩ (.int .i64 e')) l b L.c L.tail e' := ⟨set_at (L := [_, _, _, _, _, _, _]) (k := 6) (v := .int .i64 e') l3.blk⟩
      have hww' : w1.heap.size ≠ l := by omega
      have p4 := Box4.of ((Below.heap_setCell W3 ⟨l, 6, none⟩ (.int .i64 e') w1.heap.size hww').trans p3.blk)
      clear c0 c1 c2 c3 c4 c5 c6 cf a0 a1 a2 a3 af n0 n1 n2 n3 nf hlay hN
      have l3' := l3
      have l4' := l4
      obtain ⟨x0, x1, x2, x3, x4, x5, x6, xf⟩ := LogAt.cells l3'
      by_cases h0 : e' = 0
      · subst h0
        have HE := hid (show L.step D fr tl s = (D', ⟨nx, tailT (tl ++ s), 0⟩, 0) from by rw [HST.out]; exact if_neg (by simp))
        go_wp2_with fail
        generalize W3.setCell ⟨l, 6, none⟩ (.int .i64 0) = Y at *
        have hTs : (tl ++ s).size ≤ maxLen := by rw [ByteArray.size_append]; unfold maxLen; omega
        have htail := fun v => tailOf_any v (tl ++ s) hTs
        have hsum : ∀ v, (Op.stringOp .add tl s).run Tryz.prog v = .ok (.string (tl ++ s)) v := fun v => run_string_add_sum v _ _ (by omega)
        clear hTs
        obtain ⟨_, y1, y2, y3, y4, y5, y6, yf⟩ := LogAt.cells l4'
        obtain ⟨nb, n0, n1, n2, n3, nf⟩ := p4
        go_region_held3 (fun X => X.cell? ⟨w1.heap.size, 0, none⟩ = some (.int .u64 (nx.num : Int)) ∧ X.cell? ⟨w1.heap.size, 1, none⟩ = some (.int .i64 (nx.area : Int)) ∧ X.cell? ⟨w1.heap.size, 2, none⟩ = some (.int .i64 (nx.len : Int)) ∧ X.cell? ⟨w1.heap.size, 3, none⟩ = some (.int .u32 nx.sum)) ((refine far4 nb ?_; with_reducible (repeat (first | exact far_refl _ _ | refine far_drew ?_ | refine far_set hww' ?_)))) ((go_at_call 51; refine (htail _).mono ?_; rintro e w' ⟨rfl, rfl⟩))
        have l5 : LogAt (((((Y.setCell ⟨l, 1, none⟩ (.int .u64 (nx.num : Int))).setCell ⟨l, 2, none⟩ (.int .i64 (nx.area : Int))).setCell ⟨l, 3, none⟩ (.int .i64 (nx.len : Int))).setCell ⟨l, 4, none⟩ (.int .u32 nx.sum)).setCell ⟨l, 5, none⟩ (.string (tailT (tl ++ s)))).drew l b nx (tailT (tl ++ s)) 0 :=
          ⟨set_at (L := [_, _, _, _, _, _, _]) (k := 5) (v := .string (tailT (tl ++ s))) (set_at (L := [_, _, _, _, _, _, _]) (k := 4) (v := .int .u32 nx.sum) (set_at (L := [_, _, _, _, _, _, _]) (k := 3) (v := .int .i64 (nx.len : Int)) (set_at (L := [_, _, _, _, _, _, _]) (k := 2) (v := .int .i64 (nx.area : Int)) (set_at (L := [_, _, _, _, _, _, _]) (k := 1) (v := .int .u64 (nx.num : Int)) l4.blk))))⟩
        have st : ∀ {Z : World} (n : Nat) (v : Value), DS (Sl b l sl) B b sl D' w Z → DS (Sl b l sl) B b sl D' w (Z.setCell ⟨l, n, none⟩ v) := fun n v h => DS.set (S := Sl b l sl) (S' := Sl b l sl) h l (fun k h => h) (Or.inr rfl) hBl hlb hlw hlsl n v
        have D5 := (st 5 (.string (tailT (tl ++ s))) (st 4 (.int .u32 nx.sum) (st 3 (.int .i64 (nx.len : Int)) (st 2 (.int .i64 (nx.area : Int)) (st 1 (.int .u64 (nx.num : Int)) D4))))).drew
        generalize ((((Y.setCell ⟨l, 1, none⟩ (.int .u64 (nx.num : Int))).setCell ⟨l, 2, none⟩ (.int .i64 (nx.area : Int))).setCell ⟨l, 3, none⟩ (.int .i64 (nx.len : Int))).setCell ⟨l, 4, none⟩ (.int .u32 nx.sum)).setCell ⟨l, 5, none⟩ (.string (tailT (tl ++ s))) = Z at *
        go_wp2
        go_ret
        rw [HE.out]
        exact ⟨rfl, l5, D5⟩
      · have h0' : (e' == 0) = false := beq_eq_false_iff_ne.2 h0
        have HE := hid (show L.step D fr tl s = (D', { L with er := e' }, e') from by rw [HST.out]; exact if_pos h0)
        go_wp2
        go_ret
        rw [HE.out]
        exact ⟨rfl, l4, D4⟩
  · have hE : L.step D fr tl s = (D, L, L.er) := by
      unfold Lg.step
      rw [if_pos he]
    have HE := hid hE
    have he' : (L.er == 0) = false := beq_eq_false_iff_ne.2 he
    have HL0 := hid hl0
    obtain ⟨c0, c1, c2, c3, c4, c5, c6, cf⟩ := LogAt.cells hl0
    unfold cv
    go_enter Tryz.func57, Tryz.ntmps57
    go_wp2
    go_ret
    rw [HE.out]
    exact ⟨rfl, HL0.out, HD.out.ds _ b0 hB⟩
end Go.Proofs.YtjldlmonccgopaaGreat
/- wal: Append, Checkpoint. -/
namespace Go.Proofs.YtjldlmonccgopaaGreat
open Go.RowKit
set_option linter.unusedVariables false
set_option maxRecDepth 100000
set_option linter.unusedSimpArgs false

def Lg.append (L : Lg) (D : Dsk) (s : ByteArray) : Dsk × Lg × Int := L.step D L.c L.tail s
def Lg.checkpoint (L : Lg) (D : Dsk) (s : ByteArray) : Dsk × Lg × Int := L.step D ⟨L.c.num, 1 - L.c.area, 0, 2166136261⟩ ByteArray.empty s
theorem DS.upl {S : Nat → Prop} {B b : Nat} {sl : Value} {D2 : Dsk} {w w1 w2 : World} (h : DS S B b sl D2 w1 w2) (b1 : Below w.heap.size w w1) (hB : B ≤ w.heap.size) : DS S B b sl D2 w w2 := by
  obtain ⟨sl2, h1, h2, h3⟩ := h
  have hs := b1.size
  refine ⟨sl2, h1, fun g hg => ?_, (b1.mono hB).trans h3.bel, fun k hk hn => (h3.oth k (by omega) hn).trans (b1.block k hk)⟩
  rcases h2 g hg with e | e
  · exact Or.inl e
  · right; omega
theorem LgAt.drew {w : World} {l b : Nat} {L : Lg} (h : LgAt w l b L) : LgAt w.drew l b L := LogAt.mk (w := w.drew) (show LogAt w l b L.c L.tail L.er from h).blk
theorem LNext.drew {B b l : Nat} {sl : Value} {D2 : Dsk} {L2 : Lg} {w w2 : World} (h : LNext B b l sl D2 L2 w.drew w2) : LNext B b l sl D2 L2 w w2.drew ∧ LNext B b l sl D2 L2 w w2 := by
  obtain ⟨h1, sl', h2, h3, h4, h5⟩ := h
  exact ⟨⟨h1.drew, sl', h2.drew, h3, ⟨((Below.refl B w).drew.trans h4).drew, h5⟩⟩, ⟨h1, sl', h2, h3, ⟨(Below.refl B w).drew.trans h4, h5⟩⟩⟩
theorem append_any (w : World) (B l b : Nat) (D : Dsk) (sl : Value) (L : Lg) (s : ByteArray) (hf : L.c.Fit) (ht : L.tail.size ≤ 32512) (hs : s.size ≤ 1099511627776) (ho : D.ops + 1000 < 4611686018427387904) (hB : B ≤ b) (hBl : B ≤ l) (hd : DiskAt w b D sl) (hl : LgAt w l b L) :
    Calls Tryz.prog 34 #[.pointer (some ⟨l, 0, none⟩), .string s] w fun e w' => e = .returned (.int .i64 (L.append D s).2.2) ∧ LNext B b l sl (L.append D s).1 (L.append D s).2.1 w w' := by
  have hst := step_any w.drew B l b D sl L L.c L.tail s hf ht hs ho hB hBl hd.drew (LgAt.drew hl)
  have hup := fun D2 L2 w2 => LNext.drew (B := B) (b := b) (l := l) (sl := sl) (D2 := D2) (L2 := L2) (w := w) (w2 := w2)
  have HUP := hid hup
  clear hup
  obtain ⟨c0, c1, c2, c3, c4, c5, c6, cf⟩ := LogAt.cells hl
  unfold Lg.append
  generalize L.step D L.c L.tail s = R at *
  unfold cv at hst
  go_enter Tryz.func34, Tryz.ntmps34
  go_wp2_with fail
  go_region_with ((go_at_call 57; refine hst.mono ?_; rintro e w2 ⟨rfl, hN⟩))
  all_goals
    simp only [List.getElem_toArray, List.getElem_cons_zero, List.getElem_cons_succ, Act.put, List.setIfInBounds_toArray, List.set_cons_succ, List.set_cons_zero]
    have hN1 := HUP.out _ _ _ hN
    go_wp2
    go_ret
    first
      | exact ⟨rfl, hN1.2⟩
      | exact ⟨rfl, hN1.1⟩
set_option maxHeartbeats 2000000 in
theorem checkpoint_any (w : World) (B l b : Nat) (D : Dsk) (sl : Value) (L : Lg) (s : ByteArray) (hf : L.c.Fit) (hs : s.size ≤ 1099511627776) (ho : D.ops + 1000 < 4611686018427387904) (hB : B ≤ b) (hBl : B ≤ l) (hd : DiskAt w b D sl) (hl : LgAt w l b L) :
    Calls Tryz.prog 37 #[.pointer (some ⟨l, 0, none⟩), .string s] w fun e w' => e = .returned (.int .i64 (L.checkpoint D s).2.2) ∧ LNext B b l sl (L.checkpoint D s).1 (L.checkpoint D s).2.1 w w' := by
  have hst := fun v hdv hlv => step_any v B l b D sl L ⟨L.c.num, 1 - L.c.area, 0, 2166136261⟩ ByteArray.empty s ⟨hf.num, by simp, by simp, by simp⟩ (by simp) hs ho hB hBl hdv hlv
  obtain ⟨c0, c1, c2, c3, c4, c5, c6, cf⟩ := LogAt.cells hl
  unfold Lg.checkpoint
  generalize L.step D ⟨L.c.num, 1 - L.c.area, 0, 2166136261⟩ ByteArray.empty s = R at *
  have hane := fun v => anew_any v L.c hf
  unfold cv at hst hane
  simp only at hst hane
  rw [show ByteArray.empty = (⟨#[]⟩ : ByteArray) from rfl] at hst
  generalize 1 - L.c.area = q at *
  have hlw : l < w.heap.size := lt_of_block (LogAt.blk hl)
  have hbw : b < w.heap.size := lt_of_block hd.blk
  go_enter Tryz.func37, Tryz.ntmps37
  go_wp2_with fail
  refine (hane w).mono ?_
  rintro e w1 ⟨rfl, b1⟩
  go_wp2_with fail
  refine (hst w1 (hd.below b1) (LogAt.below hl b1 hlw)).mono ?_
  rintro e w2 ⟨rfl, h1, hN⟩
  have hD := DS.upl (S := Sl b l sl) hN b1 (by omega)
  go_wp2
  go_ret
  exact ⟨rfl, h1, hD⟩
end Go.Proofs.YtjldlmonccgopaaGreat
