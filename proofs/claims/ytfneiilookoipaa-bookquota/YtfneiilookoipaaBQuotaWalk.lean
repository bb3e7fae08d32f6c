/- The law BookQuota. -/
import Derived.Test.YtfneiilookoipaaBLock
import Derived.Test.YtfneiilookoipaaBHeavy
namespace Go.Proofs.Ytfneiilookoipaa
open Go.RowKit Go.MapKept
set_option linter.unusedVariables false
set_option maxRecDepth 100000
set_option linter.unusedSimpArgs false

def whoB : ByteArray := ⟨#[119, 104, 111]⟩
theorem whoB_size : whoB.size ≤ 1099511627776 := by decide
/-- Of so many asks, each a Lock of a cent. -/
def Qst (O : Nat → Prop) (w : World) (v : Value) (k : Nat) : Prop := ∃ N S, Bk O w v N S ∧ (S whoB).asks = ((min k 24 : Nat) : Int) ∧ (S whoB).locked = ((min k 24 : Nat) : Int) ∧ (S whoB).live = fun _ => none
theorem Qst.below {O : Nat → Prop} {w w' : World} {v : Value} {k : Nat} (h : Qst O w v k) (b : Below w.heap.size w w') : Qst O w' v k := by
  obtain ⟨N, S, h1, h2⟩ := h
  exact ⟨N, S, h1.below b, h2⟩
theorem q_none {O : Nat → Prop} {w : World} {v : Value} {k : Nat} (h : Qst O w v k) :
    Calls Try.prog 9 #[v, .string ⟨#[119, 104, 111]⟩, .agg #[.int .i64 4, .int .i64 0, .int .i64 999, .string ⟨#[]⟩, .int .i64 0, .int .i64 0, .int .i64 0, .bool false, .int .i64 0, .int .i64 0, .string ⟨#[]⟩, .int .i64 0, .int .i64 0, .bool false, .int .i64 0, .slice none 0 0, .int .i64 0, .int .i64 0]] w fun e w' => e = .returned (.int .i64 (if k < 24 then 102 else 101)) ∧ Below w.heap.size w w' ∧ Qst O w' v k := by
  obtain ⟨N, S, hb, h1, h2, h3⟩ := h
  by_cases hk : k < 24
  · rw [if_pos hk]
    have hq : (S whoB).asks < 24 := by rw [h1]; omega
    refine (add_refused v (.string whoB) w 102 4 0 999 (.string ⟨#[]⟩) (.int .i64 0) (.int .i64 0) (.int .i64 0) (.bool false) (.int .i64 0) (.int .i64 0) (.string ⟨#[]⟩) (.int .i64 0) (.int .i64 0) (.bool false) (.int .i64 0) (.slice none 0 0) (.int .i64 0) (.int .i64 0) (by decide) (fun W bW => may_cancel (hb.below bW) whoB whoB_size 0 999 (.string ⟨#[]⟩) (.int .i64 0) (.int .i64 0) (.int .i64 0) (.bool false) (.int .i64 0) (.int .i64 0) (.string ⟨#[]⟩) (.int .i64 0) (.int .i64 0) (.bool false) (.int .i64 0) (.slice none 0 0) (.int .i64 0) (.int .i64 0) hq 102 (fun X bX => mayCancel_none (hb.below (chain2 bW bX)) whoB whoB_size 999 (by unfold In64; omega) (by rw [h3])))).mono ?_
    rintro e w' ⟨rfl, b⟩
    exact ⟨rfl, b, N, S, hb.below b, h1, h2, h3⟩
  · rw [if_neg hk]
    refine (add_refused v (.string whoB) w 101 4 0 999 (.string ⟨#[]⟩) (.int .i64 0) (.int .i64 0) (.int .i64 0) (.bool false) (.int .i64 0) (.int .i64 0) (.string ⟨#[]⟩) (.int .i64 0) (.int .i64 0) (.bool false) (.int .i64 0) (.slice none 0 0) (.int .i64 0) (.int .i64 0) (by decide) (fun W bW => may_quota (hb.below bW) whoB whoB_size 4 0 999 (.string ⟨#[]⟩) (.int .i64 0) (.int .i64 0) (.int .i64 0) (.bool false) (.int .i64 0) (.int .i64 0) (.string ⟨#[]⟩) (.int .i64 0) (.int .i64 0) (.bool false) (.int .i64 0) (.slice none 0 0) (.int .i64 0) (.int .i64 0) (by omega) (by rw [h1]; omega))).mono ?_
    rintro e w' ⟨rfl, b⟩
    exact ⟨rfl, b, N, S, hb.below b, h1, h2, h3⟩
theorem q_lock {O : Nat → Prop} {w : World} {v : Value} {k : Nat} (h : Qst O w v k) :
    Calls Try.prog 9 #[v, .string ⟨#[119, 104, 111]⟩, .agg #[.int .i64 1, .int .i64 1, .int .i64 0, .string ⟨#[]⟩, .int .i64 0, .int .i64 0, .int .i64 0, .bool false, .int .i64 0, .int .i64 0, .string ⟨#[]⟩, .int .i64 0, .int .i64 0, .bool false, .int .i64 0, .slice none 0 0, .int .i64 0, .int .i64 0]] w fun e w' => e = .returned (.int .i64 (if k < 24 then 0 else 101)) ∧ Kx O w w' ∧ Qst O w' v (k + 1) := by
  obtain ⟨N, S, hb, h1, h2, h3⟩ := h
  by_cases hk : k < 24
  · rw [if_pos hk]
    have hq : (S whoB).asks < 24 := by rw [h1]; omega
    refine (add_lock hb whoB whoB_size 1 0 (.string ⟨#[]⟩) (.int .i64 0) (.int .i64 0) (.int .i64 0) (.bool false) (.int .i64 0) (.int .i64 0) (.string ⟨#[]⟩) (.int .i64 0) (.int .i64 0) (.bool false) (.int .i64 0) (.slice none 0 0) (.int .i64 0) (.int .i64 0) hq (by omega)).mono ?_
    rintro e w' ⟨rfl, b, hb'⟩
    refine ⟨rfl, b, _, _, hb', ?_, ?_, ?_⟩
    · rw [upd_same]; simp only [lockP, h1]; omega
    · rw [upd_same]; simp only [lockP, h2]; omega
    · rw [upd_same]; exact h3
  · rw [if_neg hk]
    refine (add_refused v (.string whoB) w 101 1 1 0 (.string ⟨#[]⟩) (.int .i64 0) (.int .i64 0) (.int .i64 0) (.bool false) (.int .i64 0) (.int .i64 0) (.string ⟨#[]⟩) (.int .i64 0) (.int .i64 0) (.bool false) (.int .i64 0) (.slice none 0 0) (.int .i64 0) (.int .i64 0) (by decide) (fun W bW => may_quota (hb.below bW) whoB whoB_size 1 1 0 (.string ⟨#[]⟩) (.int .i64 0) (.int .i64 0) (.int .i64 0) (.bool false) (.int .i64 0) (.int .i64 0) (.string ⟨#[]⟩) (.int .i64 0) (.int .i64 0) (.bool false) (.int .i64 0) (.slice none 0 0) (.int .i64 0) (.int .i64 0) (by omega) (by rw [h1]; omega))).mono ?_
    rintro e w' ⟨rfl, b⟩
    exact ⟨rfl, Kx.of_below b, N, S, hb.below b, by rw [h1]; omega, by rw [h2]; omega, h3⟩
theorem q_asks {O : Nat → Prop} {w : World} {v : Value} {k : Nat} (h : Qst O w v k) : Calls Try.prog 10 #[v, .string ⟨#[119, 104, 111]⟩] w fun e w' => e = .returned (.int .i64 ((min k 24 : Nat) : Int)) ∧ w' = w := by
  obtain ⟨N, S, hb, h1, _⟩ := h
  rw [← h1]; exact asks_any hb whoB whoB_size
theorem q_locked {O : Nat → Prop} {w : World} {v : Value} {k : Nat} (h : Qst O w v k) : Calls Try.prog 11 #[v, .string ⟨#[119, 104, 111]⟩] w fun e w' => e = .returned (.int .i64 ((min k 24 : Nat) : Int)) ∧ w' = w := by
  obtain ⟨N, S, hb, _, h1, _⟩ := h
  rw [← h1]; exact locked_any hb whoB whoB_size
theorem q_full {O : Nat → Prop} {w : World} {v : Value} {k : Nat} (h : Qst O w v k) (hk : 24 ≤ k) (Z : Kb) (h1 : 1 ≤ Z.kind) (h2 : Z.kind ≤ 4) :
    Calls Try.prog 9 #[v, .string ⟨#[119, 104, 111]⟩, .agg (kbC Z)] w fun e w' => e = .returned (.int .i64 101) ∧ Below w.heap.size w w' ∧ Qst O w' v k := by
  obtain ⟨N, S, hb, e1, e2, e3⟩ := h
  refine (add_refused v (.string whoB) w 101 Z.kind Z.cents Z.seq (.string Z.swho) (.int .i64 Z.sseq) (.int .i64 Z.szone) (.int .i64 Z.shour) (.bool Z.sbuy) (.int .i64 Z.sqty) (.int .i64 Z.sprice) (.string Z.bwho) (.int .i64 Z.bseq) (.int .i64 Z.bzone) (.bool Z.bbuy) (.int .i64 Z.bprice) Z.qv (.int .i64 Z.parent) (.int .i64 Z.group) (by decide) (fun W bW => may_quota (hb.below bW) whoB whoB_size Z.kind Z.cents Z.seq (.string Z.swho) (.int .i64 Z.sseq) (.int .i64 Z.szone) (.int .i64 Z.shour) (.bool Z.sbuy) (.int .i64 Z.sqty) (.int .i64 Z.sprice) (.string Z.bwho) (.int .i64 Z.bseq) (.int .i64 Z.bzone) (.bool Z.bbuy) (.int .i64 Z.bprice) Z.qv (.int .i64 Z.parent) (.int .i64 Z.group) ⟨h1, h2⟩ (by rw [e1]; omega))).mono ?_
  rintro e w' ⟨rfl, b⟩
  exact ⟨rfl, b, N, S, hb.below b, e1, e2, e3⟩
theorem tmod40 (n : Int) (h : 0 ≤ n ∧ n ≤ 255) : ∃ M : Nat, n.tmod 40 = (M : Int) ∧ M < 40 := by
  have h1 := Int.tmod_nonneg 40 h.1
  have h2 := Int.tmod_lt_of_pos n (show (0 : Int) < 40 by omega)
  exact ⟨(n.tmod 40).toNat, by omega, by omega⟩
theorem two_new (w : World) (A B : Obj) : ((w.alloc A).alloc B).heap[w.heap.size]? = some A ∧ ((w.alloc A).alloc B).heap[w.heap.size + 1]? = some B ∧ Below w.heap.size w ((w.alloc A).alloc B) :=
  ⟨(heap_alloc_old _ _ (by simp)).trans (heap_alloc_last _ _), heap_alloc2_new _ _ _, alloc2_below _ _ _⟩
set_option maxHeartbeats 6400000 in
theorem bookQuota_any (n : Int) (a : Option Addr) (len cap : Nat) (z : Nat → Kb) (w : World) (hn : (Lit.int .u8 n).wf = true) (h : IsKbs w a len cap z) :
    Calls Try.prog 3 #[.int .u8 n, .slice a len cap] w fun e w' => e = .returned (.bool true) ∧ Below w.heap.size w w' := by
  have hn := bounds_u8 hn
  obtain ⟨M, hM, hM2⟩ := tmod40 n hn
  have hlen : len ≤ 9223372036854775807 := by have := h.len; omega
  have hw1 : wrap64 n = n := by unfold wrap64; omega
  have hw2 : wrap64 (M : Int) = (M : Int) := by unfold wrap64; omega
  go_enter Try.func3, Try.ntmps3
  go_wp2_with fail
  refine (heavy10_any w a len cap z h).mono ?_
  rintro e w1 ⟨hr, b1⟩
  rcases hr with rfl | ⟨rfl, _⟩
  · go_wp2
    go_ret
    exact ⟨rfl, b1⟩
  go_wp2_with fail
  refine (new_any w1).mono ?_
  rintro e w2 ⟨v, rfl, b2, hbk⟩
  have q0 : Qst (fun i => w1.heap.size ≤ i ∧ i < w2.heap.size) w2 v 0 := ⟨_, _, hbk, rfl, rfl, rfl⟩
  clear hbk
  go_wp2_with (refine wpList_store_new rfl 32 _ _ rfl _ _ _ rfl (by simp) rfl 18 info_Ask (by rfl) (by rfl) (by simp [Value.oneCell']) ?_)
  obtain ⟨e1, e2, b3⟩ := two_new w2 (Obj.cells #[.int .i64 1, .int .i64 1, .int .i64 0, .string ⟨#[]⟩, .int .i64 0, .int .i64 0, .int .i64 0, .bool false, .int .i64 0, .int .i64 0, .string ⟨#[]⟩, .int .i64 0, .int .i64 0, .bool false, .int .i64 0, .slice none 0 0, .int .i64 0, .int .i64 0] 32) (Obj.cells #[.int .i64 4, .int .i64 0, .int .i64 999, .string ⟨#[]⟩, .int .i64 0, .int .i64 0, .int .i64 0, .bool false, .int .i64 0, .int .i64 0, .string ⟨#[]⟩, .int .i64 0, .int .i64 0, .bool false, .int .i64 0, .slice none 0 0, .int .i64 0, .int .i64 0] 32)
  replace q0 := q0.below b3
  have hz2 : w1.heap.size ≤ w2.heap.size := b2.size
  generalize (w2.alloc (Obj.cells #[.int .i64 1, .int .i64 1, .int .i64 0, .string ⟨#[]⟩, .int .i64 0, .int .i64 0, .int .i64 0, .bool false, .int .i64 0, .int .i64 0, .string ⟨#[]⟩, .int .i64 0, .int .i64 0, .bool false, .int .i64 0, .slice none 0 0, .int .i64 0, .int .i64 0] 32)).alloc (Obj.cells #[.int .i64 4, .int .i64 0, .int .i64 999, .string ⟨#[]⟩, .int .i64 0, .int .i64 0, .int .i64 0, .bool false, .int .i64 0, .int .i64 0, .string ⟨#[]⟩, .int .i64 0, .int .i64 0, .bool false, .int .i64 0, .slice none 0 0, .int .i64 0, .int .i64 0] 32) = W0 at *
  have hO : ∀ i, (w1.heap.size ≤ i ∧ i < w2.heap.size) → w1.heap.size ≤ i := fun i hi => hi.1
  have hg1 : ¬ (w1.heap.size ≤ w2.heap.size ∧ w2.heap.size < w2.heap.size) := by omega
  have hg2 : ¬ (w1.heap.size ≤ w2.heap.size + 1 ∧ w2.heap.size + 1 < w2.heap.size) := by omega
  have hW0 : w1.heap.size ≤ W0.heap.size := Nat.le_trans hz2 b3.size
  have B0 : Below w.heap.size w W0 := chain2 b1 (chain2 b2 b3)
  have hl1 : ∀ X, Kx (fun i => w1.heap.size ≤ i ∧ i < w2.heap.size) W0 X → X.heap[w2.heap.size]? = some (Obj.cells #[.int .i64 1, .int .i64 1, .int .i64 0, .string ⟨#[]⟩, .int .i64 0, .int .i64 0, .int .i64 0, .bool false, .int .i64 0, .int .i64 0, .string ⟨#[]⟩, .int .i64 0, .int .i64 0, .bool false, .int .i64 0, .slice none 0 0, .int .i64 0, .int .i64 0] 32 (0, 0)) := fun X k => k.blk e1 hg1
  have hl2 : ∀ X, Kx (fun i => w1.heap.size ≤ i ∧ i < w2.heap.size) W0 X → X.heap[w2.heap.size + 1]? = some (Obj.cells #[.int .i64 4, .int .i64 0, .int .i64 999, .string ⟨#[]⟩, .int .i64 0, .int .i64 0, .int .i64 0, .bool false, .int .i64 0, .int .i64 0, .string ⟨#[]⟩, .int .i64 0, .int .i64 0, .bool false, .int .i64 0, .slice none 0 0, .int .i64 0, .int .i64 0] 32 (0, 0)) := fun X k => k.blk e2 hg2
  have HST : ∀ X, Kx (fun i => w1.heap.size ≤ i ∧ i < w2.heap.size) W0 X → Below w.heap.size w X := fun X k => B0.trans ((k.below hW0 hO).mono b1.size)
  obtain ⟨O, hOO⟩ : ∃ O : Nat → Prop, O = fun i => w1.heap.size ≤ i ∧ i < w2.heap.size := ⟨_, rfl⟩
  rw [← hOO] at q0 hl1 hl2 HST
  have HST := hid HST
  have HL1 := hid hl1
  have HL2 := hid hl2
  clear hOO hg1 hg2 hO e1 e2 b3 hl1 hl2 b2 B0 hW0 hz2
  generalize hg : w2.heap.size = g at *
  clear hg
  go_loopw [8] (fun i wr => ∃ k : Nat, k ≤ M ∧ i = .int .i64 (k : Int) ∧ Kx O W0 wr ∧ Hid (Qst O wr v k)) (fun i _ => M - (intOf i).toNat)
  case atStart => exact ⟨0, Nat.zero_le _, rfl, Kx.refl _ _, q0⟩
  case round =>
    obtain ⟨k, hk, rfl, kx, hq⟩ := hrel
    by_cases hlt : k < M
    · have l2 := HL2.out wr kx
      have a0 := blk_cell l2 0 (.int .i64 4) rfl
      have a1 := blk_cell l2 1 (.int .i64 0) rfl
      have a2 := blk_cell l2 2 (.int .i64 999) rfl
      have a3 := blk_cell l2 3 (.string ⟨#[]⟩) rfl
      have a4 := blk_cell l2 4 (.int .i64 0) rfl
      have a5 := blk_cell l2 5 (.int .i64 0) rfl
      have a6 := blk_cell l2 6 (.int .i64 0) rfl
      have a7 := blk_cell l2 7 (.bool false) rfl
      have a8 := blk_cell l2 8 (.int .i64 0) rfl
      have a9 := blk_cell l2 9 (.int .i64 0) rfl
      have a10 := blk_cell l2 10 (.string ⟨#[]⟩) rfl
      have a11 := blk_cell l2 11 (.int .i64 0) rfl
      have a12 := blk_cell l2 12 (.int .i64 0) rfl
      have a13 := blk_cell l2 13 (.bool false) rfl
      have a14 := blk_cell l2 14 (.int .i64 0) rfl
      have a15 := blk_cell l2 15 (.slice none 0 0) rfl
      have a16 := blk_cell l2 16 (.int .i64 0) rfl
      have a17 := blk_cell l2 17 (.int .i64 0) rfl
      clear l2
      by_cases hk24 : k < 24
      · have c1 : decide ((24 : Int) ≤ (k : Int)) = false := by simp; omega
        have m1 : min ((k : Int) + 1) 24 = (k : Int) + 1 := by omega
        have m2 : (if (24 : Int) < (k : Int) + 1 then (24 : Int) else (k : Int) + 1) = (k : Int) + 1 := by split <;> omega
        have m3 : ((min (k + 1) 24 : Nat) : Int) = (k : Int) + 1 := by omega
        go_wp2_with fail
        have hA := q_none hq.out
        rw [if_pos hk24] at hA
        refine hA.mono ?_
        rintro e X1 ⟨rfl, bb, hq1⟩
        have kx1 := kx.trans (Kx.of_below bb)
        have l1 := HL1.out X1 kx1
        clear a0 a1 a2 a3 a4 a5 a6 a7 a8 a9 a10 a11 a12 a13 a14 a15 a16 a17
        have a0 := blk_cell l1 0 (.int .i64 1) rfl
        have a1 := blk_cell l1 1 (.int .i64 1) rfl
        have a2 := blk_cell l1 2 (.int .i64 0) rfl
        have a3 := blk_cell l1 3 (.string ⟨#[]⟩) rfl
        have a4 := blk_cell l1 4 (.int .i64 0) rfl
        have a5 := blk_cell l1 5 (.int .i64 0) rfl
        have a6 := blk_cell l1 6 (.int .i64 0) rfl
        have a7 := blk_cell l1 7 (.bool false) rfl
        have a8 := blk_cell l1 8 (.int .i64 0) rfl
        have a9 := blk_cell l1 9 (.int .i64 0) rfl
        have a10 := blk_cell l1 10 (.string ⟨#[]⟩) rfl
        have a11 := blk_cell l1 11 (.int .i64 0) rfl
        have a12 := blk_cell l1 12 (.int .i64 0) rfl
        have a13 := blk_cell l1 13 (.bool false) rfl
        have a14 := blk_cell l1 14 (.int .i64 0) rfl
        have a15 := blk_cell l1 15 (.slice none 0 0) rfl
        have a16 := blk_cell l1 16 (.int .i64 0) rfl
        have a17 := blk_cell l1 17 (.int .i64 0) rfl
        have HQ1 := hid hq1
        clear l1 hA hq1
        go_wp2_with fail
        have hB := q_lock HQ1.out
        rw [if_pos hk24] at hB
        refine hB.mono ?_
        rintro e X2 ⟨rfl, kb, hq2⟩
        have kx2 := kx1.trans kb
        have HQ2 := hid hq2
        clear hB hq2
        go_wp2_with fail
        have hC := q_asks HQ2.out
        rw [m3] at hC
        refine hC.mono ?_
        rintro e X3 ⟨rfl, rfl⟩
        clear hC
        go_wp2
        go_roundw
        case rel => exact ⟨k + 1, by omega, by go_num, kx2, HQ2⟩
        case measure => simp [intOf]; omega
      · have c1 : decide ((24 : Int) ≤ (k : Int)) = true := by simp; omega
        have m1 : min ((k : Int) + 1) 24 = 24 := by omega
        have m2 : (if (24 : Int) < (k : Int) + 1 then (24 : Int) else (k : Int) + 1) = 24 := by split <;> omega
        have m3 : ((min (k + 1) 24 : Nat) : Int) = 24 := by omega
        go_wp2_with fail
        have hA := q_none hq.out
        rw [if_neg hk24] at hA
        refine hA.mono ?_
        rintro e X1 ⟨rfl, bb, hq1⟩
        have kx1 := kx.trans (Kx.of_below bb)
        have l1 := HL1.out X1 kx1
        clear a0 a1 a2 a3 a4 a5 a6 a7 a8 a9 a10 a11 a12 a13 a14 a15 a16 a17
        have a0 := blk_cell l1 0 (.int .i64 1) rfl
        have a1 := blk_cell l1 1 (.int .i64 1) rfl
        have a2 := blk_cell l1 2 (.int .i64 0) rfl
        have a3 := blk_cell l1 3 (.string ⟨#[]⟩) rfl
        have a4 := blk_cell l1 4 (.int .i64 0) rfl
        have a5 := blk_cell l1 5 (.int .i64 0) rfl
        have a6 := blk_cell l1 6 (.int .i64 0) rfl
        have a7 := blk_cell l1 7 (.bool false) rfl
        have a8 := blk_cell l1 8 (.int .i64 0) rfl
        have a9 := blk_cell l1 9 (.int .i64 0) rfl
        have a10 := blk_cell l1 10 (.string ⟨#[]⟩) rfl
        have a11 := blk_cell l1 11 (.int .i64 0) rfl
        have a12 := blk_cell l1 12 (.int .i64 0) rfl
        have a13 := blk_cell l1 13 (.bool false) rfl
        have a14 := blk_cell l1 14 (.int .i64 0) rfl
        have a15 := blk_cell l1 15 (.slice none 0 0) rfl
        have a16 := blk_cell l1 16 (.int .i64 0) rfl
        have a17 := blk_cell l1 17 (.int .i64 0) rfl
        have HQ1 := hid hq1
        clear l1 hA hq1
        go_wp2_with fail
        have hB := q_lock HQ1.out
        rw [if_neg hk24] at hB
        refine hB.mono ?_
        rintro e X2 ⟨rfl, kb, hq2⟩
        have kx2 := kx1.trans kb
        have HQ2 := hid hq2
        clear hB hq2
        go_wp2_with fail
        have hC := q_asks HQ2.out
        rw [m3] at hC
        refine hC.mono ?_
        rintro e X3 ⟨rfl, rfl⟩
        clear hC
        go_wp2
        go_roundw
        case rel => exact ⟨k + 1, by omega, by go_num, kx2, HQ2⟩
        case measure => simp [intOf]; omega
    · obtain rfl : k = M := by omega
      generalize wr = V0 at *
      have m3 : ((min k 24 : Nat) : Int) = min (k : Int) 24 := by omega
      by_cases hf : 24 ≤ k
      · have m4 : min (k : Int) 24 = 24 := by omega
        have m5 : (if (24 : Int) < (k : Int) then (24 : Int) else (k : Int)) = 24 := by split <;> omega
        go_wp2_with fail
        have hC := q_asks hq.out
        rw [m3, m4] at hC
        refine hC.mono ?_
        rintro e X3 ⟨rfl, hX3⟩
        subst hX3
        clear hC
        go_wp2
        go_loopw [12] (fun j wr => ∃ q : Nat, q ≤ len ∧ j = .int .i64 (q : Int) ∧ Kx O W0 wr ∧ Hid (Qst O wr v k)) (fun j _ => len - (intOf j).toNat)
        case atStart => exact ⟨0, Nat.zero_le _, rfl, kx, hq⟩
        case round =>
          obtain ⟨q, hq1, rfl, kxq, hqq⟩ := hrel
          by_cases hql : q < len
          · obtain ⟨b, off, rfl, hst, hfit, hl, hc, hbl⟩ := h.at q hql
            have bw := HST.out wr kxq
            have hst2 := hst.kx (S := fun _ => False) (Kx.of_below bw) (fun h => h)
            have k0 : wr.cell? ⟨b, off + q * 19 + 1, none⟩ = some (.int .i64 (z q).kind) := hst2.ask 0 (.int .i64 (z q).kind) rfl
            have k1 : wr.cell? ⟨b, off + q * 19 + 2, none⟩ = some (.int .i64 (z q).cents) := hst2.ask 1 (.int .i64 (z q).cents) rfl
            have k2 : wr.cell? ⟨b, off + q * 19 + 3, none⟩ = some (.int .i64 (z q).seq) := hst2.ask 2 (.int .i64 (z q).seq) rfl
            have k3 : wr.cell? ⟨b, off + q * 19 + 4, none⟩ = some (.string (z q).swho) := hst2.ask 3 (.string (z q).swho) rfl
            have k4 : wr.cell? ⟨b, off + q * 19 + 5, none⟩ = some (.int .i64 (z q).sseq) := hst2.ask 4 (.int .i64 (z q).sseq) rfl
            have k5 : wr.cell? ⟨b, off + q * 19 + 6, none⟩ = some (.int .i64 (z q).szone) := hst2.ask 5 (.int .i64 (z q).szone) rfl
            have k6 : wr.cell? ⟨b, off + q * 19 + 7, none⟩ = some (.int .i64 (z q).shour) := hst2.ask 6 (.int .i64 (z q).shour) rfl
            have k7 : wr.cell? ⟨b, off + q * 19 + 8, none⟩ = some (.bool (z q).sbuy) := hst2.ask 7 (.bool (z q).sbuy) rfl
            have k8 : wr.cell? ⟨b, off + q * 19 + 9, none⟩ = some (.int .i64 (z q).sqty) := hst2.ask 8 (.int .i64 (z q).sqty) rfl
            have k9 : wr.cell? ⟨b, off + q * 19 + 10, none⟩ = some (.int .i64 (z q).sprice) := hst2.ask 9 (.int .i64 (z q).sprice) rfl
            have k10 : wr.cell? ⟨b, off + q * 19 + 11, none⟩ = some (.string (z q).bwho) := hst2.ask 10 (.string (z q).bwho) rfl
            have k11 : wr.cell? ⟨b, off + q * 19 + 12, none⟩ = some (.int .i64 (z q).bseq) := hst2.ask 11 (.int .i64 (z q).bseq) rfl
            have k12 : wr.cell? ⟨b, off + q * 19 + 13, none⟩ = some (.int .i64 (z q).bzone) := hst2.ask 12 (.int .i64 (z q).bzone) rfl
            have k13 : wr.cell? ⟨b, off + q * 19 + 14, none⟩ = some (.bool (z q).bbuy) := hst2.ask 13 (.bool (z q).bbuy) rfl
            have k14 : wr.cell? ⟨b, off + q * 19 + 15, none⟩ = some (.int .i64 (z q).bprice) := hst2.ask 14 (.int .i64 (z q).bprice) rfl
            have k15 : wr.cell? ⟨b, off + q * 19 + 16, none⟩ = some ((z q).qv) := hst2.ask 15 ((z q).qv) rfl
            have k16 : wr.cell? ⟨b, off + q * 19 + 17, none⟩ = some (.int .i64 (z q).parent) := hst2.ask 16 (.int .i64 (z q).parent) rfl
            have k17 : wr.cell? ⟨b, off + q * 19 + 18, none⟩ = some (.int .i64 (z q).group) := hst2.ask 17 (.int .i64 (z q).group) rfl
            have hF := fun (h1 : 1 ≤ (z q).kind) (h2 : (z q).kind ≤ 4) => q_full hqq.out hf (z q) h1 h2
            have HF := hid hF
            have hfk := hfit.kind
            unfold In64 at hfk
            clear hF hst hst2 hfit bw
            by_cases h1 : 1 ≤ (z q).kind
            · by_cases h2 : (z q).kind ≤ 4
              · have hF := HF.out h1 h2
                unfold kbC at hF
                generalize (z q).kind = K at *
                go_wp2_with fail
                refine hF.mono ?_
                rintro e X4 ⟨rfl, b4, hq4⟩
                clear hF
                have kx4 := kxq.trans (Kx.of_below b4)
                go_wp2
                go_roundw
                case rel => exact ⟨q + 1, by omega, by go_num, kx4, hid hq4⟩
                case measure => simp [intOf]; omega
              · have h2' : decide ((z q).kind ≤ 4) = false := by simpa using h2
                generalize (z q).kind = K at *
                go_wp2
                go_roundw
                case rel => exact ⟨q + 1, by omega, by go_num, kxq, hqq⟩
                case measure => simp [intOf]; omega
            · have h1' : decide (1 ≤ (z q).kind) = false := by simpa using h1
              generalize (z q).kind = K at *
              go_wp2
              go_roundw
              case rel => exact ⟨q + 1, by omega, by go_num, kxq, hqq⟩
              case measure => simp [intOf]; omega
          · have hql' : ¬ ((q : Int) < (len : Int)) := by omega
            go_wp2_with fail
            have hD := q_locked hqq.out
            rw [m3, m4] at hD
            refine hD.mono ?_
            rintro e X5 ⟨rfl, hX5⟩
            subst hX5
            go_wp2
            go_ret
            exact ⟨rfl, HST.out _ kxq⟩
      · have m4 : min (k : Int) 24 = (k : Int) := by omega
        have m5 : (if (24 : Int) < (k : Int) then (24 : Int) else (k : Int)) = (k : Int) := by split <;> omega
        have hne : ((k : Int) == 24) = false := by simp; omega
        have hne2 : ¬ (k : Int) = 24 := by omega
        go_wp2_with fail
        have hC := q_asks hq.out
        rw [m3, m4] at hC
        refine hC.mono ?_
        rintro e X3 ⟨rfl, hX3⟩
        subst hX3
        clear hC
        go_wp2
        go_loopw [12] (fun j wr => j = .int .i64 0 ∧ wr = X3) (fun j _ => 0)
        case atStart => exact ⟨rfl, rfl⟩
        case round =>
          obtain ⟨rfl, rfl⟩ := hrel
          have hD := q_locked hq.out
          rw [m3, m4] at hD
          by_cases h0 : 0 < len
          · go_wp2_with fail
            refine hD.mono ?_
            rintro e X5 ⟨rfl, hX5⟩
            subst hX5
            go_wp2
            go_ret
            exact ⟨rfl, HST.out _ kx⟩
          · have h0' : len = 0 := by omega
            go_wp2_with fail
            refine hD.mono ?_
            rintro e X5 ⟨rfl, hX5⟩
            subst hX5
            go_wp2
            go_ret
            exact ⟨rfl, HST.out _ kx⟩
end Go.Proofs.Ytfneiilookoipaa
