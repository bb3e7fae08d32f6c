/- book: Add of a step or a block. -/
import Derived.Test.YtbkobimbdiogfaaBMayA
import Derived.Test.YtbkobimbdiogfaaBLock
import Derived.Test.YtbkobimbdiogfaaBIns
import Derived.Deep.RegionHeld3
namespace Go.Proofs.Ytbkobimbdiogfaa
open Go.RowKit Go.MapKept
open Go.ChangeMaps (setBlock heap_setBlock_same heap_setBlock_other)
set_option linter.unusedVariables false
set_option maxRecDepth 100000
set_option linter.unusedSimpArgs false

/-- The place of s among rising numbers. -/
def placeOf (L : List Int) (s : Int) : Nat := L.countP (· < s)
def ordP (p : Ps) (z : Kb) : Ps := { p with asks := p.asks + 1, seqs := ins p.seqs (placeOf p.seqs (seqK z)) (seqK z), live := fun s => if s = seqK z then some (kbO z) else p.live s }
theorem mem_ins {L : List Int} {i : Nat} {x y : Int} : y ∈ ins L i x ↔ y = x ∨ y ∈ L := by
  unfold ins
  rw [List.mem_append, List.mem_cons]
  constructor
  · rintro (h | h | h)
    · exact Or.inr (List.mem_of_mem_take h)
    · exact Or.inl h
    · exact Or.inr (List.mem_of_mem_drop h)
  · rintro (h | h)
    · exact Or.inr (Or.inl h)
    · rw [← List.take_append_drop i L] at h
      rcases List.mem_append.1 h with h | h
      · exact Or.inl h
      · exact Or.inr (Or.inr h)
theorem place_split : ∀ (L : List Int) (s : Int), L.Pairwise (· < ·) → (∀ y ∈ L.take (placeOf L s), y < s) ∧ (∀ y ∈ L.drop (placeOf L s), s ≤ y)
  | [], s, _ => by simp [placeOf]
  | a :: L, s, h => by
    obtain ⟨h1, h2⟩ := List.pairwise_cons.1 h
    have ih := place_split L s h2
    by_cases ha : a < s
    · have e : placeOf (a :: L) s = placeOf L s + 1 := by unfold placeOf; rw [List.countP_cons]; simp [ha]
      rw [e, List.take_succ_cons, List.drop_succ_cons]
      exact ⟨fun y hy => by rcases List.mem_cons.1 hy with rfl | hy; exact ha; exact ih.1 y hy, ih.2⟩
    · have e : placeOf (a :: L) s = 0 := by
        unfold placeOf
        rw [List.countP_eq_zero]
        intro y hy
        rcases List.mem_cons.1 hy with rfl | hy
        · simpa using ha
        · have := h1 y hy
          simp; omega
      rw [e]
      refine ⟨by simp, fun y hy => ?_⟩
      simp only [List.drop_zero] at hy
      rcases List.mem_cons.1 hy with rfl | hy
      · omega
      · have := h1 y hy; omega
theorem ins_rise {L : List Int} {s : Int} (h : L.Pairwise (· < ·)) (hn : s ∉ L) : (ins L (placeOf L s) s).Pairwise (· < ·) := by
  obtain ⟨h1, h2⟩ := place_split L s h
  unfold ins
  rw [List.pairwise_append, List.pairwise_cons]
  refine ⟨h.sublist (List.take_sublist _ _), ⟨fun y hy => ?_, h.sublist (List.drop_sublist _ _)⟩, fun a ha b hb => ?_⟩
  · have := h2 y hy
    have : y ≠ s := fun e => hn (e ▸ List.mem_of_mem_drop hy)
    omega
  · have := h1 a ha
    rcases List.mem_cons.1 hb with rfl | hb
    · exact this
    · have := h2 b hb; omega
theorem seqK_in {w : World} {z : Kb} (h : KbFits w z) : In64 (seqK z) := by
  unfold seqK
  split
  · exact h.sseq
  · exact h.bseq
theorem ordP_sane {p : Ps} {w : World} {z : Kb} (h : Sane p) (hq : p.asks < 24) (hz : KbFits w z) (hk : z.kind = 2 ∨ z.kind = 3) (hl : z.Q.length ≤ 1000000000) (hn : p.seqs.contains (seqK z) = false) : Sane (ordP p z) := by
  have hn' : seqK z ∉ p.seqs := by
    intro hm
    have := List.contains_iff_mem.2 hm
    rw [hn] at this; cases this
  obtain ⟨h1, h2, h3, h4, h5, h6, h7⟩ := h
  refine ⟨by simp only [ordP]; omega, by simp only [ordP]; omega, by simp only [ordP, ins_len]; omega, ins_rise h4 hn', ?_, ?_, ?_⟩
  · intro s hs
    rcases mem_ins.1 hs with rfl | hs
    · exact seqK_in hz
    · exact h5 s hs
  · intro s o hs
    simp only [ordP] at hs ⊢
    split at hs
    · rename_i e
      cases hs
      exact ⟨mem_ins.2 (Or.inl e), by rw [seqK_O]; exact e.symm⟩
    · exact ⟨mem_ins.2 (Or.inr (h6 s o hs).1), (h6 s o hs).2⟩
  · intro s o hs
    simp only [ordP] at hs
    split at hs
    · cases hs
      rcases hk with hk | hk
      · rw [kbO_step hk]; exact Nat.zero_le _
      · rw [kbO_block hk]; exact hl
    · exact h7 s o hs
theorem ordE_zero {p : Ps} {z : Kb} (h : ordE p z = 0) : p.seqs.contains (seqK z) = false := by
  cases hc : p.seqs.contains (seqK z) with
  | false => rfl
  | true =>
    unfold ordE at h
    rw [if_pos hc] at h
    cases h
theorem mayE_ord {p : Ps} {z : Kb} (hk : z.kind = 2 ∨ z.kind = 3) (h : mayE p z = 0) : p.asks < 24 ∧ ordE p z = 0 := by
  unfold mayE at h
  rw [if_neg (by omega)] at h
  by_cases e2 : 24 ≤ p.asks
  · rw [if_pos e2] at h; cases h
  · rw [if_neg e2, if_neg (by omega), if_neg (by omega)] at h
    exact ⟨by omega, h⟩
/-- What lies at n or behind is new. -/
theorem kx_old {T : Nat → Prop} {w w' : World} {n : Nat} (hn : w.heap.size ≤ n) (h : Kx (fun i => T i ∨ n ≤ i) w w') : Kx T w w' :=
  ⟨h.os, h.tape, h.output, h.size, fun k hk hs => h.block k hk (fun e => by rcases e with e | e; exact hs e; omega)⟩
set_option maxHeartbeats 3200000 in
theorem add_step {O : Nat → Prop} {w : World} {v : Value} {N : List ByteArray} {S : ByteArray → Ps} (h : Bk O w v N S) (who : ByteArray) (hw : who.size ≤ 1099511627776) (z : Kb) (hk : z.kind = 2) (hz : KbFits w z) (hql : z.Q.length ≤ 1000000000) (hE : mayE (S who) z = 0) :
    Calls Try.prog 14 #[v, .string who, .agg (kbC z)] w fun e w' => e = .returned (.int .i64 0) ∧ Kx O w w' ∧ Bk (fun i => O i ∨ (w.heap.size ≤ i ∧ i < w'.heap.size)) w' v (addN N who) (upd S who (ordP (S who) z)) := by
  have hqE := mayE_ord (by omega) hE
  have hnew := ordE_zero hqE.2
  have hsane := ordP_sane (h.sane who) hqE.1 hz (by omega) hql hnew
  have hs0 := h.sane who
  have b1 := (Below.refl w.heap.size w).alloc (Nat.le_refl _) (Obj.cells #[.int .i64 2, .int .i64 z.cents, .int .i64 z.seq, .string z.swho, .int .i64 z.sseq, .int .i64 z.szone, .int .i64 z.shour, .bool z.sbuy, .int .i64 z.sqty, .int .i64 z.sprice, .string z.bwho, .int .i64 z.bseq, .int .i64 z.bzone, .bool z.bbuy, .int .i64 z.bprice, z.qv, .int .i64 z.parent, .int .i64 z.group] 28)
  have hM := may_any (h.below b1) who hw z (hz.below b1)
  rw [hE] at hM
  have hl := heap_alloc_last w (Obj.cells #[.int .i64 2, .int .i64 z.cents, .int .i64 z.seq, .string z.swho, .int .i64 z.sseq, .int .i64 z.szone, .int .i64 z.shour, .bool z.sbuy, .int .i64 z.sqty, .int .i64 z.sprice, .string z.bwho, .int .i64 z.bseq, .int .i64 z.bzone, .bool z.bbuy, .int .i64 z.bprice, z.qv, .int .i64 z.parent, .int .i64 z.group] 28)
  have hSQ := fun W => seqOf_any z W
  have hseq := seqK_in hz
  have HZI0 := hid hz.ints
  have hAN := fun W => anew_step who hw z hk W
  unfold kbC at hM hSQ hAN ⊢
  rw [hk] at hM hSQ hAN ⊢
  have HAN := hid hAN
  clear hAN
  have a0 := blk_cell hl 0 (.int .i64 2) rfl
  have a1 := blk_cell hl 1 (.int .i64 z.cents) rfl
  have a2 := blk_cell hl 2 (.int .i64 z.seq) rfl
  have a3 := blk_cell hl 3 (.string z.swho) rfl
  have a4 := blk_cell hl 4 (.int .i64 z.sseq) rfl
  have a5 := blk_cell hl 5 (.int .i64 z.szone) rfl
  have a6 := blk_cell hl 6 (.int .i64 z.shour) rfl
  have a7 := blk_cell hl 7 (.bool z.sbuy) rfl
  have a8 := blk_cell hl 8 (.int .i64 z.sqty) rfl
  have a9 := blk_cell hl 9 (.int .i64 z.sprice) rfl
  have a10 := blk_cell hl 10 (.string z.bwho) rfl
  have a11 := blk_cell hl 11 (.int .i64 z.bseq) rfl
  have a12 := blk_cell hl 12 (.int .i64 z.bzone) rfl
  have a13 := blk_cell hl 13 (.bool z.bbuy) rfl
  have a14 := blk_cell hl 14 (.int .i64 z.bprice) rfl
  have a15 := blk_cell hl 15 (z.qv) rfl
  have a16 := blk_cell hl 16 (.int .i64 z.parent) rfl
  have a17 := blk_cell hl 17 (.int .i64 z.group) rfl
  obtain ⟨C, bb, lb, ab, el, ea, cl, ca, rfl, hb0⟩ := h
  obtain ⟨P, hP⟩ : ∃ P, Hid (P = S who) := ⟨_, hid rfl⟩
  rw [← hP.out] at hsane hs0 hnew ⊢
  have HS := hid hsane
  have HS0 := hid hs0
  clear hqE hE hz hsane
  go_enter Try.func14, Try.ntmps14
  go_wp2_with fail
  have hl' := hl
  have hn : w.heap.size < (w.alloc (Obj.cells #[.int .i64 2, .int .i64 z.cents, .int .i64 z.seq, .string z.swho, .int .i64 z.sseq, .int .i64 z.szone, .int .i64 z.shour, .bool z.sbuy, .int .i64 z.sqty, .int .i64 z.sprice, .string z.bwho, .int .i64 z.bseq, .int .i64 z.bzone, .bool z.bbuy, .int .i64 z.bprice, z.qv, .int .i64 z.parent, .int .i64 z.group] 28)).heap.size := by simp
  generalize w.alloc (Obj.cells #[.int .i64 2, .int .i64 z.cents, .int .i64 z.seq, .string z.swho, .int .i64 z.sseq, .int .i64 z.szone, .int .i64 z.shour, .bool z.sbuy, .int .i64 z.sqty, .int .i64 z.sprice, .string z.bwho, .int .i64 z.bseq, .int .i64 z.bzone, .bool z.bbuy, .int .i64 z.bprice, z.qv, .int .i64 z.parent, .int .i64 z.group] 28) = W1 at *
  refine hM.mono ?_
  rintro e w2 ⟨rfl, b2⟩
  have B2 := chain2 b1 b2
  clear hM a0 a1 a2 a3 a4 a5 a6 a7 a8 a9 a10 a11 a12 a13 a14 a15 a16 a17
  go_wp2_with fail
  refine (sclone_any who w2 hw).mono ?_
  rintro e w3 ⟨rfl, b3⟩
  have B3 := chain2 B2 b3
  have hb := hb0.below B3
  have hl3 := blk_below hl' (chain2 b2 b3)
  have a0 := blk_cell hl3 0 (.int .i64 2) rfl
  have a1 := blk_cell hl3 1 (.int .i64 z.cents) rfl
  have a2 := blk_cell hl3 2 (.int .i64 z.seq) rfl
  have a3 := blk_cell hl3 3 (.string z.swho) rfl
  have a4 := blk_cell hl3 4 (.int .i64 z.sseq) rfl
  have a5 := blk_cell hl3 5 (.int .i64 z.szone) rfl
  have a6 := blk_cell hl3 6 (.int .i64 z.shour) rfl
  have a7 := blk_cell hl3 7 (.bool z.sbuy) rfl
  have a8 := blk_cell hl3 8 (.int .i64 z.sqty) rfl
  have a9 := blk_cell hl3 9 (.int .i64 z.sprice) rfl
  have a10 := blk_cell hl3 10 (.string z.bwho) rfl
  have a11 := blk_cell hl3 11 (.int .i64 z.bseq) rfl
  have a12 := blk_cell hl3 12 (.int .i64 z.bzone) rfl
  have a13 := blk_cell hl3 13 (.bool z.bbuy) rfl
  have a14 := blk_cell hl3 14 (.int .i64 z.bprice) rfl
  have a15 := blk_cell hl3 15 (z.qv) rfl
  have a16 := blk_cell hl3 16 (.int .i64 z.parent) rfl
  have a17 := blk_cell hl3 17 (.int .i64 z.group) rfl
  have hnw : w.heap.size < w3.heap.size := lt_of_block hl3
  have HW := hid hw
  have HL3 := hid hl3
  obtain ⟨sv, ho, hL⟩ := hb.account who hw
  replace hL := hL w3 rfl
  obtain ⟨sa, sc, rfl⟩ := own_slice ho.1
  have c1 := hb.cell1
  have hbz : bb < w3.heap.size := hb.lt _ hb.ob
  obtain ⟨A, hA⟩ : ∃ A, Hid (A = P.asks) := ⟨_, hid rfl⟩
  obtain ⟨L, hLk⟩ : ∃ L, Hid (L = P.locked) := ⟨_, hid rfl⟩
  obtain ⟨sn, hsn⟩ : ∃ sn, Hid (sn = P.seqs.length) := ⟨_, hid rfl⟩
  rw [← hP.out] at hL ho
  rw [← hA.out, ← hLk.out, ← hsn.out] at hL
  rw [← hsn.out] at ho
  have w1 : wrap64 (A + 1) = A + 1 := by have := HS0.out.asks; have := hA.out; unfold wrap64; omega
  have HB := hid hb
  have HOW := hid ho
  have HB0 := hid hb0
  have HB3 := hid B3
  have hnb : ¬ w3.heap.size = w.heap.size := by omega
  have hnb2 : ¬ w3.heap.size = bb := by omega
  generalize hnn : w.heap.size = n at *
  have HN := hid hnn
  clear hnn b1 b2 b3 B2 B3 hl hl' hl3 hb hb0 ho hw hs0 hn
  go_wp2_with (first | (refine wpList_store_new rfl 76 _ _ rfl _ _ _ rfl (by simp) rfl 3 info_account (by rfl) (by rfl) (by simp [Value.oneCell']) ?_) | fail)
  have b4 := (Below.refl w3.heap.size w3).alloc (Nat.le_refl _) (Obj.cells #[.int .i64 L, .int .i64 (A + 1), .slice sa sn sc] 76)
  have m4 := heap_alloc_last w3 (Obj.cells #[.int .i64 L, .int .i64 (A + 1), .slice sa sn sc] 76)
  have hb4 := HB.out.below b4
  have g4 := blk_below HL3.out b4
  clear a0 a1 a2 a3 a4 a5 a6 a7 a8 a9 a10 a11 a12 a13 a14 a15 a16 a17 hL c1
  generalize w3.alloc (Obj.cells #[.int .i64 L, .int .i64 (A + 1), .slice sa sn sc] 76) = W4 at *
  refine (hSQ W4).mono ?_
  rintro e w5 ⟨rfl, b5⟩
  have hb5 := hb4.below b5
  have m5 := blk_below m4 b5
  have g5 := blk_below g4 b5
  have b35 := chain2 b4 b5
  have HB5 := hid hb5
  have hlb : lb < n := by have := HB0.out.lt lb HB0.out.ol; have := HN.out; omega
  have hbb : bb < n := by have := HB0.out.lt bb HB0.out.ob; have := HN.out; omega
  have hnlb : ¬ n = lb := by omega
  have hbl : bb ≠ lb := fun e => by have h1 := HB0.out.cb; have h2 := HB0.out.cl; rw [e, h2] at h1; cases h1
  obtain ⟨sq, hsq⟩ : ∃ sq, Hid (sq = seqK z) := ⟨_, hid rfl⟩
  rw [← hsq.out]
  have HC0 := hid hb5.cell0
  have D0 : Below w5.heap.size w5 w5.drew := below_drew1 w5
  have E0 : Kx (fun i => i = lb) w5 w5.drew := Kx.of_below D0
  have HZI := hid (fun W (k : Below w5.heap.size w5 W) => show Ints W z.qv z.Q from by
    have hn := HN.out
    subst hn
    exact HZI0.out.below (chain2 HB3.out (chain2 b35 k)))
  have HK := hid (fun X (k : Kx (fun i => i = lb) w5 X) => show (X.cell? ⟨n, 0, none⟩ = some (.int .i64 2) ∧ X.cell? ⟨n, 1, none⟩ = some (.int .i64 z.cents) ∧ X.cell? ⟨n, 2, none⟩ = some (.int .i64 z.seq) ∧ X.cell? ⟨n, 3, none⟩ = some (.string z.swho) ∧ X.cell? ⟨n, 4, none⟩ = some (.int .i64 z.sseq) ∧ X.cell? ⟨n, 5, none⟩ = some (.int .i64 z.szone) ∧ X.cell? ⟨n, 6, none⟩ = some (.int .i64 z.shour) ∧ X.cell? ⟨n, 7, none⟩ = some (.bool z.sbuy) ∧ X.cell? ⟨n, 8, none⟩ = some (.int .i64 z.sqty) ∧ X.cell? ⟨n, 9, none⟩ = some (.int .i64 z.sprice) ∧ X.cell? ⟨n, 10, none⟩ = some (.string z.bwho) ∧ X.cell? ⟨n, 11, none⟩ = some (.int .i64 z.bseq) ∧ X.cell? ⟨n, 12, none⟩ = some (.int .i64 z.bzone) ∧ X.cell? ⟨n, 13, none⟩ = some (.bool z.bbuy) ∧ X.cell? ⟨n, 14, none⟩ = some (.int .i64 z.bprice) ∧ X.cell? ⟨n, 15, none⟩ = some (z.qv) ∧ X.cell? ⟨n, 16, none⟩ = some (.int .i64 z.parent) ∧ X.cell? ⟨n, 17, none⟩ = some (.int .i64 z.group) ∧ X.cell? ⟨bb, 0, none⟩ = some (.map (some lb))) from by
    have g := k.blk g5 hnlb
    exact ⟨blk_cell g 0 (.int .i64 2) rfl, blk_cell g 1 (.int .i64 z.cents) rfl, blk_cell g 2 (.int .i64 z.seq) rfl, blk_cell g 3 (.string z.swho) rfl, blk_cell g 4 (.int .i64 z.sseq) rfl, blk_cell g 5 (.int .i64 z.szone) rfl, blk_cell g 6 (.int .i64 z.shour) rfl, blk_cell g 7 (.bool z.sbuy) rfl, blk_cell g 8 (.int .i64 z.sqty) rfl, blk_cell g 9 (.int .i64 z.sprice) rfl, blk_cell g 10 (.string z.bwho) rfl, blk_cell g 11 (.int .i64 z.bseq) rfl, blk_cell g 12 (.int .i64 z.bzone) rfl, blk_cell g 13 (.bool z.bbuy) rfl, blk_cell g 14 (.int .i64 z.bprice) rfl, blk_cell g 15 (z.qv) rfl, blk_cell g 16 (.int .i64 z.parent) rfl, blk_cell g 17 (.int .i64 z.group) rfl, k.cell HC0.out hbl⟩)
  clear hSQ hb4 hb5 m4 g4 g5 b4 b5
  go_wp2_with fail
  go_region_held3 (fun X => X.cell? ⟨n, 0, none⟩ = some (.int .i64 2) ∧ X.cell? ⟨n, 1, none⟩ = some (.int .i64 z.cents) ∧ X.cell? ⟨n, 2, none⟩ = some (.int .i64 z.seq) ∧ X.cell? ⟨n, 3, none⟩ = some (.string z.swho) ∧ X.cell? ⟨n, 4, none⟩ = some (.int .i64 z.sseq) ∧ X.cell? ⟨n, 5, none⟩ = some (.int .i64 z.szone) ∧ X.cell? ⟨n, 6, none⟩ = some (.int .i64 z.shour) ∧ X.cell? ⟨n, 7, none⟩ = some (.bool z.sbuy) ∧ X.cell? ⟨n, 8, none⟩ = some (.int .i64 z.sqty) ∧ X.cell? ⟨n, 9, none⟩ = some (.int .i64 z.sprice) ∧ X.cell? ⟨n, 10, none⟩ = some (.string z.bwho) ∧ X.cell? ⟨n, 11, none⟩ = some (.int .i64 z.bseq) ∧ X.cell? ⟨n, 12, none⟩ = some (.int .i64 z.bzone) ∧ X.cell? ⟨n, 13, none⟩ = some (.bool z.bbuy) ∧ X.cell? ⟨n, 14, none⟩ = some (.int .i64 z.bprice) ∧ X.cell? ⟨n, 15, none⟩ = some (z.qv) ∧ X.cell? ⟨n, 16, none⟩ = some (.int .i64 z.parent) ∧ X.cell? ⟨n, 17, none⟩ = some (.int .i64 z.group) ∧ X.cell? ⟨bb, 0, none⟩ = some (.map (some lb))) (first | with_reducible exact HK.out _ E2 | with_reducible exact HK.out _ E1 | with_reducible exact HK.out _ E0) ((go_at_call 33; refine ((HAN.out _)).mono ?_; rintro e X1 ⟨rfl, bb1⟩; have D1 := chain2 D0 bb1; have E1 : Kx (fun i => i = lb) w5 X1 := Kx.of_below D1; obtain ⟨el', kl', hrun, hm1, hput1⟩ := (HB5.out.below D1).live.put lawKey Try.underlying70 (keyOf_key who sq (by have := HW.out; unfold maxLen; omega) (by rw [hsq.out]; exact wf64 hseq)) (.agg #[.int .i64 2, .int .i64 0, .int .i64 0, .string who, .int .i64 z.sseq, .int .i64 z.szone, .int .i64 z.shour, .bool z.sbuy, .int .i64 z.sqty, .int .i64 z.sprice, .string ⟨#[]⟩, .int .i64 0, .int .i64 0, .bool false, .int .i64 0, .slice none 0 0, .int .i64 0, .int .i64 0]); unfold keyV at hrun; have E2 : Kx (fun i => i = lb) w5 (setBlock X1 lb (.map el' kl')) := kx_setBlock E1 (HB5.out.below D1).live.blk rfl))
  have hmlb : ¬ w3.heap.size = lb := by omega
  have m6 := E2.blk m5 hmlb
  have E3 : Kx (fun i => i = lb) w3 (setBlock X1 lb (.map el' kl')) := (Kx.of_below b35).trans E2
  have HX1 := hid (HB5.out.below D1)
  have hm5z := hid m5
  have HM1 := hid hm1
  have HP1 := hid hput1
  have HD1 := hid D1
  skip
  clear hm1 hput1 D1 E0 E1 bb1 D0 hrun HK HC0 HZI m5
  obtain ⟨X6, hX6⟩ : ∃ X, Hid (X = setBlock X1 lb (.map el' kl')) := ⟨_, hid rfl⟩
  rw [← hX6.out] at E2 E3 m6
  rw [← hX6.out]
  have hcol : ∀ i, O i → C i = .seqs who → ¬ i = lb := fun i _ hc e => by rw [e, HB0.out.cl] at hc; cases hc
  have ho6 := own_kx HOW.out E3 hcol
  have hI6 : Ints X6 (.slice sa sn sc) P.seqs := Row1.of_own (by rw [intV_len]; exact ho6.1)
  have hlen : P.seqs.length ≤ 24 := by have := HS0.out.many; have := HS0.out.asks; omega
  obtain ⟨pc, hpc⟩ : ∃ pc : Nat, Hid (pc = placeOf P.seqs sq) := ⟨_, hid rfl⟩
  have hBS := bsearch_any X6 (.slice sa sn sc) P.seqs sq hI6 hlen HS0.out.rise
  have hpc2 : P.seqs.countP (· < sq) = pc := hpc.out.symm
  rw [hpc2, show P.seqs.contains sq = false by rw [hsq.out]; exact hnew] at hBS
  clear hpc2 hnew
  have i6 := blk_cell m6 2 (.slice sa sn sc) rfl
  go_wp2_with fail
  refine hBS.mono ?_
  rintro e X7 ⟨rfl, b7⟩
  clear hBS i6
  have m7 := blk_below m6 b7
  have i7 := blk_cell m7 2 (.slice sa sn sc) rfl
  have b8 := (Below.refl X7.heap.size X7).alloc (Nat.le_refl _) (Obj.cells #[.int .i64 sq] 3)
  have g8 := heap_alloc_last X7 (Obj.cells #[.int .i64 sq] 3)
  have K7 : Kx (fun i => i = lb) w3 X7 := E3.trans (Kx.of_below b7)
  have K8 : Kx (fun i => i = lb) w3 (X7.alloc (Obj.cells #[.int .i64 sq] 3)) := K7.trans (Kx.of_below b8)
  have ho8 := own_kx HOW.out K8 hcol
  have hpl : pc ≤ P.seqs.length := by rw [hpc.out]; exact List.countP_le_length
  have hIN := insert_any (X7.alloc (Obj.cells #[.int .i64 sq] 3)) (.slice sa sn sc) P.seqs pc sq X7.heap.size hpl (by omega) (by rw [← hsn.out]; have := ho8.1; rw [← hsn.out] at this; exact this) g8 (fun e => by
    have h1 := (ho6.2 _ e).1
    have h2 := HB0.out.lt _ h1
    have h3 := K7.size
    have h4 := HN.out
    omega)
  have m8 := blk_below m7 b8
  have hnx7 : ¬ X7.heap.size = w3.heap.size := by have := lt_of_block m7; omega
  have HK8 := hid K8
  have B67 := hid b7
  have B78 := hid b8
  clear hI6 ho6 ho8 E2 E3 m6 b7 K7 K8
  go_wp2_with fail
  generalize hX8 : X7.alloc (Obj.cells #[.int .i64 sq] 3) = X8 at *
  refine hIN.mono ?_
  rintro e X9 ⟨v', rfl, ho9, kx9, hloc⟩
  obtain ⟨va, vc, rfl⟩ := own_slice ho9
  have hmown : ¬ some w3.heap.size = (Value.slice sa sn sc).ownBlock := fun e => by
    have h1 := (HOW.out.2 _ e.symm).1
    have h2 := HB0.out.lt _ h1
    have h4 := HN.out
    omega
  have m9 := kx9.blk m8 hmown
  have r9 := blk_cell m9 2 (.slice sa sn sc) rfl
  have f9 := blk_free m9 2
  have m10 : (X9.setCell ⟨w3.heap.size, 2, none⟩ (.slice va (P.seqs.length + 1) vc)).heap[w3.heap.size]? = some (.cells #[.int .i64 L, .int .i64 (A + 1), .slice va (P.seqs.length + 1) vc] 76 (0, 0)) := by
    have := set_at (L := [.int .i64 L, .int .i64 (A + 1), .slice sa sn sc]) (k := 2) (v := .slice va (P.seqs.length + 1) vc) m9
    simpa using this
  have k910 : Kx (fun i => i = w3.heap.size) X9 (X9.setCell ⟨w3.heap.size, 2, none⟩ (.slice va (P.seqs.length + 1) vc)) := Kx.set (S := fun i => i = w3.heap.size) (g := w3.heap.size) (Kx.refl _ X9) rfl _
  -- all that was written since w3
  have hn3 : n ≤ w3.heap.size := by omega
  have t1 : Kx (fun i => May1 O C who i ∨ n ≤ i) w3 X8 := HK8.out.mono (fun i e => Or.inl (by subst e; exact ⟨HB0.out.ol, Or.inl HB0.out.cl⟩))
  have t2 : Kx (fun i => May1 O C who i ∨ n ≤ i) X8 X9 := kx9.mono (fun i e => Or.inl (by have := HOW.out.2 i e.symm; exact ⟨this.1, Or.inr (Or.inr this.2)⟩))
  have t3 : Kx (fun i => May1 O C who i ∨ n ≤ i) X9 (X9.setCell ⟨w3.heap.size, 2, none⟩ (.slice va (P.seqs.length + 1) vc)) := k910.mono (fun i e => Or.inr (by omega))
  have t4 := (t1.trans t2).trans t3
  have T4 := hid t4
  have HO9 := hid ho9
  have HKX9 := hid kx9
  have HLOC := hid hloc
  have HK910 := hid k910
  have hX8' := hid hX8
  clear t1 t2 t3 hIN ho9 kx9 hloc m8 m7 i7 g8 k910 hX8 b8
  -- the accounts' block is as it was
  have haN : ab < n := by have := HB0.out.lt ab HB0.out.oa; have := HN.out; omega
  have hal : ¬ ab = lb := fun e => by have h1 := HB0.out.cac; have h2 := HB0.out.cl; rw [e, h2] at h1; cases h1
  have hao : ¬ some ab = (Value.slice sa sn sc).ownBlock := fun e => by
    have h1 := (HOW.out.2 _ e.symm).2
    rw [HB0.out.cac] at h1; cases h1
  have hbo : ¬ some bb = (Value.slice sa sn sc).ownBlock := fun e => by
    have h1 := (HOW.out.2 _ e.symm).2
    rw [HB0.out.cb] at h1; cases h1
  have hac10 : MapAt 9 (X9.setCell ⟨w3.heap.size, 2, none⟩ (.slice va (P.seqs.length + 1) vc)) ab ea ca := by
    have h1 := HB.out.accs
    have h2 := h1.to (HK8.out.block ab (HB.out.lt _ HB.out.oa) hal)
    have h3 := h2.to (HKX9.out.block ab (lt_of_block h2.blk) hao)
    exact h3.to (HK910.out.block ab (lt_of_block h3.blk) (by omega))
  have hbx10 : (X9.setCell ⟨w3.heap.size, 2, none⟩ (.slice va (P.seqs.length + 1) vc)).heap[bb]? = some (.cells #[.map (some lb), .map (some ab)] 73 (0, 0)) := by
    have h1 := HK8.out.blk HB.out.box hbl
    have h2 := HKX9.out.blk h1 hbo
    exact HK910.out.blk h2 (by omega)
  have HAC := hid hac10
  have HBX := hid hbx10
  have hnb3 : ¬ w3.heap.size = n := by omega
  go_wp2_with fail
  obtain ⟨X10, hX10⟩ : ∃ X, Hid (X = X9.setCell ⟨w3.heap.size, 2, none⟩ (.slice va (P.seqs.length + 1) vc)) := ⟨_, hid rfl⟩
  rw [← hX10.out] at m10 T4 HAC HBX HK910
  rw [← hX10.out]
  obtain ⟨ea', ka', hrun, hm2, hput2⟩ := HAC.out.drew.put lawStr Try.underlying71 (keyOf_name who (by have := HW.out; unfold maxLen; omega)) (.agg #[.int .i64 L, .int .i64 (A + 1), .slice va (P.seqs.length + 1) vc])
  have d0 := blk_cell m10 0 _ rfl
  have d1 := blk_cell m10 1 _ rfl
  have d2 := blk_cell m10 2 _ rfl
  have c1 := blk_cell HBX.out 1 (.map (some ab)) rfl
  have HM2 := hid hm2
  have HP2 := hid hput2
  clear hm2 hput2 r9 f9 m9 m10 t4 hac10 hbx10
  go_region
  go_wp2
  go_ret
  have hn := HN.out
  subst hn
  have h0 := HB0.out
  have hlt0 := h0.lt
  have t5 : Kx (fun i => May1 O C who i ∨ w.heap.size ≤ i) X10 (setBlock X10.drew ab (.map ea' ka')) := kx_setBlock (Kx.of_below (below_drew1 X10)) (show X10.drew.heap[ab]? = _ from HAC.out.blk) (Or.inl ⟨h0.oa, Or.inr (Or.inl h0.cac)⟩)
  have t6 : Kx (fun i => i = ab) X10 (setBlock X10.drew ab (.map ea' ka')) := kx_setBlock (Kx.of_below (below_drew1 X10)) (show X10.drew.heap[ab]? = _ from HAC.out.blk) rfl
  have kfin : Kx (May1 O C who) w (setBlock X10.drew ab (.map ea' ka')) := kx_old (Nat.le_refl _) ((Kx.of_below HB3.out).trans (T4.out.trans t5))
  generalize hWF : setBlock X10.drew ab (.map ea' ka') = WF at *
  have sz1 : w3.heap.size ≤ X8.heap.size := HK8.out.size
  have sz2 : X8.heap.size ≤ X9.heap.size := HKX9.out.size
  have sz3 : X9.heap.size ≤ X10.heap.size := HK910.out.size
  have sz4 : X10.heap.size ≤ WF.heap.size := t6.size
  have sz5 : X6.heap.size ≤ X8.heap.size := Nat.le_trans B67.out.size B78.out.size
  have sz6 : X1.heap.size = X6.heap.size := by rw [hX6.out]; simp [setBlock]
  have sz7 : w3.heap.size < w5.heap.size := lt_of_block hm5z.out
  have sz8 : w5.heap.size ≤ X1.heap.size := HD1.out.size
  have hownB : ∀ g, (Value.slice sa sn sc).ownBlock = some g → g < w.heap.size ∧ C g = .seqs who ∧ O g := fun g hg => ⟨hlt0 g (HOW.out.2 g hg).1, (HOW.out.2 g hg).2, (HOW.out.2 g hg).1⟩
  have hnewB : ∀ g, (Value.slice va (P.seqs.length + 1) vc).ownBlock = some g → (O g ∧ C g = .seqs who ∧ g < w.heap.size) ∨ (X8.heap.size ≤ g ∧ g < X9.heap.size) := fun g hg => by
    rcases HLOC.out with e | ⟨b, e, e1, e2⟩
    · rw [e] at hg
      have := hownB g hg
      exact Or.inl ⟨this.2.2, this.2.1, this.1⟩
    · rw [e] at hg
      cases hg
      exact Or.inr ⟨e1, e2⟩
  have hrow : WF.ownsRow 0 3 1 (.slice va (P.seqs.length + 1) vc) (P.seqs.length + 1) (intV (ins P.seqs pc sq)) := by
    have k1 : Kx (fun i => i = w3.heap.size ∨ i = ab) X9 WF := (HK910.out.mono (fun i e => Or.inl e)).trans (t6.mono (fun i e => Or.inr e))
    obtain ⟨r1, r2⟩ := HO9.out
    refine ⟨r1, ?_⟩
    rcases r2 with r2 | ⟨g, cap, cur, e, hb, hh, r⟩
    · exact Or.inl r2
    · refine Or.inr ⟨g, cap, cur, e, hb, k1.blk hh (fun hc => ?_), r⟩
      rcases hnewB g (by rw [e]; rfl) with ⟨_, q2, q3⟩ | ⟨q1, _⟩
      · rcases hc with hc | hc
        · omega
        · rw [hc, h0.cac] at q2; cases q2
      · rcases hc with hc | hc
        · have := B78.out.size
          have := sz5
          omega
        · omega
  classical
  have hlive : MapAt 78 WF lb el' kl' := by
    have h6 := HM1.out
    rw [← hX6.out] at h6
    have h7 := h6.to (B67.out.block lb (lt_of_block h6.blk))
    have h8 := h7.to (B78.out.block lb (lt_of_block h7.blk))
    have h9 := h8.to (HKX9.out.block lb (lt_of_block h8.blk) (fun e => by have := (hownB _ e.symm).2.1; rw [h0.cl] at this; cases this))
    have h10 := h9.to (HK910.out.block lb (lt_of_block h9.blk) (by omega))
    exact h10.to (t6.block lb (lt_of_block h10.blk) (fun e => hal e.symm))
  have hM2 := HM2.out
  have hPe := hP.out
  have hse := hsq.out
  have hpce := hpc.out
  subst hPe
  subst hse
  rw [hpce] at hrow
  have hcol' : ∀ i, O i → (if O i then C i else if (Value.slice va ((S who).seqs.length + 1) vc).ownBlock = some i then Col.seqs who else Col.qty) = C i := fun i hi => if_pos hi
  have hsplit : ∀ s, s ≠ seqK z → (ordP (S who) z).live s = (S who).live s := fun s hs => if_neg hs
  have hfits : Fits (fun i => O i ∨ (w.heap.size ≤ i ∧ i < WF.heap.size)) (fun i => if O i then C i else if (Value.slice va ((S who).seqs.length + 1) vc).ownBlock = some i then Col.seqs who else Col.qty) WF (.slice none 0 0) (kbO z) := by
    rw [kbO_step hk]; trivial
  have hfin := h0.after (O' := fun i => O i ∨ (w.heap.size ≤ i ∧ i < WF.heap.size)) (C' := fun i => if O i then C i else if (Value.slice va ((S who).seqs.length + 1) vc).ownBlock = some i then Col.seqs who else Col.qty) who HW.out (ordP (S who) z) HS.out (.slice va ((S who).seqs.length + 1) vc)
    (fun i hi => Or.inl hi) (fun i hi => by rcases hi with hi | hi; exact Nat.lt_of_lt_of_le (hlt0 i hi) kfin.size; exact hi.2) hcol' kfin hlive hM2 (by have := HP2.out; rw [hLk.out, hA.out] at this; exact this)
    ⟨by show WF.ownsRow 0 _ 1 _ (ins (S who).seqs (placeOf (S who).seqs (seqK z)) (seqK z)).length _; rw [ins_len]; exact hrow, fun g hg => by
      rcases hnewB g hg with ⟨q1, q2, q3⟩ | ⟨q1, q2⟩
      · exact ⟨Or.inl q1, (if_pos q1).trans q2⟩
      · have hno : ¬ O g := fun hO => by have := hlt0 g hO; omega
        exact ⟨Or.inr ⟨by omega, by omega⟩, (if_neg hno).trans (if_pos hg)⟩⟩
    (fun x hx => by
      rcases HP1.out.only x hx with ⟨hx', hne⟩ | ⟨e1, e2⟩
      · exact Or.inl ⟨hx', fun s hs => hsplit s (fun e => hne (by rw [hs, e]))⟩
      · exact Or.inr ⟨seqK z, kbO z, (.slice none 0 0), e1, by rw [e2, kbO_step hk]; rfl, if_pos rfl, hfits⟩)
    (fun s o hs => by
      by_cases e : s = seqK z
      · obtain ⟨x, hx, e1, _⟩ := HP1.out.new
        exact ⟨x, hx, by rw [e]; exact e1⟩
      · rw [hsplit s e] at hs
        obtain ⟨x, hx, e1⟩ := h0.lives who s o hs
        exact ⟨x, HP1.out.kept x hx (fun e2 => e (keyV_inj (e1.symm.trans e2)).2), e1⟩)
    (fun x hx hno => HP1.out.kept x hx (hno (seqK z)))
  exact ⟨rfl, kfin.mono (fun _ hm => hm.1), _, bb, lb, ab, el', ea', kl', ka', rfl, hfin⟩
set_option maxHeartbeats 3200000 in
theorem add_block {O : Nat → Prop} {w : World} {v : Value} {N : List ByteArray} {S : ByteArray → Ps} (h : Bk O w v N S) (who : ByteArray) (hw : who.size ≤ 1099511627776) (z : Kb) (hk : z.kind = 3) (hz : KbFits w z) (hql : z.Q.length ≤ 1000000000) (hE : mayE (S who) z = 0) :
    Calls Try.prog 14 #[v, .string who, .agg (kbC z)] w fun e w' => e = .returned (.int .i64 0) ∧ Kx O w w' ∧ Bk (fun i => O i ∨ (w.heap.size ≤ i ∧ i < w'.heap.size)) w' v (addN N who) (upd S who (ordP (S who) z)) := by
  have hqE := mayE_ord (by omega) hE
  have hnew := ordE_zero hqE.2
  have hsane := ordP_sane (h.sane who) hqE.1 hz (by omega) hql hnew
  have hs0 := h.sane who
  have b1 := (Below.refl w.heap.size w).alloc (Nat.le_refl _) (Obj.cells #[.int .i64 3, .int .i64 z.cents, .int .i64 z.seq, .string z.swho, .int .i64 z.sseq, .int .i64 z.szone, .int .i64 z.shour, .bool z.sbuy, .int .i64 z.sqty, .int .i64 z.sprice, .string z.bwho, .int .i64 z.bseq, .int .i64 z.bzone, .bool z.bbuy, .int .i64 z.bprice, z.qv, .int .i64 z.parent, .int .i64 z.group] 28)
  have hM := may_any (h.below b1) who hw z (hz.below b1)
  rw [hE] at hM
  have hl := heap_alloc_last w (Obj.cells #[.int .i64 3, .int .i64 z.cents, .int .i64 z.seq, .string z.swho, .int .i64 z.sseq, .int .i64 z.szone, .int .i64 z.shour, .bool z.sbuy, .int .i64 z.sqty, .int .i64 z.sprice, .string z.bwho, .int .i64 z.bseq, .int .i64 z.bzone, .bool z.bbuy, .int .i64 z.bprice, z.qv, .int .i64 z.parent, .int .i64 z.group] 28)
  have hSQ := fun W => seqOf_any z W
  have hseq := seqK_in hz
  have HZI0 := hid hz.ints
  have hAN := fun W (i : Ints W z.qv z.Q) => anew_block who hw z hk W i hql
  unfold kbC at hM hSQ hAN ⊢
  rw [hk] at hM hSQ hAN ⊢
  have HAN := hid hAN
  clear hAN
  have a0 := blk_cell hl 0 (.int .i64 3) rfl
  have a1 := blk_cell hl 1 (.int .i64 z.cents) rfl
  have a2 := blk_cell hl 2 (.int .i64 z.seq) rfl
  have a3 := blk_cell hl 3 (.string z.swho) rfl
  have a4 := blk_cell hl 4 (.int .i64 z.sseq) rfl
  have a5 := blk_cell hl 5 (.int .i64 z.szone) rfl
  have a6 := blk_cell hl 6 (.int .i64 z.shour) rfl
  have a7 := blk_cell hl 7 (.bool z.sbuy) rfl
  have a8 := blk_cell hl 8 (.int .i64 z.sqty) rfl
  have a9 := blk_cell hl 9 (.int .i64 z.sprice) rfl
  have a10 := blk_cell hl 10 (.string z.bwho) rfl
  have a11 := blk_cell hl 11 (.int .i64 z.bseq) rfl
  have a12 := blk_cell hl 12 (.int .i64 z.bzone) rfl
  have a13 := blk_cell hl 13 (.bool z.bbuy) rfl
  have a14 := blk_cell hl 14 (.int .i64 z.bprice) rfl
  have a15 := blk_cell hl 15 (z.qv) rfl
  have a16 := blk_cell hl 16 (.int .i64 z.parent) rfl
  have a17 := blk_cell hl 17 (.int .i64 z.group) rfl
  obtain ⟨C, bb, lb, ab, el, ea, cl, ca, rfl, hb0⟩ := h
  obtain ⟨P, hP⟩ : ∃ P, Hid (P = S who) := ⟨_, hid rfl⟩
  rw [← hP.out] at hsane hs0 hnew ⊢
  have HS := hid hsane
  have HS0 := hid hs0
  clear hqE hE hz hsane
  go_enter Try.func14, Try.ntmps14
  go_wp2_with fail
  have hl' := hl
  have hn : w.heap.size < (w.alloc (Obj.cells #[.int .i64 3, .int .i64 z.cents, .int .i64 z.seq, .string z.swho, .int .i64 z.sseq, .int .i64 z.szone, .int .i64 z.shour, .bool z.sbuy, .int .i64 z.sqty, .int .i64 z.sprice, .string z.bwho, .int .i64 z.bseq, .int .i64 z.bzone, .bool z.bbuy, .int .i64 z.bprice, z.qv, .int .i64 z.parent, .int .i64 z.group] 28)).heap.size := by simp
  generalize w.alloc (Obj.cells #[.int .i64 3, .int .i64 z.cents, .int .i64 z.seq, .string z.swho, .int .i64 z.sseq, .int .i64 z.szone, .int .i64 z.shour, .bool z.sbuy, .int .i64 z.sqty, .int .i64 z.sprice, .string z.bwho, .int .i64 z.bseq, .int .i64 z.bzone, .bool z.bbuy, .int .i64 z.bprice, z.qv, .int .i64 z.parent, .int .i64 z.group] 28) = W1 at *
  refine hM.mono ?_
  rintro e w2 ⟨rfl, b2⟩
  have B2 := chain2 b1 b2
  clear hM a0 a1 a2 a3 a4 a5 a6 a7 a8 a9 a10 a11 a12 a13 a14 a15 a16 a17
  go_wp2_with fail
  refine (sclone_any who w2 hw).mono ?_
  rintro e w3 ⟨rfl, b3⟩
  have B3 := chain2 B2 b3
  have hb := hb0.below B3
  have hl3 := blk_below hl' (chain2 b2 b3)
  have a0 := blk_cell hl3 0 (.int .i64 3) rfl
  have a1 := blk_cell hl3 1 (.int .i64 z.cents) rfl
  have a2 := blk_cell hl3 2 (.int .i64 z.seq) rfl
  have a3 := blk_cell hl3 3 (.string z.swho) rfl
  have a4 := blk_cell hl3 4 (.int .i64 z.sseq) rfl
  have a5 := blk_cell hl3 5 (.int .i64 z.szone) rfl
  have a6 := blk_cell hl3 6 (.int .i64 z.shour) rfl
  have a7 := blk_cell hl3 7 (.bool z.sbuy) rfl
  have a8 := blk_cell hl3 8 (.int .i64 z.sqty) rfl
  have a9 := blk_cell hl3 9 (.int .i64 z.sprice) rfl
  have a10 := blk_cell hl3 10 (.string z.bwho) rfl
  have a11 := blk_cell hl3 11 (.int .i64 z.bseq) rfl
  have a12 := blk_cell hl3 12 (.int .i64 z.bzone) rfl
  have a13 := blk_cell hl3 13 (.bool z.bbuy) rfl
  have a14 := blk_cell hl3 14 (.int .i64 z.bprice) rfl
  have a15 := blk_cell hl3 15 (z.qv) rfl
  have a16 := blk_cell hl3 16 (.int .i64 z.parent) rfl
  have a17 := blk_cell hl3 17 (.int .i64 z.group) rfl
  have hnw : w.heap.size < w3.heap.size := lt_of_block hl3
  have HW := hid hw
  have HL3 := hid hl3
  obtain ⟨sv, ho, hL⟩ := hb.account who hw
  replace hL := hL w3 rfl
  obtain ⟨sa, sc, rfl⟩ := own_slice ho.1
  have c1 := hb.cell1
  have hbz : bb < w3.heap.size := hb.lt _ hb.ob
  obtain ⟨A, hA⟩ : ∃ A, Hid (A = P.asks) := ⟨_, hid rfl⟩
  obtain ⟨L, hLk⟩ : ∃ L, Hid (L = P.locked) := ⟨_, hid rfl⟩
  obtain ⟨sn, hsn⟩ : ∃ sn, Hid (sn = P.seqs.length) := ⟨_, hid rfl⟩
  rw [← hP.out] at hL ho
  rw [← hA.out, ← hLk.out, ← hsn.out] at hL
  rw [← hsn.out] at ho
  have w1 : wrap64 (A + 1) = A + 1 := by have := HS0.out.asks; have := hA.out; unfold wrap64; omega
  have HB := hid hb
  have HOW := hid ho
  have HB0 := hid hb0
  have HB3 := hid B3
  have hnb : ¬ w3.heap.size = w.heap.size := by omega
  have hnb2 : ¬ w3.heap.size = bb := by omega
  generalize hnn : w.heap.size = n at *
  have HN := hid hnn
  clear hnn b1 b2 b3 B2 B3 hl hl' hl3 hb hb0 ho hw hs0 hn
  go_wp2_with (first | (refine wpList_store_new rfl 76 _ _ rfl _ _ _ rfl (by simp) rfl 3 info_account (by rfl) (by rfl) (by simp [Value.oneCell']) ?_) | fail)
  have b4 := (Below.refl w3.heap.size w3).alloc (Nat.le_refl _) (Obj.cells #[.int .i64 L, .int .i64 (A + 1), .slice sa sn sc] 76)
  have m4 := heap_alloc_last w3 (Obj.cells #[.int .i64 L, .int .i64 (A + 1), .slice sa sn sc] 76)
  have hb4 := HB.out.below b4
  have g4 := blk_below HL3.out b4
  clear a0 a1 a2 a3 a4 a5 a6 a7 a8 a9 a10 a11 a12 a13 a14 a15 a16 a17 hL c1
  generalize w3.alloc (Obj.cells #[.int .i64 L, .int .i64 (A + 1), .slice sa sn sc] 76) = W4 at *
  refine (hSQ W4).mono ?_
  rintro e w5 ⟨rfl, b5⟩
  have hb5 := hb4.below b5
  have m5 := blk_below m4 b5
  have g5 := blk_below g4 b5
  have b35 := chain2 b4 b5
  have HB5 := hid hb5
  have hlb : lb < n := by have := HB0.out.lt lb HB0.out.ol; have := HN.out; omega
  have hbb : bb < n := by have := HB0.out.lt bb HB0.out.ob; have := HN.out; omega
  have hnlb : ¬ n = lb := by omega
  have hbl : bb ≠ lb := fun e => by have h1 := HB0.out.cb; have h2 := HB0.out.cl; rw [e, h2] at h1; cases h1
  obtain ⟨sq, hsq⟩ : ∃ sq, Hid (sq = seqK z) := ⟨_, hid rfl⟩
  rw [← hsq.out]
  have HC0 := hid hb5.cell0
  have D0 : Below w5.heap.size w5 w5.drew := below_drew1 w5
  have E0 : Kx (fun i => i = lb) w5 w5.drew := Kx.of_below D0
  have HZI := hid (fun W (k : Below w5.heap.size w5 W) => show Ints W z.qv z.Q from by
    have hn := HN.out
    subst hn
    exact HZI0.out.below (chain2 HB3.out (chain2 b35 k)))
  have HK := hid (fun X (k : Kx (fun i => i = lb) w5 X) => show (X.cell? ⟨n, 0, none⟩ = some (.int .i64 3) ∧ X.cell? ⟨n, 1, none⟩ = some (.int .i64 z.cents) ∧ X.cell? ⟨n, 2, none⟩ = some (.int .i64 z.seq) ∧ X.cell? ⟨n, 3, none⟩ = some (.string z.swho) ∧ X.cell? ⟨n, 4, none⟩ = some (.int .i64 z.sseq) ∧ X.cell? ⟨n, 5, none⟩ = some (.int .i64 z.szone) ∧ X.cell? ⟨n, 6, none⟩ = some (.int .i64 z.shour) ∧ X.cell? ⟨n, 7, none⟩ = some (.bool z.sbuy) ∧ X.cell? ⟨n, 8, none⟩ = some (.int .i64 z.sqty) ∧ X.cell? ⟨n, 9, none⟩ = some (.int .i64 z.sprice) ∧ X.cell? ⟨n, 10, none⟩ = some (.string z.bwho) ∧ X.cell? ⟨n, 11, none⟩ = some (.int .i64 z.bseq) ∧ X.cell? ⟨n, 12, none⟩ = some (.int .i64 z.bzone) ∧ X.cell? ⟨n, 13, none⟩ = some (.bool z.bbuy) ∧ X.cell? ⟨n, 14, none⟩ = some (.int .i64 z.bprice) ∧ X.cell? ⟨n, 15, none⟩ = some (z.qv) ∧ X.cell? ⟨n, 16, none⟩ = some (.int .i64 z.parent) ∧ X.cell? ⟨n, 17, none⟩ = some (.int .i64 z.group) ∧ X.cell? ⟨bb, 0, none⟩ = some (.map (some lb))) from by
    have g := k.blk g5 hnlb
    exact ⟨blk_cell g 0 (.int .i64 3) rfl, blk_cell g 1 (.int .i64 z.cents) rfl, blk_cell g 2 (.int .i64 z.seq) rfl, blk_cell g 3 (.string z.swho) rfl, blk_cell g 4 (.int .i64 z.sseq) rfl, blk_cell g 5 (.int .i64 z.szone) rfl, blk_cell g 6 (.int .i64 z.shour) rfl, blk_cell g 7 (.bool z.sbuy) rfl, blk_cell g 8 (.int .i64 z.sqty) rfl, blk_cell g 9 (.int .i64 z.sprice) rfl, blk_cell g 10 (.string z.bwho) rfl, blk_cell g 11 (.int .i64 z.bseq) rfl, blk_cell g 12 (.int .i64 z.bzone) rfl, blk_cell g 13 (.bool z.bbuy) rfl, blk_cell g 14 (.int .i64 z.bprice) rfl, blk_cell g 15 (z.qv) rfl, blk_cell g 16 (.int .i64 z.parent) rfl, blk_cell g 17 (.int .i64 z.group) rfl, k.cell HC0.out hbl⟩)
  clear hSQ hb4 hb5 m4 g4 g5 b4 b5
  go_wp2_with fail
  go_region_held3 (fun X => X.cell? ⟨n, 0, none⟩ = some (.int .i64 3) ∧ X.cell? ⟨n, 1, none⟩ = some (.int .i64 z.cents) ∧ X.cell? ⟨n, 2, none⟩ = some (.int .i64 z.seq) ∧ X.cell? ⟨n, 3, none⟩ = some (.string z.swho) ∧ X.cell? ⟨n, 4, none⟩ = some (.int .i64 z.sseq) ∧ X.cell? ⟨n, 5, none⟩ = some (.int .i64 z.szone) ∧ X.cell? ⟨n, 6, none⟩ = some (.int .i64 z.shour) ∧ X.cell? ⟨n, 7, none⟩ = some (.bool z.sbuy) ∧ X.cell? ⟨n, 8, none⟩ = some (.int .i64 z.sqty) ∧ X.cell? ⟨n, 9, none⟩ = some (.int .i64 z.sprice) ∧ X.cell? ⟨n, 10, none⟩ = some (.string z.bwho) ∧ X.cell? ⟨n, 11, none⟩ = some (.int .i64 z.bseq) ∧ X.cell? ⟨n, 12, none⟩ = some (.int .i64 z.bzone) ∧ X.cell? ⟨n, 13, none⟩ = some (.bool z.bbuy) ∧ X.cell? ⟨n, 14, none⟩ = some (.int .i64 z.bprice) ∧ X.cell? ⟨n, 15, none⟩ = some (z.qv) ∧ X.cell? ⟨n, 16, none⟩ = some (.int .i64 z.parent) ∧ X.cell? ⟨n, 17, none⟩ = some (.int .i64 z.group) ∧ X.cell? ⟨bb, 0, none⟩ = some (.map (some lb))) (first | with_reducible exact HK.out _ E2 | with_reducible exact HK.out _ E1 | with_reducible exact HK.out _ E0) ((go_at_call 33; refine ((HAN.out _ (HZI.out _ D0))).mono ?_; rintro e X1 ⟨qa, qn, qc, rfl, hi1, hq1, bb1⟩; have D1 := chain2 D0 bb1; have E1 : Kx (fun i => i = lb) w5 X1 := Kx.of_below D1; obtain ⟨el', kl', hrun, hm1, hput1⟩ := (HB5.out.below D1).live.put lawKey Try.underlying70 (keyOf_key who sq (by have := HW.out; unfold maxLen; omega) (by rw [hsq.out]; exact wf64 hseq)) (.agg #[.int .i64 3, .int .i64 0, .int .i64 0, .string ⟨#[]⟩, .int .i64 0, .int .i64 0, .int .i64 0, .bool false, .int .i64 0, .int .i64 0, .string who, .int .i64 z.bseq, .int .i64 z.bzone, .bool z.bbuy, .int .i64 z.bprice, .slice qa qn qc, .int .i64 z.parent, .int .i64 z.group]); unfold keyV at hrun; have E2 : Kx (fun i => i = lb) w5 (setBlock X1 lb (.map el' kl')) := kx_setBlock E1 (HB5.out.below D1).live.blk rfl))
  have hmlb : ¬ w3.heap.size = lb := by omega
  have m6 := E2.blk m5 hmlb
  have E3 : Kx (fun i => i = lb) w3 (setBlock X1 lb (.map el' kl')) := (Kx.of_below b35).trans E2
  have HX1 := hid (HB5.out.below D1)
  have hm5z := hid m5
  have HM1 := hid hm1
  have HP1 := hid hput1
  have HD1 := hid D1
  have HQ1 := hid hi1
  have HQ2 := hid hq1
  clear hi1 hq1
  clear hm1 hput1 D1 E0 E1 bb1 D0 hrun HK HC0 HZI m5
  obtain ⟨X6, hX6⟩ : ∃ X, Hid (X = setBlock X1 lb (.map el' kl')) := ⟨_, hid rfl⟩
  rw [← hX6.out] at E2 E3 m6
  rw [← hX6.out]
  have hcol : ∀ i, O i → C i = .seqs who → ¬ i = lb := fun i _ hc e => by rw [e, HB0.out.cl] at hc; cases hc
  have ho6 := own_kx HOW.out E3 hcol
  have hI6 : Ints X6 (.slice sa sn sc) P.seqs := Row1.of_own (by rw [intV_len]; exact ho6.1)
  have hlen : P.seqs.length ≤ 24 := by have := HS0.out.many; have := HS0.out.asks; omega
  obtain ⟨pc, hpc⟩ : ∃ pc : Nat, Hid (pc = placeOf P.seqs sq) := ⟨_, hid rfl⟩
  have hBS := bsearch_any X6 (.slice sa sn sc) P.seqs sq hI6 hlen HS0.out.rise
  have hpc2 : P.seqs.countP (· < sq) = pc := hpc.out.symm
  rw [hpc2, show P.seqs.contains sq = false by rw [hsq.out]; exact hnew] at hBS
  clear hpc2 hnew
  have i6 := blk_cell m6 2 (.slice sa sn sc) rfl
  go_wp2_with fail
  refine hBS.mono ?_
  rintro e X7 ⟨rfl, b7⟩
  clear hBS i6
  have m7 := blk_below m6 b7
  have i7 := blk_cell m7 2 (.slice sa sn sc) rfl
  have b8 := (Below.refl X7.heap.size X7).alloc (Nat.le_refl _) (Obj.cells #[.int .i64 sq] 3)
  have g8 := heap_alloc_last X7 (Obj.cells #[.int .i64 sq] 3)
  have K7 : Kx (fun i => i = lb) w3 X7 := E3.trans (Kx.of_below b7)
  have K8 : Kx (fun i => i = lb) w3 (X7.alloc (Obj.cells #[.int .i64 sq] 3)) := K7.trans (Kx.of_below b8)
  have ho8 := own_kx HOW.out K8 hcol
  have hpl : pc ≤ P.seqs.length := by rw [hpc.out]; exact List.countP_le_length
  have hIN := insert_any (X7.alloc (Obj.cells #[.int .i64 sq] 3)) (.slice sa sn sc) P.seqs pc sq X7.heap.size hpl (by omega) (by rw [← hsn.out]; have := ho8.1; rw [← hsn.out] at this; exact this) g8 (fun e => by
    have h1 := (ho6.2 _ e).1
    have h2 := HB0.out.lt _ h1
    have h3 := K7.size
    have h4 := HN.out
    omega)
  have m8 := blk_below m7 b8
  have hnx7 : ¬ X7.heap.size = w3.heap.size := by have := lt_of_block m7; omega
  have HK8 := hid K8
  have B67 := hid b7
  have B78 := hid b8
  clear hI6 ho6 ho8 E2 E3 m6 b7 K7 K8
  go_wp2_with fail
  generalize hX8 : X7.alloc (Obj.cells #[.int .i64 sq] 3) = X8 at *
  refine hIN.mono ?_
  rintro e X9 ⟨v', rfl, ho9, kx9, hloc⟩
  obtain ⟨va, vc, rfl⟩ := own_slice ho9
  have hmown : ¬ some w3.heap.size = (Value.slice sa sn sc).ownBlock := fun e => by
    have h1 := (HOW.out.2 _ e.symm).1
    have h2 := HB0.out.lt _ h1
    have h4 := HN.out
    omega
  have m9 := kx9.blk m8 hmown
  have r9 := blk_cell m9 2 (.slice sa sn sc) rfl
  have f9 := blk_free m9 2
  have m10 : (X9.setCell ⟨w3.heap.size, 2, none⟩ (.slice va (P.seqs.length + 1) vc)).heap[w3.heap.size]? = some (.cells #[.int .i64 L, .int .i64 (A + 1), .slice va (P.seqs.length + 1) vc] 76 (0, 0)) := by
    have := set_at (L := [.int .i64 L, .int .i64 (A + 1), .slice sa sn sc]) (k := 2) (v := .slice va (P.seqs.length + 1) vc) m9
    simpa using this
  have k910 : Kx (fun i => i = w3.heap.size) X9 (X9.setCell ⟨w3.heap.size, 2, none⟩ (.slice va (P.seqs.length + 1) vc)) := Kx.set (S := fun i => i = w3.heap.size) (g := w3.heap.size) (Kx.refl _ X9) rfl _
  -- all that was written since w3
  have hn3 : n ≤ w3.heap.size := by omega
  have t1 : Kx (fun i => May1 O C who i ∨ n ≤ i) w3 X8 := HK8.out.mono (fun i e => Or.inl (by subst e; exact ⟨HB0.out.ol, Or.inl HB0.out.cl⟩))
  have t2 : Kx (fun i => May1 O C who i ∨ n ≤ i) X8 X9 := kx9.mono (fun i e => Or.inl (by have := HOW.out.2 i e.symm; exact ⟨this.1, Or.inr (Or.inr this.2)⟩))
  have t3 : Kx (fun i => May1 O C who i ∨ n ≤ i) X9 (X9.setCell ⟨w3.heap.size, 2, none⟩ (.slice va (P.seqs.length + 1) vc)) := k910.mono (fun i e => Or.inr (by omega))
  have t4 := (t1.trans t2).trans t3
  have T4 := hid t4
  have HO9 := hid ho9
  have HKX9 := hid kx9
  have HLOC := hid hloc
  have HK910 := hid k910
  have hX8' := hid hX8
  clear t1 t2 t3 hIN ho9 kx9 hloc m8 m7 i7 g8 k910 hX8 b8
  -- the accounts' block is as it was
  have haN : ab < n := by have := HB0.out.lt ab HB0.out.oa; have := HN.out; omega
  have hal : ¬ ab = lb := fun e => by have h1 := HB0.out.cac; have h2 := HB0.out.cl; rw [e, h2] at h1; cases h1
  have hao : ¬ some ab = (Value.slice sa sn sc).ownBlock := fun e => by
    have h1 := (HOW.out.2 _ e.symm).2
    rw [HB0.out.cac] at h1; cases h1
  have hbo : ¬ some bb = (Value.slice sa sn sc).ownBlock := fun e => by
    have h1 := (HOW.out.2 _ e.symm).2
    rw [HB0.out.cb] at h1; cases h1
  have hac10 : MapAt 9 (X9.setCell ⟨w3.heap.size, 2, none⟩ (.slice va (P.seqs.length + 1) vc)) ab ea ca := by
    have h1 := HB.out.accs
    have h2 := h1.to (HK8.out.block ab (HB.out.lt _ HB.out.oa) hal)
    have h3 := h2.to (HKX9.out.block ab (lt_of_block h2.blk) hao)
    exact h3.to (HK910.out.block ab (lt_of_block h3.blk) (by omega))
  have hbx10 : (X9.setCell ⟨w3.heap.size, 2, none⟩ (.slice va (P.seqs.length + 1) vc)).heap[bb]? = some (.cells #[.map (some lb), .map (some ab)] 73 (0, 0)) := by
    have h1 := HK8.out.blk HB.out.box hbl
    have h2 := HKX9.out.blk h1 hbo
    exact HK910.out.blk h2 (by omega)
  have HAC := hid hac10
  have HBX := hid hbx10
  have hnb3 : ¬ w3.heap.size = n := by omega
  go_wp2_with fail
  obtain ⟨X10, hX10⟩ : ∃ X, Hid (X = X9.setCell ⟨w3.heap.size, 2, none⟩ (.slice va (P.seqs.length + 1) vc)) := ⟨_, hid rfl⟩
  rw [← hX10.out] at m10 T4 HAC HBX HK910
  rw [← hX10.out]
  obtain ⟨ea', ka', hrun, hm2, hput2⟩ := HAC.out.drew.put lawStr Try.underlying71 (keyOf_name who (by have := HW.out; unfold maxLen; omega)) (.agg #[.int .i64 L, .int .i64 (A + 1), .slice va (P.seqs.length + 1) vc])
  have d0 := blk_cell m10 0 _ rfl
  have d1 := blk_cell m10 1 _ rfl
  have d2 := blk_cell m10 2 _ rfl
  have c1 := blk_cell HBX.out 1 (.map (some ab)) rfl
  have HM2 := hid hm2
  have HP2 := hid hput2
  clear hm2 hput2 r9 f9 m9 m10 t4 hac10 hbx10
  go_region
  go_wp2
  go_ret
  have hn := HN.out
  subst hn
  have h0 := HB0.out
  have hlt0 := h0.lt
  have t5 : Kx (fun i => May1 O C who i ∨ w.heap.size ≤ i) X10 (setBlock X10.drew ab (.map ea' ka')) := kx_setBlock (Kx.of_below (below_drew1 X10)) (show X10.drew.heap[ab]? = _ from HAC.out.blk) (Or.inl ⟨h0.oa, Or.inr (Or.inl h0.cac)⟩)
  have t6 : Kx (fun i => i = ab) X10 (setBlock X10.drew ab (.map ea' ka')) := kx_setBlock (Kx.of_below (below_drew1 X10)) (show X10.drew.heap[ab]? = _ from HAC.out.blk) rfl
  have kfin : Kx (May1 O C who) w (setBlock X10.drew ab (.map ea' ka')) := kx_old (Nat.le_refl _) ((Kx.of_below HB3.out).trans (T4.out.trans t5))
  generalize hWF : setBlock X10.drew ab (.map ea' ka') = WF at *
  have sz1 : w3.heap.size ≤ X8.heap.size := HK8.out.size
  have sz2 : X8.heap.size ≤ X9.heap.size := HKX9.out.size
  have sz3 : X9.heap.size ≤ X10.heap.size := HK910.out.size
  have sz4 : X10.heap.size ≤ WF.heap.size := t6.size
  have sz5 : X6.heap.size ≤ X8.heap.size := Nat.le_trans B67.out.size B78.out.size
  have sz6 : X1.heap.size = X6.heap.size := by rw [hX6.out]; simp [setBlock]
  have sz7 : w3.heap.size < w5.heap.size := lt_of_block hm5z.out
  have sz8 : w5.heap.size ≤ X1.heap.size := HD1.out.size
  have hownB : ∀ g, (Value.slice sa sn sc).ownBlock = some g → g < w.heap.size ∧ C g = .seqs who ∧ O g := fun g hg => ⟨hlt0 g (HOW.out.2 g hg).1, (HOW.out.2 g hg).2, (HOW.out.2 g hg).1⟩
  have hnewB : ∀ g, (Value.slice va (P.seqs.length + 1) vc).ownBlock = some g → (O g ∧ C g = .seqs who ∧ g < w.heap.size) ∨ (X8.heap.size ≤ g ∧ g < X9.heap.size) := fun g hg => by
    rcases HLOC.out with e | ⟨b, e, e1, e2⟩
    · rw [e] at hg
      have := hownB g hg
      exact Or.inl ⟨this.2.2, this.2.1, this.1⟩
    · rw [e] at hg
      cases hg
      exact Or.inr ⟨e1, e2⟩
  have hrow : WF.ownsRow 0 3 1 (.slice va (P.seqs.length + 1) vc) (P.seqs.length + 1) (intV (ins P.seqs pc sq)) := by
    have k1 : Kx (fun i => i = w3.heap.size ∨ i = ab) X9 WF := (HK910.out.mono (fun i e => Or.inl e)).trans (t6.mono (fun i e => Or.inr e))
    obtain ⟨r1, r2⟩ := HO9.out
    refine ⟨r1, ?_⟩
    rcases r2 with r2 | ⟨g, cap, cur, e, hb, hh, r⟩
    · exact Or.inl r2
    · refine Or.inr ⟨g, cap, cur, e, hb, k1.blk hh (fun hc => ?_), r⟩
      rcases hnewB g (by rw [e]; rfl) with ⟨_, q2, q3⟩ | ⟨q1, _⟩
      · rcases hc with hc | hc
        · omega
        · rw [hc, h0.cac] at q2; cases q2
      · rcases hc with hc | hc
        · have := B78.out.size
          have := sz5
          omega
        · omega
  classical
  have hlive : MapAt 78 WF lb el' kl' := by
    have h6 := HM1.out
    rw [← hX6.out] at h6
    have h7 := h6.to (B67.out.block lb (lt_of_block h6.blk))
    have h8 := h7.to (B78.out.block lb (lt_of_block h7.blk))
    have h9 := h8.to (HKX9.out.block lb (lt_of_block h8.blk) (fun e => by have := (hownB _ e.symm).2.1; rw [h0.cl] at this; cases this))
    have h10 := h9.to (HK910.out.block lb (lt_of_block h9.blk) (by omega))
    exact h10.to (t6.block lb (lt_of_block h10.blk) (fun e => hal e.symm))
  have hM2 := HM2.out
  have hPe := hP.out
  have hse := hsq.out
  have hpce := hpc.out
  subst hPe
  subst hse
  rw [hpce] at hrow
  have hcol' : ∀ i, O i → (if O i then C i else if (Value.slice va ((S who).seqs.length + 1) vc).ownBlock = some i then Col.seqs who else Col.qty) = C i := fun i hi => if_pos hi
  have hsplit : ∀ s, s ≠ seqK z → (ordP (S who) z).live s = (S who).live s := fun s hs => if_neg hs
  have hfits : Fits (fun i => O i ∨ (w.heap.size ≤ i ∧ i < WF.heap.size)) (fun i => if O i then C i else if (Value.slice va ((S who).seqs.length + 1) vc).ownBlock = some i then Col.seqs who else Col.qty) WF (.slice qa qn qc) (kbO z) := by
    rw [kbO_block hk]
    have k1 : Kx (fun i => i ≤ w3.heap.size) X1 WF := by
      have j1 : Kx (fun i => i ≤ w3.heap.size) X1 X6 := by
        rw [hX6.out]
        exact kx_setBlock (Kx.refl _ X1) HX1.out.live.blk (by omega)
      have j2 : Kx (fun i => i ≤ w3.heap.size) X6 X8 := (Kx.of_below B67.out).trans (Kx.of_below B78.out)
      have j3 : Kx (fun i => i ≤ w3.heap.size) X8 X9 := HKX9.out.mono (fun i e => by have := (hownB i e.symm).1; omega)
      have j4 : Kx (fun i => i ≤ w3.heap.size) X9 X10 := HK910.out.mono (fun i e => by omega)
      have j5 : Kx (fun i => i ≤ w3.heap.size) X10 WF := t6.mono (fun i e => by omega)
      exact (((j1.trans j2).trans j3).trans j4).trans j5
    rcases HQ2.out with hq | hq
    · obtain ⟨a', c', x1, x2, x3, _⟩ := HQ1.out
      rw [hq] at x1 x2 ⊢
      exact ⟨⟨a', c', x1, x2, x3, Or.inl rfl⟩, Or.inl rfl⟩
    · refine ⟨Row1.kx HQ1.out k1 (fun b off n' c' e hb => by have := (hq b off n' c' e).1; simp at this; omega), Or.inr fun b off n' c' e => ?_⟩
      have hq1 := hq b off n' c' e
      simp at hq1
      have hno : ¬ O b := fun hO => by have := hlt0 b hO; omega
      refine ⟨Or.inr ⟨by omega, by omega⟩, ?_⟩
      refine (if_neg hno).trans (if_neg ?_)
      intro e1
      rcases hnewB b e1 with ⟨_, _, q3⟩ | ⟨q1, _⟩
      · omega
      · omega
  have hfin := h0.after (O' := fun i => O i ∨ (w.heap.size ≤ i ∧ i < WF.heap.size)) (C' := fun i => if O i then C i else if (Value.slice va ((S who).seqs.length + 1) vc).ownBlock = some i then Col.seqs who else Col.qty) who HW.out (ordP (S who) z) HS.out (.slice va ((S who).seqs.length + 1) vc)
    (fun i hi => Or.inl hi) (fun i hi => by rcases hi with hi | hi; exact Nat.lt_of_lt_of_le (hlt0 i hi) kfin.size; exact hi.2) hcol' kfin hlive hM2 (by have := HP2.out; rw [hLk.out, hA.out] at this; exact this)
    ⟨by show WF.ownsRow 0 _ 1 _ (ins (S who).seqs (placeOf (S who).seqs (seqK z)) (seqK z)).length _; rw [ins_len]; exact hrow, fun g hg => by
      rcases hnewB g hg with ⟨q1, q2, q3⟩ | ⟨q1, q2⟩
      · exact ⟨Or.inl q1, (if_pos q1).trans q2⟩
      · have hno : ¬ O g := fun hO => by have := hlt0 g hO; omega
        exact ⟨Or.inr ⟨by omega, by omega⟩, (if_neg hno).trans (if_pos hg)⟩⟩
    (fun x hx => by
      rcases HP1.out.only x hx with ⟨hx', hne⟩ | ⟨e1, e2⟩
      · exact Or.inl ⟨hx', fun s hs => hsplit s (fun e => hne (by rw [hs, e]))⟩
      · exact Or.inr ⟨seqK z, kbO z, (.slice qa qn qc), e1, by rw [e2, kbO_block hk]; rfl, if_pos rfl, hfits⟩)
    (fun s o hs => by
      by_cases e : s = seqK z
      · obtain ⟨x, hx, e1, _⟩ := HP1.out.new
        exact ⟨x, hx, by rw [e]; exact e1⟩
      · rw [hsplit s e] at hs
        obtain ⟨x, hx, e1⟩ := h0.lives who s o hs
        exact ⟨x, HP1.out.kept x hx (fun e2 => e (keyV_inj (e1.symm.trans e2)).2), e1⟩)
    (fun x hx hno => HP1.out.kept x hx (hno (seqK z)))
  exact ⟨rfl, kfin.mono (fun _ hm => hm.1), _, bb, lb, ab, el', ea', kl', ka', rfl, hfin⟩
end Go.Proofs.Ytbkobimbdiogfaa
