/- book: Add of a Cancel; Add. -/
import Derived.Test.YtbkobimbdiogfaaBAdd
namespace Go.Proofs.Ytbkobimbdiogfaa
open Go.RowKit Go.MapKept
open Go.ChangeMaps (setBlock heap_setBlock_same heap_setBlock_other)
set_option linter.unusedVariables false
set_option maxRecDepth 100000
set_option linter.unusedSimpArgs false

def canP (p : Ps) (s : Int) : Ps := { p with asks := p.asks + 1, live := fun x => if x = s then none else p.live x }
theorem canP_sane {p : Ps} {s : Int} (h : Sane p) (hq : p.asks < 24) : Sane (canP p s) := by
  obtain ⟨h1, h2, h3, h4, h5, h6, h7⟩ := h
  refine ⟨by simp only [canP]; omega, by simp only [canP]; omega, by simp only [canP]; omega, h4, h5, ?_, ?_⟩
  · intro x o hx
    simp only [canP] at hx
    split at hx
    · cases hx
    · exact h6 x o hx
  · intro x o hx
    simp only [canP] at hx
    split at hx
    · cases hx
    · exact h7 x o hx
theorem mayE_can {p : Ps} {z : Kb} (hk : z.kind = 4) (h : mayE p z = 0) : p.asks < 24 := by
  unfold mayE at h
  rw [if_neg (by omega)] at h
  by_cases e2 : 24 ≤ p.asks
  · rw [if_pos e2] at h; cases h
  · omega
set_option maxHeartbeats 3200000 in
theorem add_cancel {O : Nat → Prop} {w : World} {v : Value} {N : List ByteArray} {S : ByteArray → Ps} (h : Bk O w v N S) (who : ByteArray) (hw : who.size ≤ 1099511627776) (z : Kb) (hk : z.kind = 4) (hz : KbFits w z) (hE : mayE (S who) z = 0) :
    Calls Try.prog 14 #[v, .string who, .agg (kbC z)] w fun e w' => e = .returned (.int .i64 0) ∧ Kx O w w' ∧ Bk O w' v (addN N who) (upd S who (canP (S who) z.seq)) := by
  have hq := mayE_can hk hE
  have hsane := canP_sane (s := z.seq) (h.sane who) hq
  have hs0 := h.sane who
  have b1 := (Below.refl w.heap.size w).alloc (Nat.le_refl _) (Obj.cells #[.int .i64 4, .int .i64 z.cents, .int .i64 z.seq, .string z.swho, .int .i64 z.sseq, .int .i64 z.szone, .int .i64 z.shour, .bool z.sbuy, .int .i64 z.sqty, .int .i64 z.sprice, .string z.bwho, .int .i64 z.bseq, .int .i64 z.bzone, .bool z.bbuy, .int .i64 z.bprice, z.qv, .int .i64 z.parent, .int .i64 z.group] 28)
  have hM := may_any (h.below b1) who hw z (hz.below b1)
  rw [hE] at hM
  have hl := heap_alloc_last w (Obj.cells #[.int .i64 4, .int .i64 z.cents, .int .i64 z.seq, .string z.swho, .int .i64 z.sseq, .int .i64 z.szone, .int .i64 z.shour, .bool z.sbuy, .int .i64 z.sqty, .int .i64 z.sprice, .string z.bwho, .int .i64 z.bseq, .int .i64 z.bzone, .bool z.bbuy, .int .i64 z.bprice, z.qv, .int .i64 z.parent, .int .i64 z.group] 28)
  have hseq := hz.seq
  unfold kbC at hM ⊢
  rw [hk] at hM ⊢
  have a0 := blk_cell hl 0 (.int .i64 4) rfl
  have a1 := blk_cell hl 1 (.int .i64 z.cents) rfl
  have a2 := blk_cell hl 2 (.int .i64 z.seq) rfl
  have a3 := blk_cell hl 3 (.string z.swho) rfl
  have a4 := blk_cell hl 4 (.int .i64 z.sseq) rfl
  have a5 := blk_cell hl 5 (.int .i64 z.szone) rfl
  have a6 := blk_cell hl 6 (.int .i64 z.shour) rfl
  have a7 := blk_cell hl 7 (.bool z.sbuy) rfl
  have a8 := blk_cell hl 8 (.int .i64 z.sqty) rfl
  have a9 := blk_cell hl 9 (.int .i64 z.sprice) rfl
  have a10 := blk_cell hl 10 (.string z.bwho) rfl
  have a11 := blk_cell hl 11 (.int .i64 z.bseq) rfl
  have a12 := blk_cell hl 12 (.int .i64 z.bzone) rfl
  have a13 := blk_cell hl 13 (.bool z.bbuy) rfl
  have a14 := blk_cell hl 14 (.int .i64 z.bprice) rfl
  have a15 := blk_cell hl 15 (z.qv) rfl
  have a16 := blk_cell hl 16 (.int .i64 z.parent) rfl
  have a17 := blk_cell hl 17 (.int .i64 z.group) rfl
  obtain ⟨C, bb, lb, ab, el, ea, cl, ca, rfl, hb0⟩ := h
  obtain ⟨P, hP⟩ : ∃ P, Hid (P = S who) := ⟨_, hid rfl⟩
  rw [← hP.out] at hsane hs0 ⊢
  have HS := hid hsane
  have HS0 := hid hs0
  clear hE hz hsane hq
  go_enter Try.func14, Try.ntmps14
  go_wp2_with fail
  have hl' := hl
  have hn : w.heap.size < (w.alloc (Obj.cells #[.int .i64 4, .int .i64 z.cents, .int .i64 z.seq, .string z.swho, .int .i64 z.sseq, .int .i64 z.szone, .int .i64 z.shour, .bool z.sbuy, .int .i64 z.sqty, .int .i64 z.sprice, .string z.bwho, .int .i64 z.bseq, .int .i64 z.bzone, .bool z.bbuy, .int .i64 z.bprice, z.qv, .int .i64 z.parent, .int .i64 z.group] 28)).heap.size := by simp
  generalize w.alloc (Obj.cells #[.int .i64 4, .int .i64 z.cents, .int .i64 z.seq, .string z.swho, .int .i64 z.sseq, .int .i64 z.szone, .int .i64 z.shour, .bool z.sbuy, .int .i64 z.sqty, .int .i64 z.sprice, .string z.bwho, .int .i64 z.bseq, .int .i64 z.bzone, .bool z.bbuy, .int .i64 z.bprice, z.qv, .int .i64 z.parent, .int .i64 z.group] 28) = W1 at *
  refine hM.mono ?_
  rintro e w2 ⟨rfl, b2⟩
  have B2 := chain2 b1 b2
  clear hM a0 a1 a2 a3 a4 a5 a6 a7 a8 a9 a10 a11 a12 a13 a14 a15 a16 a17
  go_wp2_with fail
  refine (sclone_any who w2 hw).mono ?_
  rintro e w3 ⟨rfl, b3⟩
  have B3 := chain2 B2 b3
  have hb := hb0.below B3
  have hl3 := blk_below hl' (chain2 b2 b3)
  have a0 := blk_cell hl3 0 (.int .i64 4) rfl
  have a2 := blk_cell hl3 2 (.int .i64 z.seq) rfl
  have hnw : w.heap.size < w3.heap.size := lt_of_block hl3
  have HW := hid hw
  have HL3 := hid hl3
  obtain ⟨sv, ho, hL⟩ := hb.account who hw
  replace hL := hL w3 rfl
  obtain ⟨sa, sc, rfl⟩ := own_slice ho.1
  have c1 := hb.cell1
  have hbz : bb < w3.heap.size := hb.lt _ hb.ob
  obtain ⟨A, hA⟩ : ∃ A, Hid (A = P.asks) := ⟨_, hid rfl⟩
  obtain ⟨L, hLk⟩ : ∃ L, Hid (L = P.locked) := ⟨_, hid rfl⟩
  obtain ⟨sn, hsn⟩ : ∃ sn, Hid (sn = P.seqs.length) := ⟨_, hid rfl⟩
  rw [← hP.out] at hL ho
  rw [← hA.out, ← hLk.out, ← hsn.out] at hL
  rw [← hsn.out] at ho
  have w1 : wrap64 (A + 1) = A + 1 := by have := HS0.out.asks; have := hA.out; unfold wrap64; omega
  have HB := hid hb
  have HOW := hid ho
  have HB3 := hid B3
  have hnb : ¬ w3.heap.size = w.heap.size := by omega
  have hnb2 : ¬ w3.heap.size = bb := by omega
  generalize hnn : w.heap.size = n at *
  have HN := hid hnn
  clear hnn b1 b2 b3 B2 B3 hl hl' hl3 hb hb0 ho hw hs0 hn
  go_wp2_with (first | (refine wpList_store_new rfl 76 _ _ rfl _ _ _ rfl (by simp) rfl 3 info_account (by rfl) (by rfl) (by simp [Value.oneCell']) ?_) | fail)
  have b4 := (Below.refl w3.heap.size w3).alloc (Nat.le_refl _) (Obj.cells #[.int .i64 L, .int .i64 (A + 1), .slice sa sn sc] 76)
  have m4 := heap_alloc_last w3 (Obj.cells #[.int .i64 L, .int .i64 (A + 1), .slice sa sn sc] 76)
  have hb4 := HB.out.below b4
  have g4 := blk_below HL3.out b4
  clear a0 a2 hL c1
  generalize w3.alloc (Obj.cells #[.int .i64 L, .int .i64 (A + 1), .slice sa sn sc] 76) = W4 at *
  obtain ⟨el', hrun, hm1, hdel⟩ := hb4.live.drew.drop lawKey Try.underlying70 (keyOf_key who z.seq (by have := HW.out; unfold maxLen; omega) (wf64 hseq))
  unfold keyV at hrun
  have a2 := blk_cell g4 2 (.int .i64 z.seq) rfl
  have c0 := hb4.cell0
  have HB4 := hid hb4
  have HM1 := hid hm1
  have HDEL := hid hdel
  have k5 : Kx (fun i => i = lb) W4 (setBlock W4.drew lb (.map el' cl)) := kx_setBlock (Kx.of_below (below_drew1 W4)) (show W4.drew.heap[lb]? = _ from hb4.live.blk) rfl
  clear hb4 hm1 hdel
  go_region
  go_wp2_with fail
  have hlb : lb < w3.heap.size := HB.out.lt lb HB.out.ol
  have hbl : ¬ bb = lb := fun e => by have h1 := HB4.out.cb; have h2 := HB4.out.cl; rw [e, h2] at h1; cases h1
  have hal : ¬ ab = lb := fun e => by have h1 := HB4.out.cac; have h2 := HB4.out.cl; rw [e, h2] at h1; cases h1
  have m5 := k5.blk m4 (show ¬ w3.heap.size = lb by omega)
  have c1 := k5.cell HB4.out.cell1 hbl
  have hac := HB4.out.accs.to (k5.block ab (HB4.out.lt ab HB4.out.oa) hal)
  have HK5 := hid k5
  have b4' := hid b4
  clear hrun a2 c0 m4 g4 k5 b4
  generalize hX5 : setBlock W4.drew lb (.map el' cl) = X5 at *
  obtain ⟨ea', ka', hrun, hm2, hput2⟩ := hac.drew.put lawStr Try.underlying71 (keyOf_name who (by have := HW.out; unfold maxLen; omega)) (.agg #[.int .i64 L, .int .i64 (A + 1), .slice sa sn sc])
  have d0 := blk_cell m5 0 (.int .i64 L) rfl
  have d1 := blk_cell m5 1 (.int .i64 (A + 1)) rfl
  have d2 := blk_cell m5 2 (.slice sa sn sc) rfl
  have HAC := hid hac
  have HM2 := hid hm2
  have HP2 := hid hput2
  have hX5' := hid hX5
  clear hac hm2 hput2 m5 hX5
  go_region
  go_wp2
  go_ret
  have hn := HN.out
  subst hn
  have h4 := HB4.out
  have t6 : Kx (fun i => i = ab) X5 (setBlock X5.drew ab (.map ea' ka')) := kx_setBlock (Kx.of_below (below_drew1 X5)) (show X5.drew.heap[ab]? = _ from HAC.out.blk) rfl
  have k6 : Kx (fun i => i = lb ∨ i = ab) W4 (setBlock X5.drew ab (.map ea' ka')) := (HK5.out.mono (fun i e => Or.inl e)).trans (t6.mono (fun i e => Or.inr e))
  have k7 : Kx (May1 O C who) W4 (setBlock X5.drew ab (.map ea' ka')) := k6.mono (fun i e => by
    rcases e with e | e
    · subst e; exact ⟨h4.ol, Or.inl h4.cl⟩
    · subst e; exact ⟨h4.oa, Or.inr (Or.inl h4.cac)⟩)
  have ho := own_kx HOW.out ((Kx.of_below b4'.out).trans k6) (fun i _ hc e => by
    rcases e with e | e
    · rw [e, h4.cl] at hc; cases hc
    · rw [e, h4.cac] at hc; cases hc)
  have hM1 := HM1.out
  have hPe := hP.out
  subst hPe
  have hlive : MapAt 78 (setBlock X5.drew ab (.map ea' ka')) lb el' cl := by
    have h6 : MapAt 78 X5 lb el' cl := hM1
    exact h6.to (t6.block lb (lt_of_block h6.blk) (fun e => hal e.symm))
  have hfin := h4.after who HW.out (canP (S who) z.seq) HS.out (.slice sa sn sc) (fun i hi => hi) (fun i hi => Nat.lt_of_lt_of_le (h4.lt i hi) k7.size) (fun _ _ => rfl) k7
    hlive HM2.out (by have := HP2.out; rw [hLk.out, hA.out] at this; exact this) ho
    (fun x hx => Or.inl ⟨((HDEL.out x).1 hx).1, fun s hs => if_neg (fun e => ((HDEL.out x).1 hx).2 (by rw [hs, e]))⟩)
    (fun s o' hs => by
      have hs' : (if s = z.seq then none else (S who).live s) = some o' := hs
      by_cases e : s = z.seq
      · rw [if_pos e] at hs'; cases hs'
      · rw [if_neg e] at hs'
        obtain ⟨x, hx, e1⟩ := h4.lives who s o' hs'
        exact ⟨x, (HDEL.out x).2 ⟨hx, fun e2 => e (keyV_inj (e1.symm.trans e2)).2⟩, e1⟩)
    (fun x hx hno => (HDEL.out x).2 ⟨hx, hno z.seq⟩)
  exact ⟨rfl, (Kx.of_below (chain2 HB3.out b4'.out)).trans (k7.mono (fun _ hm => hm.1)), C, bb, lb, ab, el', ea', cl, ka', rfl, hfin⟩
/-- A participant behind an Add. -/
def addP (p : Ps) (z : Kb) : Ps := if z.kind = 1 then lockP p z.cents else if z.kind = 4 then canP p z.seq else ordP p z
theorem Bk.grow {O O' : Nat → Prop} {w : World} {v : Value} {N : List ByteArray} {S : ByteArray → Ps} (h : Bk O w v N S) (hO : ∀ i, O i → O' i) (hlt : ∀ i, O' i → i < w.heap.size) : Bk O' w v N S := by
  obtain ⟨C, bb, lb, ab, el, ea, cl, ca, hv, hb⟩ := h
  refine ⟨C, bb, lb, ab, el, ea, cl, ca, hv, { hb with ob := hO _ hb.ob, ol := hO _ hb.ol, oa := hO _ hb.oa, lt := hlt, acc := ?_, lv := ?_ }⟩
  · intro x hx
    obtain ⟨who, sv, h1, h2, h3, h4, h5⟩ := hb.acc x hx
    exact ⟨who, sv, h1, h2, h3, h4, fun g hg => ⟨hO g (h5 g hg).1, (h5 g hg).2⟩⟩
  · intro x hx
    obtain ⟨who, s, o, qv, h1, h2, h3, h4⟩ := hb.lv x hx
    refine ⟨who, s, o, qv, h1, h2, h3, ?_⟩
    cases o with
    | step => trivial
    | block => exact ⟨h4.1, h4.2.imp id (fun hh b off n c e => ⟨hO b (hh b off n c e).1, (hh b off n c e).2⟩)⟩
/-- What is taken. -/
theorem add_yes {O : Nat → Prop} {w : World} {v : Value} {N : List ByteArray} {S : ByteArray → Ps} (h : Bk O w v N S) (who : ByteArray) (hw : who.size ≤ 1099511627776) (z : Kb) (hz : KbFits w z) (hql : z.Q.length ≤ 1000000000) (hE : mayE (S who) z = 0) :
    Calls Try.prog 14 #[v, .string who, .agg (kbC z)] w fun e w' => e = .returned (.int .i64 0) ∧ Kx O w w' ∧ Bk (fun i => O i ∨ (w.heap.size ≤ i ∧ i < w'.heap.size)) w' v (addN N who) (upd S who (addP (S who) z)) := by
  have hkind : 1 ≤ z.kind ∧ z.kind ≤ 4 := by
    apply Classical.byContradiction
    intro hc
    unfold mayE at hE
    rw [if_pos (by omega)] at hE
    cases hE
  have hOl : ∀ w' : World, Kx O w w' → Bk O w' v (addN N who) (upd S who (addP (S who) z)) → Bk (fun i => O i ∨ (w.heap.size ≤ i ∧ i < w'.heap.size)) w' v (addN N who) (upd S who (addP (S who) z)) := fun w' k hb => by
    refine hb.grow (fun i hi => Or.inl hi) (fun i hi => ?_)
    rcases hi with hi | hi
    · obtain ⟨C, bb, lb, ab, el, ea, cl, ca, hv, hb'⟩ := hb
      exact hb'.lt i hi
    · exact hi.2
  by_cases e1 : z.kind = 1
  · have hq : (S who).asks < 24 ∧ lockE z.cents = 0 := by
      unfold mayE at hE
      rw [if_neg (by omega)] at hE
      by_cases e2 : 24 ≤ (S who).asks
      · rw [if_pos e2] at hE; cases hE
      · rw [if_neg e2, if_pos e1] at hE
        exact ⟨by omega, hE⟩
    have hc : 1 ≤ z.cents ∧ z.cents ≤ 1000000000 := by
      apply Classical.byContradiction
      intro hc
      have := hq.2
      unfold lockE at this
      rw [if_pos (by omega)] at this
      cases this
    have ha : addP (S who) z = lockP (S who) z.cents := if_pos e1
    have := add_lock h who hw z.cents z.seq (.string z.swho) (.int .i64 z.sseq) (.int .i64 z.szone) (.int .i64 z.shour) (.bool z.sbuy) (.int .i64 z.sqty) (.int .i64 z.sprice) (.string z.bwho) (.int .i64 z.bseq) (.int .i64 z.bzone) (.bool z.bbuy) (.int .i64 z.bprice) z.qv (.int .i64 z.parent) (.int .i64 z.group) hq.1 hc
    unfold kbC
    rw [e1]
    refine this.mono ?_
    rintro e w' ⟨rfl, k, hb⟩
    rw [← ha] at hb
    exact ⟨rfl, k, hOl w' k hb⟩
  by_cases e4 : z.kind = 4
  · have ha : addP (S who) z = canP (S who) z.seq := by unfold addP; rw [if_neg e1, if_pos e4]
    refine (add_cancel h who hw z e4 hz hE).mono ?_
    rintro e w' ⟨rfl, k, hb⟩
    rw [← ha] at hb
    exact ⟨rfl, k, hOl w' k hb⟩
  have ha : addP (S who) z = ordP (S who) z := by unfold addP; rw [if_neg e1, if_neg e4]
  rw [ha]
  by_cases e2 : z.kind = 2
  · exact add_step h who hw z e2 hz hql hE
  · exact add_block h who hw z (by omega) hz hql hE
/-- An Add, whatever is asked for. -/
theorem add_any {O : Nat → Prop} {w : World} {v : Value} {N : List ByteArray} {S : ByteArray → Ps} (h : Bk O w v N S) (who : ByteArray) (hw : who.size ≤ 1099511627776) (z : Kb) (hz : KbFits w z) (hql : z.Q.length ≤ 1000000000) :
    Calls Try.prog 14 #[v, .string who, .agg (kbC z)] w fun e w' => e = .returned (.int .i64 (mayE (S who) z)) ∧ Kx O w w' ∧ Bk (fun i => O i ∨ (w.heap.size ≤ i ∧ i < w'.heap.size)) w' v (if mayE (S who) z = 0 then addN N who else N) (if mayE (S who) z = 0 then upd S who (addP (S who) z) else S) := by
  by_cases hE : mayE (S who) z = 0
  · rw [if_pos hE, if_pos hE, hE]
    exact add_yes h who hw z hz hql hE
  · rw [if_neg hE, if_neg hE]
    refine (add_no h who hw z hz hE).mono ?_
    rintro e w' ⟨rfl, b⟩
    have hb := h.below b
    refine ⟨rfl, Kx.of_below b, hb.grow (fun i hi => Or.inl hi) (fun i hi => ?_)⟩
    rcases hi with hi | hi
    · obtain ⟨C, bb, lb, ab, el, ea, cl, ca, hv, hb'⟩ := hb
      exact hb'.lt i hi
    · exact hi.2
end Go.Proofs.Ytbkobimbdiogfaa
