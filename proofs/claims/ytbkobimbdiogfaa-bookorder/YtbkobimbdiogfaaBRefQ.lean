/- BookOrder: the document's Add. -/
import Derived.Test.YtbkobimbdiogfaaBRefP
namespace Go.Proofs.Ytbkobimbdiogfaa
open Go.RowKit Go.MapKept
set_option linter.unusedVariables false
set_option maxRecDepth 100000
set_option linter.unusedSimpArgs false

theorem info_One : (Try.prog.info? 84).map (fun i => (i.zero, i.size, i.bytes)) = some (some (.agg #[.string ⟨#[]⟩, .int .i64 0, .int .i64 0, .int .i64 0, .string ⟨#[]⟩, .int .i64 0, .int .i64 0, .int .i64 0, .bool false, .int .i64 0, .int .i64 0, .string ⟨#[]⟩, .int .i64 0, .int .i64 0, .bool false, .int .i64 0, .slice none 0 0, .int .i64 0, .int .i64 0, .bool false]), 20, 200) := by kernel_rfl
theorem blk_set {w : World} {b : Nat} {C : Array Value} {t : TypeId} {fz : Nat × Nat} (h : w.heap[b]? = some (.cells C t fz)) (k : Nat) (v : Value) : (w.setCell ⟨b, k, none⟩ v).heap[b]? = some (.cells (C.setIfInBounds k v) t fz) := by
  rw [setCell_eq_setRow w b k C t fz v h]
  exact setRow_heap w b C _ t fz h
theorem ints_src {w : World} {v : Value} {L : List Int} (h : Ints w v L) {a : Option Addr} {c : Nat} (hv : v = .slice a L.length c) : SrcOf w 1 L.length (intV L) (.slice a L.length c) := by
  obtain ⟨a', c', e1, e2, e3, e4⟩ := h
  rw [intV_len] at e1
  rw [hv] at e1
  simp only [Value.slice.injEq, true_and] at e1
  obtain ⟨rfl, rfl⟩ := e1
  cases a with
  | none =>
    rcases e4 with e4 | ⟨b, off, e4, _⟩
    · have : L = [] := by cases L with | nil => rfl | cons x L => simp [intV] at e4
      subst this
      exact Or.inl ⟨rfl, rfl, c, rfl⟩
    · cases e4
  | some ad =>
    refine Or.inr ⟨ad, c, rfl, by rw [intV_len, Nat.mul_one], fun j u hu => ?_⟩
    rcases e4 with e4 | ⟨b, off, e4, e5⟩
    · rw [e4] at hu; simp at hu
    · simp only [Option.some.injEq] at e4
      subst e4
      have hj := (List.getElem?_eq_some_iff.1 hu).1
      have := e5 j hj
      rw [(List.getElem?_eq_some_iff.1 hu).2] at this
      rw [add_off]; exact this
theorem rowR_src {P : Nat → Prop} {w : World} {bb : Nat} {who : ByteArray} {a : Option Addr} {cap : Nat} {R : Rf} (h : RBx P w bb who a cap R) : SrcOf w 20 R.length (rowR who R) (.slice a R.length cap) := by
  rcases h.own.2 with ⟨e, h0⟩ | ⟨g, cap', cur, e, _, hh, q1, q2, q3, q4⟩
  · simp only [Value.slice.injEq] at e
    have : R = [] := List.eq_nil_of_length_eq_zero h0
    subst this
    exact Or.inl ⟨rfl, rfl, cap, by rw [e.1]; rfl⟩
  · simp only [Value.slice.injEq] at e
    obtain ⟨rfl, _, rfl⟩ := e
    refine Or.inr ⟨_, _, rfl, rowR_len who R, fun j u hu => h.own.cells (g := g) rfl j u hu⟩
theorem setG_mem {s : Int} : ∀ {R : Rf} {e : Kb × Bool}, e ∈ setG R s → ∃ e' ∈ R, e'.1 = e.1
  | [], e, h => by cases h
  | x :: R, e, h => by
    unfold setG at h
    split at h
    · rcases List.mem_cons.1 h with rfl | h
      · exact ⟨x, List.mem_cons_self, rfl⟩
      · exact ⟨e, List.mem_cons_of_mem _ h, rfl⟩
    · rcases List.mem_cons.1 h with rfl | h
      · exact ⟨e, List.mem_cons_self, rfl⟩
      · obtain ⟨e', h1, h2⟩ := setG_mem h
        exact ⟨e', List.mem_cons_of_mem _ h1, h2⟩
theorem mayR_can {R : Rf} {z : Kb} (hM : mayR R z = 0) (hk : z.kind = 4) : ∃ i, fndR R z.seq = some i := by
  rw [mayR_def] at hM
  rw [if_neg (by omega)] at hM
  by_cases h1 : 24 ≤ (R.length : Int)
  · rw [if_pos h1] at hM; cases hM
  rw [if_neg h1, if_neg (by omega), if_pos hk] at hM
  cases hf : fndR R z.seq with
  | some i => exact ⟨i, rfl⟩
  | none =>
    unfold canR at hM
    rw [fnd_none hf] at hM
    cases hM
theorem mayR_len {R : Rf} {z : Kb} (hM : mayR R z = 0) : R.length < 24 := by
  rw [mayR_def] at hM
  by_cases h0 : z.kind < 1 ∨ 4 < z.kind
  · rw [if_pos h0] at hM; cases hM
  rw [if_neg h0] at hM
  by_cases h1 : 24 ≤ (R.length : Int)
  · rw [if_pos h1] at hM; cases hM
  omega
theorem mayR_cents {R : Rf} {z : Kb} (hM : mayR R z = 0) (hk : z.kind = 1) : 1 ≤ z.cents ∧ z.cents ≤ 1000000000 := by
  rw [mayR_def] at hM
  rw [if_neg (by omega)] at hM
  by_cases h1 : 24 ≤ (R.length : Int)
  · rw [if_pos h1] at hM; cases hM
  rw [if_neg h1, if_pos hk] at hM
  unfold lockE at hM
  by_cases h2 : z.cents < 1 ∨ 1000000000 < z.cents
  · rw [if_pos h2] at hM; cases hM
  omega
theorem one_src (W : World) (C : Array Value) (t : TypeId) (n size : Nat) (hn : n = W.heap.size) (hC : C.size = size) : SrcOf (W.alloc (.cells C t)) size 1 C.toList (.slice (some ⟨n, 0, none⟩) 1 1) := by
  subst hn
  refine Or.inr ⟨_, _, rfl, by simpa using hC, fun j u hu => ?_⟩
  rw [add_off, Nat.zero_add]
  exact blk_cell (heap_alloc_last W (.cells C t)) j u (by simpa using hu)
theorem own_base {w : World} {base base' size : Nat} {e : TypeId} {v : Value} {n : Nat} {xs : List Value} (h : w.ownsRow base e size v n xs) (hb : base' ≤ base) : w.ownsRow base' e size v n xs := by
  refine ⟨h.1, ?_⟩
  rcases h.2 with h2 | ⟨g, cap, cur, e, hg, r⟩
  · exact Or.inl h2
  · exact Or.inr ⟨g, cap, cur, e, Nat.le_trans hb hg, r⟩
theorem rbx_new {P : Nat → Prop} {w w' : World} {bb X : Nat} {who : ByteArray} {a q6 a9 : Option Addr} {cap c6 c9 : Nat} {R R1 : Rf} {z : Kb} (h : RBx P w bb who a cap R) (hz : KbFits w z) (B : Below w.heap.size w w')
    (hR1 : ∀ e ∈ R1, ∃ e' ∈ R, e'.1 = e.1) (hlR : R1.length = R.length) (hX : w.heap.size ≤ X)
    (o : w'.ownsRow X 84 20 (.slice a9 (R.length + 1) c9) (R.length + 1) (rowR who R1 ++ onC who ({ z with swho := who, bwho := who, qv := .slice q6 z.Q.length c6 }, false)))
    (oq : w'.ownsRow w.heap.size 3 1 (.slice q6 z.Q.length c6) z.Q.length (intV z.Q)) (hlen : R.length < 24) (hc : z.kind = 1 → 1 ≤ z.cents ∧ z.cents ≤ 1000000000) :
    RBx (fun i => P i ∨ (w.heap.size ≤ i ∧ i < (w'.setCell ⟨bb, 0, none⟩ (.slice a9 (R.length + 1) c9)).heap.size)) (w'.setCell ⟨bb, 0, none⟩ (.slice a9 (R.length + 1) c9)) bb who a9 c9 (R1 ++ [({ z with swho := who, bwho := who, qv := .slice q6 z.Q.length c6 }, false)]) := by
  have hbb := lt_of_block h.blk
  have hblk := (Kx.of_below (S := fun _ => False) B).blk h.blk (fun h => h)
  have hl1 : (R1 ++ [(({ z with swho := who, bwho := who, qv := .slice q6 z.Q.length c6 } : Kb), false)]).length = R.length + 1 := by simp [hlR]
  have K := (Kx.refl (fun i => i = bb) w').set (g := bb) (k := 0) rfl (.slice a9 (R.length + 1) c9)
  have oqs := ownsRow_setCell_below oq (a := ⟨bb, 0, none⟩) hbb (.slice a9 (R.length + 1) c9)
  have hsz : (w'.setCell ⟨bb, 0, none⟩ (.slice a9 (R.length + 1) c9)).heap.size = w'.heap.size := by simp
  refine ⟨?_, ?_, by rw [hl1]; omega, ?_, ?_, (fun i hi => by rw [hsz]; rcases hi with hi | hi; { have := h.plt i hi; have := B.size; omega }; { rw [hsz] at hi; exact hi.2 }), Or.inl h.inb, ?_, ?_⟩
  · rw [hl1]
    exact blk_set hblk 0 _
  · rw [hl1, rowR_app]
    exact own_base (ownsRow_setCell_below o (a := ⟨bb, 0, none⟩) (show bb < X by omega) _) (Nat.zero_le _)
  · intro e he
    rcases List.mem_append.1 he with he | he
    · obtain ⟨e', he', h1⟩ := hR1 e he
      rw [← h1]
      refine kbfits_kx ((h.fits e' he').below B) K ?_
      by_cases hq : e'.1.Q = []
      · exact Or.inl hq
      · refine Or.inr fun b off n c hv hbe => ?_
        have hbe : b = bb := hbe
        subst hbe
        have hlt : 0 < e'.1.Q.length := by
          cases hQ : e'.1.Q with
          | nil => exact absurd hQ hq
          | cons x L => simp
        obtain ⟨b2, off2, c2, ev, _, _, hcell⟩ := (h.fits e' he').ints.at 0 hlt
        rw [hv] at ev
        simp only [Value.slice.injEq, Option.some.injEq, Addr.mk.injEq, and_true] at ev
        obtain ⟨⟨rfl, rfl⟩, _⟩ := ev
        rw [cell_of_row _ _ _ _ _ _ h.blk] at hcell
        cases off with
        | zero => simp at hcell
        | succ k => simp at hcell
    · simp only [List.mem_singleton] at he
      subst he
      exact { hz with ints := Row1.of_own (base := w.heap.size) (e := 3) (by rw [intV_len]; exact oqs) }
  · intro e he
    rcases List.mem_append.1 he with he | he
    · obtain ⟨e', he', h1⟩ := hR1 e he
      rw [← h1]
      exact h.locks e' he'
    · simp only [List.mem_singleton] at he
      subst he
      exact hc
  · intro g hg
    refine Or.inr ?_
    rw [hsz]
    have := o.lt g (by rw [hg]; rfl)
    omega
  · intro e he
    rcases List.mem_append.1 he with he | he
    · obtain ⟨e', he', h1⟩ := hR1 e he
      rw [← h1]
      exact (h.inq e' he').imp id (fun h2 b off n c e => Or.inl (h2 b off n c e))
    · simp only [List.mem_singleton] at he
      subst he
      refine Or.inr fun b off n c hv => Or.inr ?_
      rw [hsz]
      have hv : Value.slice q6 z.Q.length c6 = .slice (some ⟨b, off, none⟩) n c := hv
      simp only [Value.slice.injEq] at hv
      have := oq.lt b (by rw [hv.1]; rfl)
      omega
set_option maxHeartbeats 12800000 in
theorem bkAdd_any {P : Nat → Prop} {w : World} {bb : Nat} {who : ByteArray} {a : Option Addr} {cap : Nat} {R : Rf} (h : RBx P w bb who a cap R) (z : Kb) (hz : KbFits w z) (hql : z.Q.length ≤ 1000) :
    Calls Try.prog 15 #[.pointer (some ⟨bb, 0, none⟩), .string who, .agg (kbC z)] w fun e w' => e = .returned (.int .i64 (mayR R z)) ∧ Kx (fun i => i = bb) w w' ∧ ∃ a' cap' R', RBx (fun i => P i ∨ (w.heap.size ≤ i ∧ i < w'.heap.size)) w' bb who a' cap' R' ∧ (mayR R z ≠ 0 → R' = R) ∧ (mayR R z = 0 → ∃ qv', R' = addR R { z with swho := who, bwho := who, qv := qv' }) := by
  obtain ⟨i0, hi, hz0, hz1, hz2⟩ := info_parts info_One
  obtain ⟨j0, hj, hy0, hy1, hy2⟩ := info_parts info_int
  obtain ⟨qa, qc, hq0, hqc, hqm⟩ := hz.ints.slice
  have hkb : kbC z = #[.int .i64 z.kind, .int .i64 z.cents, .int .i64 z.seq, .string z.swho, .int .i64 z.sseq, .int .i64 z.szone, .int .i64 z.shour, .bool z.sbuy, .int .i64 z.sqty, .int .i64 z.sprice, .string z.bwho, .int .i64 z.bseq, .int .i64 z.bzone, .bool z.bbuy, .int .i64 z.bprice, .slice qa z.Q.length qc, .int .i64 z.parent, .int .i64 z.group] := by unfold kbC; rw [hq0]
  have HKB := hid hkb
  have HQ0 := hid hq0
  rw [hkb]
  clear hkb hq0
  have hl := h.len
  have hc := h.rb.cap_
  have HX := hid h
  have HZ := hid hz
  have hbb := lt_of_block h.blk
  clear h hz
  have b1 : Below w.heap.size w (w.alloc (Obj.cells #[.int .i64 z.kind, .int .i64 z.cents, .int .i64 z.seq, .string z.swho, .int .i64 z.sseq, .int .i64 z.szone, .int .i64 z.shour, .bool z.sbuy, .int .i64 z.sqty, .int .i64 z.sprice, .string z.bwho, .int .i64 z.bseq, .int .i64 z.bzone, .bool z.bbuy, .int .i64 z.bprice, .slice qa z.Q.length qc, .int .i64 z.parent, .int .i64 z.group] 31)) := (Below.refl w.heap.size w).alloc (Nat.le_refl _) _
  have e1 : (w.alloc (Obj.cells #[.int .i64 z.kind, .int .i64 z.cents, .int .i64 z.seq, .string z.swho, .int .i64 z.sseq, .int .i64 z.szone, .int .i64 z.shour, .bool z.sbuy, .int .i64 z.sqty, .int .i64 z.sprice, .string z.bwho, .int .i64 z.bseq, .int .i64 z.bzone, .bool z.bbuy, .int .i64 z.bprice, .slice qa z.Q.length qc, .int .i64 z.parent, .int .i64 z.group] 31)).heap[w.heap.size]? = _ := heap_alloc_last w _
  have a0 := blk_cell e1 0 (.int .i64 z.kind) rfl
  have a1 := blk_cell e1 1 (.int .i64 z.cents) rfl
  have a2 := blk_cell e1 2 (.int .i64 z.seq) rfl
  have a3 := blk_cell e1 3 (.string z.swho) rfl
  have a4 := blk_cell e1 4 (.int .i64 z.sseq) rfl
  have a5 := blk_cell e1 5 (.int .i64 z.szone) rfl
  have a6 := blk_cell e1 6 (.int .i64 z.shour) rfl
  have a7 := blk_cell e1 7 (.bool z.sbuy) rfl
  have a8 := blk_cell e1 8 (.int .i64 z.sqty) rfl
  have a9 := blk_cell e1 9 (.int .i64 z.sprice) rfl
  have a10 := blk_cell e1 10 (.string z.bwho) rfl
  have a11 := blk_cell e1 11 (.int .i64 z.bseq) rfl
  have a12 := blk_cell e1 12 (.int .i64 z.bzone) rfl
  have a13 := blk_cell e1 13 (.bool z.bbuy) rfl
  have a14 := blk_cell e1 14 (.int .i64 z.bprice) rfl
  have a15 := blk_cell e1 15 (.slice qa z.Q.length qc) rfl
  have a16 := blk_cell e1 16 (.int .i64 z.parent) rfl
  have a17 := blk_cell e1 17 (.int .i64 z.group) rfl
  have HB1 := hid b1
  have HE1 := hid e1
  have HC := hid (bkMay_any (HX.out.rb.below HB1.out) HX.out.hb z (HZ.out.ints.below HB1.out))
  rw [HKB.out] at HC
  clear b1 e1
  go_enter Try.func15, Try.ntmps15
  go_wp2_with fail
  refine HC.out.mono ?_
  rintro e X1 ⟨rfl, bX⟩
  have B1 := chain2 HB1.out bX
  have E1 := (Kx.of_below (S := fun _ => False) bX).blk HE1.out (fun h => h)
  clear bX HC HB1 HE1 HKB
  clear a0 a1 a2 a3 a4 a5 a6 a7 a8 a9 a10 a11 a12 a13 a14 a15 a16 a17
  by_cases hM : mayR R z = 0
  case neg =>
    have hM1 : (mayR R z == 0) = false := by simpa using hM
    have HF := hid (show ∃ a' cap' R', RBx (fun i => P i ∨ (w.heap.size ≤ i ∧ i < X1.heap.size)) X1 bb who a' cap' R' ∧ (mayR R z ≠ 0 → R' = R) ∧ (mayR R z = 0 → ∃ qv', R' = addR R { z with swho := who, bwho := who, qv := qv' }) from ⟨a, cap, R, (HX.out.below B1).mono (fun i hi => Or.inl hi) (fun i hi => by rcases hi with hi | hi; { exact (HX.out.below B1).plt i hi }; { exact hi.2 }), fun _ => rfl, fun hh => absurd hh hM⟩)
    go_wp2
    go_ret
    exact ⟨rfl, Kx.of_below B1, HF.out⟩
  case pos =>
    have HM := hid hM
    have hlen := mayR_len hM
    rw [hM]
    clear hM
    have hX1 := HX.out.below B1
    have hbx : w.heap.size < X1.heap.size := lt_of_block E1
    have c0 := blk_cell hX1.blk 0 (.slice a R.length cap) rfl
    have BA := (Below.refl X1.heap.size X1).alloc (Nat.le_refl _) (Obj.cells #[] 84)
    have c0A : (X1.alloc (.cells #[] 84)).cell? ⟨bb, 0, none⟩ = some (.slice a R.length cap) := (Kx.of_below (S := fun _ => False) BA).cell c0 (fun h => h)
    have hs := rowR_src (hX1.below BA)
    have o2 : (X1.alloc (.cells #[] 84)).ownsRow X1.heap.size 84 20 (.slice (some ⟨X1.heap.size, 0, none⟩) 0 0) 0 [] := World.ownsRow_made X1 #[] 0 (Nat.le_refl _) (Nat.zero_le _) (by simp)
    have HONE := hid (show ∀ u ∈ rowR who R, u.oneCell' = true from fun u hu => by
      unfold rowR at hu
      obtain ⟨e, he, hu⟩ := List.mem_flatMap.1 hu
      exact onC_one who e (HX.out.fits e he).form u hu)
    go_wp2_with (at_builtin; refine wpList_append_src rfl _ _ 43 rfl X1.heap.size 84 i0 (.agg #[.string ⟨#[]⟩, .int .i64 0, .int .i64 0, .int .i64 0, .string ⟨#[]⟩, .int .i64 0, .int .i64 0, .int .i64 0, .bool false, .int .i64 0, .int .i64 0, .string ⟨#[]⟩, .int .i64 0, .int .i64 0, .bool false, .int .i64 0, .slice none 0 0, .int .i64 0, .int .i64 0, .bool false]) 20 200 Try.underlying43 hi hz0 hz1 hz2 rfl (by decide) _ 0 [] rfl o2 R.length (rowR who R) _ rfl hs HONE.out (by unfold maxLen; omega) (by omega) (by simp) ?_)
    intro v1 w3 o3 hg3 hat3
    try simp only [Nat.zero_add, List.nil_append] at o3
    have b3 : Below X1.heap.size X1 w3 := BA.grown hg3 (by simp) (fun g hg => (o2.lt g hg).1)
    have E3 := blk_below E1 b3
    have B3 := chain2 B1 b3
    have hX3 := hX1.below b3
    obtain ⟨sa, sc, rfl⟩ := own_slice o3
    have hx3 : X1.heap.size ≤ w3.heap.size := b3.size
    clear hs o2 c0A BA c0 hg3 hat3 hX1 E1 B1 b3
    by_cases hk : z.kind = 4
    · have hi' := mayR_can HM.out hk
      obtain ⟨ix, hfx⟩ := hi'
      obtain ⟨hix, hgx, hsx⟩ := fnd_some hfx
      have hk1 : (z.kind == 4) = true := by simpa using hk
      have a0 := blk_cell E3 0 (.int .i64 z.kind) rfl
      have a2 := blk_cell E3 2 (.int .i64 z.seq) rfl
      have HK4 := hid hk
      clear hk
      go_wp2_with fail
      refine (bkfind_any hX3.rb z.seq).mono ?_
      rintro e w4 ⟨rfl, b4⟩
      have E4 := blk_below E3 b4
      have B4 := chain2 B3 b4
      have o4 := own_below o3 b4
      have hx4 : X1.heap.size ≤ w4.heap.size := Nat.le_trans hx3 b4.size
      rw [hfx, show fndI (some ix) = (ix : Int) from rfl]
      rcases o4.2 with ⟨ee, h0⟩ | ⟨gg, cc, cur, ee, hgb, hgh, q1, q2, q3, q4⟩
      · omega
      simp only [Value.slice.injEq] at ee
      obtain ⟨rfl, _, rfl⟩ := ee
      have hlr : ix * 20 + 19 < (rowR who R).length := by rw [rowR_len]; omega
      have cg : w4.cell? ⟨gg, ix * 20 + 19, none⟩ = some (.bool (R[ix]).2) := by
        rw [o4.cellAt (ix * 20 + 19) (by omega), rowR_at who R ix 19 hix (by omega)]; rfl
      have fg : w4.frozen? ⟨gg, ix * 20 + 19, none⟩ = false := blk_free hgh _
      have o5 := own_set o4 (g := gg) rfl (ix * 20 + 19) hlr (.bool true)
      rw [rowR_gone who R ix hix, ← hsx] at o5
      have hne : w.heap.size ≠ gg := by omega
      have E5' : (w4.setCell ⟨gg, ix * 20 + 19, none⟩ (.bool true)).heap[w.heap.size]? = _ := (Below.heap_setCell w4 ⟨gg, ix * 20 + 19, none⟩ (.bool true) w.heap.size hne).trans E4
      have B5 : Below w.heap.size w (w4.setCell ⟨gg, ix * 20 + 19, none⟩ (.bool true)) := B4.trans (((Kx.refl (fun i => w.heap.size ≤ i) w4).set (g := gg) (k := ix * 20 + 19) (show w.heap.size ≤ gg by omega) (.bool true)).below B4.size (fun _ h => h))
      have hX5 : X1.heap.size ≤ (w4.setCell ⟨gg, ix * 20 + 19, none⟩ (.bool true)).heap.size := by simpa using hx4
      unfold maxLen at q2
      have HQ := hid q4
      clear hsx q4 hgh q3 E4 B4 o4 b4 E3 B3 o3 hX3 hgx hfx a0 a2 hx3 hx4
      have E5 := E5'
      have a0 := blk_cell E5 0 (.int .i64 z.kind) rfl
      have a1 := blk_cell E5 1 (.int .i64 z.cents) rfl
      have a2 := blk_cell E5 2 (.int .i64 z.seq) rfl
      have a3 := blk_cell E5 3 (.string z.swho) rfl
      have a4 := blk_cell E5 4 (.int .i64 z.sseq) rfl
      have a5 := blk_cell E5 5 (.int .i64 z.szone) rfl
      have a6 := blk_cell E5 6 (.int .i64 z.shour) rfl
      have a7 := blk_cell E5 7 (.bool z.sbuy) rfl
      have a8 := blk_cell E5 8 (.int .i64 z.sqty) rfl
      have a9 := blk_cell E5 9 (.int .i64 z.sprice) rfl
      have a10 := blk_cell E5 10 (.string z.bwho) rfl
      have a11 := blk_cell E5 11 (.int .i64 z.bseq) rfl
      have a12 := blk_cell E5 12 (.int .i64 z.bzone) rfl
      have a13 := blk_cell E5 13 (.bool z.bbuy) rfl
      have a14 := blk_cell E5 14 (.int .i64 z.bprice) rfl
      have a15 := blk_cell E5 15 (.slice qa z.Q.length qc) rfl
      have a16 := blk_cell E5 16 (.int .i64 z.parent) rfl
      have a17 := blk_cell E5 17 (.int .i64 z.group) rfl
      have f3 := blk_free E5 3
      have f10 := blk_free E5 10
      have E6 := blk_set (blk_set E5 3 (.string who)) 10 (.string who)
      have b6 : Below (w4.setCell ⟨gg, ix * 20 + 19, none⟩ (.bool true)).heap.size (w4.setCell ⟨gg, ix * 20 + 19, none⟩ (.bool true)) (w4.setCell ⟨gg, ix * 20 + 19, none⟩ (.bool true)) := Below.refl _ _
      have hsz5 := B5.size
      have K5 := (Kx.refl (fun i => w.heap.size ≤ i) (w4.setCell ⟨gg, ix * 20 + 19, none⟩ (.bool true))).set (g := w.heap.size) (k := 3) (Nat.le_refl _) (.string who)
      have K6 := K5.set (g := w.heap.size) (k := 10) (Nat.le_refl _) (.string who)
      have B6 : Below w.heap.size w (((w4.setCell ⟨gg, ix * 20 + 19, none⟩ (.bool true)).setCell ⟨w.heap.size, 3, none⟩ (.string who)).setCell ⟨w.heap.size, 10, none⟩ (.string who)) := (B5).trans (K6.below B5.size (fun _ h => h))
      have o6 := ownsRow_setCell_below (ownsRow_setCell_below o5 (a := ⟨w.heap.size, 3, none⟩) hbx (.string who)) (a := ⟨w.heap.size, 10, none⟩) hbx (.string who)
      have g3 := blk_free (blk_set E5 3 (.string who)) 10
      have a10' := blk_cell (blk_set E5 3 (.string who)) 10 (.string z.bwho) rfl
      have a15' := blk_cell E6 15 (.slice qa z.Q.length qc) rfl
      have hX6 : X1.heap.size ≤ (((w4.setCell ⟨gg, ix * 20 + 19, none⟩ (.bool true)).setCell ⟨w.heap.size, 3, none⟩ (.string who)).setCell ⟨w.heap.size, 10, none⟩ (.string who)).heap.size := by simpa using hX5
      have HE6 := hid E6
      clear E6 b6 K5 K6 hX5
      have KA6 : ∀ {p : Addr} {u : Value}, (((w4.setCell ⟨gg, ix * 20 + 19, none⟩ (.bool true)).setCell ⟨w.heap.size, 3, none⟩ (.string who)).setCell ⟨w.heap.size, 10, none⟩ (.string who)).cell? p = some u → ((((w4.setCell ⟨gg, ix * 20 + 19, none⟩ (.bool true)).setCell ⟨w.heap.size, 3, none⟩ (.string who)).setCell ⟨w.heap.size, 10, none⟩ (.string who)).alloc (.cells #[] 3)).cell? p = some u := fun {p u} hh => (((Below.refl (((w4.setCell ⟨gg, ix * 20 + 19, none⟩ (.bool true)).setCell ⟨w.heap.size, 3, none⟩ (.string who)).setCell ⟨w.heap.size, 10, none⟩ (.string who)).heap.size (((w4.setCell ⟨gg, ix * 20 + 19, none⟩ (.bool true)).setCell ⟨w.heap.size, 3, none⟩ (.string who)).setCell ⟨w.heap.size, 10, none⟩ (.string who))).alloc (Nat.le_refl _) _).cell (World.block_lt_of_cell? (((w4.setCell ⟨gg, ix * 20 + 19, none⟩ (.bool true)).setCell ⟨w.heap.size, 3, none⟩ (.string who)).setCell ⟨w.heap.size, 10, none⟩ (.string who)) _ hh)).trans hh
      have a15A := KA6 a15'
      have hq6 : SrcOf ((((w4.setCell ⟨gg, ix * 20 + 19, none⟩ (.bool true)).setCell ⟨w.heap.size, 3, none⟩ (.string who)).setCell ⟨w.heap.size, 10, none⟩ (.string who)).alloc (.cells #[] 3)) 1 z.Q.length (intV z.Q) (.slice qa z.Q.length qc) := ints_src ((HZ.out.ints.below B6).below ((Below.refl (((w4.setCell ⟨gg, ix * 20 + 19, none⟩ (.bool true)).setCell ⟨w.heap.size, 3, none⟩ (.string who)).setCell ⟨w.heap.size, 10, none⟩ (.string who)).heap.size (((w4.setCell ⟨gg, ix * 20 + 19, none⟩ (.bool true)).setCell ⟨w.heap.size, 3, none⟩ (.string who)).setCell ⟨w.heap.size, 10, none⟩ (.string who))).alloc (Nat.le_refl _) _)) HQ0.out
      have hs6 : (((w4.setCell ⟨gg, ix * 20 + 19, none⟩ (.bool true)).setCell ⟨w.heap.size, 3, none⟩ (.string who)).setCell ⟨w.heap.size, 10, none⟩ (.string who)).heap.size = w4.heap.size := by simp
      have oq : ((((w4.setCell ⟨gg, ix * 20 + 19, none⟩ (.bool true)).setCell ⟨w.heap.size, 3, none⟩ (.string who)).setCell ⟨w.heap.size, 10, none⟩ (.string who)).alloc (.cells #[] 3)).ownsRow (((w4.setCell ⟨gg, ix * 20 + 19, none⟩ (.bool true)).setCell ⟨w.heap.size, 3, none⟩ (.string who)).setCell ⟨w.heap.size, 10, none⟩ (.string who)).heap.size 3 1 (.slice (some ⟨(((w4.setCell ⟨gg, ix * 20 + 19, none⟩ (.bool true)).setCell ⟨w.heap.size, 3, none⟩ (.string who)).setCell ⟨w.heap.size, 10, none⟩ (.string who)).heap.size, 0, none⟩) 0 0) 0 [] := World.ownsRow_made (((w4.setCell ⟨gg, ix * 20 + 19, none⟩ (.bool true)).setCell ⟨w.heap.size, 3, none⟩ (.string who)).setCell ⟨w.heap.size, 10, none⟩ (.string who)) #[] 0 (Nat.le_refl _) (Nat.zero_le _) (by simp)
      have HS6 := hid hs6
      rw [hs6] at oq
      clear hs6
      clear KA6
      go_wp2_with (at_builtin; refine wpList_append_src rfl _ _ 24 rfl w4.heap.size 3 j0 (.int .i64 0) 1 8 Try.underlying24 hj hy0 hy1 hy2 rfl (by decide) _ 0 [] rfl oq z.Q.length (intV z.Q) _ rfl hq6 (by intro u hu; simp only [intV, List.mem_map] at hu; obtain ⟨x, _, rfl⟩ := hu; rfl) (by unfold maxLen; omega) (by omega) (by simp) ?_)
      intro v6 w7 oq7 hg7 hat7
      generalize (((w4.setCell ⟨gg, ix * 20 + 19, none⟩ (.bool true)).setCell ⟨w.heap.size, 3, none⟩ (.string who)).setCell ⟨w.heap.size, 10, none⟩ (.string who)) = W6 at *
      have hs6 := HS6.out
      rw [← hs6] at oq7
      have hbW := lt_of_block HE6.out
      have hsa : ∀ g, (Value.slice (some ⟨gg, 0, none⟩) R.length sc).ownBlock = some g → X1.heap.size ≤ g ∧ g < W6.heap.size := o6.lt
      try simp only [Nat.zero_add, List.nil_append] at oq7
      have b7 : Below W6.heap.size W6 w7 := ((Below.refl W6.heap.size W6).alloc (Nat.le_refl _) _).grown hg7 (by simp) (fun g hg => by rw [hs6]; exact (oq.lt g hg).1)
      have E7 := blk_below HE6.out b7
      have B7 : Below w.heap.size w w7 := B6.trans (b7.mono B6.size)
      have o7 := own_below o6 b7
      have hX7 : X1.heap.size ≤ w7.heap.size := Nat.le_trans hX6 b7.size
      obtain ⟨q6, c6, rfl⟩ := own_slice oq7
      clear hs6 HS6 b7 o6 B6 hq6 oq hg7 a15A a15' a10' g3 f3 f10 hat7 HE6 hX6
      clear a0 a1 a2 a3 a4 a5 a6 a7 a8 a9 a10 a11 a12 a13 a14 a15 a16 a17
      have f15 := blk_free E7 15
      have a15 := blk_cell E7 15 (.slice qa z.Q.length qc) rfl
      have E8 := blk_set E7 15 (.slice q6 z.Q.length c6)
      have B8 : Below w.heap.size w (w7.setCell ⟨w.heap.size, 15, none⟩ (.slice q6 z.Q.length c6)) := B7.trans (((Kx.refl (fun i => w.heap.size ≤ i) w7).set (g := w.heap.size) (k := 15) (Nat.le_refl _) (.slice q6 z.Q.length c6)).below B7.size (fun _ h => h))
      have o8 := ownsRow_setCell_below o7 (a := ⟨w.heap.size, 15, none⟩) hbx (.slice q6 z.Q.length c6)
      have oq8 := ownsRow_setCell_below oq7 (a := ⟨w.heap.size, 15, none⟩) hbW (.slice q6 z.Q.length c6)
      have hX8 : X1.heap.size ≤ (w7.setCell ⟨w.heap.size, 15, none⟩ (.slice q6 z.Q.length c6)).heap.size := by simpa using hX7
      clear E7 B7 o7 oq7 hX7
      have a0 := blk_cell E8 0 (.int .i64 z.kind) rfl
      have a1 := blk_cell E8 1 (.int .i64 z.cents) rfl
      have a2 := blk_cell E8 2 (.int .i64 z.seq) rfl
      have a3 := blk_cell E8 3 (.string who) rfl
      have a4 := blk_cell E8 4 (.int .i64 z.sseq) rfl
      have a5 := blk_cell E8 5 (.int .i64 z.szone) rfl
      have a6 := blk_cell E8 6 (.int .i64 z.shour) rfl
      have a7 := blk_cell E8 7 (.bool z.sbuy) rfl
      have a8 := blk_cell E8 8 (.int .i64 z.sqty) rfl
      have a9 := blk_cell E8 9 (.int .i64 z.sprice) rfl
      have a10 := blk_cell E8 10 (.string who) rfl
      have a11 := blk_cell E8 11 (.int .i64 z.bseq) rfl
      have a12 := blk_cell E8 12 (.int .i64 z.bzone) rfl
      have a13 := blk_cell E8 13 (.bool z.bbuy) rfl
      have a14 := blk_cell E8 14 (.int .i64 z.bprice) rfl
      have a15 := blk_cell E8 15 (.slice q6 z.Q.length c6) rfl
      have a16 := blk_cell E8 16 (.int .i64 z.parent) rfl
      have a17 := blk_cell E8 17 (.int .i64 z.group) rfl
      have hs8 : (w7.setCell ⟨w.heap.size, 15, none⟩ (.slice q6 z.Q.length c6)).heap.size = w7.heap.size := by simp
      have hsrc : SrcOf ((w7.setCell ⟨w.heap.size, 15, none⟩ (.slice q6 z.Q.length c6)).alloc (.cells #[.string who, .int .i64 z.kind, .int .i64 z.cents, .int .i64 z.seq, .string who, .int .i64 z.sseq, .int .i64 z.szone, .int .i64 z.shour, .bool z.sbuy, .int .i64 z.sqty, .int .i64 z.sprice, .string who, .int .i64 z.bseq, .int .i64 z.bzone, .bool z.bbuy, .int .i64 z.bprice, .slice q6 z.Q.length c6, .int .i64 z.parent, .int .i64 z.group, .bool false] 84)) 20 1 (onC who (({ z with swho := who, bwho := who, qv := .slice q6 z.Q.length c6 } : Kb), false)) (.slice (some ⟨w7.heap.size, 0, none⟩) 1 1) := one_src _ #[.string who, .int .i64 z.kind, .int .i64 z.cents, .int .i64 z.seq, .string who, .int .i64 z.sseq, .int .i64 z.szone, .int .i64 z.shour, .bool z.sbuy, .int .i64 z.sqty, .int .i64 z.sprice, .string who, .int .i64 z.bseq, .int .i64 z.bzone, .bool z.bbuy, .int .i64 z.bprice, .slice q6 z.Q.length c6, .int .i64 z.parent, .int .i64 z.group, .bool false] 84 w7.heap.size 20 hs8.symm rfl
      have HONE8 := hid (onC_one who (({ z with swho := who, bwho := who, qv := .slice q6 z.Q.length c6 } : Kb), false) ⟨_, _, _, rfl⟩)
      have hX8' : X1.heap.size ≤ ((w7.setCell ⟨w.heap.size, 15, none⟩ (.slice q6 z.Q.length c6)).alloc (.cells #[.string who, .int .i64 z.kind, .int .i64 z.cents, .int .i64 z.seq, .string who, .int .i64 z.sseq, .int .i64 z.szone, .int .i64 z.shour, .bool z.sbuy, .int .i64 z.sqty, .int .i64 z.sprice, .string who, .int .i64 z.bseq, .int .i64 z.bzone, .bool z.bbuy, .int .i64 z.bprice, .slice q6 z.Q.length c6, .int .i64 z.parent, .int .i64 z.group, .bool false] 84)).heap.size := by simp; omega
      have HS8 := hid hs8
      clear hs8
      go_wp2_with (at_builtin; refine wpList_append_src rfl _ _ 43 rfl X1.heap.size 84 i0 (.agg #[.string ⟨#[]⟩, .int .i64 0, .int .i64 0, .int .i64 0, .string ⟨#[]⟩, .int .i64 0, .int .i64 0, .int .i64 0, .bool false, .int .i64 0, .int .i64 0, .string ⟨#[]⟩, .int .i64 0, .int .i64 0, .bool false, .int .i64 0, .slice none 0 0, .int .i64 0, .int .i64 0, .bool false]) 20 200 Try.underlying43 hi hz0 hz1 hz2 rfl (by decide) (.slice (some ⟨gg, 0, none⟩) R.length sc) R.length (rowR who (setG R z.seq)) rfl (o8.alloc _) 1 (onC who (({ z with swho := who, bwho := who, qv := .slice q6 z.Q.length c6 } : Kb), false)) _ rfl hsrc HONE8.out (by unfold maxLen; omega) (by omega) hX8' ?_)
      intro v9 w9 o9 hg9 hat9
      obtain ⟨an, cn, rfl⟩ := own_slice o9
      have B9 : Below w.heap.size w w9 := (B8.alloc B8.size _).grown hg9 (Nat.le_trans B8.size (by simp)) (fun g hg => by have := (hsa g hg).1; omega)
      have oq9 := (oq8.alloc _).kept hg9 (by
        cases hqb : (Value.slice q6 z.Q.length c6).ownBlock with
        | none => exact Or.inl rfl
        | some k =>
          refine Or.inr fun he => ?_
          have h1 := (hsa k he.symm).2
          have h2 := (oq8.lt k hqb).1
          omega)
      have hblk := (Kx.of_below (S := fun _ => False) B9).blk HX.out.blk (fun h => h)
      have cb := blk_cell hblk 0 (.slice a R.length cap) rfl
      have fb := blk_free hblk 0
      have HFIN := hid (rbx_new HX.out HZ.out B9 (fun e he => setG_mem he) (setG_len _ _) (Nat.le_of_lt hbx) o9 (own_base oq9 (Nat.le_of_lt hbW)) hlen (mayR_cents HM.out))
      have HKX := hid (((Kx.of_below (S := fun i => i = bb) B9).set (g := bb) (k := 0) rfl (.slice an (R.length + 1) cn)))
      clear hsrc HONE8 hX8' HS8 o9 hg9 hat9 oq9 oq8 o8 B8 B9 E8 hblk hX8
      clear a0 a1 a2 a3 a4 a5 a6 a7 a8 a9 a10 a11 a12 a13 a14 a15 a16 a17
      go_wp2
      go_ret
      exact ⟨by rw [HM.out]; rfl, HKX.out, _, _, _, HFIN.out, fun hh => absurd HM.out hh, fun _ => ⟨_, by unfold addR; rw [if_pos HK4.out]⟩⟩
    · have hk1 : (z.kind == 4) = false := by simpa using hk
      have a0 := blk_cell E3 0 (.int .i64 z.kind) rfl
      have hX5 := hx3
      have o5 := o3
      have E5 := E3
      have a0 := blk_cell E5 0 (.int .i64 z.kind) rfl
      have a1 := blk_cell E5 1 (.int .i64 z.cents) rfl
      have a2 := blk_cell E5 2 (.int .i64 z.seq) rfl
      have a3 := blk_cell E5 3 (.string z.swho) rfl
      have a4 := blk_cell E5 4 (.int .i64 z.sseq) rfl
      have a5 := blk_cell E5 5 (.int .i64 z.szone) rfl
      have a6 := blk_cell E5 6 (.int .i64 z.shour) rfl
      have a7 := blk_cell E5 7 (.bool z.sbuy) rfl
      have a8 := blk_cell E5 8 (.int .i64 z.sqty) rfl
      have a9 := blk_cell E5 9 (.int .i64 z.sprice) rfl
      have a10 := blk_cell E5 10 (.string z.bwho) rfl
      have a11 := blk_cell E5 11 (.int .i64 z.bseq) rfl
      have a12 := blk_cell E5 12 (.int .i64 z.bzone) rfl
      have a13 := blk_cell E5 13 (.bool z.bbuy) rfl
      have a14 := blk_cell E5 14 (.int .i64 z.bprice) rfl
      have a15 := blk_cell E5 15 (.slice qa z.Q.length qc) rfl
      have a16 := blk_cell E5 16 (.int .i64 z.parent) rfl
      have a17 := blk_cell E5 17 (.int .i64 z.group) rfl
      have f3 := blk_free E5 3
      have f10 := blk_free E5 10
      have E6 := blk_set (blk_set E5 3 (.string who)) 10 (.string who)
      have b6 : Below w3.heap.size w3 w3 := Below.refl _ _
      have hsz5 := B3.size
      have K5 := (Kx.refl (fun i => w.heap.size ≤ i) w3).set (g := w.heap.size) (k := 3) (Nat.le_refl _) (.string who)
      have K6 := K5.set (g := w.heap.size) (k := 10) (Nat.le_refl _) (.string who)
      have B6 : Below w.heap.size w ((w3.setCell ⟨w.heap.size, 3, none⟩ (.string who)).setCell ⟨w.heap.size, 10, none⟩ (.string who)) := (B3).trans (K6.below B3.size (fun _ h => h))
      have o6 := ownsRow_setCell_below (ownsRow_setCell_below o3 (a := ⟨w.heap.size, 3, none⟩) hbx (.string who)) (a := ⟨w.heap.size, 10, none⟩) hbx (.string who)
      have g3 := blk_free (blk_set E5 3 (.string who)) 10
      have a10' := blk_cell (blk_set E5 3 (.string who)) 10 (.string z.bwho) rfl
      have a15' := blk_cell E6 15 (.slice qa z.Q.length qc) rfl
      have hX6 : X1.heap.size ≤ ((w3.setCell ⟨w.heap.size, 3, none⟩ (.string who)).setCell ⟨w.heap.size, 10, none⟩ (.string who)).heap.size := by simpa using hX5
      have HE6 := hid E6
      clear E6 b6 K5 K6 hX5
      have KA6 : ∀ {p : Addr} {u : Value}, ((w3.setCell ⟨w.heap.size, 3, none⟩ (.string who)).setCell ⟨w.heap.size, 10, none⟩ (.string who)).cell? p = some u → (((w3.setCell ⟨w.heap.size, 3, none⟩ (.string who)).setCell ⟨w.heap.size, 10, none⟩ (.string who)).alloc (.cells #[] 3)).cell? p = some u := fun {p u} hh => (((Below.refl ((w3.setCell ⟨w.heap.size, 3, none⟩ (.string who)).setCell ⟨w.heap.size, 10, none⟩ (.string who)).heap.size ((w3.setCell ⟨w.heap.size, 3, none⟩ (.string who)).setCell ⟨w.heap.size, 10, none⟩ (.string who))).alloc (Nat.le_refl _) _).cell (World.block_lt_of_cell? ((w3.setCell ⟨w.heap.size, 3, none⟩ (.string who)).setCell ⟨w.heap.size, 10, none⟩ (.string who)) _ hh)).trans hh
      have a15A := KA6 a15'
      have hq6 : SrcOf (((w3.setCell ⟨w.heap.size, 3, none⟩ (.string who)).setCell ⟨w.heap.size, 10, none⟩ (.string who)).alloc (.cells #[] 3)) 1 z.Q.length (intV z.Q) (.slice qa z.Q.length qc) := ints_src ((HZ.out.ints.below B6).below ((Below.refl ((w3.setCell ⟨w.heap.size, 3, none⟩ (.string who)).setCell ⟨w.heap.size, 10, none⟩ (.string who)).heap.size ((w3.setCell ⟨w.heap.size, 3, none⟩ (.string who)).setCell ⟨w.heap.size, 10, none⟩ (.string who))).alloc (Nat.le_refl _) _)) HQ0.out
      have hs6 : ((w3.setCell ⟨w.heap.size, 3, none⟩ (.string who)).setCell ⟨w.heap.size, 10, none⟩ (.string who)).heap.size = w3.heap.size := by simp
      have oq : (((w3.setCell ⟨w.heap.size, 3, none⟩ (.string who)).setCell ⟨w.heap.size, 10, none⟩ (.string who)).alloc (.cells #[] 3)).ownsRow ((w3.setCell ⟨w.heap.size, 3, none⟩ (.string who)).setCell ⟨w.heap.size, 10, none⟩ (.string who)).heap.size 3 1 (.slice (some ⟨((w3.setCell ⟨w.heap.size, 3, none⟩ (.string who)).setCell ⟨w.heap.size, 10, none⟩ (.string who)).heap.size, 0, none⟩) 0 0) 0 [] := World.ownsRow_made ((w3.setCell ⟨w.heap.size, 3, none⟩ (.string who)).setCell ⟨w.heap.size, 10, none⟩ (.string who)) #[] 0 (Nat.le_refl _) (Nat.zero_le _) (by simp)
      have HS6 := hid hs6
      rw [hs6] at oq
      clear hs6
      clear KA6
      go_wp2_with (at_builtin; refine wpList_append_src rfl _ _ 24 rfl w3.heap.size 3 j0 (.int .i64 0) 1 8 Try.underlying24 hj hy0 hy1 hy2 rfl (by decide) _ 0 [] rfl oq z.Q.length (intV z.Q) _ rfl hq6 (by intro u hu; simp only [intV, List.mem_map] at hu; obtain ⟨x, _, rfl⟩ := hu; rfl) (by unfold maxLen; omega) (by omega) (by simp) ?_)
      intro v6 w7 oq7 hg7 hat7
      generalize ((w3.setCell ⟨w.heap.size, 3, none⟩ (.string who)).setCell ⟨w.heap.size, 10, none⟩ (.string who)) = W6 at *
      have hs6 := HS6.out
      rw [← hs6] at oq7
      have hbW := lt_of_block HE6.out
      have hsa : ∀ g, (Value.slice sa R.length sc).ownBlock = some g → X1.heap.size ≤ g ∧ g < W6.heap.size := o6.lt
      try simp only [Nat.zero_add, List.nil_append] at oq7
      have b7 : Below W6.heap.size W6 w7 := ((Below.refl W6.heap.size W6).alloc (Nat.le_refl _) _).grown hg7 (by simp) (fun g hg => by rw [hs6]; exact (oq.lt g hg).1)
      have E7 := blk_below HE6.out b7
      have B7 : Below w.heap.size w w7 := B6.trans (b7.mono B6.size)
      have o7 := own_below o6 b7
      have hX7 : X1.heap.size ≤ w7.heap.size := Nat.le_trans hX6 b7.size
      obtain ⟨q6, c6, rfl⟩ := own_slice oq7
      clear hs6 HS6 b7 o6 B6 hq6 oq hg7 a15A a15' a10' g3 f3 f10 hat7 HE6 hX6
      clear a0 a1 a2 a3 a4 a5 a6 a7 a8 a9 a10 a11 a12 a13 a14 a15 a16 a17
      have f15 := blk_free E7 15
      have a15 := blk_cell E7 15 (.slice qa z.Q.length qc) rfl
      have E8 := blk_set E7 15 (.slice q6 z.Q.length c6)
      have B8 : Below w.heap.size w (w7.setCell ⟨w.heap.size, 15, none⟩ (.slice q6 z.Q.length c6)) := B7.trans (((Kx.refl (fun i => w.heap.size ≤ i) w7).set (g := w.heap.size) (k := 15) (Nat.le_refl _) (.slice q6 z.Q.length c6)).below B7.size (fun _ h => h))
      have o8 := ownsRow_setCell_below o7 (a := ⟨w.heap.size, 15, none⟩) hbx (.slice q6 z.Q.length c6)
      have oq8 := ownsRow_setCell_below oq7 (a := ⟨w.heap.size, 15, none⟩) hbW (.slice q6 z.Q.length c6)
      have hX8 : X1.heap.size ≤ (w7.setCell ⟨w.heap.size, 15, none⟩ (.slice q6 z.Q.length c6)).heap.size := by simpa using hX7
      clear E7 B7 o7 oq7 hX7
      have a0 := blk_cell E8 0 (.int .i64 z.kind) rfl
      have a1 := blk_cell E8 1 (.int .i64 z.cents) rfl
      have a2 := blk_cell E8 2 (.int .i64 z.seq) rfl
      have a3 := blk_cell E8 3 (.string who) rfl
      have a4 := blk_cell E8 4 (.int .i64 z.sseq) rfl
      have a5 := blk_cell E8 5 (.int .i64 z.szone) rfl
      have a6 := blk_cell E8 6 (.int .i64 z.shour) rfl
      have a7 := blk_cell E8 7 (.bool z.sbuy) rfl
      have a8 := blk_cell E8 8 (.int .i64 z.sqty) rfl
      have a9 := blk_cell E8 9 (.int .i64 z.sprice) rfl
      have a10 := blk_cell E8 10 (.string who) rfl
      have a11 := blk_cell E8 11 (.int .i64 z.bseq) rfl
      have a12 := blk_cell E8 12 (.int .i64 z.bzone) rfl
      have a13 := blk_cell E8 13 (.bool z.bbuy) rfl
      have a14 := blk_cell E8 14 (.int .i64 z.bprice) rfl
      have a15 := blk_cell E8 15 (.slice q6 z.Q.length c6) rfl
      have a16 := blk_cell E8 16 (.int .i64 z.parent) rfl
      have a17 := blk_cell E8 17 (.int .i64 z.group) rfl
      have hs8 : (w7.setCell ⟨w.heap.size, 15, none⟩ (.slice q6 z.Q.length c6)).heap.size = w7.heap.size := by simp
      have hsrc : SrcOf ((w7.setCell ⟨w.heap.size, 15, none⟩ (.slice q6 z.Q.length c6)).alloc (.cells #[.string who, .int .i64 z.kind, .int .i64 z.cents, .int .i64 z.seq, .string who, .int .i64 z.sseq, .int .i64 z.szone, .int .i64 z.shour, .bool z.sbuy, .int .i64 z.sqty, .int .i64 z.sprice, .string who, .int .i64 z.bseq, .int .i64 z.bzone, .bool z.bbuy, .int .i64 z.bprice, .slice q6 z.Q.length c6, .int .i64 z.parent, .int .i64 z.group, .bool false] 84)) 20 1 (onC who (({ z with swho := who, bwho := who, qv := .slice q6 z.Q.length c6 } : Kb), false)) (.slice (some ⟨w7.heap.size, 0, none⟩) 1 1) := one_src _ #[.string who, .int .i64 z.kind, .int .i64 z.cents, .int .i64 z.seq, .string who, .int .i64 z.sseq, .int .i64 z.szone, .int .i64 z.shour, .bool z.sbuy, .int .i64 z.sqty, .int .i64 z.sprice, .string who, .int .i64 z.bseq, .int .i64 z.bzone, .bool z.bbuy, .int .i64 z.bprice, .slice q6 z.Q.length c6, .int .i64 z.parent, .int .i64 z.group, .bool false] 84 w7.heap.size 20 hs8.symm rfl
      have HONE8 := hid (onC_one who (({ z with swho := who, bwho := who, qv := .slice q6 z.Q.length c6 } : Kb), false) ⟨_, _, _, rfl⟩)
      have hX8' : X1.heap.size ≤ ((w7.setCell ⟨w.heap.size, 15, none⟩ (.slice q6 z.Q.length c6)).alloc (.cells #[.string who, .int .i64 z.kind, .int .i64 z.cents, .int .i64 z.seq, .string who, .int .i64 z.sseq, .int .i64 z.szone, .int .i64 z.shour, .bool z.sbuy, .int .i64 z.sqty, .int .i64 z.sprice, .string who, .int .i64 z.bseq, .int .i64 z.bzone, .bool z.bbuy, .int .i64 z.bprice, .slice q6 z.Q.length c6, .int .i64 z.parent, .int .i64 z.group, .bool false] 84)).heap.size := by simp; omega
      have HS8 := hid hs8
      clear hs8
      go_wp2_with (at_builtin; refine wpList_append_src rfl _ _ 43 rfl X1.heap.size 84 i0 (.agg #[.string ⟨#[]⟩, .int .i64 0, .int .i64 0, .int .i64 0, .string ⟨#[]⟩, .int .i64 0, .int .i64 0, .int .i64 0, .bool false, .int .i64 0, .int .i64 0, .string ⟨#[]⟩, .int .i64 0, .int .i64 0, .bool false, .int .i64 0, .slice none 0 0, .int .i64 0, .int .i64 0, .bool false]) 20 200 Try.underlying43 hi hz0 hz1 hz2 rfl (by decide) (.slice sa R.length sc) R.length (rowR who R) rfl (o8.alloc _) 1 (onC who (({ z with swho := who, bwho := who, qv := .slice q6 z.Q.length c6 } : Kb), false)) _ rfl hsrc HONE8.out (by unfold maxLen; omega) (by omega) hX8' ?_)
      intro v9 w9 o9 hg9 hat9
      obtain ⟨an, cn, rfl⟩ := own_slice o9
      have B9 : Below w.heap.size w w9 := (B8.alloc B8.size _).grown hg9 (Nat.le_trans B8.size (by simp)) (fun g hg => by have := (hsa g hg).1; omega)
      have oq9 := (oq8.alloc _).kept hg9 (by
        cases hqb : (Value.slice q6 z.Q.length c6).ownBlock with
        | none => exact Or.inl rfl
        | some k =>
          refine Or.inr fun he => ?_
          have h1 := (hsa k he.symm).2
          have h2 := (oq8.lt k hqb).1
          omega)
      have hblk := (Kx.of_below (S := fun _ => False) B9).blk HX.out.blk (fun h => h)
      have cb := blk_cell hblk 0 (.slice a R.length cap) rfl
      have fb := blk_free hblk 0
      have HFIN := hid (rbx_new HX.out HZ.out B9 (fun e he => ⟨e, he, rfl⟩) rfl (Nat.le_of_lt hbx) o9 (own_base oq9 (Nat.le_of_lt hbW)) hlen (mayR_cents HM.out))
      have HKX := hid (((Kx.of_below (S := fun i => i = bb) B9).set (g := bb) (k := 0) rfl (.slice an (R.length + 1) cn)))
      clear hsrc HONE8 hX8' HS8 o9 hg9 hat9 oq9 oq8 o8 B8 B9 E8 hblk hX8
      clear a0 a1 a2 a3 a4 a5 a6 a7 a8 a9 a10 a11 a12 a13 a14 a15 a16 a17
      go_wp2
      go_ret
      exact ⟨by rw [HM.out]; rfl, HKX.out, _, _, _, HFIN.out, fun hh => absurd HM.out hh, fun _ => ⟨_, by unfold addR; rw [if_neg hk]⟩⟩
end Go.Proofs.Ytbkobimbdiogfaa
