/- BookOrder: law10's theirs, sameSteps, sameBlocks. -/
import Derived.Test.YtbkobimbdiogfaaBTell
import Derived.Test.YtbkobimbdiogfaaBRefW
namespace Go.Proofs.Ytbkobimbdiogfaa
open Go.RowKit Go.MapKept
set_option linter.unusedVariables false
set_option maxRecDepth 100000
set_option linter.unusedSimpArgs false

theorem info_refAsk : (Try.prog.info? 31).map (·.size) = some 18 := by kernel_rfl
set_option maxHeartbeats 3200000 in
theorem theirs10_any (z : Kb) (w : World) (hi : Ints w z.qv z.Q) :
    Calls Try.prog 16 #[.agg (kbC z)] w fun e w' => e = .returned (.agg (kbC z)) ∧ Below w.heap.size w w' := by
  obtain ⟨qa, qc, hq0, hqc, hqm⟩ := hi.slice
  have hkb : kbC z = #[.int .i64 z.kind, .int .i64 z.cents, .int .i64 z.seq, .string z.swho, .int .i64 z.sseq, .int .i64 z.szone, .int .i64 z.shour, .bool z.sbuy, .int .i64 z.sqty, .int .i64 z.sprice, .string z.bwho, .int .i64 z.bseq, .int .i64 z.bzone, .bool z.bbuy, .int .i64 z.bprice, .slice qa z.Q.length qc, .int .i64 z.parent, .int .i64 z.group] := by unfold kbC; rw [hq0]
  rw [hkb]
  clear hkb hq0
  have e1 : ((w.alloc (Obj.cells #[.int .i64 z.kind, .int .i64 z.cents, .int .i64 z.seq, .string z.swho, .int .i64 z.sseq, .int .i64 z.szone, .int .i64 z.shour, .bool z.sbuy, .int .i64 z.sqty, .int .i64 z.sprice, .string z.bwho, .int .i64 z.bseq, .int .i64 z.bzone, .bool z.bbuy, .int .i64 z.bprice, .slice qa z.Q.length qc, .int .i64 z.parent, .int .i64 z.group] 28)).alloc (Obj.cells #[.int .i64 0, .int .i64 0, .int .i64 0, .string ⟨#[]⟩, .int .i64 0, .int .i64 0, .int .i64 0, .bool false, .int .i64 0, .int .i64 0, .string ⟨#[]⟩, .int .i64 0, .int .i64 0, .bool false, .int .i64 0, .slice none 0 0, .int .i64 0, .int .i64 0] 31)).heap[w.heap.size]? = some (Obj.cells #[.int .i64 z.kind, .int .i64 z.cents, .int .i64 z.seq, .string z.swho, .int .i64 z.sseq, .int .i64 z.szone, .int .i64 z.shour, .bool z.sbuy, .int .i64 z.sqty, .int .i64 z.sprice, .string z.bwho, .int .i64 z.bseq, .int .i64 z.bzone, .bool z.bbuy, .int .i64 z.bprice, .slice qa z.Q.length qc, .int .i64 z.parent, .int .i64 z.group] 28 (0, 0)) := (heap_alloc_old _ _ (by simp)).trans (heap_alloc_last w _)
  have a0 := blk_cell e1 0 (.int .i64 z.kind) rfl
  have a1 := blk_cell e1 1 (.int .i64 z.cents) rfl
  have a2 := blk_cell e1 2 (.int .i64 z.seq) rfl
  have a3 := blk_cell e1 3 (.string z.swho) rfl
  have a4 := blk_cell e1 4 (.int .i64 z.sseq) rfl
  have a5 := blk_cell e1 5 (.int .i64 z.szone) rfl
  have a6 := blk_cell e1 6 (.int .i64 z.shour) rfl
  have a7 := blk_cell e1 7 (.bool z.sbuy) rfl
  have a8 := blk_cell e1 8 (.int .i64 z.sqty) rfl
  have a9 := blk_cell e1 9 (.int .i64 z.sprice) rfl
  have a10 := blk_cell e1 10 (.string z.bwho) rfl
  have a11 := blk_cell e1 11 (.int .i64 z.bseq) rfl
  have a12 := blk_cell e1 12 (.int .i64 z.bzone) rfl
  have a13 := blk_cell e1 13 (.bool z.bbuy) rfl
  have a14 := blk_cell e1 14 (.int .i64 z.bprice) rfl
  have a15 := blk_cell e1 15 (.slice qa z.Q.length qc) rfl
  have a16 := blk_cell e1 16 (.int .i64 z.parent) rfl
  have a17 := blk_cell e1 17 (.int .i64 z.group) rfl
  have b3 := alloc2_below w (Obj.cells #[.int .i64 z.kind, .int .i64 z.cents, .int .i64 z.seq, .string z.swho, .int .i64 z.sseq, .int .i64 z.szone, .int .i64 z.shour, .bool z.sbuy, .int .i64 z.sqty, .int .i64 z.sprice, .string z.bwho, .int .i64 z.bseq, .int .i64 z.bzone, .bool z.bbuy, .int .i64 z.bprice, .slice qa z.Q.length qc, .int .i64 z.parent, .int .i64 z.group] 28) (Obj.cells #[.int .i64 z.kind, .int .i64 z.cents, .int .i64 z.seq, .string z.swho, .int .i64 z.sseq, .int .i64 z.szone, .int .i64 z.shour, .bool z.sbuy, .int .i64 z.sqty, .int .i64 z.sprice, .string z.bwho, .int .i64 z.bseq, .int .i64 z.bzone, .bool z.bbuy, .int .i64 z.bprice, .slice qa z.Q.length qc, .int .i64 z.parent, .int .i64 z.group] 31)
  have e3 : ((w.alloc (Obj.cells #[.int .i64 z.kind, .int .i64 z.cents, .int .i64 z.seq, .string z.swho, .int .i64 z.sseq, .int .i64 z.szone, .int .i64 z.shour, .bool z.sbuy, .int .i64 z.sqty, .int .i64 z.sprice, .string z.bwho, .int .i64 z.bseq, .int .i64 z.bzone, .bool z.bbuy, .int .i64 z.bprice, .slice qa z.Q.length qc, .int .i64 z.parent, .int .i64 z.group] 28)).alloc (Obj.cells #[.int .i64 z.kind, .int .i64 z.cents, .int .i64 z.seq, .string z.swho, .int .i64 z.sseq, .int .i64 z.szone, .int .i64 z.shour, .bool z.sbuy, .int .i64 z.sqty, .int .i64 z.sprice, .string z.bwho, .int .i64 z.bseq, .int .i64 z.bzone, .bool z.bbuy, .int .i64 z.bprice, .slice qa z.Q.length qc, .int .i64 z.parent, .int .i64 z.group] 31)).heap[w.heap.size + 1]? = some (Obj.cells #[.int .i64 z.kind, .int .i64 z.cents, .int .i64 z.seq, .string z.swho, .int .i64 z.sseq, .int .i64 z.szone, .int .i64 z.shour, .bool z.sbuy, .int .i64 z.sqty, .int .i64 z.sprice, .string z.bwho, .int .i64 z.bseq, .int .i64 z.bzone, .bool z.bbuy, .int .i64 z.bprice, .slice qa z.Q.length qc, .int .i64 z.parent, .int .i64 z.group] 31 (0, 0)) := by
    have := heap_alloc_last (w.alloc (Obj.cells #[.int .i64 z.kind, .int .i64 z.cents, .int .i64 z.seq, .string z.swho, .int .i64 z.sseq, .int .i64 z.szone, .int .i64 z.shour, .bool z.sbuy, .int .i64 z.sqty, .int .i64 z.sprice, .string z.bwho, .int .i64 z.bseq, .int .i64 z.bzone, .bool z.bbuy, .int .i64 z.bprice, .slice qa z.Q.length qc, .int .i64 z.parent, .int .i64 z.group] 28)) (Obj.cells #[.int .i64 z.kind, .int .i64 z.cents, .int .i64 z.seq, .string z.swho, .int .i64 z.sseq, .int .i64 z.szone, .int .i64 z.shour, .bool z.sbuy, .int .i64 z.sqty, .int .i64 z.sprice, .string z.bwho, .int .i64 z.bseq, .int .i64 z.bzone, .bool z.bbuy, .int .i64 z.bprice, .slice qa z.Q.length qc, .int .i64 z.parent, .int .i64 z.group] 31)
    simpa using this
  have HB := hid b3
  have HE := hid e3
  clear e1 b3 e3
  go_enter Try.func16, Try.ntmps16
  go_wp2_with (refine wpList_store_new rfl 31 _ _ rfl _ _ _ rfl (by simp) rfl 18 info_refAsk (by rfl) (by rfl) (by simp [Value.oneCell']) ?_)
  go_wp2
  exact bodyPost_ret (results_cell_row Try.results16 _ _ (w.heap.size + 1) _ _ _ _ (by rfl) HE.out Try.underlying31 (by rfl) info_refAsk) rfl ⟨rfl, HB.out⟩
theorem chunk_at' {α : Type} (f : α → List Value) (sz : Nat) (hf : ∀ x, (f x).length = sz) : ∀ (T : List α) (k j : Nat) (hk : k < T.length), j < sz → (T.flatMap f)[k * sz + j]? = (f T[k])[j]?
  | [], k, j, hk, _ => by simp at hk
  | x :: T, 0, j, _, hj => by
    rw [List.flatMap_cons, Nat.zero_mul, Nat.zero_add, List.getElem?_append_left (by rw [hf]; exact hj)]
    rfl
  | x :: T, k + 1, j, hk, hj => by
    have h1 : (k + 1) * sz = k * sz + sz := Nat.succ_mul k sz
    rw [List.flatMap_cons, List.getElem?_append_right (by rw [hf]; omega), hf, show (k + 1) * sz + j - sz = k * sz + j by omega, chunk_at' f sz hf T k j (by simpa using hk) hj]
    rfl
theorem TRow.at {e : TypeId} {sz : Nat} {f : Kb → List Value} {w : World} {base : Nat} {v : Value} {T : List Tr} (h : TRow e sz f w base v T) (hf : ∀ z, (f z).length = sz) (i : Nat) (hi : i < T.length) :
    ∃ g c, v = .slice (some ⟨g, 0, none⟩) T.length c ∧ T.length ≤ c ∧ c ≤ 9223372036854775807 ∧ ∀ j u, (f (T[i]).z)[j]? = some u → w.cell? ⟨g, i * sz + j, none⟩ = some u := by
  rcases h.own.2 with ⟨e0, hz⟩ | ⟨g, cap, cur, e0, hb, hh, q1, q2, q3, q4⟩
  · omega
  · unfold maxLen at q2
    refine ⟨g, cap, e0, q1, by omega, fun j u hu => ?_⟩
    have hj : j < sz := by
      have := (List.getElem?_eq_some_iff.1 hu).1
      rwa [hf] at this
    have := h.own.cells (g := g) (by rw [e0]; rfl) (i * sz + j) u (by rw [chunk_at' (fun t => f t.z) sz (fun _ => hf _) T i j hi hj]; exact hu)
    rw [add_off, Nat.zero_add] at this
    exact this
theorem TRow.slice {e : TypeId} {sz : Nat} {f : Kb → List Value} {w : World} {base : Nat} {v : Value} {T : List Tr} (h : TRow e sz f w base v T) : ∃ a c, v = .slice a T.length c ∧ T.length ≤ c ∧ c ≤ 9223372036854775807 := by
  rcases h.own.2 with ⟨e0, hz⟩ | ⟨g, cap, cur, e0, hb, hh, q1, q2, q3, q4⟩
  · exact ⟨none, 0, by rw [e0, hz], by omega, by omega⟩
  · unfold maxLen at q2
    exact ⟨_, cap, e0, q1, by omega⟩
theorem tr_eq {T1 T2 : List Tr} (he : T1.map (fun t => (t.who, t.o)) = T2.map (fun t => (t.who, t.o))) : T1.length = T2.length ∧ ∀ i (h1 : i < T1.length) (h2 : i < T2.length), (T1[i]).who = (T2[i]).who ∧ (T1[i]).o = (T2[i]).o := by
  have hl : T1.length = T2.length := by simpa using congrArg List.length he
  refine ⟨hl, fun i h1 h2 => ?_⟩
  have h3 : (T1.map (fun t => (t.who, t.o)))[i]? = (T2.map (fun t => (t.who, t.o)))[i]? := by rw [he]
  rw [List.getElem?_map, List.getElem?_map, List.getElem?_eq_getElem h1, List.getElem?_eq_getElem h2] at h3
  simpa using h3
theorem stepC_eq {t u : Tr} (h1 : t.who = u.who) (h2 : t.o = u.o) : stepC u.z = stepC t.z := by
  unfold Tr.z
  rw [← h1, ← h2]
  cases t.o <;> rfl
set_option maxHeartbeats 6400000 in
theorem sameSteps_any (w : World) (v1 v2 : Value) (b1 b2 : Nat) (T1 T2 : List Tr) (h1 : TRow 23 7 stepC w b1 v1 T1) (h2 : TRow 23 7 stepC w b2 v2 T2) (he : T1.map (fun t => (t.who, t.o)) = T2.map (fun t => (t.who, t.o))) :
    Calls Try.prog 17 #[v1, v2] w fun e w' => e = .returned (.bool true) ∧ Below w.heap.size w w' := by
  obtain ⟨hl, hq⟩ := tr_eq he
  obtain ⟨a1, c1, rfl, l1, m1⟩ := h1.slice
  obtain ⟨a2, c2, rfl, l2, m2⟩ := h2.slice
  have H1 := hid h1
  have H2 := hid h2
  have HQ := hid hq
  rw [← hl] at l2 ⊢
  have HL := hid hl
  clear h1 h2 hq he hl
  go_enter Try.func17, Try.ntmps17
  go_wp2
  go_loopw [5] (fun i wr => ∃ k : Nat, k ≤ T1.length ∧ i = .int .i64 (k : Int) ∧ Below w.heap.size w wr) (fun i _ => T1.length - (intOf i).toNat)
  case atStart => exact ⟨0, Nat.zero_le _, rfl, Below.refl _ _⟩
  case round =>
    obtain ⟨k, hk, rfl, b⟩ := hrel
    by_cases hlt : k < T1.length
    · obtain ⟨g1, d1, e1, _, _, f1⟩ := (H1.out.below b).at (fun _ => rfl) k hlt
      have hlt2 : k < T2.length := by rw [← HL.out]; exact hlt
      obtain ⟨g2, d2, e2, _, _, f2⟩ := (H2.out.below b).at (fun _ => rfl) k hlt2
      rw [stepC_eq (HQ.out k hlt hlt2).1 (HQ.out k hlt hlt2).2] at f2
      simp only [Value.slice.injEq] at e1 e2
      obtain ⟨rfl, _, rfl⟩ := e1
      obtain ⟨rfl, _, rfl⟩ := e2
      generalize (T1[k]).z = x at *
      have p0 : wr.cell? ⟨g1, k * 7, none⟩ = some (Value.string x.swho) := f1 0 _ rfl
      have p1 : wr.cell? ⟨g1, k * 7 + 1, none⟩ = some (Value.int .i64 x.sseq) := f1 1 _ rfl
      have p2 : wr.cell? ⟨g1, k * 7 + 2, none⟩ = some (Value.int .i64 x.szone) := f1 2 _ rfl
      have p3 : wr.cell? ⟨g1, k * 7 + 3, none⟩ = some (Value.int .i64 x.shour) := f1 3 _ rfl
      have p4 : wr.cell? ⟨g1, k * 7 + 4, none⟩ = some (Value.bool x.sbuy) := f1 4 _ rfl
      have p5 : wr.cell? ⟨g1, k * 7 + 5, none⟩ = some (Value.int .i64 x.sqty) := f1 5 _ rfl
      have p6 : wr.cell? ⟨g1, k * 7 + 6, none⟩ = some (Value.int .i64 x.sprice) := f1 6 _ rfl
      have r0 : wr.cell? ⟨g2, k * 7, none⟩ = some (Value.string x.swho) := f2 0 _ rfl
      have r1 : wr.cell? ⟨g2, k * 7 + 1, none⟩ = some (Value.int .i64 x.sseq) := f2 1 _ rfl
      have r2 : wr.cell? ⟨g2, k * 7 + 2, none⟩ = some (Value.int .i64 x.szone) := f2 2 _ rfl
      have r3 : wr.cell? ⟨g2, k * 7 + 3, none⟩ = some (Value.int .i64 x.shour) := f2 3 _ rfl
      have r4 : wr.cell? ⟨g2, k * 7 + 4, none⟩ = some (Value.bool x.sbuy) := f2 4 _ rfl
      have r5 : wr.cell? ⟨g2, k * 7 + 5, none⟩ = some (Value.int .i64 x.sqty) := f2 5 _ rfl
      have r6 : wr.cell? ⟨g2, k * 7 + 6, none⟩ = some (Value.int .i64 x.sprice) := f2 6 _ rfl
      clear f1 f2
      go_wp2_with fail
      go_quiet (fail)
      go_wp2
      go_roundw
      case rel => exact ⟨k + 1, by omega, by go_num, by first | exact below_dn b _ | exact b.drew | exact b⟩
      case measure => simp [intOf]; omega
    · go_wp2
      go_ret
      exact ⟨rfl, b⟩
set_option maxHeartbeats 12800000 in
theorem sameBlocks_any (w : World) (v1 v2 : Value) (b1 b2 : Nat) (T1 T2 : List Tr) (h1 : TRow 26 8 blockC w b1 v1 T1) (h2 : TRow 26 8 blockC w b2 v2 T2) (he : T1.map (fun t => (t.who, t.o)) = T2.map (fun t => (t.who, t.o))) (hk3 : ∀ t ∈ T1, t.o.kind = 3) :
    Calls Try.prog 19 #[v1, v2] w fun e w' => e = .returned (.bool true) ∧ Below w.heap.size w w' := by
  obtain ⟨hl, hq⟩ := tr_eq he
  obtain ⟨a1, c1, rfl, l1, m1⟩ := h1.slice
  obtain ⟨a2, c2, rfl, l2, m2⟩ := h2.slice
  have H1 := hid h1
  have H2 := hid h2
  have HQ := hid hq
  have HK := hid hk3
  rw [← hl] at l2 ⊢
  have HL := hid hl
  clear h1 h2 hq he hl hk3
  go_enter Try.func19, Try.ntmps19
  go_wp2
  go_loopw [5] (fun i wr => ∃ k : Nat, k ≤ T1.length ∧ i = .int .i64 (k : Int) ∧ Below w.heap.size w wr) (fun i _ => T1.length - (intOf i).toNat)
  case atStart => exact ⟨0, Nat.zero_le _, rfl, Below.refl _ _⟩
  case round =>
    obtain ⟨k, hk, rfl, b⟩ := hrel
    by_cases hlt : k < T1.length
    · obtain ⟨g1, d1, e1, _, _, f1⟩ := (H1.out.below b).at (fun _ => rfl) k hlt
      have hlt2 : k < T2.length := by rw [← HL.out]; exact hlt
      obtain ⟨g2, d2, e2, _, _, f2⟩ := (H2.out.below b).at (fun _ => rfl) k hlt2
      have hw := HQ.out k hlt hlt2
      have t1 := (H1.out.below b).fit _ (List.getElem_mem hlt)
      have t2 := (H2.out.below b).fit _ (List.getElem_mem hlt2)
      have hkk := HK.out _ (List.getElem_mem hlt)
      simp only [Value.slice.injEq] at e1 e2
      obtain ⟨rfl, _, rfl⟩ := e1
      obtain ⟨rfl, _, rfl⟩ := e2
      generalize T1[k] = u1 at *
      generalize T2[k] = u2 at *
      obtain ⟨who, o, qv1⟩ := u1
      obtain ⟨who2, o2, qv2⟩ := u2
      obtain ⟨rfl, rfl⟩ := hw
      cases o with
      | step => cases hkk
      | block s zn bu pr Q pa gr =>
      obtain ⟨i1, _⟩ := t1
      obtain ⟨i2, _⟩ := t2
      obtain ⟨xa, xc, hx1, hx2, hx3⟩ := i1.slice
      obtain ⟨ya, yc, hy1, hy2, hy3⟩ := i2.slice
      have hx1' : qv1 = .slice xa Q.length xc := hx1
      have hy1' : qv2 = .slice ya Q.length yc := hy1
      subst hx1'
      subst hy1'
      unfold maxLen at hx3 hy3
      have p0 : wr.cell? ⟨g1, k * 8, none⟩ = some (.string who) := f1 0 _ rfl
      have p1 : wr.cell? ⟨g1, k * 8 + 1, none⟩ = some (.int .i64 s) := f1 1 _ rfl
      have p2 : wr.cell? ⟨g1, k * 8 + 2, none⟩ = some (.int .i64 zn) := f1 2 _ rfl
      have p3 : wr.cell? ⟨g1, k * 8 + 3, none⟩ = some (.bool bu) := f1 3 _ rfl
      have p4 : wr.cell? ⟨g1, k * 8 + 4, none⟩ = some (.int .i64 pr) := f1 4 _ rfl
      have p5 : wr.cell? ⟨g1, k * 8 + 5, none⟩ = some (.slice xa Q.length xc) := f1 5 _ rfl
      have p6 : wr.cell? ⟨g1, k * 8 + 6, none⟩ = some (.int .i64 pa) := f1 6 _ rfl
      have p7 : wr.cell? ⟨g1, k * 8 + 7, none⟩ = some (.int .i64 gr) := f1 7 _ rfl
      have BX := (Below.refl wr.heap.size wr).alloc (Nat.le_refl _) (Obj.cells #[.string who, .int .i64 s, .int .i64 zn, .bool bu, .int .i64 pr, .slice xa Q.length xc, .int .i64 pa, .int .i64 gr] 26)
      have r0 : (wr.alloc (Obj.cells #[.string who, .int .i64 s, .int .i64 zn, .bool bu, .int .i64 pr, .slice xa Q.length xc, .int .i64 pa, .int .i64 gr] 26)).cell? ⟨g2, k * 8, none⟩ = some (.string who) := (Kx.of_below (S := fun _ => False) BX).cell (f2 0 _ rfl) (fun h => h)
      have r1 : (wr.alloc (Obj.cells #[.string who, .int .i64 s, .int .i64 zn, .bool bu, .int .i64 pr, .slice xa Q.length xc, .int .i64 pa, .int .i64 gr] 26)).cell? ⟨g2, k * 8 + 1, none⟩ = some (.int .i64 s) := (Kx.of_below (S := fun _ => False) BX).cell (f2 1 _ rfl) (fun h => h)
      have r2 : (wr.alloc (Obj.cells #[.string who, .int .i64 s, .int .i64 zn, .bool bu, .int .i64 pr, .slice xa Q.length xc, .int .i64 pa, .int .i64 gr] 26)).cell? ⟨g2, k * 8 + 2, none⟩ = some (.int .i64 zn) := (Kx.of_below (S := fun _ => False) BX).cell (f2 2 _ rfl) (fun h => h)
      have r3 : (wr.alloc (Obj.cells #[.string who, .int .i64 s, .int .i64 zn, .bool bu, .int .i64 pr, .slice xa Q.length xc, .int .i64 pa, .int .i64 gr] 26)).cell? ⟨g2, k * 8 + 3, none⟩ = some (.bool bu) := (Kx.of_below (S := fun _ => False) BX).cell (f2 3 _ rfl) (fun h => h)
      have r4 : (wr.alloc (Obj.cells #[.string who, .int .i64 s, .int .i64 zn, .bool bu, .int .i64 pr, .slice xa Q.length xc, .int .i64 pa, .int .i64 gr] 26)).cell? ⟨g2, k * 8 + 4, none⟩ = some (.int .i64 pr) := (Kx.of_below (S := fun _ => False) BX).cell (f2 4 _ rfl) (fun h => h)
      have r5 : (wr.alloc (Obj.cells #[.string who, .int .i64 s, .int .i64 zn, .bool bu, .int .i64 pr, .slice xa Q.length xc, .int .i64 pa, .int .i64 gr] 26)).cell? ⟨g2, k * 8 + 5, none⟩ = some (.slice ya Q.length yc) := (Kx.of_below (S := fun _ => False) BX).cell (f2 5 _ rfl) (fun h => h)
      have r6 : (wr.alloc (Obj.cells #[.string who, .int .i64 s, .int .i64 zn, .bool bu, .int .i64 pr, .slice xa Q.length xc, .int .i64 pa, .int .i64 gr] 26)).cell? ⟨g2, k * 8 + 6, none⟩ = some (.int .i64 pa) := (Kx.of_below (S := fun _ => False) BX).cell (f2 6 _ rfl) (fun h => h)
      have r7 : (wr.alloc (Obj.cells #[.string who, .int .i64 s, .int .i64 zn, .bool bu, .int .i64 pr, .slice xa Q.length xc, .int .i64 pa, .int .i64 gr] 26)).cell? ⟨g2, k * 8 + 7, none⟩ = some (.int .i64 gr) := (Kx.of_below (S := fun _ => False) BX).cell (f2 7 _ rfl) (fun h => h)
      have z0 : ((wr.alloc (Obj.cells #[.string who, .int .i64 s, .int .i64 zn, .bool bu, .int .i64 pr, .slice xa Q.length xc, .int .i64 pa, .int .i64 gr] 26)).alloc (Obj.cells #[.string who, .int .i64 s, .int .i64 zn, .bool bu, .int .i64 pr, .slice ya Q.length yc, .int .i64 pa, .int .i64 gr] 26)).heap[wr.heap.size]? = some (Obj.cells #[.string who, .int .i64 s, .int .i64 zn, .bool bu, .int .i64 pr, .slice xa Q.length xc, .int .i64 pa, .int .i64 gr] 26 (0, 0)) := (heap_alloc_old _ _ (by simp)).trans (heap_alloc_last wr _)
      have z1 : ((wr.alloc (Obj.cells #[.string who, .int .i64 s, .int .i64 zn, .bool bu, .int .i64 pr, .slice xa Q.length xc, .int .i64 pa, .int .i64 gr] 26)).alloc (Obj.cells #[.string who, .int .i64 s, .int .i64 zn, .bool bu, .int .i64 pr, .slice ya Q.length yc, .int .i64 pa, .int .i64 gr] 26)).heap[wr.heap.size + 1]? = some (Obj.cells #[.string who, .int .i64 s, .int .i64 zn, .bool bu, .int .i64 pr, .slice ya Q.length yc, .int .i64 pa, .int .i64 gr] 26 (0, 0)) := by
        have := heap_alloc_last (wr.alloc (Obj.cells #[.string who, .int .i64 s, .int .i64 zn, .bool bu, .int .i64 pr, .slice xa Q.length xc, .int .i64 pa, .int .i64 gr] 26)) (Obj.cells #[.string who, .int .i64 s, .int .i64 zn, .bool bu, .int .i64 pr, .slice ya Q.length yc, .int .i64 pa, .int .i64 gr] 26)
        simpa using this
      have ux0 := blk_cell z0 0 (.string who) rfl
      have uy0 := blk_cell z1 0 (.string who) rfl
      have ux1 := blk_cell z0 1 (.int .i64 s) rfl
      have uy1 := blk_cell z1 1 (.int .i64 s) rfl
      have ux2 := blk_cell z0 2 (.int .i64 zn) rfl
      have uy2 := blk_cell z1 2 (.int .i64 zn) rfl
      have ux3 := blk_cell z0 3 (.bool bu) rfl
      have uy3 := blk_cell z1 3 (.bool bu) rfl
      have ux4 := blk_cell z0 4 (.int .i64 pr) rfl
      have uy4 := blk_cell z1 4 (.int .i64 pr) rfl
      have ux5 := blk_cell z0 5 (.slice xa Q.length xc) rfl
      have uy5 := blk_cell z1 5 (.slice ya Q.length yc) rfl
      have ux6 := blk_cell z0 6 (.int .i64 pa) rfl
      have uy6 := blk_cell z1 6 (.int .i64 pa) rfl
      have ux7 := blk_cell z0 7 (.int .i64 gr) rfl
      have uy7 := blk_cell z1 7 (.int .i64 gr) rfl
      have B2 := alloc2_below wr (Obj.cells #[.string who, .int .i64 s, .int .i64 zn, .bool bu, .int .i64 pr, .slice xa Q.length xc, .int .i64 pa, .int .i64 gr] 26) (Obj.cells #[.string who, .int .i64 s, .int .i64 zn, .bool bu, .int .i64 pr, .slice ya Q.length yc, .int .i64 pa, .int .i64 gr] 26)
      have I1 := hid (i1.below B2)
      have I2 := hid (i2.below B2)
      have HB2 := hid B2
      clear f1 f2 BX i1 i2 B2 hx1 hy1 z0 z1
      go_wp2_with (refine wpList_store_new rfl 26 _ _ rfl _ _ _ rfl (by simp) rfl 8 info_apiBlock (by rfl) (by rfl) (by simp [Value.oneCell']) ?_)
      generalize ((wr.alloc (Obj.cells #[.string who, .int .i64 s, .int .i64 zn, .bool bu, .int .i64 pr, .slice xa Q.length xc, .int .i64 pa, .int .i64 gr] 26)).alloc (Obj.cells #[.string who, .int .i64 s, .int .i64 zn, .bool bu, .int .i64 pr, .slice ya Q.length yc, .int .i64 pa, .int .i64 gr] 26)) = V at *
      clear p0 r0 p1 r1 p2 r2 p3 r3 p4 r4 p5 r5 p6 r6 p7 r7
      have HB := hid (b.trans (HB2.out.mono b.size))
      have HX5 := hid ux5
      have HY5 := hid uy5
      clear ux0 uy0 ux1 uy1 ux2 uy2 ux3 uy3 ux4 uy4 ux5 uy5 ux6 uy6 ux7 uy7
      generalize wr = WR at *
      go_loopw [8] (fun i wr => ∃ q : Nat, q ≤ Q.length ∧ i = .int .i64 (q : Int) ∧ Below V.heap.size V wr) (fun i _ => Q.length - (intOf i).toNat)
      case atStart => exact ⟨0, Nat.zero_le _, rfl, Below.refl _ _⟩
      case round =>
        obtain ⟨q, hq, rfl, bq⟩ := hrel
        have x5 := (Kx.of_below (S := fun _ => False) bq).cell HX5.out (fun h => h)
        have y5 := (Kx.of_below (S := fun _ => False) bq).cell HY5.out (fun h => h)
        by_cases hqlt : q < Q.length
        · obtain ⟨s1, s2, s3, s4, s5, s6, s7⟩ := (I1.out.below bq).at q hqlt
          obtain ⟨t1, t2, t3, t4, t5, t6, t7⟩ := (I2.out.below bq).at q hqlt
          simp only [Value.slice.injEq] at s4 t4
          obtain ⟨rfl, _, rfl⟩ := s4
          obtain ⟨rfl, _, rfl⟩ := t4
          generalize Q[q] = y at *
          go_wp2_with fail
          go_quiet (fail)
          go_wp2
          go_roundw
          case rel => exact ⟨q + 1, by omega, by go_num, by first | exact below_dn bq _ | exact bq.drew | exact bq⟩
          case measure => simp [intOf]; omega
        · go_wp2
          go_roundw
          case rel => exact ⟨k + 1, by omega, by go_num, HB.out.trans (bq.mono HB.out.size)⟩
          case measure => simp [intOf]; omega
    · go_wp2
      go_ret
      exact ⟨rfl, b⟩
end Go.Proofs.Ytbkobimbdiogfaa
