/- book: the orders that live, of all participants. -/
import Derived.Test.YtbkobimbdiogfaaBMay2
import Derived.Test.YtbkobimbdiogfaaBWho
namespace Go.Proofs.Ytbkobimbdiogfaa
open Go.RowKit Go.MapKept
set_option linter.unusedVariables false
set_option maxRecDepth 100000
set_option linter.unusedSimpArgs false

/-- An order with whose it is, and where its Qtys lie. -/
structure Tr where
  who : ByteArray
  o : Od
  qv : Value
def Tr.z (t : Tr) : Kb := odK t.who t.qv t.o
def stepC (z : Kb) : List Value := [.string z.swho, .int .i64 z.sseq, .int .i64 z.szone, .int .i64 z.shour, .bool z.sbuy, .int .i64 z.sqty, .int .i64 z.sprice]
def blockC (z : Kb) : List Value := [.string z.bwho, .int .i64 z.bseq, .int .i64 z.bzone, .bool z.bbuy, .int .i64 z.bprice, z.qv, .int .i64 z.parent, .int .i64 z.group]
structure TRow (e : TypeId) (sz : Nat) (f : Kb → List Value) (w : World) (base : Nat) (v : Value) (T : List Tr) : Prop where
  own : w.ownsRow base e sz v T.length (T.flatMap fun t => f t.z)
  fit : ∀ t ∈ T, FitR w base v (t.o, t.qv)
  form : ∀ t ∈ T, ∃ a n c, t.qv = .slice a n c
theorem TRow.below {e : TypeId} {sz : Nat} {f : Kb → List Value} {w w' : World} {base : Nat} {v : Value} {T : List Tr} (h : TRow e sz f w base v T) (b : Below w.heap.size w w') : TRow e sz f w' base v T :=
  ⟨own_below h.own b, fun t ht => fitR_below (h.fit t ht) b, h.form⟩
theorem fitR_kx {S : Nat → Prop} {w w' : World} {base : Nat} {v : Value} {p : Od × Value} (h : FitR w base v p) (k : Kx S w w') (hs : ∀ b, base ≤ b → b < w.heap.size → ¬ S b) : FitR w' base v p := by
  obtain ⟨o, qv⟩ := p
  cases o with
  | step => trivial
  | block o1 o2 o3 o4 Q o6 o7 =>
    obtain ⟨h1, h2⟩ := h
    refine ⟨?_, h2⟩
    by_cases h0 : Q = []
    · subst h0
      obtain ⟨a', c', x1, x2, x3, _⟩ := h1
      exact ⟨a', c', x1, x2, x3, Or.inl rfl⟩
    · rcases h2 with h2 | h2
      · exact absurd h2 h0
      · refine Row1.kx h1 k (fun b off n c e => hs b (h2 b off n c e).1 ?_)
        obtain ⟨b', off', c', e1, _, _, e2⟩ := Ints.at h1 0 (by cases Q with | nil => exact absurd rfl h0 | cons => simp)
        rw [e] at e1
        simp only [Value.slice.injEq, Option.some.injEq, Addr.mk.injEq] at e1
        have := World.block_lt_of_cell? w _ e2
        simp only at this
        omega
theorem OrdRow.kx {S : Nat → Prop} {w w' : World} {base : Nat} {v : Value} {who : ByteArray} {R : List (Od × Value)} (h : OrdRow w base v who R) (k : Kx S w w') (hs : ∀ b, base ≤ b → b < w.heap.size → ¬ S b) : OrdRow w' base v who R := by
  refine ⟨⟨h.own.1, ?_⟩, fun p hp => fitR_kx (h.fit p hp) k hs, h.form⟩
  rcases h.own.2 with h2 | ⟨g, cap, cur, e, hb, hh, r⟩
  · exact Or.inl h2
  · exact Or.inr ⟨g, cap, cur, e, hb, k.blk hh (hs g hb (lt_of_block hh)), r⟩
/-- One more. X: the world ahead of append, in which the order lies in a row of its own. -/
theorem tRow_push {e : TypeId} {sz : Nat} {f : Kb → List Value} {X X' : World} {base : Nat} {v v' : Value} {T : List Tr} {t : Tr} (h : TRow e sz f X base v T)
    (hown : X'.ownsRow base e sz v' (T.length + 1) ((T.flatMap fun t => f t.z) ++ f t.z)) (hg : X.grownBy X' v.ownBlock) (hl : v'.ownBlock = v.ownBlock ∨ v'.ownBlock = some X.heap.size)
    (ht : FitR X base v (t.o, t.qv)) (hf : ∃ a n c, t.qv = .slice a n c) : TRow e sz f X' base v' (T ++ [t]) := by
  refine ⟨by rw [List.length_append, List.flatMap_append]; simpa using hown, fun u hu => ?_, fun u hu => ?_⟩
  · rcases List.mem_append.1 hu with hu | hu
    · exact fitR_grown (h.fit u hu) hg hl
    · simp only [List.mem_singleton] at hu
      subst hu
      exact fitR_grown ht hg hl
  · rcases List.mem_append.1 hu with hu | hu
    · exact h.form u hu
    · simp only [List.mem_singleton] at hu
      subst hu
      exact hf
theorem fitR_move {W1 X : World} {base baseR : Nat} {r v : Value} {p : Od × Value} (h1 : FitR W1 baseR r p) (hX : FitR X baseR r p) (hb : base ≤ baseR) (hv : ∀ gg, v.ownBlock = some gg → gg < baseR ∨ W1.heap.size ≤ gg) : FitR X base v p := by
  obtain ⟨o, qv⟩ := p
  cases o with
  | step => trivial
  | block o1 o2 o3 o4 Q o6 o7 =>
    refine ⟨hX.1, ?_⟩
    by_cases h0 : Q = []
    · exact Or.inl h0
    · refine Or.inr fun b off n c e => ?_
      rcases h1.2 with h2 | h2
      · exact absurd h2 h0
      · have h3 := (h2 b off n c e).1
        refine ⟨by omega, fun hh => ?_⟩
        obtain ⟨b', off', c', e1, _, _, e2⟩ := Ints.at h1.1 0 (by cases Q with | nil => exact absurd rfl h0 | cons => simp)
        rw [e] at e1
        simp only [Value.slice.injEq, Option.some.injEq, Addr.mk.injEq] at e1
        have := World.block_lt_of_cell? W1 _ e2
        simp only at this
        rcases hv b hh.symm with h4 | h4 <;> omega
def selO (kd : Int) (L : List Od) : List Od := L.filter fun o => decide (o.kind = kd)
theorem selO_succ (kd : Int) (L : List Od) (j : Nat) (h : j < L.length) : selO kd (L.take (j + 1)) = selO kd (L.take j) ++ if (L[j]).kind = kd then [L[j]] else [] := by
  unfold selO
  rw [List.take_succ_eq_append_getElem h, List.filter_append]
  congr 1
  by_cases hk : (L[j]).kind = kd
  · simp [hk]
  · simp [hk]
def ofWho (kd : Int) (S : ByteArray → Ps) (who : ByteArray) : List (ByteArray × Od) := (selO kd (S who).orders).map fun o => (who, o)
/-- All that live of a kind, by rising Who, of one by rising Seq. -/
def allO (kd : Int) (N : List ByteArray) (S : ByteArray → Ps) : List (ByteArray × Od) := (namesS N).flatMap (ofWho kd S)
theorem names_mem {N : List ByteArray} {x : ByteArray} (h : x ∈ namesS N) : x ∈ N := by
  obtain ⟨l, hl, rfl⟩ := List.mem_map.1 h
  have h1 : l ∈ N.map bytesOf' := (List.mergeSort_perm _ _).mem_iff.1 hl
  obtain ⟨who, a1, rfl⟩ := List.mem_map.1 h1
  have : (⟨(bytesOf' who).toArray⟩ : ByteArray) = who := by cases who; simp [bytesOf']
  rw [this]; exact a1
theorem names_len (N : List ByteArray) : (namesS N).length = N.length := by simp [namesS, bytesS, List.length_mergeSort]
theorem names_V (N : List ByteArray) : (bytesS N).map encStr = (namesS N).map Value.string := by simp [namesS, encStr, Function.comp_def]
theorem Bk.size {O : Nat → Prop} {w : World} {v : Value} {N : List ByteArray} {S : ByteArray → Ps} (h : Bk O w v N S) {who : ByteArray} (hm : who ∈ N) : who.size ≤ 1099511627776 := by
  obtain ⟨C, bb, lb, ab, el, ea, cl, ca, hv, hb⟩ := h
  exact (hb.names who hm).1
theorem info_apiStepZ : (Try.prog.info? 23).map (fun i => (i.zero, i.size, i.bytes)) = some (some (.agg #[.string ⟨#[]⟩, .int .i64 0, .int .i64 0, .int .i64 0, .bool false, .int .i64 0, .int .i64 0]), 7, 64) := by kernel_rfl
theorem info_apiBlockZ : (Try.prog.info? 26).map (fun i => (i.zero, i.size, i.bytes)) = some (some (.agg #[.string ⟨#[]⟩, .int .i64 0, .int .i64 0, .bool false, .int .i64 0, .slice none 0 0, .int .i64 0, .int .i64 0]), 8, 88) := by kernel_rfl
set_option maxHeartbeats 12800000 in
theorem steps_any {O : Nat → Prop} {w : World} {v : Value} {N : List ByteArray} {S : ByteArray → Ps} (h : Bk O w v N S) (hN : N.length ≤ 1000) :
    Calls Try.prog 18 #[v] w fun e w' => ∃ r base T, e = .returned r ∧ w.heap.size ≤ base ∧ TRow 23 7 stepC w' base r T ∧ T.map (fun t => (t.who, t.o)) = allO 2 N S ∧ Below w.heap.size w w' := by
  obtain ⟨i0, hi, hz0, hz1, hz2⟩ := info_parts info_apiStepZ
  have HBK := hid h
  go_enter Try.func18, Try.ntmps18
  go_wp2_with fail
  refine (who_any h hN).mono ?_
  rintro e W0 ⟨rn, rfl, hrn, b0⟩
  clear h
  rw [names_V] at hrn
  have HSZ := hid (fun x (hx : x ∈ namesS N) => HBK.out.size (names_mem hx))
  have hnl := names_len N
  have hSt : Row1 W0 rn ((namesS N).map Value.string) := Row1.of_own (by rw [List.length_map, hnl]; exact hrn)
  have HALL := hid (show allO 2 N S = (namesS N).flatMap (ofWho 2 S) from rfl)
  generalize namesS N = NS at *
  have HBK0 := hid (HBK.out.below b0)
  have hnl1 : NS.length ≤ 1000 := by omega
  obtain ⟨na, nc, hrne, hnlc, hncm⟩ := hSt.slice
  rw [List.length_map] at hrne hnlc
  subst hrne
  unfold maxLen at hncm
  have HST := hid hSt
  have HNL := hid hnl
  clear hrn hSt hnl
  go_wp2
  go_loopw [3, 11] (fun l i wr => ∃ (k : Nat) (T : List Tr), k ≤ NS.length ∧ i = .int .i64 (k : Int) ∧ TRow 23 7 stepC wr W0.heap.size l T ∧ T.length ≤ 24 * k ∧ Hid (T.map (fun t => (t.who, t.o)) = (NS.take k).flatMap (ofWho 2 S)) ∧ Below W0.heap.size W0 wr) (fun _ i _ => NS.length - (intOf i).toNat)
  case atStart => exact ⟨0, [], Nat.zero_le _, rfl, ⟨World.ownsRow_nil _ _ _ 7, by simp, by simp⟩, Nat.zero_le _, rfl, Below.refl _ _⟩
  case round =>
    obtain ⟨k, T, hk, rfl, hT, hTl, HT, bw⟩ := hrel
    by_cases hlt : k < NS.length
    · obtain ⟨b1, o1, d1, e1, l1, m1, f1⟩ := (HST.out.below bw).at k (by rw [List.length_map]; exact hlt)
      rw [List.length_map] at e1 l1
      simp only [Value.slice.injEq] at e1
      obtain ⟨rfl, _, rfl⟩ := e1
      have HW := hid (HSZ.out NS[k] (List.getElem_mem hlt))
      have hs1 : (NS.map Value.string)[k]'(by rw [List.length_map]; exact hlt) = .string NS[k] := by simp
      rw [hs1] at f1
      have HSU := hid (show (NS.take (k + 1)).flatMap (ofWho 2 S) = (NS.take k).flatMap (ofWho 2 S) ++ ofWho 2 S NS[k] by
        rw [List.take_succ_eq_append_getElem hlt, List.flatMap_append]; simp)
      generalize NS[k] = who at *
      have hbkr := HBK0.out.below bw
      have hOL := orders_len (hbkr.sane who)
      have hOC := ordersOf_any hbkr who HW.out
      have HTR := hid hT
      obtain ⟨la, lc, rfl⟩ := own_slice hT.own
      clear hT hs1
      go_wp2_with fail
      refine hOC.mono ?_
      rintro e W1 ⟨r, R, rfl, hR, hRL, b1'⟩
      clear hOC hbkr f1
      obtain ⟨ra, rc, rfl⟩ := hR.slice
      have hcap := hR.cap
      generalize hLL : (S who).orders = LO at *
      have hRlen : R.length = LO.length := by rw [← hRL]; simp
      have HLL := hid hLL
      have HRL := hid hRL
      have HR := hid hR
      have HT1 := hid (HTR.out.below b1')
      have BW1 := hid (chain2 bw b1')
      have hbz : W0.heap.size ≤ wr.heap.size := bw.size
      have hb1z : wr.heap.size ≤ W1.heap.size := b1'.size
      have HTB := hid (HTR.out.own.lt)
      clear hR hRL hLL
      have hr24 : R.length ≤ 24 := by omega
      generalize wr = V1 at *
      go_wp2
      go_loopw [3, 19] (fun l i X => ∃ (j : Nat) (T1 : List Tr), j ≤ R.length ∧ i = .int .i64 (j : Int) ∧ TRow 23 7 stepC X W0.heap.size l T1 ∧ T1.length ≤ 24 * k + j ∧ Hid (T1.map (fun t => (t.who, t.o)) = (NS.take k).flatMap (ofWho 2 S) ++ (selO 2 (LO.take j)).map (fun o => (who, o))) ∧ Below W0.heap.size W0 X ∧ Kx (fun i => i < V1.heap.size ∨ W1.heap.size ≤ i) W1 X ∧ Hid (∀ gg, l.ownBlock = some gg → gg < V1.heap.size ∨ W1.heap.size ≤ gg)) (fun _ i _ => R.length - (intOf i).toNat)
      case atStart => exact ⟨0, T, Nat.zero_le _, rfl, HT1.out, by omega, by rw [HT.out]; simp [selO, Hid], BW1.out, Kx.refl _ _, fun gg hg => Or.inl (HTB.out gg hg).2⟩
      case round =>
        obtain ⟨j, T1, hj, rfl, hT1, hT1l, HTM, bX, kX, HOB⟩ := hrel
        by_cases hlt2 : j < R.length
        · have hRX : OrdRow wr V1.heap.size (.slice ra R.length rc) who R := HR.out.kx kX (fun b hb hb2 hs => by omega)
          have HFW := hid (HR.out.fit _ (List.getElem_mem hlt2))
          have HFX := hid (hRX.fit _ (List.getElem_mem hlt2))
          have hjL : j < LO.length := by omega
          have hsucc := selO_succ 2 LO j hjL
          have hLk : LO[j] = (R[j]).1 := by
            have := HRL.out
            subst this
            simp
          obtain ⟨g, c', e1, hg1, hg2, hg3, hg4, hat⟩ := hRX.at j hlt2
          have hfo := hRX.form _ (List.getElem_mem hlt2)
          have hfi := hRX.fit _ (List.getElem_mem hlt2)
          simp only [Value.slice.injEq] at e1
          obtain ⟨rfl, _, rfl⟩ := e1
          rw [← odK_C] at hat
          have hzk := odK_kind who (R[j]).2 (R[j]).1
          have hzo := odK_O who (R[j]).2 (R[j]).1
          have hqv : ∃ a n c, (odK who (R[j]).2 (R[j]).1).qv = .slice a n c := by
            generalize R[j] = p at *
            obtain ⟨o, qv⟩ := p
            cases o with
            | step => exact ⟨_, _, _, rfl⟩
            | block => exact hfo
          have hin : Ints wr (odK who (R[j]).2 (R[j]).1).qv (odK who (R[j]).2 (R[j]).1).Q := by
            generalize R[j] = p at *
            obtain ⟨o, qv⟩ := p
            cases o with
            | step => exact Row1.nil _
            | block => exact hfi.1
          have hk23 : (odK who (R[j]).2 (R[j]).1).kind = 2 ∨ (odK who (R[j]).2 (R[j]).1).kind = 3 := by
            generalize R[j] = p at *
            obtain ⟨o, qv⟩ := p
            cases o with
            | step => exact Or.inl rfl
            | block => exact Or.inr rfl
          rw [hLk, ← hzo] at hsucc
          have HTZ := hid (show (Tr.mk who (R[j]).1 (R[j]).2).z = odK who (R[j]).2 (R[j]).1 from rfl)
          have hzk2 : (kbO (odK who (R[j]).2 (R[j]).1)).kind = (odK who (R[j]).2 (R[j]).1).kind := by rw [hzo, hzk]
          rw [hzk2] at hsucc
          generalize R[j] = p at *
          obtain ⟨oj, qvj⟩ := p
          simp only at hzo hzk HFW HFX HTZ hfo hfi hat hqv hin hk23 hsucc hzk2
          rw [hzo] at hsucc
          generalize odK who qvj oj = z at *
          have a0 : wr.cell? ⟨g, j * 18, none⟩ = some (.int .i64 z.kind) := hat 0 (.int .i64 z.kind) rfl
          have a1 : wr.cell? ⟨g, j * 18 + 1, none⟩ = some (.int .i64 z.cents) := hat 1 (.int .i64 z.cents) rfl
          have a2 : wr.cell? ⟨g, j * 18 + 2, none⟩ = some (.int .i64 z.seq) := hat 2 (.int .i64 z.seq) rfl
          have a3 : wr.cell? ⟨g, j * 18 + 3, none⟩ = some (.string z.swho) := hat 3 (.string z.swho) rfl
          have a4 : wr.cell? ⟨g, j * 18 + 4, none⟩ = some (.int .i64 z.sseq) := hat 4 (.int .i64 z.sseq) rfl
          have a5 : wr.cell? ⟨g, j * 18 + 5, none⟩ = some (.int .i64 z.szone) := hat 5 (.int .i64 z.szone) rfl
          have a6 : wr.cell? ⟨g, j * 18 + 6, none⟩ = some (.int .i64 z.shour) := hat 6 (.int .i64 z.shour) rfl
          have a7 : wr.cell? ⟨g, j * 18 + 7, none⟩ = some (.bool z.sbuy) := hat 7 (.bool z.sbuy) rfl
          have a8 : wr.cell? ⟨g, j * 18 + 8, none⟩ = some (.int .i64 z.sqty) := hat 8 (.int .i64 z.sqty) rfl
          have a9 : wr.cell? ⟨g, j * 18 + 9, none⟩ = some (.int .i64 z.sprice) := hat 9 (.int .i64 z.sprice) rfl
          have a10 : wr.cell? ⟨g, j * 18 + 10, none⟩ = some (.string z.bwho) := hat 10 (.string z.bwho) rfl
          have a11 : wr.cell? ⟨g, j * 18 + 11, none⟩ = some (.int .i64 z.bseq) := hat 11 (.int .i64 z.bseq) rfl
          have a12 : wr.cell? ⟨g, j * 18 + 12, none⟩ = some (.int .i64 z.bzone) := hat 12 (.int .i64 z.bzone) rfl
          have a13 : wr.cell? ⟨g, j * 18 + 13, none⟩ = some (.bool z.bbuy) := hat 13 (.bool z.bbuy) rfl
          have a14 : wr.cell? ⟨g, j * 18 + 14, none⟩ = some (.int .i64 z.bprice) := hat 14 (.int .i64 z.bprice) rfl
          have a15 : wr.cell? ⟨g, j * 18 + 15, none⟩ = some (z.qv) := hat 15 (z.qv) rfl
          have a16 : wr.cell? ⟨g, j * 18 + 16, none⟩ = some (.int .i64 z.parent) := hat 16 (.int .i64 z.parent) rfl
          have a17 : wr.cell? ⟨g, j * 18 + 17, none⟩ = some (.int .i64 z.group) := hat 17 (.int .i64 z.group) rfl
          obtain ⟨qa, qn, qc, hq0⟩ := hqv
          rw [hq0] at a15
          have HSC := hid hsucc
          obtain ⟨ta, tc, rfl⟩ := own_slice hT1.own
          have HT2 := hid hT1
          have HFO := hid hfo
          have hz0 := hz0
          clear hat hsucc hzk hzo hfi hfo hLk hin hzk2 hRX hT1
          have bn := (Below.refl wr.heap.size wr).alloc (Nat.le_refl _) (Obj.cells #[.int .i64 z.kind, .int .i64 z.cents, .int .i64 z.seq, .string z.swho, .int .i64 z.sseq, .int .i64 z.szone, .int .i64 z.shour, .bool z.sbuy, .int .i64 z.sqty, .int .i64 z.sprice, .string z.bwho, .int .i64 z.bseq, .int .i64 z.bzone, .bool z.bbuy, .int .i64 z.bprice, .slice qa qn qc, .int .i64 z.parent, .int .i64 z.group] 28)
          by_cases hkd : z.kind = 2
          · have HS2 := HSC.out
            rw [if_pos hkd] at HS2
            have HS2 := hid HS2
            have HNX := hid (show (T1 ++ [Tr.mk who oj qvj]).map (fun t => (t.who, t.o)) = (NS.take k).flatMap (ofWho 2 S) ++ (selO 2 (LO.take (j + 1))).map (fun o => (who, o)) by
              rw [List.map_append, HTM.out, HS2.out, List.map_append, List.append_assoc]; rfl)
            rw [hkd] at a0 bn
            have hg1 := alloc2_below wr (Obj.cells #[.int .i64 2, .int .i64 z.cents, .int .i64 z.seq, .string z.swho, .int .i64 z.sseq, .int .i64 z.szone, .int .i64 z.shour, .bool z.sbuy, .int .i64 z.sqty, .int .i64 z.sprice, .string z.bwho, .int .i64 z.bseq, .int .i64 z.bzone, .bool z.bbuy, .int .i64 z.bprice, .slice qa qn qc, .int .i64 z.parent, .int .i64 z.group] 28) (Obj.cells #[.string z.swho, .int .i64 z.sseq, .int .i64 z.szone, .int .i64 z.shour, .bool z.sbuy, .int .i64 z.sqty, .int .i64 z.sprice] 23)
            have hTA := HT2.out.below hg1
            have hcell := heap_alloc2_new wr (Obj.cells #[.int .i64 2, .int .i64 z.cents, .int .i64 z.seq, .string z.swho, .int .i64 z.sseq, .int .i64 z.szone, .int .i64 z.shour, .bool z.sbuy, .int .i64 z.sqty, .int .i64 z.sprice, .string z.bwho, .int .i64 z.bseq, .int .i64 z.bzone, .bool z.bbuy, .int .i64 z.bprice, .slice qa qn qc, .int .i64 z.parent, .int .i64 z.group] 28) (Obj.cells #[.string z.swho, .int .i64 z.sseq, .int .i64 z.szone, .int .i64 z.shour, .bool z.sbuy, .int .i64 z.sqty, .int .i64 z.sprice] 23)
            go_wp2_with (first
              | (at_builtin; refine wpList_append_own_at _ rfl _ _ 53 rfl W0.heap.size 23 i0 (.agg #[.string ⟨#[]⟩, .int .i64 0, .int .i64 0, .int .i64 0, .bool false, .int .i64 0, .int .i64 0]) 7 64 Try.underlying53 hi hz0 hz1 hz2 rfl (by decide) (.slice ta T1.length tc) T1.length (T1.flatMap fun t => stepC t.z) rfl hTA.own ⟨wr.heap.size + 1, 0, none⟩ 1 1 [.string z.swho, .int .i64 z.sseq, .int .i64 z.szone, .int .i64 z.shour, .bool z.sbuy, .int .i64 z.sqty, .int .i64 z.sprice] rfl (by rfl) (fun jj u hu => by rw [add_off, Nat.zero_add, cell_of_row _ _ jj _ _ _ hcell]; simpa using hu) (by simp [Value.oneCell']) (by unfold maxLen; omega) (by omega) (by have := bX.size; simp; omega) ?_; intro v' w3 hown' hgrow hnil hloc)
              | (refine wpList_store_new rfl 28 _ _ rfl _ _ _ rfl (by simp) rfl 18 info_Ask (by rfl) (by rfl) (by simp [Value.oneCell']) ?_))
            have hX2z : ((wr.alloc (Obj.cells #[.int .i64 2, .int .i64 z.cents, .int .i64 z.seq, .string z.swho, .int .i64 z.sseq, .int .i64 z.szone, .int .i64 z.shour, .bool z.sbuy, .int .i64 z.sqty, .int .i64 z.sprice, .string z.bwho, .int .i64 z.bseq, .int .i64 z.bzone, .bool z.bbuy, .int .i64 z.bprice, .slice qa qn qc, .int .i64 z.parent, .int .i64 z.group] 28)).alloc (Obj.cells #[.string z.swho, .int .i64 z.sseq, .int .i64 z.szone, .int .i64 z.shour, .bool z.sbuy, .int .i64 z.sqty, .int .i64 z.sprice] 23)).heap.size = wr.heap.size + 2 := by simp
            have hbX2 : Below W0.heap.size W0 ((wr.alloc (Obj.cells #[.int .i64 2, .int .i64 z.cents, .int .i64 z.seq, .string z.swho, .int .i64 z.sseq, .int .i64 z.szone, .int .i64 z.shour, .bool z.sbuy, .int .i64 z.sqty, .int .i64 z.sprice, .string z.bwho, .int .i64 z.bseq, .int .i64 z.bzone, .bool z.bbuy, .int .i64 z.bprice, .slice qa qn qc, .int .i64 z.parent, .int .i64 z.group] 28)).alloc (Obj.cells #[.string z.swho, .int .i64 z.sseq, .int .i64 z.szone, .int .i64 z.shour, .bool z.sbuy, .int .i64 z.sqty, .int .i64 z.sprice] 23)) := bX.trans (hg1.mono bX.size)
            have hpush := tRow_push (t := Tr.mk who oj qvj) hTA (by rw [HTZ.out]; unfold stepC; skip; exact hown') hgrow hloc
              (fitR_move HFW.out (fitR_below HFX.out hg1) hbz HOB.out) HFO.out
            have hkX2 : Kx (fun i => i < V1.heap.size ∨ W1.heap.size ≤ i) W1 w3 := (kX.trans (Kx.of_below hg1)).trans ⟨hgrow.os, hgrow.tape, hgrow.output, hgrow.size, fun i hi2 hs => hgrow.block i hi2 (fun e => hs (HOB.out i e.symm))⟩
            have hHOB2 := hid (show ∀ gg, v'.ownBlock = some gg → gg < V1.heap.size ∨ W1.heap.size ≤ gg from fun gg hg => by
              rcases hloc with e | e
              · exact HOB.out gg (e ▸ hg)
              · rw [e, hX2z] at hg
                cases hg
                have := kX.size
                right; omega)
            have hbX3 := hbX2.grown hgrow hbX2.size (fun jj hj2 => (hTA.own.lt jj hj2).1)
            have HPU := hid hpush
            clear hpush hown' hgrow hnil hloc hTA hcell hg1 hbX2 hX2z a0 a1 a2 a3 a4 a5 a6 a7 a8 a9 a10 a11 a12 a13 a14 a15 a16 a17 bn
            go_wp2
            go_roundw
            case rel => exact ⟨j + 1, _, by omega, by go_num, HPU.out, by simp; omega, HNX, hbX3, hkX2, hHOB2⟩
            case measure => simp [intOf]; omega
          · have HS2 := HSC.out
            rw [if_neg hkd, List.append_nil] at HS2
            have HNX := hid (show T1.map (fun t => (t.who, t.o)) = (NS.take k).flatMap (ofWho 2 S) ++ (selO 2 (LO.take (j + 1))).map (fun o => (who, o)) by rw [HS2]; exact HTM.out)
            have hkd' : (z.kind == 2) = false := by simpa using hkd
            clear HS2
            have hbX2 : Below W0.heap.size W0 (wr.alloc (Obj.cells #[.int .i64 z.kind, .int .i64 z.cents, .int .i64 z.seq, .string z.swho, .int .i64 z.sseq, .int .i64 z.szone, .int .i64 z.shour, .bool z.sbuy, .int .i64 z.sqty, .int .i64 z.sprice, .string z.bwho, .int .i64 z.bseq, .int .i64 z.bzone, .bool z.bbuy, .int .i64 z.bprice, .slice qa qn qc, .int .i64 z.parent, .int .i64 z.group] 28)) := bX.trans (bn.mono bX.size)
            have hTA := hid (HT2.out.below bn)
            have hkX2 : Kx (fun i => i < V1.heap.size ∨ W1.heap.size ≤ i) W1 (wr.alloc (Obj.cells #[.int .i64 z.kind, .int .i64 z.cents, .int .i64 z.seq, .string z.swho, .int .i64 z.sseq, .int .i64 z.szone, .int .i64 z.shour, .bool z.sbuy, .int .i64 z.sqty, .int .i64 z.sprice, .string z.bwho, .int .i64 z.bseq, .int .i64 z.bzone, .bool z.bbuy, .int .i64 z.bprice, .slice qa qn qc, .int .i64 z.parent, .int .i64 z.group] 28)) := kX.trans (Kx.of_below bn)
            generalize z.kind = zk at *
            go_wp2_with (refine wpList_store_new rfl 28 _ _ rfl _ _ _ rfl (by simp) rfl 18 info_Ask (by rfl) (by rfl) (by simp [Value.oneCell']) ?_)
            go_roundw
            case rel => exact ⟨j + 1, T1, by omega, by go_num, hTA.out, by omega, HNX, hbX2, hkX2, HOB⟩
            case measure => simp [intOf]; omega
        · have hjl : j = LO.length := by omega
          have HFI := hid (show T1.map (fun t => (t.who, t.o)) = (NS.take (k + 1)).flatMap (ofWho 2 S) by
            rw [HSU.out, HTM.out, hjl, List.take_length]
            unfold ofWho
            rw [HLL.out])
          have HTF := hid hT1
          clear hjl hT1
          go_wp2
          go_roundw
          case rel => exact ⟨k + 1, T1, by omega, by go_num, HTF.out, by omega, HFI, bX⟩
          case measure => simp [intOf]; omega
    · have hkl : k = NS.length := by omega
      have HFI := hid (show T.map (fun t => (t.who, t.o)) = allO 2 N S by rw [HALL.out, HT.out, hkl, List.take_length])
      have HTF := hid hT
      clear hkl hT
      go_wp2
      go_ret
      exact ⟨_, W0.heap.size, T, rfl, b0.size, HTF.out, HFI.out, chain2 b0 bw⟩
set_option maxHeartbeats 12800000 in
theorem blocks_any {O : Nat → Prop} {w : World} {v : Value} {N : List ByteArray} {S : ByteArray → Ps} (h : Bk O w v N S) (hN : N.length ≤ 1000) :
    Calls Try.prog 20 #[v] w fun e w' => ∃ r base T, e = .returned r ∧ w.heap.size ≤ base ∧ TRow 26 8 blockC w' base r T ∧ T.map (fun t => (t.who, t.o)) = allO 3 N S ∧ Below w.heap.size w w' := by
  obtain ⟨i0, hi, hz0, hz1, hz2⟩ := info_parts info_apiBlockZ
  have HBK := hid h
  go_enter Try.func20, Try.ntmps20
  go_wp2_with fail
  refine (who_any h hN).mono ?_
  rintro e W0 ⟨rn, rfl, hrn, b0⟩
  clear h
  rw [names_V] at hrn
  have HSZ := hid (fun x (hx : x ∈ namesS N) => HBK.out.size (names_mem hx))
  have hnl := names_len N
  have hSt : Row1 W0 rn ((namesS N).map Value.string) := Row1.of_own (by rw [List.length_map, hnl]; exact hrn)
  have HALL := hid (show allO 3 N S = (namesS N).flatMap (ofWho 3 S) from rfl)
  generalize namesS N = NS at *
  have HBK0 := hid (HBK.out.below b0)
  have hnl1 : NS.length ≤ 1000 := by omega
  obtain ⟨na, nc, hrne, hnlc, hncm⟩ := hSt.slice
  rw [List.length_map] at hrne hnlc
  subst hrne
  unfold maxLen at hncm
  have HST := hid hSt
  have HNL := hid hnl
  clear hrn hSt hnl
  go_wp2
  go_loopw [3, 11] (fun l i wr => ∃ (k : Nat) (T : List Tr), k ≤ NS.length ∧ i = .int .i64 (k : Int) ∧ TRow 26 8 blockC wr W0.heap.size l T ∧ T.length ≤ 24 * k ∧ Hid (T.map (fun t => (t.who, t.o)) = (NS.take k).flatMap (ofWho 3 S)) ∧ Below W0.heap.size W0 wr) (fun _ i _ => NS.length - (intOf i).toNat)
  case atStart => exact ⟨0, [], Nat.zero_le _, rfl, ⟨World.ownsRow_nil _ _ _ 8, by simp, by simp⟩, Nat.zero_le _, rfl, Below.refl _ _⟩
  case round =>
    obtain ⟨k, T, hk, rfl, hT, hTl, HT, bw⟩ := hrel
    by_cases hlt : k < NS.length
    · obtain ⟨b1, o1, d1, e1, l1, m1, f1⟩ := (HST.out.below bw).at k (by rw [List.length_map]; exact hlt)
      rw [List.length_map] at e1 l1
      simp only [Value.slice.injEq] at e1
      obtain ⟨rfl, _, rfl⟩ := e1
      have HW := hid (HSZ.out NS[k] (List.getElem_mem hlt))
      have hs1 : (NS.map Value.string)[k]'(by rw [List.length_map]; exact hlt) = .string NS[k] := by simp
      rw [hs1] at f1
      have HSU := hid (show (NS.take (k + 1)).flatMap (ofWho 3 S) = (NS.take k).flatMap (ofWho 3 S) ++ ofWho 3 S NS[k] by
        rw [List.take_succ_eq_append_getElem hlt, List.flatMap_append]; simp)
      generalize NS[k] = who at *
      have hbkr := HBK0.out.below bw
      have hOL := orders_len (hbkr.sane who)
      have hOC := ordersOf_any hbkr who HW.out
      have HTR := hid hT
      obtain ⟨la, lc, rfl⟩ := own_slice hT.own
      clear hT hs1
      go_wp2_with fail
      refine hOC.mono ?_
      rintro e W1 ⟨r, R, rfl, hR, hRL, b1'⟩
      clear hOC hbkr f1
      obtain ⟨ra, rc, rfl⟩ := hR.slice
      have hcap := hR.cap
      generalize hLL : (S who).orders = LO at *
      have hRlen : R.length = LO.length := by rw [← hRL]; simp
      have HLL := hid hLL
      have HRL := hid hRL
      have HR := hid hR
      have HT1 := hid (HTR.out.below b1')
      have BW1 := hid (chain2 bw b1')
      have hbz : W0.heap.size ≤ wr.heap.size := bw.size
      have hb1z : wr.heap.size ≤ W1.heap.size := b1'.size
      have HTB := hid (HTR.out.own.lt)
      clear hR hRL hLL
      have hr24 : R.length ≤ 24 := by omega
      generalize wr = V1 at *
      go_wp2
      go_loopw [3, 19] (fun l i X => ∃ (j : Nat) (T1 : List Tr), j ≤ R.length ∧ i = .int .i64 (j : Int) ∧ TRow 26 8 blockC X W0.heap.size l T1 ∧ T1.length ≤ 24 * k + j ∧ Hid (T1.map (fun t => (t.who, t.o)) = (NS.take k).flatMap (ofWho 3 S) ++ (selO 3 (LO.take j)).map (fun o => (who, o))) ∧ Below W0.heap.size W0 X ∧ Kx (fun i => i < V1.heap.size ∨ W1.heap.size ≤ i) W1 X ∧ Hid (∀ gg, l.ownBlock = some gg → gg < V1.heap.size ∨ W1.heap.size ≤ gg)) (fun _ i _ => R.length - (intOf i).toNat)
      case atStart => exact ⟨0, T, Nat.zero_le _, rfl, HT1.out, by omega, by rw [HT.out]; simp [selO, Hid], BW1.out, Kx.refl _ _, fun gg hg => Or.inl (HTB.out gg hg).2⟩
      case round =>
        obtain ⟨j, T1, hj, rfl, hT1, hT1l, HTM, bX, kX, HOB⟩ := hrel
        by_cases hlt2 : j < R.length
        · have hRX : OrdRow wr V1.heap.size (.slice ra R.length rc) who R := HR.out.kx kX (fun b hb hb2 hs => by omega)
          have HFW := hid (HR.out.fit _ (List.getElem_mem hlt2))
          have HFX := hid (hRX.fit _ (List.getElem_mem hlt2))
          have hjL : j < LO.length := by omega
          have hsucc := selO_succ 3 LO j hjL
          have hLk : LO[j] = (R[j]).1 := by
            have := HRL.out
            subst this
            simp
          obtain ⟨g, c', e1, hg1, hg2, hg3, hg4, hat⟩ := hRX.at j hlt2
          have hfo := hRX.form _ (List.getElem_mem hlt2)
          have hfi := hRX.fit _ (List.getElem_mem hlt2)
          simp only [Value.slice.injEq] at e1
          obtain ⟨rfl, _, rfl⟩ := e1
          rw [← odK_C] at hat
          have hzk := odK_kind who (R[j]).2 (R[j]).1
          have hzo := odK_O who (R[j]).2 (R[j]).1
          have hqv : ∃ a n c, (odK who (R[j]).2 (R[j]).1).qv = .slice a n c := by
            generalize R[j] = p at *
            obtain ⟨o, qv⟩ := p
            cases o with
            | step => exact ⟨_, _, _, rfl⟩
            | block => exact hfo
          have hin : Ints wr (odK who (R[j]).2 (R[j]).1).qv (odK who (R[j]).2 (R[j]).1).Q := by
            generalize R[j] = p at *
            obtain ⟨o, qv⟩ := p
            cases o with
            | step => exact Row1.nil _
            | block => exact hfi.1
          have hk23 : (odK who (R[j]).2 (R[j]).1).kind = 2 ∨ (odK who (R[j]).2 (R[j]).1).kind = 3 := by
            generalize R[j] = p at *
            obtain ⟨o, qv⟩ := p
            cases o with
            | step => exact Or.inl rfl
            | block => exact Or.inr rfl
          rw [hLk, ← hzo] at hsucc
          have HTZ := hid (show (Tr.mk who (R[j]).1 (R[j]).2).z = odK who (R[j]).2 (R[j]).1 from rfl)
          have hzk2 : (kbO (odK who (R[j]).2 (R[j]).1)).kind = (odK who (R[j]).2 (R[j]).1).kind := by rw [hzo, hzk]
          rw [hzk2] at hsucc
          generalize R[j] = p at *
          obtain ⟨oj, qvj⟩ := p
          simp only at hzo hzk HFW HFX HTZ hfo hfi hat hqv hin hk23 hsucc hzk2
          rw [hzo] at hsucc
          generalize odK who qvj oj = z at *
          have a0 : wr.cell? ⟨g, j * 18, none⟩ = some (.int .i64 z.kind) := hat 0 (.int .i64 z.kind) rfl
          have a1 : wr.cell? ⟨g, j * 18 + 1, none⟩ = some (.int .i64 z.cents) := hat 1 (.int .i64 z.cents) rfl
          have a2 : wr.cell? ⟨g, j * 18 + 2, none⟩ = some (.int .i64 z.seq) := hat 2 (.int .i64 z.seq) rfl
          have a3 : wr.cell? ⟨g, j * 18 + 3, none⟩ = some (.string z.swho) := hat 3 (.string z.swho) rfl
          have a4 : wr.cell? ⟨g, j * 18 + 4, none⟩ = some (.int .i64 z.sseq) := hat 4 (.int .i64 z.sseq) rfl
          have a5 : wr.cell? ⟨g, j * 18 + 5, none⟩ = some (.int .i64 z.szone) := hat 5 (.int .i64 z.szone) rfl
          have a6 : wr.cell? ⟨g, j * 18 + 6, none⟩ = some (.int .i64 z.shour) := hat 6 (.int .i64 z.shour) rfl
          have a7 : wr.cell? ⟨g, j * 18 + 7, none⟩ = some (.bool z.sbuy) := hat 7 (.bool z.sbuy) rfl
          have a8 : wr.cell? ⟨g, j * 18 + 8, none⟩ = some (.int .i64 z.sqty) := hat 8 (.int .i64 z.sqty) rfl
          have a9 : wr.cell? ⟨g, j * 18 + 9, none⟩ = some (.int .i64 z.sprice) := hat 9 (.int .i64 z.sprice) rfl
          have a10 : wr.cell? ⟨g, j * 18 + 10, none⟩ = some (.string z.bwho) := hat 10 (.string z.bwho) rfl
          have a11 : wr.cell? ⟨g, j * 18 + 11, none⟩ = some (.int .i64 z.bseq) := hat 11 (.int .i64 z.bseq) rfl
          have a12 : wr.cell? ⟨g, j * 18 + 12, none⟩ = some (.int .i64 z.bzone) := hat 12 (.int .i64 z.bzone) rfl
          have a13 : wr.cell? ⟨g, j * 18 + 13, none⟩ = some (.bool z.bbuy) := hat 13 (.bool z.bbuy) rfl
          have a14 : wr.cell? ⟨g, j * 18 + 14, none⟩ = some (.int .i64 z.bprice) := hat 14 (.int .i64 z.bprice) rfl
          have a15 : wr.cell? ⟨g, j * 18 + 15, none⟩ = some (z.qv) := hat 15 (z.qv) rfl
          have a16 : wr.cell? ⟨g, j * 18 + 16, none⟩ = some (.int .i64 z.parent) := hat 16 (.int .i64 z.parent) rfl
          have a17 : wr.cell? ⟨g, j * 18 + 17, none⟩ = some (.int .i64 z.group) := hat 17 (.int .i64 z.group) rfl
          obtain ⟨qa, qn, qc, hq0⟩ := hqv
          rw [hq0] at a15
          have HSC := hid hsucc
          obtain ⟨ta, tc, rfl⟩ := own_slice hT1.own
          have HT2 := hid hT1
          have HFO := hid hfo
          have hz0 := hz0
          clear hat hsucc hzk hzo hfi hfo hLk hin hzk2 hRX hT1
          have bn := (Below.refl wr.heap.size wr).alloc (Nat.le_refl _) (Obj.cells #[.int .i64 z.kind, .int .i64 z.cents, .int .i64 z.seq, .string z.swho, .int .i64 z.sseq, .int .i64 z.szone, .int .i64 z.shour, .bool z.sbuy, .int .i64 z.sqty, .int .i64 z.sprice, .string z.bwho, .int .i64 z.bseq, .int .i64 z.bzone, .bool z.bbuy, .int .i64 z.bprice, .slice qa qn qc, .int .i64 z.parent, .int .i64 z.group] 28)
          by_cases hkd : z.kind = 3
          · have HS2 := HSC.out
            rw [if_pos hkd] at HS2
            have HS2 := hid HS2
            have HNX := hid (show (T1 ++ [Tr.mk who oj qvj]).map (fun t => (t.who, t.o)) = (NS.take k).flatMap (ofWho 3 S) ++ (selO 3 (LO.take (j + 1))).map (fun o => (who, o)) by
              rw [List.map_append, HTM.out, HS2.out, List.map_append, List.append_assoc]; rfl)
            rw [hkd] at a0 bn
            have hg1 := alloc2_below wr (Obj.cells #[.int .i64 3, .int .i64 z.cents, .int .i64 z.seq, .string z.swho, .int .i64 z.sseq, .int .i64 z.szone, .int .i64 z.shour, .bool z.sbuy, .int .i64 z.sqty, .int .i64 z.sprice, .string z.bwho, .int .i64 z.bseq, .int .i64 z.bzone, .bool z.bbuy, .int .i64 z.bprice, .slice qa qn qc, .int .i64 z.parent, .int .i64 z.group] 28) (Obj.cells #[.string z.bwho, .int .i64 z.bseq, .int .i64 z.bzone, .bool z.bbuy, .int .i64 z.bprice, .slice qa qn qc, .int .i64 z.parent, .int .i64 z.group] 26)
            have hTA := HT2.out.below hg1
            have hcell := heap_alloc2_new wr (Obj.cells #[.int .i64 3, .int .i64 z.cents, .int .i64 z.seq, .string z.swho, .int .i64 z.sseq, .int .i64 z.szone, .int .i64 z.shour, .bool z.sbuy, .int .i64 z.sqty, .int .i64 z.sprice, .string z.bwho, .int .i64 z.bseq, .int .i64 z.bzone, .bool z.bbuy, .int .i64 z.bprice, .slice qa qn qc, .int .i64 z.parent, .int .i64 z.group] 28) (Obj.cells #[.string z.bwho, .int .i64 z.bseq, .int .i64 z.bzone, .bool z.bbuy, .int .i64 z.bprice, .slice qa qn qc, .int .i64 z.parent, .int .i64 z.group] 26)
            go_wp2_with (first
              | (at_builtin; refine wpList_append_own_at _ rfl _ _ 56 rfl W0.heap.size 26 i0 (.agg #[.string ⟨#[]⟩, .int .i64 0, .int .i64 0, .bool false, .int .i64 0, .slice none 0 0, .int .i64 0, .int .i64 0]) 8 88 Try.underlying56 hi hz0 hz1 hz2 rfl (by decide) (.slice ta T1.length tc) T1.length (T1.flatMap fun t => blockC t.z) rfl hTA.own ⟨wr.heap.size + 1, 0, none⟩ 1 1 [.string z.bwho, .int .i64 z.bseq, .int .i64 z.bzone, .bool z.bbuy, .int .i64 z.bprice, .slice qa qn qc, .int .i64 z.parent, .int .i64 z.group] rfl (by rfl) (fun jj u hu => by rw [add_off, Nat.zero_add, cell_of_row _ _ jj _ _ _ hcell]; simpa using hu) (by simp [Value.oneCell']) (by unfold maxLen; omega) (by omega) (by have := bX.size; simp; omega) ?_; intro v' w3 hown' hgrow hnil hloc)
              | (refine wpList_store_new rfl 28 _ _ rfl _ _ _ rfl (by simp) rfl 18 info_Ask (by rfl) (by rfl) (by simp [Value.oneCell']) ?_))
            have hX2z : ((wr.alloc (Obj.cells #[.int .i64 3, .int .i64 z.cents, .int .i64 z.seq, .string z.swho, .int .i64 z.sseq, .int .i64 z.szone, .int .i64 z.shour, .bool z.sbuy, .int .i64 z.sqty, .int .i64 z.sprice, .string z.bwho, .int .i64 z.bseq, .int .i64 z.bzone, .bool z.bbuy, .int .i64 z.bprice, .slice qa qn qc, .int .i64 z.parent, .int .i64 z.group] 28)).alloc (Obj.cells #[.string z.bwho, .int .i64 z.bseq, .int .i64 z.bzone, .bool z.bbuy, .int .i64 z.bprice, .slice qa qn qc, .int .i64 z.parent, .int .i64 z.group] 26)).heap.size = wr.heap.size + 2 := by simp
            have hbX2 : Below W0.heap.size W0 ((wr.alloc (Obj.cells #[.int .i64 3, .int .i64 z.cents, .int .i64 z.seq, .string z.swho, .int .i64 z.sseq, .int .i64 z.szone, .int .i64 z.shour, .bool z.sbuy, .int .i64 z.sqty, .int .i64 z.sprice, .string z.bwho, .int .i64 z.bseq, .int .i64 z.bzone, .bool z.bbuy, .int .i64 z.bprice, .slice qa qn qc, .int .i64 z.parent, .int .i64 z.group] 28)).alloc (Obj.cells #[.string z.bwho, .int .i64 z.bseq, .int .i64 z.bzone, .bool z.bbuy, .int .i64 z.bprice, .slice qa qn qc, .int .i64 z.parent, .int .i64 z.group] 26)) := bX.trans (hg1.mono bX.size)
            have hpush := tRow_push (t := Tr.mk who oj qvj) hTA (by rw [HTZ.out]; unfold blockC; rw [hq0]; exact hown') hgrow hloc
              (fitR_move HFW.out (fitR_below HFX.out hg1) hbz HOB.out) HFO.out
            have hkX2 : Kx (fun i => i < V1.heap.size ∨ W1.heap.size ≤ i) W1 w3 := (kX.trans (Kx.of_below hg1)).trans ⟨hgrow.os, hgrow.tape, hgrow.output, hgrow.size, fun i hi2 hs => hgrow.block i hi2 (fun e => hs (HOB.out i e.symm))⟩
            have hHOB2 := hid (show ∀ gg, v'.ownBlock = some gg → gg < V1.heap.size ∨ W1.heap.size ≤ gg from fun gg hg => by
              rcases hloc with e | e
              · exact HOB.out gg (e ▸ hg)
              · rw [e, hX2z] at hg
                cases hg
                have := kX.size
                right; omega)
            have hbX3 := hbX2.grown hgrow hbX2.size (fun jj hj2 => (hTA.own.lt jj hj2).1)
            have HPU := hid hpush
            clear hpush hown' hgrow hnil hloc hTA hcell hg1 hbX2 hX2z a0 a1 a2 a3 a4 a5 a6 a7 a8 a9 a10 a11 a12 a13 a14 a15 a16 a17 bn
            go_wp2
            go_roundw
            case rel => exact ⟨j + 1, _, by omega, by go_num, HPU.out, by simp; omega, HNX, hbX3, hkX2, hHOB2⟩
            case measure => simp [intOf]; omega
          · have HS2 := HSC.out
            rw [if_neg hkd, List.append_nil] at HS2
            have HNX := hid (show T1.map (fun t => (t.who, t.o)) = (NS.take k).flatMap (ofWho 3 S) ++ (selO 3 (LO.take (j + 1))).map (fun o => (who, o)) by rw [HS2]; exact HTM.out)
            have hkd' : (z.kind == 3) = false := by simpa using hkd
            clear HS2
            have hbX2 : Below W0.heap.size W0 (wr.alloc (Obj.cells #[.int .i64 z.kind, .int .i64 z.cents, .int .i64 z.seq, .string z.swho, .int .i64 z.sseq, .int .i64 z.szone, .int .i64 z.shour, .bool z.sbuy, .int .i64 z.sqty, .int .i64 z.sprice, .string z.bwho, .int .i64 z.bseq, .int .i64 z.bzone, .bool z.bbuy, .int .i64 z.bprice, .slice qa qn qc, .int .i64 z.parent, .int .i64 z.group] 28)) := bX.trans (bn.mono bX.size)
            have hTA := hid (HT2.out.below bn)
            have hkX2 : Kx (fun i => i < V1.heap.size ∨ W1.heap.size ≤ i) W1 (wr.alloc (Obj.cells #[.int .i64 z.kind, .int .i64 z.cents, .int .i64 z.seq, .string z.swho, .int .i64 z.sseq, .int .i64 z.szone, .int .i64 z.shour, .bool z.sbuy, .int .i64 z.sqty, .int .i64 z.sprice, .string z.bwho, .int .i64 z.bseq, .int .i64 z.bzone, .bool z.bbuy, .int .i64 z.bprice, .slice qa qn qc, .int .i64 z.parent, .int .i64 z.group] 28)) := kX.trans (Kx.of_below bn)
            generalize z.kind = zk at *
            go_wp2_with (refine wpList_store_new rfl 28 _ _ rfl _ _ _ rfl (by simp) rfl 18 info_Ask (by rfl) (by rfl) (by simp [Value.oneCell']) ?_)
            go_roundw
            case rel => exact ⟨j + 1, T1, by omega, by go_num, hTA.out, by omega, HNX, hbX2, hkX2, HOB⟩
            case measure => simp [intOf]; omega
        · have hjl : j = LO.length := by omega
          have HFI := hid (show T1.map (fun t => (t.who, t.o)) = (NS.take (k + 1)).flatMap (ofWho 3 S) by
            rw [HSU.out, HTM.out, hjl, List.take_length]
            unfold ofWho
            rw [HLL.out])
          have HTF := hid hT1
          clear hjl hT1
          go_wp2
          go_roundw
          case rel => exact ⟨k + 1, T1, by omega, by go_num, HTF.out, by omega, HFI, bX⟩
          case measure => simp [intOf]; omega
    · have hkl : k = NS.length := by omega
      have HFI := hid (show T.map (fun t => (t.who, t.o)) = allO 3 N S by rw [HALL.out, HT.out, hkl, List.take_length])
      have HTF := hid hT
      clear hkl hT
      go_wp2
      go_ret
      exact ⟨_, W0.heap.size, T, rfl, b0.size, HTF.out, HFI.out, chain2 b0 bw⟩
end Go.Proofs.Ytbkobimbdiogfaa
