/- book: the orders of a participant that live. -/
import Derived.Test.YtbkobimbdiogfaaBOrd
import Derived.OwnWalk
namespace Go.Proofs.Ytbkobimbdiogfaa
open Go.RowKit Go.MapKept
set_option linter.unusedVariables false
set_option maxRecDepth 100000
set_option linter.unusedSimpArgs false

/-- The Qtys of an order that lies in a row of its own. -/
def FitR (w : World) (base : Nat) (v : Value) : Od × Value → Prop
  | (.step .., _) => True
  | (.block _ _ _ _ Q _ _, qv) => Ints w qv Q ∧ (Q = [] ∨ ∀ b off n c, qv = .slice (some ⟨b, off, none⟩) n c → base ≤ b ∧ some b ≠ v.ownBlock)
def rowC (who : ByteArray) (R : List (Od × Value)) : List Value := R.flatMap fun p => (odC who p.2 p.1).toList
theorem rowC_app (who : ByteArray) (R : List (Od × Value)) (p : Od × Value) : rowC who (R ++ [p]) = rowC who R ++ (odC who p.2 p.1).toList := by simp [rowC]
theorem odC_len (who : ByteArray) (qv : Value) (o : Od) : (odC who qv o).toList.length = 18 := by cases o <;> rfl
/-- A slice of orders, in memory from base on. -/
structure OrdRow (w : World) (base : Nat) (v : Value) (who : ByteArray) (R : List (Od × Value)) : Prop where
  own : w.ownsRow base 28 18 v R.length (rowC who R)
  fit : ∀ p ∈ R, FitR w base v p
  form : ∀ p ∈ R, ∃ a n c, p.2 = .slice a n c
theorem fitR_below {w w' : World} {base : Nat} {v : Value} {p : Od × Value} (h : FitR w base v p) (b : Below w.heap.size w w') : FitR w' base v p := by
  obtain ⟨o, qv⟩ := p
  cases o with
  | step => trivial
  | block => exact ⟨h.1.below b, h.2⟩
theorem OrdRow.below {w w' : World} {base : Nat} {v : Value} {who : ByteArray} {R : List (Od × Value)} (h : OrdRow w base v who R) (b : Below w.heap.size w w') : OrdRow w' base v who R :=
  ⟨own_below h.own b, fun p hp => fitR_below (h.fit p hp) b, h.form⟩
theorem OrdRow.slice {w : World} {base : Nat} {v : Value} {who : ByteArray} {R : List (Od × Value)} (h : OrdRow w base v who R) : ∃ a c, v = .slice a R.length c := own_slice h.own
theorem OrdRow.cap {w : World} {base : Nat} {a : Option Addr} {n c : Nat} {who : ByteArray} {R : List (Od × Value)} (h : OrdRow w base (.slice a n c) who R) : n = R.length ∧ R.length ≤ c ∧ c ≤ 9223372036854775807 := by
  rcases h.own.2 with ⟨e, h0⟩ | ⟨g, cap, cur, e, _, _, h1, h2, _⟩
  · cases e; omega
  · unfold maxLen at h2
    cases e; omega
theorem OrdRow.at {w : World} {base : Nat} {v : Value} {who : ByteArray} {R : List (Od × Value)} (h : OrdRow w base v who R) (k : Nat) (hk : k < R.length) :
    ∃ g c, v = .slice (some ⟨g, 0, none⟩) R.length c ∧ base ≤ g ∧ g < w.heap.size ∧ R.length ≤ c ∧ c ≤ 9223372036854775807 ∧ ∀ j u, (odC who (R[k]).2 (R[k]).1)[j]? = some u → w.cell? ⟨g, k * 18 + j, none⟩ = some u := by
  rcases h.own.2 with ⟨e, h0⟩ | ⟨g, cap, cur, e, hb, hh, h1, h2, h3, h4⟩
  · omega
  · unfold maxLen at h2
    refine ⟨g, cap, e, hb, lt_of_block hh, h1, by omega, fun j u hu => ?_⟩
    have hj : j < 18 := by
      have h5 := (Array.getElem?_eq_some_iff.1 hu).1
      have h6 := odC_len who (R[k]).2 (R[k]).1
      rw [Array.length_toList] at h6
      omega
    have key : ∀ (R : List (Od × Value)) (k : Nat) (hk : k < R.length), (rowC who R)[k * 18 + j]? = (odC who (R[k]).2 (R[k]).1)[j]? := by
      intro R
      induction R with
      | nil => intro k hk; simp at hk
      | cons p R ih =>
        intro k hk
        have hl : (odC who p.2 p.1).toList.length = 18 := odC_len who p.2 p.1
        cases k with
        | zero =>
          show ((odC who p.2 p.1).toList ++ rowC who R)[0 * 18 + j]? = _
          rw [Nat.zero_mul, Nat.zero_add, List.getElem?_append_left (by omega), Array.getElem?_toList]
          rfl
        | succ k =>
          show ((odC who p.2 p.1).toList ++ rowC who R)[(k + 1) * 18 + j]? = _
          rw [List.getElem?_append_right (by omega), hl, show (k + 1) * 18 + j - 18 = k * 18 + j by omega]
          exact ih k (by simpa using hk)
    have := h.own.cells (g := g) (by rw [e]; rfl) (k * 18 + j) u (by rw [key R k hk]; exact hu)
    rw [add_off, Nat.zero_add] at this
    exact this
theorem info_AskZ : (Try.prog.info? 28).map (fun i => (i.zero, i.size, i.bytes)) = some (some zeroAsk, 18, 176) := by kernel_rfl
theorem fitR_grown {w w' : World} {base : Nat} {v v' : Value} {p : Od × Value} (h : FitR w base v p) (g : w.grownBy w' v.ownBlock) (hl : v'.ownBlock = v.ownBlock ∨ v'.ownBlock = some w.heap.size) : FitR w' base v' p := by
  obtain ⟨o, qv⟩ := p
  cases o with
  | step => trivial
  | block o1 o2 o3 o4 Q o6 o7 =>
    obtain ⟨h1, h2⟩ := h
    rcases h2 with rfl | h2
    · obtain ⟨a', c', x1, x2, x3, _⟩ := h1
      exact ⟨⟨a', c', x1, x2, x3, Or.inl rfl⟩, Or.inl rfl⟩
    · have k : Kx (fun i => some i = v.ownBlock) w w' := ⟨g.os, g.tape, g.output, g.size, g.block⟩
      refine ⟨Row1.kx h1 k (fun b off n c e hb => (h2 b off n c e).2 hb), ?_⟩
      by_cases h0 : Q = []
      · exact Or.inl h0
      · refine Or.inr fun b off n c e => ?_
        refine ⟨(h2 b off n c e).1, ?_⟩
        rcases hl with hl | hl
        · rw [hl]; exact (h2 b off n c e).2
        · rw [hl]
          obtain ⟨b', off', c', e1, _, _, e2⟩ := Ints.at h1 0 (by cases Q with | nil => exact absurd rfl h0 | cons => simp)
          rw [e] at e1
          simp only [Value.slice.injEq, Option.some.injEq, Addr.mk.injEq] at e1
          have := World.block_lt_of_cell? w _ e2
          simp only at this
          intro hh
          simp only [Option.some.injEq] at hh
          omega
/-- An order's copy: what is new of it. -/
def NewQ (w w' : World) (qv : Value) : Od → Prop
  | .step .. => True
  | .block _ _ _ _ Q _ _ => Ints w' qv Q ∧ (Q = [] ∨ ∀ b off n c, qv = .slice (some ⟨b, off, none⟩) n c → w.heap.size ≤ b ∧ b < w'.heap.size)
def IntsO (w : World) (qv : Value) : Od → Prop
  | .step .. => True
  | .block _ _ _ _ Q _ _ => Ints w qv Q
theorem ordRow_push {wr w1 w2 W w3 : World} {base : Nat} {v v' qv : Value} {who : ByteArray} {R : List (Od × Value)} {o : Od} (hr : OrdRow wr base v who R) (b1 : Below wr.heap.size wr w1) (hn : NewQ w1 w2 qv o) (b2 : Below w1.heap.size w1 w2) (b3 : Below w2.heap.size w2 W)
    (hown : w3.ownsRow base 28 18 v' (R.length + 1) (rowC who R ++ (odC who qv o).toList)) (hg : W.grownBy w3 v.ownBlock) (hl : v'.ownBlock = v.ownBlock ∨ v'.ownBlock = some W.heap.size) (hf : ∃ a n c, qv = .slice a n c) (hbase : base ≤ wr.heap.size) : OrdRow w3 base v' who (R ++ [(o, qv)]) := by
  have hlt := hr.own.lt
  have hb := chain2 b1 (chain2 b2 b3)
  refine ⟨by rw [rowC_app, List.length_append]; exact hown, fun p hp => ?_, fun p hp => ?_⟩
  · rcases List.mem_append.1 hp with hp | hp
    · exact fitR_grown (fitR_below (hr.fit p hp) hb) hg hl
    · simp only [List.mem_singleton] at hp
      subst hp
      refine fitR_grown (w := W) (v := v) ?_ hg hl
      cases o with
      | step => trivial
      | block o1 o2 o3 o4 Q o6 o7 =>
        obtain ⟨h1, h2⟩ := hn
        refine ⟨Ints.below h1 b3, ?_⟩
        rcases h2 with h2 | h2
        · exact Or.inl h2
        · refine Or.inr fun b off n c e => ?_
          have h3 := (h2 b off n c e).1
          have := b1.size
          refine ⟨by omega, fun hh => ?_⟩
          have h4 := (hlt b hh.symm).2
          omega
  · rcases List.mem_append.1 hp with hp | hp
    · exact hr.form p hp
    · simp only [List.mem_singleton] at hp
      subst hp
      exact hf
theorem anewO_any (who : ByteArray) (hw : who.size ≤ 1099511627776) (qv : Value) (o : Od) (w : World) (hi : IntsO w qv o) (hl : o.len ≤ 1000000000) :
    Calls Try.prog 33 #[.string who, .agg (odC who qv o)] w fun e w' => ∃ qa qn qc, e = .returned (.agg (odC who (.slice qa qn qc) o)) ∧ NewQ w w' (.slice qa qn qc) o ∧ Below w.heap.size w w' := by
  cases o with
  | step o1 o2 o3 o4 o5 o6 =>
    refine (anew_step who hw (odK who qv (.step o1 o2 o3 o4 o5 o6)) rfl w).mono ?_
    rintro e w' ⟨rfl, b⟩
    exact ⟨none, 0, 0, rfl, trivial, b⟩
  | block o1 o2 o3 o4 Q o6 o7 =>
    refine (anew_block who hw (odK who qv (.block o1 o2 o3 o4 Q o6 o7)) rfl w hi hl).mono ?_
    rintro e w' ⟨qa, qn, qc, rfl, h1, h2, b⟩
    exact ⟨qa, qn, qc, rfl, ⟨h1, h2⟩, b⟩
@[go_sem ↓] theorem run_cells18r (P : Program) (b o : Nat) (w : World) :
    (loadCellsFrom ⟨b, o * 18, none⟩ 0 18 #[]).run P w = if ((w.cell? ⟨b, o * 18, none⟩).isSome && (w.cell? ⟨b, o * 18 + 1, none⟩).isSome && (w.cell? ⟨b, o * 18 + 2, none⟩).isSome && (w.cell? ⟨b, o * 18 + 3, none⟩).isSome && (w.cell? ⟨b, o * 18 + 4, none⟩).isSome && (w.cell? ⟨b, o * 18 + 5, none⟩).isSome && (w.cell? ⟨b, o * 18 + 6, none⟩).isSome && (w.cell? ⟨b, o * 18 + 7, none⟩).isSome && (w.cell? ⟨b, o * 18 + 8, none⟩).isSome && (w.cell? ⟨b, o * 18 + 9, none⟩).isSome && (w.cell? ⟨b, o * 18 + 10, none⟩).isSome && (w.cell? ⟨b, o * 18 + 11, none⟩).isSome && (w.cell? ⟨b, o * 18 + 12, none⟩).isSome && (w.cell? ⟨b, o * 18 + 13, none⟩).isSome && (w.cell? ⟨b, o * 18 + 14, none⟩).isSome && (w.cell? ⟨b, o * 18 + 15, none⟩).isSome && (w.cell? ⟨b, o * 18 + 16, none⟩).isSome && (w.cell? ⟨b, o * 18 + 17, none⟩).isSome) = true then .ok #[(w.cell? ⟨b, o * 18, none⟩).getD undef, (w.cell? ⟨b, o * 18 + 1, none⟩).getD undef, (w.cell? ⟨b, o * 18 + 2, none⟩).getD undef, (w.cell? ⟨b, o * 18 + 3, none⟩).getD undef, (w.cell? ⟨b, o * 18 + 4, none⟩).getD undef, (w.cell? ⟨b, o * 18 + 5, none⟩).getD undef, (w.cell? ⟨b, o * 18 + 6, none⟩).getD undef, (w.cell? ⟨b, o * 18 + 7, none⟩).getD undef, (w.cell? ⟨b, o * 18 + 8, none⟩).getD undef, (w.cell? ⟨b, o * 18 + 9, none⟩).getD undef, (w.cell? ⟨b, o * 18 + 10, none⟩).getD undef, (w.cell? ⟨b, o * 18 + 11, none⟩).getD undef, (w.cell? ⟨b, o * 18 + 12, none⟩).getD undef, (w.cell? ⟨b, o * 18 + 13, none⟩).getD undef, (w.cell? ⟨b, o * 18 + 14, none⟩).getD undef, (w.cell? ⟨b, o * 18 + 15, none⟩).getD undef, (w.cell? ⟨b, o * 18 + 16, none⟩).getD undef, (w.cell? ⟨b, o * 18 + 17, none⟩).getD undef] w else cellsSlow P ⟨b, o * 18, none⟩ 18 w := by
  split
  · rename_i h
    simp only [Bool.and_eq_true] at h
    obtain ⟨⟨⟨⟨⟨⟨⟨⟨⟨⟨⟨⟨⟨⟨⟨⟨⟨h0, h1⟩, h2⟩, h3⟩, h4⟩, h5⟩, h6⟩, h7⟩, h8⟩, h9⟩, h10⟩, h11⟩, h12⟩, h13⟩, h14⟩, h15⟩, h16⟩, h17⟩ := h
    obtain ⟨v0, e0⟩ := Option.isSome_iff_exists.1 h0
    obtain ⟨v1, e1⟩ := Option.isSome_iff_exists.1 h1
    obtain ⟨v2, e2⟩ := Option.isSome_iff_exists.1 h2
    obtain ⟨v3, e3⟩ := Option.isSome_iff_exists.1 h3
    obtain ⟨v4, e4⟩ := Option.isSome_iff_exists.1 h4
    obtain ⟨v5, e5⟩ := Option.isSome_iff_exists.1 h5
    obtain ⟨v6, e6⟩ := Option.isSome_iff_exists.1 h6
    obtain ⟨v7, e7⟩ := Option.isSome_iff_exists.1 h7
    obtain ⟨v8, e8⟩ := Option.isSome_iff_exists.1 h8
    obtain ⟨v9, e9⟩ := Option.isSome_iff_exists.1 h9
    obtain ⟨v10, e10⟩ := Option.isSome_iff_exists.1 h10
    obtain ⟨v11, e11⟩ := Option.isSome_iff_exists.1 h11
    obtain ⟨v12, e12⟩ := Option.isSome_iff_exists.1 h12
    obtain ⟨v13, e13⟩ := Option.isSome_iff_exists.1 h13
    obtain ⟨v14, e14⟩ := Option.isSome_iff_exists.1 h14
    obtain ⟨v15, e15⟩ := Option.isSome_iff_exists.1 h15
    obtain ⟨v16, e16⟩ := Option.isSome_iff_exists.1 h16
    obtain ⟨v17, e17⟩ := Option.isSome_iff_exists.1 h17
    rw [e0, e1, e2, e3, e4, e5, e6, e7, e8, e9, e10, e11, e12, e13, e14, e15, e16, e17]
    exact run_loadCells_list w ⟨b, o * 18, none⟩ [v0, v1, v2, v3, v4, v5, v6, v7, v8, v9, v10, v11, v12, v13, v14, v15, v16, v17] (fun j v hv => by
      rw [Addr.add_mid]
      match j, hv with
      | 0, hv => rw [Nat.add_zero, e0]; exact hv
      | 1, hv => rw [show o * 18 + 1 = o * 18 + 1 from by omega, e1]; exact hv
      | 2, hv => rw [show o * 18 + 2 = o * 18 + 2 from by omega, e2]; exact hv
      | 3, hv => rw [show o * 18 + 3 = o * 18 + 3 from by omega, e3]; exact hv
      | 4, hv => rw [show o * 18 + 4 = o * 18 + 4 from by omega, e4]; exact hv
      | 5, hv => rw [show o * 18 + 5 = o * 18 + 5 from by omega, e5]; exact hv
      | 6, hv => rw [show o * 18 + 6 = o * 18 + 6 from by omega, e6]; exact hv
      | 7, hv => rw [show o * 18 + 7 = o * 18 + 7 from by omega, e7]; exact hv
      | 8, hv => rw [show o * 18 + 8 = o * 18 + 8 from by omega, e8]; exact hv
      | 9, hv => rw [show o * 18 + 9 = o * 18 + 9 from by omega, e9]; exact hv
      | 10, hv => rw [show o * 18 + 10 = o * 18 + 10 from by omega, e10]; exact hv
      | 11, hv => rw [show o * 18 + 11 = o * 18 + 11 from by omega, e11]; exact hv
      | 12, hv => rw [show o * 18 + 12 = o * 18 + 12 from by omega, e12]; exact hv
      | 13, hv => rw [show o * 18 + 13 = o * 18 + 13 from by omega, e13]; exact hv
      | 14, hv => rw [show o * 18 + 14 = o * 18 + 14 from by omega, e14]; exact hv
      | 15, hv => rw [show o * 18 + 15 = o * 18 + 15 from by omega, e15]; exact hv
      | 16, hv => rw [show o * 18 + 16 = o * 18 + 16 from by omega, e16]; exact hv
      | 17, hv => rw [show o * 18 + 17 = o * 18 + 17 from by omega, e17]; exact hv
      | j + 18, hv => simp at hv)
  · rfl
theorem filterMap_succ {α β : Type} (f : α → Option β) (L : List α) (k : Nat) (h : k < L.length) : (L.take (k + 1)).filterMap f = (L.take k).filterMap f ++ (match f L[k] with | some y => [y] | none => []) := by
  rw [List.take_succ_eq_append_getElem h, List.filterMap_append]
  congr 1
  cases hf : f L[k] <;> simp [hf]
/-- Who's orders that live, by rising Seq. -/
def Ps.orders (p : Ps) : List Od := p.seqs.filterMap p.live
set_option maxHeartbeats 6400000 in
theorem ordersOf_any {O : Nat → Prop} {w : World} {v : Value} {N : List ByteArray} {S : ByteArray → Ps} (h : Bk O w v N S) (who : ByteArray) (hw : who.size ≤ 1099511627776) :
    Calls Try.prog 38 #[v, .string who] w fun e w' => ∃ r R, e = .returned r ∧ OrdRow w' w.heap.size r who R ∧ R.map (·.1) = (S who).orders ∧ Below w.heap.size w w' := by
  have hsane := h.sane who
  obtain ⟨C, bb, lb, ab, el, ea, cl, ca, rfl, hb⟩ := h
  obtain ⟨sv, ho, hL⟩ := hb.account who hw
  replace hL := hL w rfl
  have c1 := hb.cell1
  obtain ⟨P, hP⟩ : ∃ P, P = S who := ⟨_, rfl⟩
  rw [← hP] at hL ho hsane ⊢
  have hI : Ints w sv P.seqs := Row1.of_own (by rw [intV_len]; exact ho.1)
  obtain ⟨sa, sc, rfl, hlc, hcm⟩ := hI.slice
  unfold maxLen at hcm
  have hf := field_acc2
  have hmany : P.seqs.length ≤ 24 := by have := hsane.many; have := hsane.asks; omega
  have HS := hid hsane
  have HP := hid hP
  have HI := hid hI
  obtain ⟨i0, hi, hz0, hz1, hz2⟩ := info_parts info_AskZ
  clear ho hP hsane hI
  go_enter Try.func38, Try.ntmps38
  go_wp2
  clear hL
  go_loopw [5, 18] (fun l i wr => ∃ (k : Nat) (R : List (Od × Value)), k ≤ P.seqs.length ∧ i = .int .i64 (k : Int) ∧ OrdRow wr w.heap.size l who R ∧ R.length ≤ k ∧ Hid (R.map (·.1) = (P.seqs.take k).filterMap P.live) ∧ Below w.heap.size w wr) (fun _ i _ => P.seqs.length - (intOf i).toNat)
  case atStart => exact ⟨0, [], Nat.zero_le _, rfl, ⟨World.ownsRow_nil w _ _ 18, by simp, by simp⟩, Nat.le_refl _, rfl, Below.refl _ _⟩
  case round =>
    obtain ⟨k, R, hk, rfl, hR, hRk, HR, bw⟩ := hrel
    by_cases hlt : k < P.seqs.length
    · obtain ⟨b1, o1, d1, e1, l1, m1, f1⟩ := (HI.out.below bw).at k hlt
      simp only [Value.slice.injEq] at e1
      obtain ⟨rfl, _, rfl⟩ := e1
      have hbr := hb.below bw
      have hs := HS.out.fit P.seqs[k] (List.getElem_mem hlt)
      have HSU := hid (filterMap_succ P.live P.seqs k hlt)
      have c0 := hbr.cell0
      rcases hbr.order who P.seqs[k] hw hs with ⟨hno, hl⟩ | ⟨o, qv, hyes, hfit, hl⟩
      · replace hl := hl wr rfl
        unfold zeroAsk at hl
        rw [← HP.out] at hno
        have HFIN := hid (show R.map (·.1) = (P.seqs.take (k + 1)).filterMap P.live by rw [HSU.out, hno, HR.out]; simp)
        have HB := hid hbr
        obtain ⟨la, lc, rfl⟩ := hR.slice
        have HRO := hid hR
        generalize P.seqs[k] = s at *
        clear hno HSU hs hbr hR
        go_wp2_with (refine wpList_store_new rfl 28 _ _ rfl _ _ _ rfl (by simp) rfl 18 info_Ask (by rfl) (by rfl) (by simp [Value.oneCell']) ?_)
        go_roundw
        case rel =>
          have bn := (Below.refl wr.heap.size wr).alloc (Nat.le_refl _) (Obj.cells #[.int .i64 0, .int .i64 0, .int .i64 0, .string ⟨#[]⟩, .int .i64 0, .int .i64 0, .int .i64 0, .bool false, .int .i64 0, .int .i64 0, .string ⟨#[]⟩, .int .i64 0, .int .i64 0, .bool false, .int .i64 0, .slice none 0 0, .int .i64 0, .int .i64 0] 28)
          exact ⟨k + 1, R, by omega, by go_num, HRO.out.below bn, by omega, HFIN, chain2 bw bn⟩
        case measure => simp [intOf]; omega
      · replace hl := hl wr rfl
        rw [← HP.out] at hyes
        have hsm := HS.out.small _ _ hyes
        have HFIN := fun qv' : Value => hid (show (R ++ [(o, qv')]).map (fun x => x.1) = (P.seqs.take (k + 1)).filterMap P.live by rw [HSU.out, hyes, List.map_append, HR.out]; rfl)
        have hio : IntsO wr qv o := by cases o with | step => trivial | block => exact hfit.1
        obtain ⟨la, lc, rfl⟩ := hR.slice
        have HRO := hid hR
        generalize P.seqs[k] = s at *
        clear hyes HSU hs hbr hR hfit HR
        cases o with
        | step o1 o2 o3 o4 o5 o6 =>
          unfold odC at hl
          simp only at hl
          skip
          skip
          go_wp2_with (refine wpList_store_new rfl 28 _ _ rfl _ _ _ rfl (by simp) rfl 18 info_Ask (by rfl) (by rfl) (by simp [Value.oneCell']) ?_)
          have bn := (Below.refl wr.heap.size wr).alloc (Nat.le_refl _) (Obj.cells #[.int .i64 2, .int .i64 0, .int .i64 0, .string who, .int .i64 o1, .int .i64 o2, .int .i64 o3, .bool o4, .int .i64 o5, .int .i64 o6, .string ⟨#[]⟩, .int .i64 0, .int .i64 0, .bool false, .int .i64 0, .slice none 0 0, .int .i64 0, .int .i64 0] 28)
          have gn := heap_alloc_last wr (Obj.cells #[.int .i64 2, .int .i64 0, .int .i64 0, .string who, .int .i64 o1, .int .i64 o2, .int .i64 o3, .bool o4, .int .i64 o5, .int .i64 o6, .string ⟨#[]⟩, .int .i64 0, .int .i64 0, .bool false, .int .i64 0, .slice none 0 0, .int .i64 0, .int .i64 0] 28)
          clear hl
          generalize wr.alloc (Obj.cells #[.int .i64 2, .int .i64 0, .int .i64 0, .string who, .int .i64 o1, .int .i64 o2, .int .i64 o3, .bool o4, .int .i64 o5, .int .i64 o6, .string ⟨#[]⟩, .int .i64 0, .int .i64 0, .bool false, .int .i64 0, .slice none 0 0, .int .i64 0, .int .i64 0] 28) = w1 at *
          have a0 := blk_cell gn 0 (.int .i64 2) rfl
          have a1 := blk_cell gn 1 (.int .i64 0) rfl
          have a2 := blk_cell gn 2 (.int .i64 0) rfl
          have a3 := blk_cell gn 3 (.string who) rfl
          have a4 := blk_cell gn 4 (.int .i64 o1) rfl
          have a5 := blk_cell gn 5 (.int .i64 o2) rfl
          have a6 := blk_cell gn 6 (.int .i64 o3) rfl
          have a7 := blk_cell gn 7 (.bool o4) rfl
          have a8 := blk_cell gn 8 (.int .i64 o5) rfl
          have a9 := blk_cell gn 9 (.int .i64 o6) rfl
          have a10 := blk_cell gn 10 (.string ⟨#[]⟩) rfl
          have a11 := blk_cell gn 11 (.int .i64 0) rfl
          have a12 := blk_cell gn 12 (.int .i64 0) rfl
          have a13 := blk_cell gn 13 (.bool false) rfl
          have a14 := blk_cell gn 14 (.int .i64 0) rfl
          have a15 := blk_cell gn 15 (.slice none 0 0) rfl
          have a16 := blk_cell gn 16 (.int .i64 0) rfl
          have a17 := blk_cell gn 17 (.int .i64 0) rfl
          go_wp2_with fail
          refine (anewO_any who hw qv (.step o1 o2 o3 o4 o5 o6) w1 (trivial) hsm).mono ?_
          rintro e w2 ⟨qa', qn', qc', rfl, hnew, b2⟩
          have B2 := chain2 bn b2
          have hR2 := HRO.out.below B2
          have BW2 := chain2 bw B2
          have hOL : (odC who (.slice qa' qn' qc') (.step o1 o2 o3 o4 o5 o6)).toList.length = 18 := odC_len _ _ _
          have hcell := heap_alloc_last w2 (Obj.cells (odC who (.slice qa' qn' qc') (.step o1 o2 o3 o4 o5 o6)) 28)
          have hrA := hR2.below ((Below.refl w2.heap.size w2).alloc (Nat.le_refl _) (Obj.cells (odC who (.slice qa' qn' qc') (.step o1 o2 o3 o4 o5 o6)) 28))
          have HNEW := hid hnew
          clear hnew a0 a1 a2 a3 a4 a5 a6 a7 a8 a9 a10 a11 a12 a13 a14 a15 a16 a17 gn
          unfold odC at hcell hrA ⊢
          simp only at hcell hrA ⊢
          go_wp2_with (at_builtin; refine wpList_append_own_at _ rfl _ _ 86 rfl w.heap.size 28 i0 zeroAsk 18 176 Try.underlying86 hi hz0 hz1 hz2 rfl (by decide) (.slice la R.length lc) R.length (rowC who R) rfl hrA.own ⟨w2.heap.size, 0, none⟩ 1 1 (odC who (.slice qa' qn' qc') (.step o1 o2 o3 o4 o5 o6)).toList rfl (by rfl) (fun j u hu => by rw [add_off, Nat.zero_add, cell_of_row _ _ j _ _ _ hcell]; rw [Array.getElem?_toList] at hu; exact hu) (by unfold odC; simp [Value.oneCell']) (by unfold maxLen; omega) (by omega) (by have := BW2.size; simp; omega) ?_; intro v' w3 hown' hgrow hnil hloc)
          have bA := (Below.refl w2.heap.size w2).alloc (Nat.le_refl _) (Obj.cells #[.int .i64 2, .int .i64 0, .int .i64 0, .string who, .int .i64 o1, .int .i64 o2, .int .i64 o3, .bool o4, .int .i64 o5, .int .i64 o6, .string ⟨#[]⟩, .int .i64 0, .int .i64 0, .bool false, .int .i64 0, .slice none 0 0, .int .i64 0, .int .i64 0] 28)
          have hfin := ordRow_push HRO.out bn HNEW.out b2 bA hown' hgrow hloc ⟨_, _, _, rfl⟩ bw.size
          have bfin := (chain2 BW2 bA).grown hgrow (chain2 BW2 bA).size (fun j hj => (hrA.own.lt j hj).1)
          have HFI := hid hfin
          clear hfin hown' hgrow hnil hloc hcell hrA hR2 bA
          go_wp2
          go_roundw
          case rel => exact ⟨k + 1, _, by omega, by go_num, HFI.out, by simp; omega, HFIN _, bfin⟩
          case measure => simp [intOf]; omega
        | block o1 o2 o3 o4 Q o6 o7 =>
          unfold odC at hl
          simp only at hl
          obtain ⟨qa, qc, hq0, _⟩ := Ints.slice hio
          subst hq0
          go_wp2_with (refine wpList_store_new rfl 28 _ _ rfl _ _ _ rfl (by simp) rfl 18 info_Ask (by rfl) (by rfl) (by simp [Value.oneCell']) ?_)
          have bn := (Below.refl wr.heap.size wr).alloc (Nat.le_refl _) (Obj.cells #[.int .i64 3, .int .i64 0, .int .i64 0, .string ⟨#[]⟩, .int .i64 0, .int .i64 0, .int .i64 0, .bool false, .int .i64 0, .int .i64 0, .string who, .int .i64 o1, .int .i64 o2, .bool o3, .int .i64 o4, .slice qa Q.length qc, .int .i64 o6, .int .i64 o7] 28)
          have gn := heap_alloc_last wr (Obj.cells #[.int .i64 3, .int .i64 0, .int .i64 0, .string ⟨#[]⟩, .int .i64 0, .int .i64 0, .int .i64 0, .bool false, .int .i64 0, .int .i64 0, .string who, .int .i64 o1, .int .i64 o2, .bool o3, .int .i64 o4, .slice qa Q.length qc, .int .i64 o6, .int .i64 o7] 28)
          clear hl
          generalize wr.alloc (Obj.cells #[.int .i64 3, .int .i64 0, .int .i64 0, .string ⟨#[]⟩, .int .i64 0, .int .i64 0, .int .i64 0, .bool false, .int .i64 0, .int .i64 0, .string who, .int .i64 o1, .int .i64 o2, .bool o3, .int .i64 o4, .slice qa Q.length qc, .int .i64 o6, .int .i64 o7] 28) = w1 at *
          have a0 := blk_cell gn 0 (.int .i64 3) rfl
          have a1 := blk_cell gn 1 (.int .i64 0) rfl
          have a2 := blk_cell gn 2 (.int .i64 0) rfl
          have a3 := blk_cell gn 3 (.string ⟨#[]⟩) rfl
          have a4 := blk_cell gn 4 (.int .i64 0) rfl
          have a5 := blk_cell gn 5 (.int .i64 0) rfl
          have a6 := blk_cell gn 6 (.int .i64 0) rfl
          have a7 := blk_cell gn 7 (.bool false) rfl
          have a8 := blk_cell gn 8 (.int .i64 0) rfl
          have a9 := blk_cell gn 9 (.int .i64 0) rfl
          have a10 := blk_cell gn 10 (.string who) rfl
          have a11 := blk_cell gn 11 (.int .i64 o1) rfl
          have a12 := blk_cell gn 12 (.int .i64 o2) rfl
          have a13 := blk_cell gn 13 (.bool o3) rfl
          have a14 := blk_cell gn 14 (.int .i64 o4) rfl
          have a15 := blk_cell gn 15 (.slice qa Q.length qc) rfl
          have a16 := blk_cell gn 16 (.int .i64 o6) rfl
          have a17 := blk_cell gn 17 (.int .i64 o7) rfl
          go_wp2_with fail
          refine (anewO_any who hw (.slice qa Q.length qc) (.block o1 o2 o3 o4 Q o6 o7) w1 (Row1.below hio bn) hsm).mono ?_
          rintro e w2 ⟨qa', qn', qc', rfl, hnew, b2⟩
          have B2 := chain2 bn b2
          have hR2 := HRO.out.below B2
          have BW2 := chain2 bw B2
          have hOL : (odC who (.slice qa' qn' qc') (.block o1 o2 o3 o4 Q o6 o7)).toList.length = 18 := odC_len _ _ _
          have hcell := heap_alloc_last w2 (Obj.cells (odC who (.slice qa' qn' qc') (.block o1 o2 o3 o4 Q o6 o7)) 28)
          have hrA := hR2.below ((Below.refl w2.heap.size w2).alloc (Nat.le_refl _) (Obj.cells (odC who (.slice qa' qn' qc') (.block o1 o2 o3 o4 Q o6 o7)) 28))
          have HNEW := hid hnew
          clear hnew a0 a1 a2 a3 a4 a5 a6 a7 a8 a9 a10 a11 a12 a13 a14 a15 a16 a17 gn
          unfold odC at hcell hrA ⊢
          simp only at hcell hrA ⊢
          go_wp2_with (at_builtin; refine wpList_append_own_at _ rfl _ _ 86 rfl w.heap.size 28 i0 zeroAsk 18 176 Try.underlying86 hi hz0 hz1 hz2 rfl (by decide) (.slice la R.length lc) R.length (rowC who R) rfl hrA.own ⟨w2.heap.size, 0, none⟩ 1 1 (odC who (.slice qa' qn' qc') (.block o1 o2 o3 o4 Q o6 o7)).toList rfl (by rfl) (fun j u hu => by rw [add_off, Nat.zero_add, cell_of_row _ _ j _ _ _ hcell]; rw [Array.getElem?_toList] at hu; exact hu) (by unfold odC; simp [Value.oneCell']) (by unfold maxLen; omega) (by omega) (by have := BW2.size; simp; omega) ?_; intro v' w3 hown' hgrow hnil hloc)
          have bA := (Below.refl w2.heap.size w2).alloc (Nat.le_refl _) (Obj.cells #[.int .i64 3, .int .i64 0, .int .i64 0, .string ⟨#[]⟩, .int .i64 0, .int .i64 0, .int .i64 0, .bool false, .int .i64 0, .int .i64 0, .string who, .int .i64 o1, .int .i64 o2, .bool o3, .int .i64 o4, .slice qa' qn' qc', .int .i64 o6, .int .i64 o7] 28)
          have hfin := ordRow_push HRO.out bn HNEW.out b2 bA hown' hgrow hloc ⟨_, _, _, rfl⟩ bw.size
          have bfin := (chain2 BW2 bA).grown hgrow (chain2 BW2 bA).size (fun j hj => (hrA.own.lt j hj).1)
          have HFI := hid hfin
          clear hfin hown' hgrow hnil hloc hcell hrA hR2 bA
          go_wp2
          go_roundw
          case rel => exact ⟨k + 1, _, by omega, by go_num, HFI.out, by simp; omega, HFIN _, bfin⟩
          case measure => simp [intOf]; omega
    · obtain rfl : k = P.seqs.length := by omega
      have HE := HR.out
      rw [List.take_length] at HE
      have HE := hid HE
      clear HR
      go_wp2
      go_ret
      exact ⟨_, R, rfl, hR, HE.out, bw⟩
end Go.Proofs.Ytbkobimbdiogfaa
