/- DSmall, DSeg, DBegin. -/
import Derived.Test.YtjldlmonccgopaaGreatZDBase
import Derived.BigQuiet
import Derived.Deep.QuietTactic
/- The disk's small functions. -/
namespace Go.Proofs.YtjldlmonccgopaaGreat
open Go.RowKit
set_option linter.unusedVariables false
set_option maxRecDepth 100000
set_option linter.unusedSimpArgs false

theorem sector_any (w : World) (i : Int) :
    Calls Tryz.prog 41 #[.int .i64 i] w fun e w' => e = .returned (.bool (decide (0 ≤ i ∧ i < 256))) ∧ w' = w := by
  by_cases h1 : 0 ≤ i
  · by_cases h2 : i < 256
    · rw [decide_eq_true (And.intro h1 h2)]
      go_enter Tryz.func41, Tryz.ntmps41
      go_wp2
      go_ret
      exact ⟨rfl, rfl⟩
    · rw [decide_eq_false (fun h => h2 h.2)]
      go_enter Tryz.func41, Tryz.ntmps41
      go_wp2
      go_ret
      exact ⟨rfl, rfl⟩
  · rw [decide_eq_false (fun h => h1 h.1)]
    go_enter Tryz.func41, Tryz.ntmps41
    go_wp2
    go_ret
    exact ⟨rfl, rfl⟩
theorem due_any (w : World) (g : Bool) (n : Nat) :
    Calls Tryz.prog 61 #[.agg #[.bool g, .int .i64 (n : Int)]] w fun e w' => e = .returned (.bool (g && n == 0)) ∧ Below w.heap.size w w' := by
  cases g
  · go_enter Tryz.func61, Tryz.ntmps61
    go_wp2
    go_ret
    exact ⟨rfl, (Below.refl _ _).alloc (Nat.le_refl _) _⟩
  · by_cases h : n = 0
    · subst h
      go_enter Tryz.func61, Tryz.ntmps61
      go_wp2
      go_ret
      exact ⟨rfl, (Below.refl _ _).alloc (Nat.le_refl _) _⟩
    · have h' : (n == 0) = false := beq_eq_false_iff_ne.2 h
      have h2 : ((n : Int) == 0) = false := beq_eq_false_iff_ne.2 (by omega)
      rw [h']
      go_enter Tryz.func61, Tryz.ntmps61
      go_wp2
      go_ret
      exact ⟨rfl, (Below.refl _ _).alloc (Nat.le_refl _) _⟩
theorem less_any (w : World) (g : Bool) (n : Nat) (h0 : g = false → n = 0) (h1 : g = true → n ≠ 0) (hn : n < 9223372036854775808) :
    Calls Tryz.prog 62 #[.agg #[.bool g, .int .i64 (n : Int)]] w fun e w' => e = .returned (.agg #[.bool g, .int .i64 ((n - 1 : Nat) : Int)]) ∧ Below w.heap.size w w' := by
  cases g
  · obtain rfl := h0 rfl
    go_enter Tryz.func62, Tryz.ntmps62
    go_wp2
    refine bodyPost_ret (v := .agg #[.bool false, .int .i64 0]) (by simp [results, Tryz.results62, go_sem]) rfl ⟨rfl, ?_⟩
    exact ((Below.refl _ _).alloc (Nat.le_refl _) _).alloc (by simp) _
  · have h2 := h1 rfl
    obtain ⟨m, rfl⟩ : ∃ m, n = m + 1 := ⟨n - 1, by omega⟩
    clear h0 h1 h2
    go_enter Tryz.func62, Tryz.ntmps62
    go_wp2
    refine bodyPost_ret (v := .agg #[.bool true, .int .i64 (m : Int)]) (by simp [results, Tryz.results62, go_sem]) rfl ⟨rfl, ?_⟩
    exact ((Below.refl _ _).alloc (Nat.le_refl _) _).alloc (by simp) _
theorem orderOf_any (w : World) (n : Int) (hn : -9223372036854775808 ≤ n ∧ n < 9223372036854775808) :
    Calls Tryz.prog 39 #[.int .i64 n] w fun e w' => e = .returned (.agg #[.bool true, .int .i64 (n.toNat : Int)]) ∧ Below w.heap.size w w' := by
  rcases (show n < 0 ∨ 0 < n ∨ n = 0 by omega) with h | h | h
  all_goals
    go_enter Tryz.func39, Tryz.ntmps39
    go_wp2
    refine bodyPost_ret (v := .agg #[.bool true, .int .i64 (n.toNat : Int)]) ?_ rfl ⟨rfl, (Below.refl _ _).alloc (Nat.le_refl _) _⟩
    first | (rw [show (n.toNat : Int) = 0 by omega]; simp [results, Tryz.results39, go_sem]; done) | (rw [show (n.toNat : Int) = n by omega]; simp [results, Tryz.results39, go_sem])
theorem ints_len (L : List Nat) : (ints L).length = L.length := by simp [ints]
theorem ints_at {w : World} {base g n cap : Nat} {L : List Nat} (hown : w.ownsRow base 3 1 (.slice (some ⟨g, 0, none⟩) n cap) n (ints L)) (k : Nat) (hk : k < L.length) :
    w.cell? ⟨g, k, none⟩ = some (.int .i64 (L.getD k 0 : Int)) := by
  have hn : (ints L).length = n * 1 := hown.1
  have h := hown.cellAt k (by rw [← hn]; simpa [ints] using hk)
  rw [h]; simp [ints, hk]
theorem own_form {w : World} {base : Nat} {e : TypeId} {v : Value} {n : Nat} {xs : List Value} (h : w.ownsRow base e 1 v n xs) : (v = .slice none 0 0 ∧ n = 0) ∨ ∃ g cap, v = .slice (some ⟨g, 0, none⟩) n cap ∧ n ≤ cap ∧ cap ≤ maxLen ∧ g < w.heap.size := by
  rcases h.2 with ⟨h1, h2⟩ | ⟨g, cap, cur, hv, _, hh, r1, r2, _⟩
  · exact Or.inl ⟨h1, h2⟩
  · exact Or.inr ⟨g, cap, hv, r1, r2, (Array.getElem?_eq_some_iff.1 hh).1⟩
theorem mem_getD {L : List Nat} {i : Nat} : i ∈ L ↔ ∃ k, k < L.length ∧ L.getD k 0 = i := by
  rw [List.mem_iff_getElem]
  constructor
  · rintro ⟨k, hk, h⟩
    exact ⟨k, hk, by simp [hk, h]⟩
  · rintro ⟨k, hk, h⟩
    exact ⟨k, hk, by simpa [hk] using h⟩
theorem index_any (w : World) (base : Nat) (v : Value) (L : List Nat) (i : Nat) (h : w.ownsRow base 3 1 v L.length (ints L)) :
    Calls Tryz.prog 63 #[v, .int .i64 (i : Int)] w fun e w' => (∃ r : Int, e = .returned (.int .i64 r) ∧ (0 ≤ r ↔ i ∈ L)) ∧ w' = w := by
  rcases own_form h with ⟨rfl, h0⟩ | ⟨g, cap, rfl, hl, hc, _⟩
  · obtain rfl := List.eq_nil_of_length_eq_zero h0
    go_enter Tryz.func63, Tryz.ntmps63
    go_wp2
    refine wp_loop_rounds 1 ?_
    rw [rounds_succ]
    go_wp2
    go_ret
    exact ⟨⟨_, rfl, by simp⟩, rfl⟩
  · have hcell := ints_at h
    unfold maxLen at hc
    go_enter Tryz.func63, Tryz.ntmps63
    go_wp2
    go_loop [8] (fun j => ∃ k : Nat, k ≤ L.length ∧ j = .int .i64 k ∧ (∀ m, m < k → L.getD m 0 ≠ i)) (fun j => L.length - (intOf j).toNat)
    case atStart => exact ⟨0, Nat.zero_le _, rfl, by intro m hm; omega⟩
    case round =>
      obtain ⟨k, hk, rfl, hno⟩ := hrel
      have HN := hid hno
      clear hno
      by_cases hlt : k < L.length
      · have hx := hcell k hlt
        by_cases he : L.getD k 0 = i
        · have hm : i ∈ L := mem_getD.2 ⟨k, hlt, he⟩
          rw [he] at hx
          have HM := hid hm
          clear hcell hm he
          go_wp2
          go_ret
          exact ⟨⟨_, rfl, by simp [HM.out]⟩, rfl⟩
        · have hb : ((i : Int) == (L.getD k 0 : Int)) = false := beq_eq_false_iff_ne.2 (by omega)
          have HE := hid he
          clear he
          generalize hq : L.getD k 0 = x at hx hb
          clear hcell hq
          go_wp2
          go_round
          case rel => exact ⟨k + 1, by omega, by go_num, fun m hm => by
            by_cases e : m = k
            · rw [e]; exact HE.out
            · exact HN.out m (by omega)⟩
          case measure => simp [intOf]; omega
      · have hm : ¬ i ∈ L := fun h => by
          obtain ⟨m, hm, e⟩ := mem_getD.1 h
          exact HN.out m (by omega) e
        have HM := hid hm
        clear hcell hm
        go_wp2
        go_ret
        exact ⟨⟨_, rfl, by simp [HM.out]⟩, rfl⟩
theorem contains_any (w : World) (base : Nat) (v : Value) (L : List Nat) (i : Nat) (h : w.ownsRow base 3 1 v L.length (ints L)) :
    Calls Tryz.prog 43 #[v, .int .i64 (i : Int)] w fun e w' => e = .returned (.bool (decide (i ∈ L))) ∧ w' = w := by
  go_enter Tryz.func43, Tryz.ntmps43
  go_wp2_with (go_at_call 63; refine (index_any w base v L i h).mono ?_; rintro e w' ⟨⟨r, rfl, hr⟩, rfl⟩)
  go_ret
  have e : decide (i ∈ L) = decide (0 ≤ r) := decide_eq_decide.2 hr.symm
  rw [e]
  exact ⟨rfl, rfl⟩
end Go.Proofs.YtjldlmonccgopaaGreat
/- An array within a greater block, loaded and stored as a whole. -/
namespace Go.Proofs.YtjldlmonccgopaaGreat
open Go.RowKit
set_option linter.unusedVariables false
set_option maxRecDepth 100000
set_option linter.unusedSimpArgs false
section
variable {P : Program}
theorem add_off (g o j : Nat) : (⟨g, o, none⟩ : Addr).add j = ⟨g, o + j, none⟩ := by unfold Addr.add; split <;> simp_all
theorem run_storeSeg (g off : Nat) (t : TypeId) : ∀ (vs : List Value) (i : Nat) (L : List Value) (w : World), w.heap[g]? = some (.cells L.toArray t (0, 0)) → off + i + vs.length ≤ L.length → (∀ v ∈ vs, v.oneCell' = true) →
    ∃ w', (storeCells ⟨g, off, none⟩ vs i).run P w = .ok () w' ∧ w'.heap[g]? = some (.cells (L.take (off + i) ++ (vs ++ L.drop (off + i + vs.length))).toArray t (0, 0)) ∧ (∀ (S : Nat → Prop) B b, b = g → S b → B ≤ b → Kf S B w w') ∧ (∀ e size v n xs base, v.ownBlock ≠ some g → w.ownsRow base e size v n xs → w'.ownsRow base e size v n xs)
  | [], i, L, w, hg, hl, _ => by
    refine ⟨w, by simp [storeCells], ?_, fun S B b e hS hB => Kf.refl S B w, fun _ _ _ _ _ _ _ h => h⟩
    rw [hg]; simp
  | v :: rest, i, L, w, hg, hl, h1 => by
    have hi : off + i < L.length := by simp at hl; omega
    have hcell : w.cell? ⟨g, off + i, none⟩ = some L[off + i] := cell_at hg _ _ (by simp [hi])
    have hfro : w.frozen? ⟨g, off + i, none⟩ = false := free_at hg _
    have hst : (store ((⟨g, off, none⟩ : Addr).add i) v).run P w = .ok () (w.setCell ⟨g, off + i, none⟩ v) := by
      rw [add_off, run_store P w _ v _ (h1 v (by simp)), hcell]
      simp [hfro]
    obtain ⟨w', e1, e2, e3, e4⟩ := run_storeSeg g off t rest (i + 1) (L.set (off + i) v) (w.setCell ⟨g, off + i, none⟩ v) (set_at hg) (by simp at hl ⊢; omega) (fun x hx => h1 x (by simp [hx]))
    refine ⟨w', by simp only [storeCells, Sem.run_bind, hst, Result.andThen_ok, e1], ?_, fun S B b e hS hB => ?_, fun e size v' n xs base hv ho => e4 e size v' n xs base hv (ownsRow_setCell_other ho hv v)⟩
    · rw [e2]
      congr 3
      apply List.ext_getElem?
      intro k
      simp only [List.getElem?_append, List.length_take, List.length_set, List.length_cons, List.getElem?_take, List.getElem?_drop, List.getElem?_set]
      by_cases hk : k < off + i
      · simp [hk, show k < off + (i + 1) by omega, show min (off + (i + 1)) L.length = off + (i + 1) by omega, show min (off + i) L.length = off + i by omega, show off + i ≠ k by omega]
      · by_cases hk2 : k = off + i
        · subst hk2
          simp [show min (off + (i + 1)) L.length = off + (i + 1) by omega, show min (off + i) L.length = off + i by omega, show off + i < off + (i + 1) by omega, hi]
        · have a1 : min (off + (i + 1)) L.length = off + (i + 1) := by omega
          have a2 : min (off + i) L.length = off + i := by omega
          have a3 : k - (off + i) = (k - (off + (i + 1))) + 1 := by omega
          simp only [a1, a2, if_neg hk, if_neg (show ¬ k < off + (i + 1) by omega), a3, List.getElem?_cons_succ, Nat.add_lt_add_iff_right]
          split
          · rfl
          · rw [if_neg (by omega)]
            congr 1
            omega
    · subst e
      exact ((Kf.refl S B w).set hS hB v).trans (e3 S B b rfl hS hB)
theorem wp_store_seg {o : Oper} {a : Act} {w : World} {K : Act → World → Prop} {Q : Exit → Act → World → Prop} (ty : TypeId) (x y : Operand) (ho : o.op = .store ty x y)
    (g off : Nat) (vs : List Value) (hx : a.eval x = .pointer (some ⟨g, off, none⟩)) (hy : a.eval y = .agg vs.toArray)
    (t : TypeId) (L : List Value) (hg : w.heap[g]? = some (.cells L.toArray t (0, 0))) (hi : (P.info? ty).map (·.size) = some vs.length)
    (hl : off + vs.length ≤ L.length) (h1 : ∀ v ∈ vs, v.oneCell' = true)
    (h : ∀ w', w'.heap[g]? = some (.cells (L.take off ++ (vs ++ L.drop (off + vs.length))).toArray t (0, 0)) → (∀ (S : Nat → Prop) B b, b = g → S b → B ≤ b → Kf S B w w') → (∀ e size v n xs base, v.ownBlock ≠ some g → w.ownsRow base e size v n xs → w'.ownsRow base e size v n xs) → K (a.put o.dst undef) w') : o.wp P a w K Q := by
  obtain ⟨w', e1, e2, e3, e4⟩ := run_storeSeg (P := P) g off t vs 0 L w hg (by simpa using hl) h1
  have hrun : (storeVar ty ⟨g, off, none⟩ (.agg vs.toArray)).run P w = .ok () w' := by
    cases hq : P.info? ty with
    | none => simp [hq] at hi
    | some i =>
      have hs : vs.length = i.size := by simp [hq] at hi; omega
      simp [storeVar, sizeOf, typeInfo, hq, Value.cells, hs, e1]
  unfold Oper.wp execOp
  simp only [ho, hx, hy, Instr.storeAt, Instr.sureAddr, Sem.run_bind, Sem.run_pure, Result.andThen_ok, hrun]
  exact h w' (by simpa using e2) e3 e4
theorem wp_load_seg {o : Oper} {a : Act} {w : World} {K : Act → World → Prop} {Q : Exit → Act → World → Prop} (ty : TypeId) (x : Operand) (ho : o.op = .load ty x)
    (g off : Nat) (cs : List Value) (hx : a.eval x = .pointer (some ⟨g, off, none⟩)) (hc : ∀ j v, cs[j]? = some v → w.cell? ⟨g, off + j, none⟩ = some v)
    (n : Nat) (e : TypeId) (hu : P.underlying ty = some (.array n e)) (hi : (P.info? ty).map (·.size) = some cs.length)
    (h : K (a.put o.dst (.agg cs.toArray)) w) : o.wp P a w K Q := by
  have hl : (loadCells ⟨g, off, none⟩ cs.length).run P w = .ok cs.toArray w := run_loadCells_list (P := P) w ⟨g, off, none⟩ cs (fun j v hv => by rw [add_off]; exact hc j v hv)
  have hrun : (loadVar ty ⟨g, off, none⟩).run P w = .ok (.agg cs.toArray) w := by
    cases hq : P.info? ty with
    | none => simp [hq] at hi
    | some i =>
      have hs : cs.length = i.size := by simp [hq] at hi; omega
      rw [hs] at hl
      simp [loadVar, isAgg, sizeOf, typeInfo, hq, hl, hu, underlying]
  unfold Oper.wp execOp
  simp only [ho, hx, Instr.loadAt, Instr.sureAddr, Sem.run_bind, Sem.run_pure, Result.andThen_ok, hrun]
  exact h
end
end Go.Proofs.YtjldlmonccgopaaGreat
/- The disk: forgetOrders, lose, begin. -/
namespace Go.Proofs.YtjldlmonccgopaaGreat
open Go.RowKit
set_option linter.unusedVariables false
set_option maxRecDepth 100000
set_option linter.unusedSimpArgs false

theorem forget_any (w : World) (S : Nat → Prop) (B b : Nat) (D : Dsk) (sl : Value) (hS : S b) (hB : B ≤ b) (h : DiskAt w b D sl) :
    Calls Tryz.prog 45 #[.pointer (some ⟨b, 0, none⟩)] w fun e w' => e = .returned (.tuple #[]) ∧ DiskAt w' b D.forget sl ∧ Kf S B w w' := by
  have c1 := cell_at h.blk 516 _ (dl_tail h.good.wl h.good.ll sl 4)
  have c2 := cell_at h.blk 517 _ (dl_tail h.good.wl h.good.ll sl 5)
  have c3 := cell_at h.blk 518 _ (dl_tail h.good.wl h.good.ll sl 6)
  have c4 := cell_at h.blk 519 _ (dl_tail h.good.wl h.good.ll sl 7)
  have c5 := cell_at h.blk 520 _ (dl_tail h.good.wl h.good.ll sl 8)
  have f1 := free_at h.blk
  go_enter Tryz.func45, Tryz.ntmps45
  go_wp2
  refine bodyPost_end (results_none rfl _ _ _) rfl ?_
  exact ⟨rfl, (((((h.da.set 4 (.bool false)).set 5 (.int .i64 0)).set 6 (.bool false)).set 7 (.int .i64 0)).set 8 (.int .u64 0)).disk (D := D.forget) h.good.forget, (((((Kf.refl S B w).set hS hB _).set hS hB _).set hS hB _).set hS hB _).set hS hB _⟩
theorem sectors_info : (Tryz.prog.info? 52).map (·.size) = some 256 := by kernel_rfl
theorem strs_one (L : List ByteArray) : ∀ v ∈ strs L, v.oneCell' = true := by
  intro v hv
  simp only [strs, List.mem_map] at hv
  obtain ⟨s, _, rfl⟩ := hv
  rfl
theorem DiskAt.segs {w : World} {b : Nat} {D : Dsk} {sl : Value} (h : DiskAt w b D sl) : (∀ j v, (strs D.la)[j]? = some v → w.cell? ⟨b, 256 + j, none⟩ = some v) ∧ (∀ j v, (strs D.wr)[j]? = some v → w.cell? ⟨b, 0 + j, none⟩ = some v) := by
  have hw := h.good.wl
  have hl := h.good.ll
  constructor
  · intro j v hv
    have hj : j < 256 := by have := (List.getElem?_eq_some_iff.1 hv).1; simp [strs] at this; omega
    refine cell_at h.blk _ _ ?_
    rw [dl_la hw hl sl j hj]
    have : j < D.la.length := by omega
    simpa [strs, this] using hv
  · intro j v hv
    have hj : j < 256 := by have := (List.getElem?_eq_some_iff.1 hv).1; simp [strs] at this; omega
    refine cell_at h.blk _ _ ?_
    rw [Nat.zero_add, dl_wr hw sl j hj]
    have : j < D.wr.length := by omega
    simpa [strs, this] using hv
theorem seg_wr {D : Dsk} (h : D.wr.length = 256) (L : List ByteArray) (hL : L.length = 256) (sl : Value) : (dlist D sl).take 0 ++ (strs L ++ (dlist D sl).drop (0 + (strs L).length)) = dlist { D with wr := L } sl := by
  have e : (strs L).length = (strs D.wr).length := by simp [strs, h, hL]
  simp only [List.take_zero, List.nil_append, Nat.zero_add, e, dlist, List.drop_left]
theorem seg_la {D : Dsk} (h : D.wr.length = 256) (h' : D.la.length = 256) (L : List ByteArray) (hL : L.length = 256) (sl : Value) : (dlist D sl).take 256 ++ (strs L ++ (dlist D sl).drop (256 + (strs L).length)) = dlist { D with la := L } sl := by
  have e1 : 256 = (strs D.wr).length := by simp [strs, h]
  have e2 : (strs L).length = (strs D.la).length := by simp [strs, h', hL]
  rw [e2]
  simp only [dlist]
  rw [show (256 : Nat) + (strs D.la).length = (strs D.wr).length + (strs D.la).length by rw [← e1], ← List.drop_drop, List.drop_left, List.drop_left]
  congr 1
  conv => lhs; rw [e1]
  exact List.take_left
/-- The whole of the sectors stored as what is written. -/
theorem DiskAt.put_wr {w w' : World} {b : Nat} {D : Dsk} {sl : Value} (h : DiskAt w b D sl) (L : List ByteArray) (hL : L.length = 256) (e2 : w'.heap[b]? = some (.cells ((dlist D sl).take 0 ++ (strs L ++ (dlist D sl).drop (0 + (strs L).length))).toArray 57 (0, 0))) (e4 : ∀ e size v n xs base, v.ownBlock ≠ some b → w.ownsRow base e size v n xs → w'.ownsRow base e size v n xs) : DiskAt w' b { D with wr := L } sl :=
  ⟨by rw [← seg_wr h.good.wl L hL sl]; exact e2, e4 _ _ _ _ _ _ h.ne h.own, { h.good with wl := hL }⟩
theorem DiskAt.put_la {w w' : World} {b : Nat} {D : Dsk} {sl : Value} (h : DiskAt w b D sl) (L : List ByteArray) (hL : L.length = 256) (e2 : w'.heap[b]? = some (.cells ((dlist D sl).take 256 ++ (strs L ++ (dlist D sl).drop (256 + (strs L).length))).toArray 57 (0, 0))) (e4 : ∀ e size v n xs base, v.ownBlock ≠ some b → w.ownsRow base e size v n xs → w'.ownsRow base e size v n xs) : DiskAt w' b { D with la := L } sl :=
  ⟨by rw [← seg_la h.good.wl h.good.ll L hL sl]; exact e2, e4 _ _ _ _ _ _ h.ne h.own, { h.good with ll := hL }⟩
theorem dlist_len {D : Dsk} (h : D.Good) (sl : Value) : (dlist D sl).length = 521 := by simp [dlist, strs, h.wl, h.ll]
theorem DiskAt.drew {w : World} {b : Nat} {D : Dsk} {sl : Value} (h : DiskAt w b D sl) : DiskAt w.drew b D sl := ⟨h.blk, h.own.drew, h.good⟩
theorem kbit_test (keep k : Nat) (hk : keep < 18446744073709551616) : (bits BinOp.and IntKind.u64 ((keep : Int) / 2 ^ (k % 64)) 1 == 1) = kbit keep k := by
  have e : (keep : Int) / 2 ^ (k % 64) = ((keep / 2 ^ (k % 64) : Nat) : Int) := by simp
  have hle : keep / 2 ^ (k % 64) ≤ keep := Nat.div_le_self _ _
  rw [e, and_one_u64 _ (Int.natCast_nonneg _) (by omega), kbit, Nat.shiftRight_eq_div_pow]
  generalize keep / 2 ^ (k % 64) = q
  rw [Bool.eq_iff_iff]
  simp only [beq_iff_eq]
  omega
set_option maxHeartbeats 2000000 in
theorem lose_any (w : World) (S : Nat → Prop) (B b : Nat) (D : Dsk) (sl : Value) (keep : Nat) (hk : keep < 18446744073709551616) (hS : S b) (hB : B ≤ b) (h : DiskAt w b D sl) :
    Calls Tryz.prog 40 #[.pointer (some ⟨b, 0, none⟩), .int .u64 (keep : Int)] w fun e w' => e = .returned (.tuple #[]) ∧ DiskAt w' b (D.lose keep) (.slice none 0 0) ∧ Kf S B w w' := by
  have c1 := cell_at h.blk 512 _ (dl_tail h.good.wl h.good.ll sl 0)
  rcases own_form h.own with ⟨rfl, h0⟩ | ⟨g, cap, rfl, hl, hc, _⟩
  · have h0' := List.eq_nil_of_length_eq_zero h0
    obtain ⟨w2, e1, e2, e3, e4⟩ := run_storeSeg (P := Tryz.prog) b 0 57 (strs D.la) 0 (dlist D _) w h.blk (by simp [strs, h.good.ll, dlist_len h.good]) (strs_one _)
    have hz : (strs D.la).length = 256 := by simp [strs, h.good.ll]
    have h2 := h.put_wr D.la h.good.ll e2 e4
    have k2 := e3 S B b rfl hS hB
    clear e2 e3 e4
    go_enter Tryz.func40, Tryz.ntmps40
    go_wp2
    refine wp_loop_rounds 1 ?_
    rw [rounds_succ]
    go_wp2
    refine wp_load_seg _ _ rfl b 256 (strs D.la) rfl h.segs.1 256 9 Tryz.underlying52 (by rw [sectors_info]; simp [strs, h.good.ll]) ?_
    clear h c1
    have c3 := cell_at h2.blk 512 _ (dl_tail h2.good.wl h2.good.ll _ 0)
    have c4 := cell_at h2.blk 514 _ (dl_tail h2.good.wl h2.good.ll _ 2)
    have f1 := free_at h2.blk
    go_wp2_with fail
    refine (forget_any _ S B b _ (.slice none 0 0) hS hB (((h2.da.set 0 (.slice none 0 0)).set 2 (.bool true)).disk (D := { D with wr := D.la, dead := true }) { h2.good with })).mono ?_
    rintro e w3 ⟨rfl, h3, k3⟩
    have k4 := ((k2.set (k := 512) hS hB (.slice none 0 0)).set (k := 514) hS hB (.bool true)).trans k3
    have h4 : DiskAt w3 b (D.lose keep) (.slice none 0 0) := by
      rw [show D.lose keep = Dsk.forget { D with wr := D.la, dead := true } by simp [Dsk.lose, h0', loseL]]
      exact h3
    go_wp2
    exact bodyPost_end (results_none rfl _ _ _) rfl ⟨rfl, h4, k4⟩
  · have hcell := ints_at h.own
    have hca := h.good.small
    go_enter Tryz.func40, Tryz.ntmps40
    go_wp2
    go_loopw [11] (fun i W => ∃ k : Nat, k ≤ D.ca.length ∧ i = .int .i64 k ∧ DiskAt W b { D with la := loseL keep D.wr (D.ca.take k) 0 D.la } (.slice (some ⟨g, 0, none⟩) D.ca.length cap) ∧ Kf S B w W) (fun i _ => D.ca.length - (intOf i).toNat)
    case atStart => exact ⟨0, Nat.zero_le _, rfl, h, Kf.refl _ _ _⟩
    case round =>
      obtain ⟨k, hk, rfl, hd, kp⟩ := hrel
      clear h c1 hcell
      by_cases hlt : k < D.ca.length
      · have hx := ints_at hd.own k hlt
        have hmem : D.ca.getD k 0 < 256 := hd.good.lt _ (mem_getD.2 ⟨k, hlt, rfl⟩)
        have hwr := cell_at hd.blk _ _ (dl_wr hd.good.wl _ (D.ca.getD k 0) hmem)
        have hla := cell_at hd.blk _ _ (dl_la hd.good.wl hd.good.ll _ (D.ca.getD k 0) hmem)
        have hfr := free_at hd.blk
        have hsn : loseL keep D.wr (D.ca.take (k + 1)) 0 D.la = if kbit keep k then (loseL keep D.wr (D.ca.take k) 0 D.la).set (D.ca.getD k 0) (D.wr.getD (D.ca.getD k 0) ByteArray.empty) else loseL keep D.wr (D.ca.take k) 0 D.la := by
          rw [List.take_succ_eq_append_getElem hlt, loseL_snoc, show 0 + (D.ca.take k).length = k by simp; omega]
          simp [hlt]
        have HS := hid hsn
        clear hsn
        generalize D.ca.getD k 0 = x at *
        have ht := kbit_test keep k (by assumption)
        cases hb : kbit keep k
        · rw [hb] at ht
          go_wp2
          go_roundw
          case rel => exact ⟨k + 1, by omega, by go_num, by rw [HS.out, hb]; exact hd, kp⟩
          case measure => simp [intOf]; omega
        · rw [hb] at ht
          go_wp2
          go_region
          have hd' := (hd.set (k := 256 + x) (dset_la hd.good.wl hd.good.ll _ x hmem (D.wr.getD x ByteArray.empty)) rfl { hd.good with ll := by simp [hd.good.ll] }).drew
          have kp' := (kp.set (k := 256 + x) hS hB (.string (D.wr.getD x ByteArray.empty))).drew
          rw [List.getD_eq_getElem?_getD] at hd' kp'
          generalize (wr.setCell { block := b, off := 256 + x } (Value.string (D.wr[x]?.getD ByteArray.empty))).drew = wq at *
          have HB := hid hb
          clear hb hx hwr hla hfr hd kp
          go_wp2
          go_roundw
          case rel => exact ⟨k + 1, by omega, by go_num, by rw [HS.out, HB.out]; simpa using hd', kp'⟩
          case measure => simp [intOf]; omega
      · have hk' : k = D.ca.length := by omega
        subst hk'
        rw [List.take_length] at hd
        obtain ⟨w2, e1, e2, e3, e4⟩ := run_storeSeg (P := Tryz.prog) b 0 57 (strs (loseL keep D.wr D.ca 0 D.la)) 0 _ wr hd.blk (by have := dlist_len hd.good (.slice (some ⟨g, 0, none⟩) D.ca.length cap); rw [this]; simp [strs, hd.good.ll]) (strs_one _)
        have hz : (strs (loseL keep D.wr D.ca 0 D.la)).length = 256 := by simp [strs, hd.good.ll]
        have h2 := hd.put_wr (loseL keep D.wr D.ca 0 D.la) hd.good.ll e2 e4
        have k2 := kp.trans (e3 S B b rfl hS hB)
        clear e2 e3 e4
        go_wp2
        refine wp_load_seg _ _ rfl b 256 (strs (loseL keep D.wr D.ca 0 D.la)) rfl hd.segs.1 256 9 Tryz.underlying52 (by rw [sectors_info]; simp [strs, hd.good.ll]) ?_
        clear hd kp
        have c3 := cell_at h2.blk 512 _ (dl_tail h2.good.wl h2.good.ll _ 0)
        have c4 := cell_at h2.blk 514 _ (dl_tail h2.good.wl h2.good.ll _ 2)
        have f1 := free_at h2.blk
        go_wp2_with fail
        have h5 : DiskAt ((w2.setCell ⟨b, 512, none⟩ (.slice none 0 0)).setCell ⟨b, 514, none⟩ (.bool true)) b { D with la := loseL keep D.wr D.ca 0 D.la, wr := loseL keep D.wr D.ca 0 D.la, ca := [], dead := true } (.slice none 0 0) :=
          ⟨((h2.da.set 0 (.slice none 0 0)).set 2 (.bool true)).blk, World.ownsRow_nil _ _ _ _, { h2.good with nd := by simp, lt := by simp }⟩
        have k5 := (k2.set (k := 512) hS hB (.slice none 0 0)).set (k := 514) hS hB (.bool true)
        refine (forget_any _ S B b _ _ hS hB h5).mono ?_
        rintro e w3 ⟨rfl, h3, k3⟩
        have k4 := k5.trans k3
        go_wp2
        exact bodyPost_end (results_none rfl _ _ _) rfl ⟨rfl, h3, k4⟩
end Go.Proofs.YtjldlmonccgopaaGreat
