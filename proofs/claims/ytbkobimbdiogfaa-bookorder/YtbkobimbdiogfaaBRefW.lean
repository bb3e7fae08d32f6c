/- BookOrder: the document's book in the memory, and what is asked of it: Asks, seq, Locked, orders. -/
import Derived.Test.YtbkobimbdiogfaaBRefM
import Derived.BigQuiet
import Derived.Deep.QuietTactic
namespace Go.Proofs.Ytbkobimbdiogfaa
open Go.RowKit Go.MapKept
set_option linter.unusedVariables false
set_option maxRecDepth 100000
set_option linter.unusedSimpArgs false

/-- The cells of an Add that was taken. -/
def onC (who : ByteArray) (e : Kb × Bool) : List Value := .string who :: ((kbC e.1).toList ++ [.bool e.2])
/-- The document's book lies at bb, with who's Adds alone. -/
structure RB (w : World) (bb : Nat) (who : ByteArray) (a : Option Addr) (cap : Nat) (R : Rf) : Prop where
  blk : w.heap[bb]? = some (.cells #[.slice a R.length cap] 45 (0, 0))
  len : R.length ≤ 24
  cap_ : R.length ≤ cap ∧ cap ≤ 9223372036854775807
  at_ : ∀ i (hi : i < R.length), ∃ g, a = some ⟨g, 0, none⟩ ∧ ∀ j u, (onC who R[i])[j]? = some u → w.cell? ⟨g, i * 20 + j, none⟩ = some u
  fits : ∀ e ∈ R, KbFits w e.1
theorem RB.below {w w' : World} {bb : Nat} {who : ByteArray} {a : Option Addr} {cap : Nat} {R : Rf} (h : RB w bb who a cap R) (b : Below w.heap.size w w') : RB w' bb who a cap R := by
  refine ⟨(Kx.of_below (S := fun _ => False) b).blk h.blk (fun h => h), h.len, h.cap_, fun i hi => ?_, fun e he => (h.fits e he).below b⟩
  obtain ⟨g, e, hc⟩ := h.at_ i hi
  exact ⟨g, e, fun j u hu => (Kx.of_below (S := fun _ => False) b).cell (hc j u hu) (fun h => h)⟩
set_option maxHeartbeats 1600000 in
theorem bkAsks_any {w : World} {bb : Nat} {who : ByteArray} {a : Option Addr} {cap : Nat} {R : Rf} (h : RB w bb who a cap R) :
    Calls Try.prog 56 #[.pointer (some ⟨bb, 0, none⟩), .string who] w fun e w' => e = .returned (.int .i64 (R.length : Int)) ∧ w' = w := by
  have c0 := blk_cell h.blk 0 (.slice a R.length cap) rfl
  have hl := h.len
  have hc := h.cap_
  go_enter Try.func56, Try.ntmps56
  go_wp2
  go_loopw [5, 6] (fun n i wr => ∃ k : Nat, k ≤ R.length ∧ i = .int .i64 (k : Int) ∧ n = .int .i64 (k : Int) ∧ wr = w) (fun _ i _ => R.length - (intOf i).toNat)
  case atStart => exact ⟨0, Nat.zero_le _, rfl, rfl, rfl⟩
  case round =>
    obtain ⟨k, hk, rfl, rfl, rfl⟩ := hrel
    by_cases hlt : k < R.length
    · obtain ⟨g, rfl, hcell⟩ := h.at_ k hlt
      have d0 := hcell 0 (.string who) rfl
      rw [Nat.add_zero] at d0
      clear hcell
      go_wp2
      go_roundw
      case rel => exact ⟨k + 1, by omega, by go_num, by go_num, by simp⟩
      case measure => simp [intOf]; omega
    · have hkl : k = R.length := by omega
      go_wp2
      go_ret
      exact ⟨by rw [hkl]; rfl, rfl⟩
set_option maxHeartbeats 1600000 in
theorem bkseq_any (z : Kb) (w : World) (hz : ∃ a n c, z.qv = .slice a n c) :
    Calls Try.prog 60 #[.agg (kbC z)] w fun e w' => e = .returned (.int .i64 (seqK z)) ∧ Below w.heap.size w w' := by
  obtain ⟨qa, qn, qc, hq⟩ := hz
  unfold kbC seqK
  rw [hq]
  have b1 := (Below.refl w.heap.size w).alloc (Nat.le_refl _) (Obj.cells #[.int .i64 z.kind, .int .i64 z.cents, .int .i64 z.seq, .string z.swho, .int .i64 z.sseq, .int .i64 z.szone, .int .i64 z.shour, .bool z.sbuy, .int .i64 z.sqty, .int .i64 z.sprice, .string z.bwho, .int .i64 z.bseq, .int .i64 z.bzone, .bool z.bbuy, .int .i64 z.bprice, .slice qa qn qc, .int .i64 z.parent, .int .i64 z.group] 31)
  go_enter Try.func60, Try.ntmps60
  by_cases hk : z.kind = 2
  · rw [if_pos hk]
    have hk1 : (z.kind == 2) = true := by simpa using hk
    go_wp2
    go_ret
    exact ⟨rfl, by first | exact b1 | (rw [hk] at b1; exact b1)⟩
  · rw [if_neg hk]
    have hk1 : (z.kind == 2) = false := by simpa using hk
    go_wp2
    go_ret
    exact ⟨rfl, by first | exact b1 | (rw [hk] at b1; exact b1)⟩
theorem lockR_succ (R : Rf) (k : Nat) (h : k < R.length) : lockR (R.take (k + 1)) = lockR (R.take k) + if (R[k]).1.kind = 1 then (R[k]).1.cents else 0 := by
  unfold lockR
  rw [List.take_succ_eq_append_getElem h, List.map_append, List.sum_append_int]; simp
set_option maxHeartbeats 3200000 in
theorem bkLocked_any {w : World} {bb : Nat} {who : ByteArray} {a : Option Addr} {cap : Nat} {R : Rf} (h : RB w bb who a cap R) (hb : ∀ k, k ≤ R.length → 0 ≤ lockR (R.take k) ∧ lockR (R.take k) ≤ 24000000000) :
    Calls Try.prog 75 #[.pointer (some ⟨bb, 0, none⟩), .string who] w fun e w' => e = .returned (.int .i64 (lockR R)) ∧ w' = w := by
  have c0 := blk_cell h.blk 0 (.slice a R.length cap) rfl
  have hl := h.len
  have hc := h.cap_
  have HB := hid hb
  clear hb
  go_enter Try.func75, Try.ntmps75
  go_wp2
  go_loopw [5, 6] (fun n i wr => ∃ (k : Nat) (m : Int), k ≤ R.length ∧ i = .int .i64 (k : Int) ∧ n = .int .i64 m ∧ Hid (m = lockR (R.take k)) ∧ wr = w) (fun _ i _ => R.length - (intOf i).toNat)
  case atStart => exact ⟨0, 0, Nat.zero_le _, rfl, rfl, rfl, rfl⟩
  case round =>
    obtain ⟨k, m, hk, rfl, rfl, HM, rfl⟩ := hrel
    by_cases hlt : k < R.length
    · obtain ⟨g, rfl, hcell⟩ := h.at_ k hlt
      have d0 := hcell 0 (.string who) rfl
      have d1 := hcell 1 (.int .i64 (R[k]).1.kind) rfl
      have d2 := hcell 2 (.int .i64 (R[k]).1.cents) rfl
      rw [Nat.add_zero] at d0
      have HS := hid (lockR_succ R k hlt)
      have hb1 := HB.out (k + 1) (by omega)
      have hb0 := HB.out k (by omega)
      rw [HS.out, ← HM.out] at hb1
      rw [← HM.out] at hb0
      have HN := hid (HS.out)
      rw [← HM.out] at HN
      clear hcell HS
      generalize (R[k]).1.kind = K at *
      generalize (R[k]).1.cents = C at *
      by_cases hK : K = 1
      · subst hK
        rw [if_pos rfl] at hb1 HN
        have hwr : IntKind.i64.wrap (m + C) = m + C := by rw [IntKind.wrap_i64]; omega
        have hwr2 : wrap64 (m + C) = m + C := by unfold wrap64; omega
        go_wp2
        go_roundw
        case rel => exact ⟨k + 1, m + C, by omega, by go_num, by first | rfl | rw [hwr] | rw [hwr2] | go_num, HN.out.symm, by simp⟩
        case measure => simp [intOf]; omega
      · have hK1 : (K == 1) = false := by simpa using hK
        have hK2 : decide (K = 1) = false := by simpa using hK
        rw [if_neg hK] at HN
        go_wp2
        go_roundw
        case rel => exact ⟨k + 1, m, by omega, by go_num, rfl, by show m = _; rw [HN.out]; omega, by simp⟩
        case measure => simp [intOf]; omega
    · have hkl : k = R.length := by omega
      have HF := hid (show m = lockR R by rw [HM.out, hkl, List.take_length])
      clear hkl
      go_wp2
      go_ret
      exact ⟨by rw [HF.out]; rfl, rfl⟩
/-- The places of the orders. -/
def isOrdAt (R : Rf) (i : Nat) : Bool := match R[i]? with | some e => isOrd e.1 | none => false
def ordN (R : Rf) (k : Nat) : List Nat := (List.range k).filter (isOrdAt R)
def ordIx (R : Rf) (k : Nat) : List Int := (ordN R k).map (fun i : Nat => (i : Int))
theorem isOrdAt_at (R : Rf) (k : Nat) (h : k < R.length) : isOrdAt R k = isOrd (R[k]).1 := by
  unfold isOrdAt
  rw [List.getElem?_eq_getElem h]
theorem ordN_succ (R : Rf) (k : Nat) (h : k < R.length) : ordN R (k + 1) = ordN R k ++ if isOrd (R[k]).1 = true then [k] else [] := by
  unfold ordN
  rw [List.range_succ, List.filter_append]
  congr 1
  rw [List.filter_cons, isOrdAt_at R k h]
  split <;> rfl
theorem ordIx_succ (R : Rf) (k : Nat) (h : k < R.length) : ordIx R (k + 1) = ordIx R k ++ if isOrd (R[k]).1 = true then [(k : Int)] else [] := by
  unfold ordIx
  rw [ordN_succ R k h, List.map_append]
  congr 1
  split <;> rfl
theorem ordIx_len (R : Rf) (k : Nat) : (ordIx R k).length ≤ k := by
  unfold ordIx ordN
  rw [List.length_map]
  have := List.length_filter_le (isOrdAt R) (List.range k)
  simpa using this
set_option maxHeartbeats 3200000 in
theorem bkorders_any {w : World} {bb : Nat} {who : ByteArray} {a : Option Addr} {cap : Nat} {R : Rf} (h : RB w bb who a cap R) :
    Calls Try.prog 59 #[.pointer (some ⟨bb, 0, none⟩), .string who] w fun e w' => (∃ v, e = .returned v ∧ Ints w' v (ordIx R R.length)) ∧ Below w.heap.size w w' := by
  obtain ⟨i0, hi, hz0, hz1, hz2⟩ := info_parts info_int
  have hl := h.len
  have hc := h.cap_
  go_enter Try.func59, Try.ntmps59
  go_wp2
  have b2 : Below w.heap.size w (w.alloc (.cells #[] 3)) := (Below.refl _ _).alloc (Nat.le_refl _) _
  have o2 : (w.alloc (.cells #[] 3)).ownsRow w.heap.size 3 1 (.slice (some ⟨w.heap.size, 0, none⟩) 0 0) 0 [] := World.ownsRow_made w #[] 0 (Nat.le_refl _) (Nat.zero_le _) (by simp)
  generalize w.alloc (.cells #[] 3) = w2 at *
  go_loopw [5, 6] (fun l i wr => ∃ k : Nat, k ≤ R.length ∧ i = .int .i64 (k : Int) ∧ wr.ownsRow w.heap.size 3 1 l (ordIx R k).length (intV (ordIx R k)) ∧ Below w.heap.size w wr) (fun _ i _ => R.length - (intOf i).toNat)
  case atStart => exact ⟨0, Nat.zero_le _, rfl, o2, b2⟩
  case round =>
    obtain ⟨k, hk, rfl, o, b⟩ := hrel
    clear o2 b2
    have hw := h.below b
    have c0 := blk_cell hw.blk 0 (.slice a R.length cap) rfl
    have hsw := b.size
    have hil := ordIx_len R k
    obtain ⟨sa, sc, rfl⟩ := own_slice o
    by_cases hlt : k < R.length
    · obtain ⟨g, rfl, hcell⟩ := hw.at_ k hlt
      have d0 := hcell 0 (.string who) rfl
      have d1 := hcell 1 (.int .i64 (R[k]).1.kind) rfl
      rw [Nat.add_zero] at d0
      have HS := hid (ordIx_succ R k hlt)
      have hord := isOrd_iff (z := (R[k]).1)
      clear hcell hw
      by_cases ho : isOrd (R[k]).1 = true
      · rw [if_pos ho] at HS
        have hkk := hord.1 ho
        have HFIN := hid (show ∀ (v' : Value) (w4 : World), w4.ownsRow w.heap.size 3 1 v' ((ordIx R k).length + 1) (intV (ordIx R k) ++ [.int .i64 (k : Int)]) → w4.ownsRow w.heap.size 3 1 v' (ordIx R (k + 1)).length (intV (ordIx R (k + 1))) from fun v' w4 ho => by
          rw [HS.out, intV_app, List.length_append]; exact ho)
        clear hord ho HS
        generalize (R[k]).1.kind = K at *
        generalize ordIx R k = I at *
        rcases hkk with rfl | rfl
        all_goals
          go_wp2_with (at_builtin; refine wpList_append_own _ rfl _ _ 24 rfl w.heap.size 3 i0 (.int .i64 0) 1 8 Try.underlying24 hi hz0 hz1 hz2 rfl (by decide) _ _ _ rfl (o.alloc _) ⟨wr.heap.size, 0, none⟩ 1 1 [.int .i64 (k : Int)] rfl rfl (by intro j u hu; match j, hu with | 0, hu => simp at hu; subst hu; simp [Addr.add]) (by intro u hu; simp at hu; subst hu; rfl) (by unfold maxLen; omega) (by omega) (by simp; omega) ?_)
          intro v' w4 o4 hgrow _
          have b4 : Below w.heap.size w w4 := (b.alloc hsw _).grown hgrow (by simp; omega) (fun g hg => (o.lt g hg).1)
          have o5 := HFIN.out v' w4 o4
          clear o4 o hgrow b HFIN
          go_wp2
          go_roundw
          case rel => exact ⟨k + 1, by omega, by go_num, o5, b4⟩
          case measure => simp [intOf]; try omega
      · rw [if_neg ho, List.append_nil] at HS
        have hkk : ¬ (R[k]).1.kind = 2 ∧ ¬ (R[k]).1.kind = 3 := ⟨fun e => ho (hord.2 (Or.inl e)), fun e => ho (hord.2 (Or.inr e))⟩
        have HFIN := hid (show wr.ownsRow w.heap.size 3 1 (.slice sa (ordIx R k).length sc) (ordIx R (k + 1)).length (intV (ordIx R (k + 1))) from by
          rw [HS.out]; exact o)
        clear hord ho HS
        generalize (R[k]).1.kind = K at *
        obtain ⟨hk2, hk3⟩ := hkk
        have e2 : (K == 2) = false := by simpa using hk2
        have e3 : (K == 3) = false := by simpa using hk3
        go_wp2
        go_roundw
        case rel => exact ⟨k + 1, by omega, by go_num, HFIN.out, b⟩
        case measure => simp [intOf]; omega
    · have hkl : k = R.length := by omega
      have HF := hid (show Ints wr (.slice sa (ordIx R k).length sc) (ordIx R R.length) by
        subst hkl
        refine Row1.of_own (base := w.heap.size) (e := 3) ?_
        rw [intV_len]; exact o)
      clear hkl
      go_wp2
      go_ret
      exact ⟨⟨_, rfl, HF.out⟩, b⟩
end Go.Proofs.Ytbkobimbdiogfaa
