/- BookOrder: the document's cancel. -/
import Derived.Test.YtbkobimbdiogfaaBRefI
namespace Go.Proofs.Ytbkobimbdiogfaa
open Go.RowKit Go.MapKept
set_option linter.unusedVariables false
set_option maxRecDepth 100000
set_option linter.unusedSimpArgs false

@[go_sem ↓] theorem run_cells20 (P : Program) (b o : Nat) (w : World) :
    (loadCellsFrom ⟨b, o, none⟩ 0 20 #[]).run P w = if ((w.cell? ⟨b, o, none⟩).isSome && (w.cell? ⟨b, o + 1, none⟩).isSome && (w.cell? ⟨b, o + 2, none⟩).isSome && (w.cell? ⟨b, o + 3, none⟩).isSome && (w.cell? ⟨b, o + 4, none⟩).isSome && (w.cell? ⟨b, o + 5, none⟩).isSome && (w.cell? ⟨b, o + 6, none⟩).isSome && (w.cell? ⟨b, o + 7, none⟩).isSome && (w.cell? ⟨b, o + 8, none⟩).isSome && (w.cell? ⟨b, o + 9, none⟩).isSome && (w.cell? ⟨b, o + 10, none⟩).isSome && (w.cell? ⟨b, o + 11, none⟩).isSome && (w.cell? ⟨b, o + 12, none⟩).isSome && (w.cell? ⟨b, o + 13, none⟩).isSome && (w.cell? ⟨b, o + 14, none⟩).isSome && (w.cell? ⟨b, o + 15, none⟩).isSome && (w.cell? ⟨b, o + 16, none⟩).isSome && (w.cell? ⟨b, o + 17, none⟩).isSome && (w.cell? ⟨b, o + 18, none⟩).isSome && (w.cell? ⟨b, o + 19, none⟩).isSome) = true then .ok #[(w.cell? ⟨b, o, none⟩).getD undef, (w.cell? ⟨b, o + 1, none⟩).getD undef, (w.cell? ⟨b, o + 2, none⟩).getD undef, (w.cell? ⟨b, o + 3, none⟩).getD undef, (w.cell? ⟨b, o + 4, none⟩).getD undef, (w.cell? ⟨b, o + 5, none⟩).getD undef, (w.cell? ⟨b, o + 6, none⟩).getD undef, (w.cell? ⟨b, o + 7, none⟩).getD undef, (w.cell? ⟨b, o + 8, none⟩).getD undef, (w.cell? ⟨b, o + 9, none⟩).getD undef, (w.cell? ⟨b, o + 10, none⟩).getD undef, (w.cell? ⟨b, o + 11, none⟩).getD undef, (w.cell? ⟨b, o + 12, none⟩).getD undef, (w.cell? ⟨b, o + 13, none⟩).getD undef, (w.cell? ⟨b, o + 14, none⟩).getD undef, (w.cell? ⟨b, o + 15, none⟩).getD undef, (w.cell? ⟨b, o + 16, none⟩).getD undef, (w.cell? ⟨b, o + 17, none⟩).getD undef, (w.cell? ⟨b, o + 18, none⟩).getD undef, (w.cell? ⟨b, o + 19, none⟩).getD undef] w else cellsSlow P ⟨b, o, none⟩ 20 w := by
  split
  · rename_i h
    simp only [Bool.and_eq_true] at h
    obtain ⟨⟨⟨⟨⟨⟨⟨⟨⟨⟨⟨⟨⟨⟨⟨⟨⟨⟨⟨h0, h1⟩, h2⟩, h3⟩, h4⟩, h5⟩, h6⟩, h7⟩, h8⟩, h9⟩, h10⟩, h11⟩, h12⟩, h13⟩, h14⟩, h15⟩, h16⟩, h17⟩, h18⟩, h19⟩ := h
    obtain ⟨v0, e0⟩ := Option.isSome_iff_exists.1 h0
    obtain ⟨v1, e1⟩ := Option.isSome_iff_exists.1 h1
    obtain ⟨v2, e2⟩ := Option.isSome_iff_exists.1 h2
    obtain ⟨v3, e3⟩ := Option.isSome_iff_exists.1 h3
    obtain ⟨v4, e4⟩ := Option.isSome_iff_exists.1 h4
    obtain ⟨v5, e5⟩ := Option.isSome_iff_exists.1 h5
    obtain ⟨v6, e6⟩ := Option.isSome_iff_exists.1 h6
    obtain ⟨v7, e7⟩ := Option.isSome_iff_exists.1 h7
    obtain ⟨v8, e8⟩ := Option.isSome_iff_exists.1 h8
    obtain ⟨v9, e9⟩ := Option.isSome_iff_exists.1 h9
    obtain ⟨v10, e10⟩ := Option.isSome_iff_exists.1 h10
    obtain ⟨v11, e11⟩ := Option.isSome_iff_exists.1 h11
    obtain ⟨v12, e12⟩ := Option.isSome_iff_exists.1 h12
    obtain ⟨v13, e13⟩ := Option.isSome_iff_exists.1 h13
    obtain ⟨v14, e14⟩ := Option.isSome_iff_exists.1 h14
    obtain ⟨v15, e15⟩ := Option.isSome_iff_exists.1 h15
    obtain ⟨v16, e16⟩ := Option.isSome_iff_exists.1 h16
    obtain ⟨v17, e17⟩ := Option.isSome_iff_exists.1 h17
    obtain ⟨v18, e18⟩ := Option.isSome_iff_exists.1 h18
    obtain ⟨v19, e19⟩ := Option.isSome_iff_exists.1 h19
    rw [e0, e1, e2, e3, e4, e5, e6, e7, e8, e9, e10, e11, e12, e13, e14, e15, e16, e17, e18, e19]
    exact run_loadCells_list w ⟨b, o, none⟩ [v0, v1, v2, v3, v4, v5, v6, v7, v8, v9, v10, v11, v12, v13, v14, v15, v16, v17, v18, v19] (fun j v hv => by
      rw [Addr.add_mid]
      match j, hv with
      | 0, hv => rw [Nat.add_zero]; rw [e0]; exact hv
      | 1, hv => rw [e1]; exact hv
      | 2, hv => rw [e2]; exact hv
      | 3, hv => rw [e3]; exact hv
      | 4, hv => rw [e4]; exact hv
      | 5, hv => rw [e5]; exact hv
      | 6, hv => rw [e6]; exact hv
      | 7, hv => rw [e7]; exact hv
      | 8, hv => rw [e8]; exact hv
      | 9, hv => rw [e9]; exact hv
      | 10, hv => rw [e10]; exact hv
      | 11, hv => rw [e11]; exact hv
      | 12, hv => rw [e12]; exact hv
      | 13, hv => rw [e13]; exact hv
      | 14, hv => rw [e14]; exact hv
      | 15, hv => rw [e15]; exact hv
      | 16, hv => rw [e16]; exact hv
      | 17, hv => rw [e17]; exact hv
      | 18, hv => rw [e18]; exact hv
      | 19, hv => rw [e19]; exact hv
      | j + 20, hv => simp at hv)
  · rfl
@[go_sem high] theorem store_cells20 (a : Addr) (v0 v1 v2 v3 v4 v5 v6 v7 v8 v9 v10 v11 v12 v13 v14 v15 v16 v17 v18 v19 : Value) : storeCells a [v0, v1, v2, v3, v4, v5, v6, v7, v8, v9, v10, v11, v12, v13, v14, v15, v16, v17, v18, v19] 0 = storeWide a [v0, v1, v2, v3, v4, v5, v6, v7, v8, v9, v10, v11, v12, v13, v14, v15, v16, v17, v18, v19] := rfl
def hitC (s : Int) : Option (Kb × Bool) → Bool
  | some e => !e.2 && decide (e.1.kind = 3) && decide (e.1.parent = s)
  | none => false
theorem hitC_any {R : Rf} {s : Int} (hs : 0 < s) : (liveR R).any (fun o => o.parent == s) = true ↔ ∃ x ∈ ordN R R.length, hitC s R[x]? = true := by
  rw [← live_all R, List.any_eq_true]
  constructor
  · rintro ⟨o, ho, hp⟩
    obtain ⟨x, hx, hl⟩ := List.mem_filterMap.1 ho
    refine ⟨x, hx, ?_⟩
    have hlt := ordN_lt hx
    rw [List.getElem?_eq_getElem hlt] at hl ⊢
    have hord := (List.mem_filter.1 hx).2
    rw [isOrdAt_at R x hlt] at hord
    have hl : (if (R[x]).2 = true then none else some (kbO (R[x]).1)) = some o := hl
    cases h2 : (R[x]).2 with
    | true => rw [h2] at hl; simp at hl
    | false =>
      rw [h2] at hl
      simp at hl
      subst hl
      have hp' : (kbO (R[x]).1).parent = s := by simpa using hp
      rw [parK_O (isOrd_iff.1 hord)] at hp'
      unfold parK at hp'
      unfold hitC
      by_cases h3 : (R[x]).1.kind = 3
      · rw [if_pos h3] at hp'
        simp [h2, h3, hp']
      · rw [if_neg h3] at hp'; omega
  · rintro ⟨x, hx, hh⟩
    have hlt := ordN_lt hx
    rw [List.getElem?_eq_getElem hlt] at hh
    unfold hitC at hh
    simp only [Bool.and_eq_true, Bool.not_eq_true', decide_eq_true_eq] at hh
    obtain ⟨⟨h2, h3⟩, hp⟩ := hh
    refine ⟨kbO (R[x]).1, List.mem_filterMap.2 ⟨x, hx, ?_⟩, ?_⟩
    · rw [List.getElem?_eq_getElem hlt]
      unfold liveAt
      simp [h2]
    · rw [parK_O (Or.inr h3)]
      unfold parK
      rw [if_pos h3, hp]; simp
set_option maxHeartbeats 6400000 in
theorem bkcancel_any {w : World} {bb : Nat} {who : ByteArray} {a : Option Addr} {cap : Nat} {R : Rf} (h : RB w bb who a cap R) (s : Int) :
    Calls Try.prog 57 #[.pointer (some ⟨bb, 0, none⟩), .string who, .int .i64 s] w fun e w' => e = .returned (.int .i64 (canR R s)) ∧ Below w.heap.size w w' := by
  have hl := h.len
  have hc := h.cap_
  have HH := hid h
  clear h
  go_enter Try.func57, Try.ntmps57
  go_wp2_with fail
  refine (bkfind_any HH.out s).mono ?_
  rintro e X1 ⟨rfl, bX1⟩
  have B1 := hid bX1
  clear bX1
  cases hf : fndR R s with
  | none =>
    have HA := hid (show canR R s = 102 by unfold canR; rw [fnd_none hf])
    have hfi : fndI none = -1 := rfl
    rw [hfi]
    clear hfi hf
    go_wp2
    go_ret
    exact ⟨by rw [HA.out]; rfl, B1.out⟩
  | some at_ =>
    obtain ⟨hat, hg, _⟩ := fnd_some hf
    have hR1 := HH.out.below B1.out
    have c0 := blk_cell hR1.blk 0 (.slice a R.length cap) rfl
    obtain ⟨g, rfl, hcell⟩ := hR1.at_ at_ hat
    have d1 := hcell 1 (.int .i64 (R[at_]).1.kind) rfl
    have d19 := hcell 19 (.bool (R[at_]).2) rfl
    have HCA := hid (show canR R s = if (R[at_]).2 = true then 102 else if 0 < s ∧ (R[at_]).1.kind = 3 ∧ (liveR R).any (fun o => o.parent == s) = true then 103 else 0 by unfold canR; rw [hg])
    have HAT := hid hcell
    have hfi : fndI (some at_) = (at_ : Int) := rfl
    have hneg : decide ((at_ : Int) < 0) = false := by simp
    rw [hfi]
    clear hfi hf hg hcell
    have HGO := hid (show (R[at_]).2 = (R[at_]).2 from rfl)
    generalize hGG : (R[at_]).2 = G at *
    clear hGG HGO
    cases G with
    | true =>
      have HA := hid (show canR R s = 102 by rw [HCA.out, if_pos rfl])
      go_wp2
      go_ret
      exact ⟨by rw [HA.out]; rfl, B1.out⟩
    | false =>
      have HA := hid (show canR R s = if 0 < s ∧ (R[at_]).1.kind = 3 ∧ (liveR R).any (fun o => o.parent == s) = true then 103 else 0 by rw [HCA.out, if_neg (by decide)])
      clear HCA
      generalize (R[at_]).1.kind = KA at *
      go_wp2_with fail
      refine (bkorders_any hR1).mono ?_
      rintro e w1 ⟨⟨v, rfl, hv⟩, b1⟩
      obtain ⟨va, vc, rfl, hvl, hvm⟩ := hv.slice
      unfold maxLen at hvm
      have h1 := hR1.below b1
      have hLl := ordIx_len R R.length
      have HV := hid hv
      have H1 := hid h1
      have B2 := hid (chain2 B1.out b1)
      have HD1 := hid ((Kx.of_below (S := fun _ => False) b1).cell d1 (fun h => h))
      clear hv h1 b1 B1 c0 d1 d19 hR1 HAT
      rw [ordIx_length] at hvl hLl
      have hlx := ordIx_length R R.length
      rw [hlx]
      go_wp2
      go_loopw [9] (fun i wr => ∃ k : Nat, k ≤ (ordN R R.length).length ∧ i = .int .i64 (k : Int) ∧ Hid (0 < s → KA = 3 → ∀ x ∈ (ordN R R.length).take k, hitC s R[x]? = false) ∧ Below w1.heap.size w1 wr) (fun i _ => (ordN R R.length).length - (intOf i).toNat)
      case atStart => exact ⟨0, Nat.zero_le _, rfl, by simp [Hid], Below.refl _ _⟩
      case round =>
        obtain ⟨k, hk, rfl, HM, b⟩ := hrel
        by_cases hlt : k < (ordN R R.length).length
        · have hR := H1.out.below b
          have c0 := blk_cell hR.blk 0 (.slice (some ⟨g, 0, none⟩) R.length cap) rfl
          obtain ⟨i, hi, g1, o1, c1, g', ei, ev, f1, eg, hcell⟩ := hR.ord (HV.out.below b) k hlt
          simp only [Value.slice.injEq] at ev
          obtain ⟨rfl, _, rfl⟩ := ev
          simp only [Option.some.injEq, Addr.mk.injEq, and_true] at eg
          subst eg
          obtain ⟨qa, qc, hq0, _, _⟩ := (hR.fits R[i] (List.getElem_mem hi)).ints.slice
          have dat := (Kx.of_below (S := fun _ => False) b).cell HD1.out (fun h => h)
          have d0 : wr.cell? ⟨g, i * 20 + 0, none⟩ = some (.string who) := hcell 0 (.string who) (by rfl)
          have d1 : wr.cell? ⟨g, i * 20 + 1, none⟩ = some (.int .i64 (R[i]).1.kind) := hcell 1 (.int .i64 (R[i]).1.kind) (by rfl)
          have d2 : wr.cell? ⟨g, i * 20 + 2, none⟩ = some (.int .i64 (R[i]).1.cents) := hcell 2 (.int .i64 (R[i]).1.cents) (by rfl)
          have d3 : wr.cell? ⟨g, i * 20 + 3, none⟩ = some (.int .i64 (R[i]).1.seq) := hcell 3 (.int .i64 (R[i]).1.seq) (by rfl)
          have d4 : wr.cell? ⟨g, i * 20 + 4, none⟩ = some (.string (R[i]).1.swho) := hcell 4 (.string (R[i]).1.swho) (by rfl)
          have d5 : wr.cell? ⟨g, i * 20 + 5, none⟩ = some (.int .i64 (R[i]).1.sseq) := hcell 5 (.int .i64 (R[i]).1.sseq) (by rfl)
          have d6 : wr.cell? ⟨g, i * 20 + 6, none⟩ = some (.int .i64 (R[i]).1.szone) := hcell 6 (.int .i64 (R[i]).1.szone) (by rfl)
          have d7 : wr.cell? ⟨g, i * 20 + 7, none⟩ = some (.int .i64 (R[i]).1.shour) := hcell 7 (.int .i64 (R[i]).1.shour) (by rfl)
          have d8 : wr.cell? ⟨g, i * 20 + 8, none⟩ = some (.bool (R[i]).1.sbuy) := hcell 8 (.bool (R[i]).1.sbuy) (by rfl)
          have d9 : wr.cell? ⟨g, i * 20 + 9, none⟩ = some (.int .i64 (R[i]).1.sqty) := hcell 9 (.int .i64 (R[i]).1.sqty) (by rfl)
          have d10 : wr.cell? ⟨g, i * 20 + 10, none⟩ = some (.int .i64 (R[i]).1.sprice) := hcell 10 (.int .i64 (R[i]).1.sprice) (by rfl)
          have d11 : wr.cell? ⟨g, i * 20 + 11, none⟩ = some (.string (R[i]).1.bwho) := hcell 11 (.string (R[i]).1.bwho) (by rfl)
          have d12 : wr.cell? ⟨g, i * 20 + 12, none⟩ = some (.int .i64 (R[i]).1.bseq) := hcell 12 (.int .i64 (R[i]).1.bseq) (by rfl)
          have d13 : wr.cell? ⟨g, i * 20 + 13, none⟩ = some (.int .i64 (R[i]).1.bzone) := hcell 13 (.int .i64 (R[i]).1.bzone) (by rfl)
          have d14 : wr.cell? ⟨g, i * 20 + 14, none⟩ = some (.bool (R[i]).1.bbuy) := hcell 14 (.bool (R[i]).1.bbuy) (by rfl)
          have d15 : wr.cell? ⟨g, i * 20 + 15, none⟩ = some (.int .i64 (R[i]).1.bprice) := hcell 15 (.int .i64 (R[i]).1.bprice) (by rfl)
          have d16 : wr.cell? ⟨g, i * 20 + 16, none⟩ = some (.slice qa (R[i]).1.Q.length qc) := hcell 16 (.slice qa (R[i]).1.Q.length qc) (by unfold onC kbC; rw [hq0]; rfl)
          have d17 : wr.cell? ⟨g, i * 20 + 17, none⟩ = some (.int .i64 (R[i]).1.parent) := hcell 17 (.int .i64 (R[i]).1.parent) (by rfl)
          have d18 : wr.cell? ⟨g, i * 20 + 18, none⟩ = some (.int .i64 (R[i]).1.group) := hcell 18 (.int .i64 (R[i]).1.group) (by rfl)
          have d19 : wr.cell? ⟨g, i * 20 + 19, none⟩ = some (.bool (R[i]).2) := hcell 19 (.bool (R[i]).2) (by rfl)
          rw [Nat.add_zero] at d0
          have hsa : hitC s R[(ordN R R.length)[k]]? = (!(R[i]).2 && decide ((R[i]).1.kind = 3) && decide ((R[i]).1.parent = s)) := by
            rw [ei, List.getElem?_eq_getElem hi]; rfl
          have HHIT := hid (fun (x2 : (R[i]).2 = false) (x3 : (R[i]).1.kind = 3) (x4 : (R[i]).1.parent = s) (x5 : 0 < s) (x6 : KA = 3) => show canR R s = 103 by
            rw [HA.out, if_pos ⟨x5, x6, (hitC_any x5).2 ⟨_, List.getElem_mem hlt, by rw [hsa, x2, x3, x4]; simp⟩⟩])
          have HMIS := hid (fun (x7 : 0 < s → KA = 3 → (!(R[i]).2 && decide ((R[i]).1.kind = 3) && decide ((R[i]).1.parent = s)) = false) => show 0 < s → KA = 3 → ∀ x ∈ (ordN R R.length).take (k + 1), hitC s R[x]? = false from fun x5 x6 x hx => by
            rw [List.take_succ_eq_append_getElem hlt] at hx
            rcases List.mem_append.1 hx with hx | hx
            · exact HM.out x5 x6 x hx
            · simp only [List.mem_singleton] at hx
              rw [hx, hsa]; exact x7 x5 x6)
          clear hcell hsa hR ei hq0 HM
          have hrow : rowOf (wr.alloc (Obj.cells #[.string ⟨#[]⟩, .int .i64 0, .int .i64 0, .int .i64 0, .string ⟨#[]⟩, .int .i64 0, .int .i64 0, .int .i64 0, .bool false, .int .i64 0, .int .i64 0, .string ⟨#[]⟩, .int .i64 0, .int .i64 0, .bool false, .int .i64 0, .slice none 0 0, .int .i64 0, .int .i64 0, .bool false] 84)).drew wr.heap.size 20 = true := rowOf_is (heap_alloc_last wr _) rfl
          have EA := hid (setRow_heap (wr.alloc (Obj.cells #[.string ⟨#[]⟩, .int .i64 0, .int .i64 0, .int .i64 0, .string ⟨#[]⟩, .int .i64 0, .int .i64 0, .int .i64 0, .bool false, .int .i64 0, .int .i64 0, .string ⟨#[]⟩, .int .i64 0, .int .i64 0, .bool false, .int .i64 0, .slice none 0 0, .int .i64 0, .int .i64 0, .bool false] 84)).drew wr.heap.size _ #[.string who, .int .i64 (R[i]).1.kind, .int .i64 (R[i]).1.cents, .int .i64 (R[i]).1.seq, .string (R[i]).1.swho, .int .i64 (R[i]).1.sseq, .int .i64 (R[i]).1.szone, .int .i64 (R[i]).1.shour, .bool (R[i]).1.sbuy, .int .i64 (R[i]).1.sqty, .int .i64 (R[i]).1.sprice, .string (R[i]).1.bwho, .int .i64 (R[i]).1.bseq, .int .i64 (R[i]).1.bzone, .bool (R[i]).1.bbuy, .int .i64 (R[i]).1.bprice, .slice qa (R[i]).1.Q.length qc, .int .i64 (R[i]).1.parent, .int .i64 (R[i]).1.group, .bool (R[i]).2] 84 (0, 0) (heap_alloc_last wr _))
          have BA := hid (((Kx.of_below (S := fun i => wr.heap.size ≤ i) ((Below.refl wr.heap.size wr).alloc (Nat.le_refl _) (Obj.cells #[.string ⟨#[]⟩, .int .i64 0, .int .i64 0, .int .i64 0, .string ⟨#[]⟩, .int .i64 0, .int .i64 0, .int .i64 0, .bool false, .int .i64 0, .int .i64 0, .string ⟨#[]⟩, .int .i64 0, .int .i64 0, .bool false, .int .i64 0, .slice none 0 0, .int .i64 0, .int .i64 0, .bool false] 84)).drew).row (Nat.le_refl _) #[.string who, .int .i64 (R[i]).1.kind, .int .i64 (R[i]).1.cents, .int .i64 (R[i]).1.seq, .string (R[i]).1.swho, .int .i64 (R[i]).1.sseq, .int .i64 (R[i]).1.szone, .int .i64 (R[i]).1.shour, .bool (R[i]).1.sbuy, .int .i64 (R[i]).1.sqty, .int .i64 (R[i]).1.sprice, .string (R[i]).1.bwho, .int .i64 (R[i]).1.bseq, .int .i64 (R[i]).1.bzone, .bool (R[i]).1.bbuy, .int .i64 (R[i]).1.bprice, .slice qa (R[i]).1.Q.length qc, .int .i64 (R[i]).1.parent, .int .i64 (R[i]).1.group, .bool (R[i]).2]).below (Nat.le_refl _) (fun _ h => h))
          have BZ := (Below.refl wr.heap.size wr).alloc (Nat.le_refl _) (Obj.cells #[.string ⟨#[]⟩, .int .i64 0, .int .i64 0, .int .i64 0, .string ⟨#[]⟩, .int .i64 0, .int .i64 0, .int .i64 0, .bool false, .int .i64 0, .int .i64 0, .string ⟨#[]⟩, .int .i64 0, .int .i64 0, .bool false, .int .i64 0, .slice none 0 0, .int .i64 0, .int .i64 0, .bool false] 84)
          have KZ : ∀ {x y : Nat} {u : Value}, wr.cell? ⟨x, y, none⟩ = some u → (wr.alloc (Obj.cells #[.string ⟨#[]⟩, .int .i64 0, .int .i64 0, .int .i64 0, .string ⟨#[]⟩, .int .i64 0, .int .i64 0, .int .i64 0, .bool false, .int .i64 0, .int .i64 0, .string ⟨#[]⟩, .int .i64 0, .int .i64 0, .bool false, .int .i64 0, .slice none 0 0, .int .i64 0, .int .i64 0, .bool false] 84)).cell? ⟨x, y, none⟩ = some u := fun hh => (Kx.of_below (S := fun _ => False) BZ).cell hh (fun h => h)
          have z0 := KZ d0
          have z1 := KZ d1
          have z2 := KZ d2
          have z3 := KZ d3
          have z4 := KZ d4
          have z5 := KZ d5
          have z6 := KZ d6
          have z7 := KZ d7
          have z8 := KZ d8
          have z9 := KZ d9
          have z10 := KZ d10
          have z11 := KZ d11
          have z12 := KZ d12
          have z13 := KZ d13
          have z14 := KZ d14
          have z15 := KZ d15
          have z16 := KZ d16
          have z17 := KZ d17
          have z18 := KZ d18
          have z19 := KZ d19
          have zc := KZ c0
          have zf := KZ f1
          clear BZ KZ
          generalize (ordN R R.length).length = n at *
          go_wp2_with fail
          go_region
          generalize ((wr.alloc (Obj.cells #[.string ⟨#[]⟩, .int .i64 0, .int .i64 0, .int .i64 0, .string ⟨#[]⟩, .int .i64 0, .int .i64 0, .int .i64 0, .bool false, .int .i64 0, .int .i64 0, .string ⟨#[]⟩, .int .i64 0, .int .i64 0, .bool false, .int .i64 0, .slice none 0 0, .int .i64 0, .int .i64 0, .bool false] 84)).drew.setRow wr.heap.size #[.string who, .int .i64 (R[i]).1.kind, .int .i64 (R[i]).1.cents, .int .i64 (R[i]).1.seq, .string (R[i]).1.swho, .int .i64 (R[i]).1.sseq, .int .i64 (R[i]).1.szone, .int .i64 (R[i]).1.shour, .bool (R[i]).1.sbuy, .int .i64 (R[i]).1.sqty, .int .i64 (R[i]).1.sprice, .string (R[i]).1.bwho, .int .i64 (R[i]).1.bseq, .int .i64 (R[i]).1.bzone, .bool (R[i]).1.bbuy, .int .i64 (R[i]).1.bprice, .slice qa (R[i]).1.Q.length qc, .int .i64 (R[i]).1.parent, .int .i64 (R[i]).1.group, .bool (R[i]).2]) = W at *
          have BF := hid (b.trans (BA.out.mono b.size))
          have u19 := blk_cell EA.out 19 (.bool (R[i]).2) rfl
          have u1 := blk_cell EA.out 1 (.int .i64 (R[i]).1.kind) rfl
          have u17 := blk_cell EA.out 17 (.int .i64 (R[i]).1.parent) rfl
          have cc := (Kx.of_below (S := fun _ => False) BA.out).cell c0 (fun h => h)
          have da := (Kx.of_below (S := fun _ => False) BA.out).cell dat (fun h => h)
          have BR := hid (chain2 B2.out BF.out)
          clear d0 d1 d2 d3 d4 d5 d6 d7 d8 d9 d10 d11 d12 d13 d14 d15 d16 d17 d18 d19 c0 dat EA BA hrow f1 z0 z1 z2 z3 z4 z5 z6 z7 z8 z9 z10 z11 z12 z13 z14 z15 z16 z17 z18 z19 zc zf
          generalize wr.heap.size = bx at *
          generalize (R[i]).1.kind = K at *
          generalize (R[i]).1.parent = PA at *
          generalize (R[i]).2 = G at *
          cases G with
          | true =>
            have HF := hid (HMIS.out (fun _ _ => rfl))
            go_wp2
            go_roundw
            case rel => exact ⟨k + 1, by omega, by go_num, HF, BF.out⟩
            case measure => simp [intOf]; omega
          | false =>
            by_cases hK : K = 3
            · subst hK
              by_cases hP : PA = s
              · subst hP
                by_cases hs0 : 0 < PA
                · have hs1 : decide (0 < PA) = true := by simpa using hs0
                  by_cases hA : KA = 3
                  · subst hA
                    have HE := hid (HHIT.out rfl rfl rfl hs0 rfl)
                    go_wp2
                    go_ret
                    exact ⟨by rw [HE.out]; rfl, BR.out⟩
                  · have hA1 : (KA == 3) = false := by simpa using hA
                    have hA2 : decide (KA = 3) = false := by simpa using hA
                    have HF := hid (HMIS.out (fun _ x6 => absurd x6 hA))
                    go_wp2
                    go_roundw
                    case rel => exact ⟨k + 1, by omega, by go_num, HF, BF.out⟩
                    case measure => simp [intOf]; omega
                · have hs1 : decide (0 < PA) = false := by simpa using hs0
                  have HF := hid (HMIS.out (fun x5 _ => absurd x5 hs0))
                  go_wp2
                  go_roundw
                  case rel => exact ⟨k + 1, by omega, by go_num, HF, BF.out⟩
                  case measure => simp [intOf]; omega
              · have hP1 : (PA == s) = false := by simpa using hP
                have hP2 : decide (PA = s) = false := by simpa using hP
                have HF := hid (HMIS.out (fun _ _ => by simp [hP]))
                go_wp2
                go_roundw
                case rel => exact ⟨k + 1, by omega, by go_num, HF, BF.out⟩
                case measure => simp [intOf]; omega
            · have hK1 : (K == 3) = false := by simpa using hK
              have hK2 : decide (K = 3) = false := by simpa using hK
              have HF := hid (HMIS.out (fun _ _ => by simp [hK]))
              go_wp2
              go_roundw
              case rel => exact ⟨k + 1, by omega, by go_num, HF, BF.out⟩
              case measure => simp [intOf]; omega
        · have hkl : k = (ordN R R.length).length := by omega
          have HF := hid (show canR R s = 0 by
            rw [HA.out, if_neg]
            rintro ⟨x5, x6, hx⟩
            obtain ⟨x, hx1, hx2⟩ := (hitC_any x5).1 hx
            rw [HM.out x5 x6 x (by rw [hkl, List.take_length]; exact hx1)] at hx2
            cases hx2)
          clear hkl
          go_wp2
          go_ret
          exact ⟨by rw [HF.out]; rfl, chain2 B2.out b⟩
end Go.Proofs.Ytbkobimbdiogfaa
