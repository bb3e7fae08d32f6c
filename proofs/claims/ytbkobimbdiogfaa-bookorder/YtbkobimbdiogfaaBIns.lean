/- A number set into a row of one's own. -/
import Derived.Test.YtbkobimbdiogfaaBShIns
import Derived.Test.YtbkobimbdiogfaaBBook
namespace Go.Proofs.Ytbkobimbdiogfaa
open Go.RowKit
set_option linter.unusedVariables false
set_option maxRecDepth 100000
set_option linter.unusedSimpArgs false

def ins (L : List Int) (i : Nat) (x : Int) : List Int := L.take i ++ x :: L.drop i
theorem ins_len (L : List Int) (i : Nat) (x : Int) : (ins L i x).length = L.length + 1 := by simp [ins]; omega
theorem intV_ins (L : List Int) (i : Nat) (x : Int) : intV (ins L i x) = (intV L).take i ++ .int .i64 x :: (intV L).drop i := by simp [intV, ins, List.map_take, List.map_drop]
theorem setCells_mid (b : Nat) (t : TypeId) (fz : Nat × Nat) (post : List Value) : ∀ (vs pre old : List Value) (w : World), vs.length = old.length → w.heap[b]? = some (.cells (pre ++ (old ++ post)).toArray t fz) →
    (w.setCells b pre.length vs).heap[b]? = some (.cells (pre ++ (vs ++ post)).toArray t fz) ∧ Kx (fun i => i = b) w (w.setCells b pre.length vs)
  | [], pre, old, w, hl, h => by
    obtain rfl : old = [] := List.eq_nil_of_length_eq_zero hl.symm
    exact ⟨h, Kx.refl _ _⟩
  | v :: r, pre, old, w, hl, h => by
    match old, hl, h with
    | x :: os, hl, h =>
      have h1 : (w.setCell ⟨b, pre.length, none⟩ v).heap[b]? = some (.cells ((pre ++ [v]) ++ (os ++ post)).toArray t fz) := by
        have := set_at (k := pre.length) (v := v) h
        rw [this]
        simp
      have ih := setCells_mid b t fz post r (pre ++ [v]) os (w.setCell ⟨b, pre.length, none⟩ v) (by simpa using hl) h1
      rw [World.setCells]
      rw [show (pre ++ [v]).length = pre.length + 1 by simp] at ih
      refine ⟨by simpa using ih.1, (Kx.set (S := fun i => i = b) (g := b) (Kx.refl _ w) rfl _).trans ih.2⟩
theorem own_of_row {w : World} {g cap : Nat} {L : List Int} {post : List Value} (hg : w.heap[g]? = some (.cells (intV L ++ post).toArray 3 (0, 0))) (hc : L.length + post.length = cap) (hm : cap ≤ maxLen) :
    w.ownsRow 0 3 1 (.slice (some ⟨g, 0, none⟩) L.length cap) L.length (intV L) := by
  refine ⟨by rw [intV_len]; omega, Or.inr ⟨g, cap, _, rfl, Nat.zero_le _, hg, by omega, hm, by simp [intV_len]; omega, ?_⟩⟩
  rw [Nat.mul_one]
  have h1 : L.length = (intV L).length := (intV_len L).symm
  rw [h1]
  simp
theorem kx_drew {S : Nat → Prop} {w w' : World} (h : Kx S w w') : Kx S w w'.drew := ⟨h.os, h.tape, h.output, h.size, h.block⟩
theorem kx_drew1 {S : Nat → Prop} {w w' : World} (h : Kx S w.drew w') : Kx S w w' := ⟨h.os, h.tape, h.output, h.size, h.block⟩
theorem kx_new {S : Nat → Prop} {w w' : World} {g : Nat} (h : Kx (fun i => i = g) w w') : ∀ {w0 : World}, Kx S w0 w → w0.heap.size ≤ g → Kx S w0 w' := fun {w0} h0 hg =>
  ⟨h.os.trans h0.os, h.tape.trans h0.tape, h.output.trans h0.output, Nat.le_trans h0.size h.size, fun i hi hs => (h.block i (Nat.lt_of_lt_of_le hi h0.size) (by omega)).trans (h0.block i hi hs)⟩
theorem intV_one (L : List Int) : ∀ v ∈ intV L, v.oneCell' = true := by
  intro v hv
  obtain ⟨x, _, rfl⟩ := List.mem_map.1 hv
  rfl
theorem shape_of {w : World} {b : Nat} {C : Array Value} {t : TypeId} {fr : Nat × Nat} (h : w.heap[b]? = some (.cells C t fr)) : w.shape? b = some (t, C.size) := by simp [World.shape?, h]
theorem insert_any (w : World) (sv : Value) (L : List Int) (i : Nat) (x : Int) (g1 : Nat) (hi : i ≤ L.length) (hl : L.length ≤ 1000) (own : w.ownsRow 0 3 1 sv L.length (intV L))
    (hg1 : w.heap[g1]? = some (.cells #[.int .i64 x] 3 (0, 0))) (hne : sv.ownBlock ≠ some g1) :
    Calls Try.prog 35 #[sv, .int .i64 (i : Int), .slice (some ⟨g1, 0, none⟩) 1 1] w fun e w' =>
      ∃ v', e = .returned v' ∧ w'.ownsRow 0 3 1 v' (L.length + 1) (intV (ins L i x)) ∧ Kx (fun b => some b = sv.ownBlock) w w' ∧ (v'.ownBlock = sv.ownBlock ∨ ∃ b, v'.ownBlock = some b ∧ w.heap.size ≤ b ∧ b < w'.heap.size) := by
  have hvs : ∀ j v, [Value.int .i64 x][j]? = some v → w.cell? ⟨g1, 0 + j, none⟩ = some v := fun j v hv => by
    match j, hv with
    | 0, hv => exact blk_cell hg1 0 v (by simpa using hv)
    | j + 1, hv => simp at hv
  have h1v : ∀ v ∈ [Value.int .i64 x], v.oneCell' = true := by intro v hv; simp at hv; subst hv; rfl
  have hgl : g1 < w.heap.size := lt_of_block hg1
  have hil : (ins L i x).length = L.length + 1 := ins_len L i x
  have hcl : (intV L).length = L.length := intV_len L
  have hCells : ∀ {g cap : Nat} {cur : Array Value}, w.heap[g]? = some (.cells cur 3 (0, 0)) → cur.toList.take (L.length * 1) = intV L → ∀ j v, (intV L)[j]? = some v → w.cell? ⟨g, 0 + j, none⟩ = some v := fun {g cap cur} hh hcur j v hv => by
    rw [Nat.zero_add, cell_of_row _ _ j _ _ _ hh, ← Array.getElem?_toList]
    rw [← hcur, List.getElem?_take] at hv
    split at hv
    · exact hv
    · cases hv
  -- a new row behind the whole
  have newRow : ∀ (cap : Nat) (post : List Value), L.length + 1 + post.length = cap → cap ≤ maxLen → (w.drew.alloc (.cells (intV (ins L i x) ++ post).toArray 3)).ownsRow 0 3 1 (.slice (some ⟨w.heap.size, 0, none⟩) (L.length + 1) cap) (L.length + 1) (intV (ins L i x)) := fun cap post h1 h2 => by
    have := own_of_row (w := w.drew.alloc (.cells (intV (ins L i x) ++ post).toArray 3)) (g := w.heap.size) (cap := cap) (L := ins L i x) (post := post) (heap_alloc_last w.drew _) (by omega) h2
    rw [hil] at this
    exact this
  have growEnd : ∀ (base : Option Addr) (cap : Nat), L.length ≤ cap → cap < L.length + 1 → (base = none → L.length = 0) → (∀ a, base = some a → ∀ j v, (intV L)[j]? = some v → w.cell? (a.add j) = some v) → i = L.length →
      Calls Try.prog 35 #[.slice base L.length cap, .int .i64 (i : Int), .slice (some ⟨g1, 0, none⟩) 1 1] w fun e w' =>
        ∃ v', e = .returned v' ∧ w'.ownsRow 0 3 1 v' (L.length + 1) (intV (ins L i x)) ∧ Below w.heap.size w w' ∧ ∃ b, v'.ownBlock = some b ∧ w.heap.size ≤ b ∧ b < w'.heap.size := by
    intro base cap h1 h2 h3 h4 h5
    have hc := Any2.slices_Insert_int_end_grow Try.laysIns base L.length cap g1 0 1 1 (intV L) [.int .i64 x] w (by omega) h1 h2 (by omega) hcl rfl h3 h4 hvs h1v
    rw [← h5] at hc
    rw [← h5]
    refine hc.mono ?_
    rintro e w' ⟨rfl, rfl⟩
    have hge := grownCap_ge w (i + 1) cap 3
    have hle := grownCap_le_maxLen w (i + 1) cap 3 (by unfold maxLen; omega)
    have hz : (Builtin.zeroCells (Value.int .i64 0).cells (grownCap w (i + 1) cap 3 - (i + 1))).toList.length = grownCap w (i + 1) cap 3 - (i + 1) := by
      rw [Array.length_toList, size_zeroCells]; simp [Value.cells]
    have he : ((intV L ++ [Value.int .i64 x]).toArray ++ Builtin.zeroCells (Value.int .i64 0).cells (grownCap w (i + 1) cap 3 - (i + 1))) = (intV (ins L i x) ++ (Builtin.zeroCells (Value.int .i64 0).cells (grownCap w (i + 1) cap 3 - (i + 1))).toList).toArray := by
      apply Array.ext'
      rw [intV_ins]
      have e1 : (intV L).take i = intV L := List.take_of_length_le (by omega)
      have e2 : (intV L).drop i = [] := List.drop_eq_nil_of_le (by omega)
      rw [e1, e2]
      simp
    have hN := newRow (grownCap w (i + 1) cap 3) (Builtin.zeroCells (Value.int .i64 0).cells (grownCap w (i + 1) cap 3 - (i + 1))).toList (by rw [hz]; omega) hle
    rw [← he, ← h5] at hN
    refine ⟨_, rfl, hN, ?_, w.heap.size, rfl, Nat.le_refl _, by show _ < (w.drew.alloc _).heap.size; simp⟩
    have b0 : Below w.heap.size w w.drew := ⟨rfl, rfl, rfl, Nat.le_refl _, fun _ _ => rfl⟩
    exact b0.alloc (Nat.le_refl _) _
  rcases own.2 with ⟨rfl, h0⟩ | ⟨g, cap, cur, rfl, _, hh, hnc, hcm, hsz, hcur⟩
  · have hg := growEnd none 0 (by omega) (by omega) (fun _ => h0) (fun a ha => by cases ha) (by omega)
    rw [h0] at hg
    rw [h0]
    refine hg.mono ?_
    rintro e w' ⟨v', rfl, ho, hb, hx⟩
    exact ⟨v', rfl, ho, Kx.of_below hb, Or.inr hx⟩
  · have hcs := hCells (cap := cap) hh hcur
    have hgg : g1 ≠ g := fun e => hne (by subst e; rfl)
    have hcl2 : cur.toList.length = cap := by rw [Array.length_toList]; omega
    unfold maxLen at hcm
    by_cases hend : i = L.length
    · by_cases hroom : L.length + 1 ≤ cap
      · -- room at the end
        have hc := Any2.slices_Insert_int_end_room Try.laysIns g 0 L.length cap g1 0 1 1 [.int .i64 x] w (by omega) hroom (by omega) rfl
          (fun j hj => by
            obtain rfl : j = 0 := by omega
            rw [cell_of_row _ _ _ _ _ _ hh]
            simp
            omega) (fun j hj => blk_free hh _) hvs h1v
        rw [← hend] at hc
        rw [← hend]
        refine hc.mono ?_
        rintro e w' ⟨rfl, rfl⟩
        have hsplit : cur = (intV L ++ ([cur.toList[i]'(by omega)] ++ cur.toList.drop (i + 1))).toArray := by
          apply Array.ext'
          rw [← hcur, Nat.mul_one, ← hend]
          show cur.toList = cur.toList.take i ++ ([cur.toList[i]] ++ cur.toList.drop (i + 1))
          rw [List.singleton_append, ← List.drop_eq_getElem_cons, List.take_append_drop]
        have hh' := hh
        rw [hsplit] at hh'
        have hm := setCells_mid g 3 (0, 0) (cur.toList.drop (i + 1)) [.int .i64 x] (intV L) [cur.toList[i]'(by omega)] w rfl hh'
        rw [hcl, ← hend] at hm
        have hr : intV L ++ ([Value.int .i64 x] ++ cur.toList.drop (i + 1)) = intV (ins L i x) ++ cur.toList.drop (i + 1) := by
          have e1 : (intV L).take i = intV L := List.take_of_length_le (by omega)
          have e2 : (intV L).drop i = [] := List.drop_eq_nil_of_le (by omega)
          rw [intV_ins, e1, e2]
          simp
        rw [hr] at hm
        have ho := own_of_row (cap := cap) hm.1 (by rw [hil, List.length_drop]; omega) (by unfold maxLen; omega)
        rw [hil, ← hend] at ho
        rw [Nat.zero_add]
        exact ⟨_, rfl, ho, hm.2.mono (fun b hb => by subst hb; rfl), Or.inl rfl⟩
      · have hg := growEnd (some ⟨g, 0, none⟩) cap hnc (by omega) (fun h => by cases h) (fun a ha j v hv => by
          cases ha
          rw [add_off]
          exact hcs j v hv) hend
        refine hg.mono ?_
        rintro e w' ⟨v', rfl, ho, hb, hx⟩
        exact ⟨v', rfl, ho, Kx.of_below hb, Or.inr hx⟩
    · have hlt : i < L.length := by omega
      have hlt' : i < (intV L).length := by omega
      by_cases hroom : L.length + 1 ≤ cap
      · -- in place
        have hc := Any2.slices_Insert_int_shift Try.laysIns g 0 L.length cap i g1 0 1 1 (intV L) [.int .i64 x] w hlt (by omega) hroom (by omega) hgg hcl rfl hcs
          (fun j hj => by
            rw [Nat.zero_add, cell_of_row _ _ _ _ _ _ hh]
            simp
            omega) (fun j hj => blk_free hh _) hvs (intV_one L) h1v _ _ _ _ (shape_of hg1) (shape_of hh) (by omega) (blk_free hg1 _) (blk_free hg1 _)
        refine hc.mono ?_
        rintro e w' ⟨rfl, rfl⟩
        have hsplit : cur = ((intV L).take (i + 1) ++ (((intV L).drop (i + 1) ++ [cur.toList[L.length]'(by omega)]) ++ cur.toList.drop (L.length + 1))).toArray := by
          apply Array.ext'
          show cur.toList = (intV L).take (i + 1) ++ (((intV L).drop (i + 1) ++ [cur.toList[L.length]]) ++ cur.toList.drop (L.length + 1))
          rw [List.append_assoc, ← List.append_assoc, List.take_append_drop, List.singleton_append, ← List.drop_eq_getElem_cons, ← hcur, Nat.mul_one, List.take_append_drop]
        have hh' : w.drew.heap[g]? = _ := hh
        rw [hsplit] at hh'
        have hm := setCells_mid g 3 (0, 0) (cur.toList.drop (L.length + 1)) ((intV L).drop i) ((intV L).take (i + 1)) ((intV L).drop (i + 1) ++ [cur.toList[L.length]'(by omega)]) w.drew (by simp [hcl]; omega) hh'
        rw [show ((intV L).take (i + 1)).length = i + 1 by rw [List.length_take]; omega] at hm
        have hs2 : (intV L).take (i + 1) ++ ((intV L).drop i ++ cur.toList.drop (L.length + 1)) = (intV L).take i ++ ([(intV L)[i]] ++ ((intV L).drop i ++ cur.toList.drop (L.length + 1))) := by
          rw [List.take_succ_eq_append_getElem hlt', List.append_assoc]
        have hm1 := hm.1
        rw [hs2] at hm1
        have hm2 := setCells_mid g 3 (0, 0) ((intV L).drop i ++ cur.toList.drop (L.length + 1)) [.int .i64 x] ((intV L).take i) [(intV L)[i]] _ rfl hm1
        rw [show ((intV L).take i).length = i by rw [List.length_take]; omega] at hm2
        have hr : (intV L).take i ++ ([Value.int .i64 x] ++ ((intV L).drop i ++ cur.toList.drop (L.length + 1))) = intV (ins L i x) ++ cur.toList.drop (L.length + 1) := by
          rw [intV_ins]; simp
        have hm3 := hm2.1
        rw [hr] at hm3
        have ho := own_of_row (cap := cap) hm3 (by rw [hil, List.length_drop]; omega) (by unfold maxLen; omega)
        rw [hil] at ho
        rw [Nat.zero_add, Nat.zero_add]
        exact ⟨_, rfl, ho, (kx_drew1 (hm.2.trans hm2.2)).mono (fun b hb => by subst hb; rfl), Or.inl rfl⟩
      · -- a new row
        have hc := Any2.slices_Insert_int_grow Try.laysIns g 0 L.length cap i g1 0 1 1 (intV L) [.int .i64 x] w hlt (by omega) hnc (by omega) (by omega) hcl rfl hcs hvs (intV_one L) h1v
        refine hc.mono ?_
        rintro e w' ⟨rfl, rfl⟩
        have hge := grownCap_ge w (L.length + 1) cap 3
        have hle := grownCap_le_maxLen w (L.length + 1) cap 3 (by unfold maxLen; omega)
        show ∃ v', _ = Ending.returned v' ∧ _
        obtain ⟨Z1, hZ1⟩ : ∃ Z : List Value, Z = (Builtin.zeroCells (Value.int .i64 0).cells (L.length + 1 - i)).toList := ⟨_, rfl⟩
        obtain ⟨Z2, hZ2⟩ : ∃ Z : List Value, Z = (Builtin.zeroCells (Value.int .i64 0).cells (grownCap w (L.length + 1) cap 3 - (L.length + 1))).toList := ⟨_, rfl⟩
        have hl1 : Z1.length = L.length + 1 - i := by rw [hZ1, Array.length_toList, size_zeroCells]; simp [Value.cells]
        have hl2 : Z2.length = grownCap w (L.length + 1) cap 3 - (L.length + 1) := by rw [hZ2, Array.length_toList, size_zeroCells]; simp [Value.cells]
        have hsp : ∃ z0 Zt, Z1 = z0 :: Zt := by
          cases Z1 with
          | nil => simp at hl1; omega
          | cons z0 Zt => exact ⟨z0, Zt, rfl⟩
        obtain ⟨z0, Zt, rfl⟩ := hsp
        have hcells : (((intV L).take i).toArray ++ Builtin.zeroCells (Value.int .i64 0).cells (L.length + 1 - i) ++ Builtin.zeroCells (Value.int .i64 0).cells (grownCap w (L.length + 1) cap 3 - (L.length + 1))) = ((intV L).take i ++ ([z0] ++ (Zt ++ Z2))).toArray := by
          apply Array.ext'
          simp only [Array.toList_append, List.toList_toArray]
          rw [← hZ1, ← hZ2]
          simp
        have ht : Try.laysIns_ren.t 3 = 3 := rfl
        rw [ht, hcells]
        have hb0 : (w.alloc (.cells ((intV L).take i ++ ([z0] ++ (Zt ++ Z2))).toArray 3)).drew.heap[w.heap.size]? = some (.cells ((intV L).take i ++ ([z0] ++ (Zt ++ Z2))).toArray 3 (0, 0)) := heap_alloc_last w _
        have hm := setCells_mid w.heap.size 3 (0, 0) (Zt ++ Z2) [.int .i64 x] ((intV L).take i) [z0] _ rfl hb0
        rw [show ((intV L).take i).length = i by rw [List.length_take]; omega] at hm
        have hm1 : ((w.alloc (.cells ((intV L).take i ++ ([z0] ++ (Zt ++ Z2))).toArray 3)).drew.setCells w.heap.size i [Value.int .i64 x]).drew.heap[w.heap.size]? = some (.cells (((intV L).take i ++ [Value.int .i64 x]) ++ (Zt ++ Z2)).toArray 3 (0, 0)) := by
          rw [List.append_assoc]
          exact hm.1
        have hm2 := setCells_mid w.heap.size 3 (0, 0) Z2 ((intV L).drop i) ((intV L).take i ++ [Value.int .i64 x]) Zt _ (by simp at hl1; rw [List.length_drop, hcl]; omega) hm1
        rw [show ((intV L).take i ++ [Value.int .i64 x]).length = i + 1 by simp [hcl]; omega] at hm2
        have hr : ((intV L).take i ++ [Value.int .i64 x]) ++ ((intV L).drop i ++ Z2) = intV (ins L i x) ++ Z2 := by rw [intV_ins]; simp
        have hm3 := hm2.1
        rw [hr] at hm3
        have ho := own_of_row (cap := grownCap w (L.length + 1) cap 3) hm3 (by rw [hil, hl2]; omega) hle
        rw [hil] at ho
        have hk0 : Kx (fun b => some b = (Value.slice (some ⟨g, 0, none⟩) L.length cap).ownBlock) w (w.alloc (.cells ((intV L).take i ++ ([z0] ++ (Zt ++ Z2))).toArray 3)).drew := kx_drew (Kx.of_below ((Below.refl w.heap.size w).alloc (Nat.le_refl _) _))
        have hk1 := kx_new hm.2 hk0 (Nat.le_refl _)
        have hk2 := kx_new (kx_drew1 hm2.2) hk1 (Nat.le_refl _)
        refine ⟨_, rfl, ho, hk2, Or.inr ⟨w.heap.size, rfl, Nat.le_refl _, ?_⟩⟩
        exact lt_of_block hm3
end Go.Proofs.Ytbkobimbdiogfaa
