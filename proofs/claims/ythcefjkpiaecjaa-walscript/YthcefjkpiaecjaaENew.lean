/- The document's disk: New. -/
import Derived.Test.YthcefjkpiaecjaaEWrite
namespace Go.Proofs.Ythcefjkpiaecjaa
open Go.RowKit
set_option linter.unusedVariables false
set_option maxRecDepth 100000
set_option linter.unusedSimpArgs false

/-- The disk while its sectors are laid: k of them. -/
structure Laying (w : World) (b k m : Nat) (vw vi : Value) : Prop where
  blk : w.heap[b]? = some (.cells (rlist Dsk.new vw vi (.slice none 0 0) 0 0 0).toArray 59 (0, 0))
  was : w.ownsRow b 9 1 vw k (strs (List.replicate k ByteArray.empty))
  is : w.ownsRow b 9 1 vi m (strs (List.replicate m ByteArray.empty))
  ne : ∀ g, vw.ownBlock = some g → vi.ownBlock ≠ some g
theorem estr_info : (Try.prog.info? 9).map (fun i => (i.zero, i.size, i.bytes)) = some (some (.string ByteArray.empty), 1, 16) := by kernel_rfl
theorem Laying.alloc {w : World} {b k m : Nat} {vw vi : Value} (h : Laying w b k m vw vi) (o : Obj) : Laying (w.alloc o) b k m vw vi :=
  ⟨(Below.heap_alloc w o b (lt_of_block h.blk)).trans h.blk, h.was.alloc o, h.is.alloc o, h.ne⟩
theorem rep_snoc (k : Nat) : strs (List.replicate k ByteArray.empty) ++ [.string ⟨#[]⟩] = strs (List.replicate (k + 1) ByteArray.empty) := by
  rw [List.replicate_succ', strs, strs, List.map_append]; rfl
theorem Laying.more_was {w w3 : World} {b k m : Nat} {vw vi v' : Value} (h : Laying w b k m vw vi) (hown : w3.ownsRow b 9 1 v' (k + 1) (strs (List.replicate k ByteArray.empty) ++ [.string ⟨#[]⟩])) (hg : w.grownBy w3 vw.ownBlock) (hw : v'.ownBlock = vw.ownBlock ∨ v'.ownBlock = some w.heap.size) : Laying (w3.setCell ⟨b, 0, none⟩ v') b (k + 1) m v' vi ∧ w3.heap[b]? = some (.cells (rlist Dsk.new vw vi (.slice none 0 0) 0 0 0).toArray 59 (0, 0)) := by
  have e3 := (hg.block b (lt_of_block h.blk) (fun e => own_ne h.was h.blk (by decide) e.symm)).trans h.blk
  rw [rep_snoc] at hown
  have oi := own_grown h.is hg (fun g hg' e => h.ne g e hg')
  refine ⟨⟨by rw [set_at e3]; rfl, ownsRow_setCell_other hown (own_ne hown e3 (by decide)) _, ownsRow_setCell_other oi (own_ne oi e3 (by decide)) _, fun g hg' => ?_⟩, e3⟩
  rcases hw with e | e
  · exact h.ne g (by rw [← e]; exact hg')
  · rw [e] at hg'
    simp only [Option.some.injEq] at hg'
    intro e2
    obtain ⟨c, fz, hc⟩ := own_kind h.is g e2
    have := lt_of_block hc
    omega
theorem Laying.more_is {w w3 : World} {b k m : Nat} {vw vi v' : Value} (h : Laying w b k m vw vi) (hown : w3.ownsRow b 9 1 v' (m + 1) (strs (List.replicate m ByteArray.empty) ++ [.string ⟨#[]⟩])) (hg : w.grownBy w3 vi.ownBlock) (hw : v'.ownBlock = vi.ownBlock ∨ v'.ownBlock = some w.heap.size) : Laying (w3.setCell ⟨b, 1, none⟩ v') b k (m + 1) vw v' ∧ w3.heap[b]? = some (.cells (rlist Dsk.new vw vi (.slice none 0 0) 0 0 0).toArray 59 (0, 0)) := by
  have e3 := (hg.block b (lt_of_block h.blk) (fun e => own_ne h.is h.blk (by decide) e.symm)).trans h.blk
  rw [rep_snoc] at hown
  have ow := own_grown h.was hg (fun g hg' e => h.ne g hg' e)
  refine ⟨⟨by rw [set_at e3]; rfl, ownsRow_setCell_other ow (own_ne ow e3 (by decide)) _, ownsRow_setCell_other hown (own_ne hown e3 (by decide)) _, fun g hg' => ?_⟩, e3⟩
  rcases hw with e | e
  · rw [e]; exact h.ne g hg'
  · rw [e]
    simp only [ne_eq, Option.some.injEq]
    intro e2
    obtain ⟨c, fz, hc⟩ := own_kind h.was g hg'
    have := lt_of_block hc
    omega
theorem Laying.done {w : World} {b : Nat} {vw vi : Value} (h : Laying w b 256 256 vw vi) : RAt w b Dsk.new vw vi (.slice none 0 0) 0 0 0 :=
  ⟨h.blk, h.was, h.is, World.ownsRow_nil _ _ _ _, by
    obtain ⟨g, cap, rfl, _⟩ := own_pos h.was (by omega)
    intro e
    exact h.ne g rfl e.symm, Dsk.good_new, (fun e => absurd e (by decide)), (fun e => absurd e (by decide)), by omega⟩
theorem new_cell (w : World) (p : Addr) (v x : Value) (t : TypeId) : ((w.setCell p v).alloc (.cells #[x] t)).cell? ⟨w.heap.size, 0, none⟩ = some x := by
  refine cell_at (L := [x]) (t := t) (fz := (0, 0)) ?_ 0 _ rfl
  rw [show w.heap.size = (w.setCell p v).heap.size by simp [World.setCell]]
  exact heap_alloc_last _ _
set_option maxHeartbeats 4000000 in
theorem enew_any (w : World) :
    Calls Try.prog 6 #[] w fun e w' => e = .returned (.pointer (some ⟨w.heap.size, 0, none⟩)) ∧ (∃ vw vi, RAt w' w.heap.size Dsk.new vw vi (.slice none 0 0) 0 0 0) ∧ Below w.heap.size w w' := by
  obtain ⟨i0, hi0, hz0, hz1, hz2⟩ := info_parts estr_info
  go_enter Try.func6, Try.ntmps6
  go_wp2
  have h0 : Laying (w.alloc (.cells (rlist Dsk.new (.slice none 0 0) (.slice none 0 0) (.slice none 0 0) 0 0 0).toArray 59)) w.heap.size 0 0 (.slice none 0 0) (.slice none 0 0) :=
    ⟨heap_alloc_last w _, World.ownsRow_nil _ _ _ _, World.ownsRow_nil _ _ _ _, fun g hg => by simp [Value.ownBlock] at hg⟩
  have b0 : Below w.heap.size w (w.alloc (.cells (rlist Dsk.new (.slice none 0 0) (.slice none 0 0) (.slice none 0 0) 0 0 0).toArray 59)) := (Below.refl _ _).alloc (Nat.le_refl _) _
  go_loopw [2] (fun i W => ∃ (k : Nat) (vw vi : Value), k ≤ 256 ∧ i = .int .i64 k ∧ Laying W w.heap.size k k vw vi ∧ Below w.heap.size w W) (fun i _ => 256 - (intOf i).toNat)
  case atStart => exact ⟨0, _, _, Nat.zero_le _, rfl, h0, b0⟩
  case round =>
    obtain ⟨k, vw, vi, hk, rfl, hl, hb⟩ := hrel
    clear h0 b0
    have hsz := hb.size
    have hbl := lt_of_block hl.blk
    by_cases hlt : k < 256
    · have c0 := cell_at hl.blk 0 _ rfl
      have hla := hl.alloc (.cells #[.string ⟨#[]⟩] 9)
      have hba := hb.alloc hsz (.cells #[.string ⟨#[]⟩] 9)
      go_wp2_with (at_builtin; refine wpList_append_own_at _ rfl _ _ 55 rfl w.heap.size 9 i0 (.string ByteArray.empty) 1 16 Try.underlying55 hi0 hz0 hz1 hz2 rfl (by decide) _ _ _ rfl hla.was ⟨wr.heap.size, 0, none⟩ 1 1 [.string ⟨#[]⟩] rfl rfl (by intro j u hu; match j, hu with | 0, hu => simp at hu; subst hu; simp [Addr.add]) (by intro u hu; simp at hu; subst hu; rfl) (by unfold maxLen; omega) (by omega) (by simp; omega) ?_)
      intro v' w3 hown3 hgrow hnil hwhere
      obtain ⟨va, vcp, rfl⟩ := own_slice hown3
      obtain ⟨hl3, e3⟩ := hla.more_was hown3 hgrow (by simpa using hwhere)
      have hb3 := (hba.grown hgrow (by simp; omega) (fun q hq => (hla.was.lt q hq).1)).setCell (p := ⟨w.heap.size, 0, none⟩) (Nat.le_refl _) (.slice va (k + 1) vcp)
      have d0 := cell_at e3 0 _ rfl
      have f3 := free_at e3
      have d1 := cell_at hl3.blk 1 _ rfl
      have hsz3 := hb3.size
      have hbl3 := lt_of_block hl3.blk
      have hlb := hl3.alloc (.cells #[.string ⟨#[]⟩] 9)
      have hbb := hb3.alloc hsz3 (.cells #[.string ⟨#[]⟩] 9)
      have hcn := new_cell w3 ⟨w.heap.size, 0, none⟩ (.slice va (k + 1) vcp) (.string ⟨#[]⟩) 9
      clear hla hba hown3 hgrow hnil hwhere c0 hl hb e3
      go_wp2_with (at_builtin; refine wpList_append_own_at _ rfl _ _ 55 rfl w.heap.size 9 i0 (.string ByteArray.empty) 1 16 Try.underlying55 hi0 hz0 hz1 hz2 rfl (by decide) _ _ _ rfl hlb.is ⟨w3.heap.size, 0, none⟩ 1 1 [.string ⟨#[]⟩] rfl rfl (by intro j u hu; match j, hu with | 0, hu => simp at hu; subst hu; simpa [Addr.add] using hcn) (by intro u hu; simp at hu; subst hu; rfl) (by unfold maxLen; omega) (by omega) (by simp at hsz3 ⊢; omega) ?_)
      intro v' w4 hown4 hgrow hnil hwhere
      obtain ⟨vb, vcq, rfl⟩ := own_slice hown4
      obtain ⟨hl4, e4⟩ := hlb.more_is hown4 hgrow (by simpa using hwhere)
      have hb4 := (hbb.grown hgrow (by simp at hsz3 ⊢; omega) (fun q hq => (hlb.is.lt q hq).1)).setCell (p := ⟨w.heap.size, 1, none⟩) (Nat.le_refl _) (.slice vb (k + 1) vcq)
      have g1 := cell_at e4 1 _ rfl
      have f4 := free_at e4
      clear hlb hbb hown4 hgrow hnil hwhere d0 d1 f3 hl3 hb3 e4
      go_wp2
      go_roundw
      case rel => exact ⟨k + 1, _, _, by omega, by go_num, hl4, hb4⟩
      case measure => simp [intOf]; omega
    · go_wp2
      go_ret
      have hk' : k = 256 := by omega
      subst hk'
      exact ⟨rfl, ⟨vw, vi, hl.done⟩, hb⟩
end Go.Proofs.Ythcefjkpiaecjaa
