/- fitsWord, word, gcdOfWords, copied: numbers of two limbs at most, as words; a number's copy. -/
import Derived.Test.YtchibjdhdbkdhaaDoorOf
import Derived.Test.YtchibjdhdbkdhaaDoorAdd
import Derived.Test.YtchibjdhdbkdhaaDoorDivLimb
import Derived.Test.YtchibjdhdbkdhaaDoorClone
import Derived.Test.YtchibjdhdbkdhaaDoorLaws
import Derived.Deep.LoopGhost
namespace Go.Proofs.YtchibjdhdbkdhaaDoor
open Go.RowKit
set_option linter.unusedVariables false
set_option maxRecDepth 100000
set_option linter.unusedSimpArgs false

theorem fits_any (w : World) (ao : Option Addr) (n c : Nat) (hn : n ≤ 1000000000) :
    Calls Tryd.prog 91 #[.agg #[.slice ao n c]] w fun e w' => e = .returned (.bool (decide (n ≤ 2))) ∧ Below w.heap.size w w' := by
  by_cases h : n ≤ 2
  · go_enter Tryd.func91, Tryd.ntmps91
    go_wp2
    go_ret
    exact ⟨by simp [h]; omega, (Below.refl _ _).alloc (Nat.le_refl _) _⟩
  · go_enter Tryd.func91, Tryd.ntmps91
    go_wp2
    go_ret
    exact ⟨by simp [h]; omega, (Below.refl _ _).alloc (Nat.le_refl _) _⟩
theorem kcell {W X : World} {p : Addr} {v : Value} (h : Below W.heap.size W X) (hp : W.cell? p = some v) : X.cell? p = some v := (h.cell (World.block_lt_of_cell? W _ hp)).trans hp
theorem val_two {L : List Nat} (h : L.length ≤ 2) : val L = lg L 1 * 4294967296 + lg L 0 := by
  rw [← pv_val L 2 h]; simp [pv]; omega
theorem limb_lit (w0 w : World) (v : Value) (L : List Nat) (hb : Bd L) (h : Limbs w0 v L) (i : Nat) (z : Int) (hz : z = (i : Int)) (hw : Below w0.heap.size w0 w) :
    Calls Tryd.prog 80 #[.agg #[v], .int .i64 z] w fun e w' => e = .returned (.int .u64 (lg L i : Int)) ∧ ∃ c, w' = w.alloc (.cells c 24) := by
  subst hz; exact limb_any w v L hb (h.below hw) i
set_option maxHeartbeats 800000 in
theorem word_raw (w : World) (v : Value) (ao : Option Addr) (n c x1 x0 T : Nat) (hv : v = .slice ao n c) (L1 : ∀ w', Below w.heap.size w w' → Calls Tryd.prog 80 #[.agg #[.slice ao n c], .int .i64 1] w' fun e w'' => e = .returned (.int .u64 (x1 : Int)) ∧ ∃ c, w'' = w'.alloc (.cells c 24))
    (L0 : ∀ w', Below w.heap.size w w' → Calls Tryd.prog 80 #[.agg #[.slice ao n c], .int .i64 0] w' fun e w'' => e = .returned (.int .u64 (x0 : Int)) ∧ ∃ c, w'' = w'.alloc (.cells c 24)) (b1 : x1 < 4294967296) (OS : bits .or .u64 ((x1 : Int) * 4294967296) (x0 : Int) = (T : Int)) :
    Calls Tryd.prog 92 #[.agg #[v]] w fun e w' => e = .returned (.int .u64 (T : Int)) ∧ Below w.heap.size w w' := by
  subst hv
  have HL1 := hid L1
  have HL0 := hid L0
  have HO := hid OS
  clear L1 L0 OS
  go_enter Tryd.func92, Tryd.ntmps92
  go_wp2
  have B0 : Below w.heap.size w (w.alloc (Obj.cells #[Value.slice ao n c] 24)) := (Below.refl _ _).alloc (Nat.le_refl _) _
  have c0 : (w.alloc (Obj.cells #[Value.slice ao n c] 24)).cell? ⟨w.heap.size, 0, none⟩ = some (.slice ao n c) := by simp [go_sem]
  have s0 : w.heap.size < (w.alloc (Obj.cells #[Value.slice ao n c] 24)).heap.size := by simp
  generalize w.alloc (Obj.cells #[Value.slice ao n c] 24) = W at *
  go_region_held3 (fun w' => w'.cell? ⟨w.heap.size, 0, none⟩ = some (.slice ao n c) ∧ Below W.heap.size W w')
    ((refine And.intro ?_ ?_ <;> first | (refine kcell ?_ c0; first | exact (Below.refl _ _).drew | exact ((Below.refl _ _).alloc (Nat.le_refl _) _).drew | exact (Below.refl _ _).drew.alloc (Nat.le_refl _) _ | exact (boxed2 (Below.refl _ _) _ _).drew | exact boxed2 (Below.refl _ _).drew _ _) | exact (Below.refl _ _).drew | exact ((Below.refl _ _).alloc (Nat.le_refl _) _).drew | exact (Below.refl _ _).drew.alloc (Nat.le_refl _) _ | exact (boxed2 (Below.refl _ _) _ _).drew | exact boxed2 (Below.refl _ _).drew _ _))
    (first | (have g1 := B1; go_at_call 80; refine (HL0.out _ ?_).mono ?_; (first | exact B1 | exact B1.drew); rintro e w' ⟨rfl, c2, rfl⟩) | (go_at_call 80; refine (HL1.out _ ?_).mono ?_; exact B0.drew; rintro e w' ⟨rfl, c1, rfl⟩; have B1 : Below w.heap.size w (W.drew.alloc (Obj.cells c1 24)) := below_alloc' B0.drew (Nat.le_refl _) _))
  have ew : IntKind.u64.wrap ((x1 : Int) * 4294967296) = (x1 : Int) * 4294967296 := w64 _ (by omega) (by omega)
  rw [ew, HO.out]
  clear ew
  have BE : Below w.heap.size w ((W.alloc (Obj.cells c1 24)).alloc (Obj.cells c2 24)).drew := (boxed2 B0 _ _).drew
  generalize ((W.alloc (Obj.cells c1 24)).alloc (Obj.cells c2 24)).drew = X at *
  go_wp2
  go_ret
  exact ⟨rfl, BE⟩
theorem word_any (w : World) (ao : Option Addr) (n c : Nat) (L : List Nat) (hb : Bd L) (h : Limbs w (.slice ao n c) L) (hl : L.length ≤ 2) :
    Calls Tryd.prog 92 #[.agg #[.slice ao n c]] w fun e w' => e = .returned (.int .u64 ((val L : Nat) : Int)) ∧ Below w.heap.size w w' := by
  rw [val_two hl]
  exact word_raw w _ ao n c (lg L 1) (lg L 0) _ rfl (fun w' h' => limb_lit w w' _ L hb h 1 1 rfl h') (fun w' h' => limb_lit w w' _ L hb h 0 0 rfl h') (hb 1) (or_sum (lg L 1) (lg L 0) (hb 1) (hb 0))
set_option maxHeartbeats 800000 in
theorem copied_any (w : World) (a : Value) (m K : Nat) (hK : K ≤ 1000000000) (ha : NatIs w a m K) :
    Calls Tryd.prog 90 #[a] w fun e w' => ∃ v, e = .returned v ∧ NatIs w' v m K ∧ Below w.heap.size w w' := by
  obtain ⟨sa, A, rfl, oa, bA, tA, rfl, lA⟩ := ha
  obtain ⟨ao, cap, rfl⟩ := oa.slice
  go_enter Tryd.func90, Tryd.ntmps90
  go_wp2_with fail
  have B0 := boxed2 (Below.refl w.heap.size w) (Obj.cells #[Value.slice ao A.length cap] 24) (Obj.cells #[Value.slice none 0 0] 24)
  have b1 := boxed2_second w (Obj.cells #[Value.slice ao A.length cap] 24) (Obj.cells #[Value.slice none 0 0] 24)
  have s0 : ((w.alloc (Obj.cells #[Value.slice ao A.length cap] 24)).alloc (Obj.cells #[Value.slice none 0 0] 24)).heap.size = w.heap.size + 1 + 1 := by simp
  generalize (w.alloc (Obj.cells #[Value.slice ao A.length cap] 24)).alloc (Obj.cells #[Value.slice none 0 0] 24) = W at *
  refine (clone_any W _ A (by omega) (oa.below B0)).mono ?_
  rintro e w' ⟨⟨v', rfl, ho⟩, hb⟩
  obtain ⟨ao', cp, rfl⟩ := Limbs.slice (ownsRow_base0 ho)
  have b2 := box_below hb b1 (by omega)
  have hc := cell_of_one b2
  have hf := free_of_one b2
  have ho2 := ownsRow_setCell_below ho (a := ⟨w.heap.size + 1, 0, none⟩) (by show w.heap.size + 1 < _; omega) (.slice ao' A.length cp)
  have hB2 := (B0.trans (hb.mono (by omega))).setCell (p := ⟨w.heap.size + 1, 0, none⟩) (by show w.heap.size ≤ w.heap.size + 1; omega) (.slice ao' A.length cp)
  clear ho hb b1 b2 B0 oa
  go_wp2
  exact bodyPost_ret (v := .agg #[.slice ao' A.length cp]) (by simp [results, Tryd.results90, go_sem, hc]) rfl ⟨_, rfl, ⟨_, A, rfl, ownsRow_base0 ho2, bA, tA, rfl, lA⟩, hB2⟩
end Go.Proofs.YtchibjdhdbkdhaaDoor
