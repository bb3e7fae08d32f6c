/- The law's own helpers: long, number. -/
import Derived.Test.YtciecncdejlkkaaDoorRParse
import Derived.Test.YtciecncdejlkkaaDoorBoxes
namespace Go.Proofs.YtciecncdejlkkaaDoor
open Go.RowKit
set_option linter.unusedVariables false
set_option maxRecDepth 100000
set_option linter.unusedSimpArgs false

set_option maxHeartbeats 800000 in
theorem long_any (w : World) (g n : Nat) (xs : List ByteArray) (hn : n ≤ 100) (hc : ∀ k, k < n → w.cell? ⟨g, k, none⟩ = some (.string (sg xs k))) :
    Calls Tryd.prog 8 #[.slice (some ⟨g, 0, none⟩) n n] w fun e w' => (e = .returned (.bool true) ∨ (e = .returned (.bool false) ∧ ∀ k, k < n → (sg xs k).size ≤ 256)) ∧ w' = w := by
  go_enter Tryd.func8, Tryd.ntmps8
  go_wp2
  go_loop [3, 4] (fun m i => ∃ k : Nat, k ≤ n ∧ i = .int .i64 k ∧ m = .int .i64 (lsum xs n k) ∧ lsum xs n k ≤ 2000000) (fun _ i => n - (intOf i).toNat)
  case atStart => exact ⟨0, Nat.zero_le _, rfl, rfl, by simp only [lsum]; omega⟩
  case round =>
    obtain ⟨k, hk, rfl, rfl, hb⟩ := hrel
    by_cases hlt : k < n
    · by_cases hm : lsum xs n k ≤ 256
      · have hcx := hc k hlt
        have hS : lsum xs n (k + 1) = lsum xs n k + min (sg xs k).size 1048576 := rfl
        obtain ⟨s, hs⟩ : ∃ s, s = sg xs k := ⟨_, rfl⟩
        rw [← hs] at hcx hS
        generalize lsum xs n k = x at *
        have HS := hid hS
        clear hS hs hc
        rcases (show s.size < 1048576 ∨ 1048576 < s.size ∨ s.size ≤ 1048576 ∧ 1048576 ≤ s.size by omega) with hc1 | hc1 | ⟨hc1, hc2⟩
        all_goals
          go_wp2
          go_round
          case rel => exact ⟨k + 1, by omega, by go_num, by rw [HS.out]; go_num, by rw [HS.out]; omega⟩
          case measure => simp [intOf]; omega
      · have hm' : ¬ (lsum xs n k : Int) ≤ 256 := by omega
        go_wp2
        go_ret
        exact ⟨Or.inl (by simp <;> omega), rfl⟩
    · by_cases hm : lsum xs n k ≤ 256
      · have HM := hid (show ∀ j, j < n → (sg xs j).size ≤ 256 from fun j hj => by have := lsum_ge xs n k j (by omega); omega)
        go_wp2
        go_ret
        exact ⟨Or.inr ⟨by simp <;> omega, HM.out⟩, rfl⟩
      · go_wp2
        go_ret
        exact ⟨Or.inl (by simp <;> omega), rfl⟩
set_option maxHeartbeats 1000000 in
theorem number_yes (s : ByteArray) (w : World) (hs : s.size ≤ 1000000000) (h : Txt s) :
    Calls Tryd.prog 9 #[.string s] w fun e w' => (∃ v r, e = .returned (.tuple #[v, r, .bool true, .bool true]) ∧ NatIs w' v (num s) (s.size / 9 + 1) ∧ RefIs w' r (num s) (s.size / 9 + 1)) ∧ Below w.heap.size w w' := by
  have hx0 : ((w.alloc (Obj.cells #[Value.slice none 0 0] 26)).alloc (Obj.cells #[Value.slice none 0 0] 29)).heap[w.heap.size]? = some (Obj.cells #[Value.slice none 0 0] 26) := box_alloc (box_new _ _) _
  have hy0 : ((w.alloc (Obj.cells #[Value.slice none 0 0] 26)).alloc (Obj.cells #[Value.slice none 0 0] 29)).heap[w.heap.size + 1]? = some (Obj.cells #[Value.slice none 0 0] 29) := by
    have := box_new (w.alloc (Obj.cells #[Value.slice none 0 0] 26)) (Obj.cells #[Value.slice none 0 0] 29); simpa using this
  have hw0 : Below w.heap.size w ((w.alloc (Obj.cells #[Value.slice none 0 0] 26)).alloc (Obj.cells #[Value.slice none 0 0] 29)) := ((Below.refl _ _).alloc (Nat.le_refl _) _).alloc (by simp) _
  go_enter Tryd.func9, Tryd.ntmps9
  go_wp2_with fail
  refine (parse_yes s _ hs h _ rfl).mono ?_
  generalize (w.alloc (Obj.cells #[Value.slice none 0 0] 26)).alloc (Obj.cells #[Value.slice none 0 0] 29) = W0 at *
  rintro e w1 ⟨⟨v, rfl, hv⟩, hb1⟩
  obtain ⟨aa, la, ca, hsa⟩ := hv.form
  rw [hsa] at hv ⊢
  clear hsa
  have hx1 := box_below hb1 hx0 (lt_of_block hx0)
  have hy1 := box_below hb1 hy0 (lt_of_block hy0)
  have hw1 : Below w.heap.size w w1 := hw0.trans (hb1.mono hw0.size)
  have l2 : w.heap.size + 1 < w1.heap.size := lt_of_block hy1
  clear hb1 hx0 hy0 hw0
  have hx2 := box_alloc hx1 (Obj.cells #[Value.slice aa la ca] 26)
  have hy2 := box_alloc hy1 (Obj.cells #[Value.slice aa la ca] 26)
  have hz2 := box_new w1 (Obj.cells #[Value.slice aa la ca] 26)
  have hv2 := hv.below ((Below.refl _ _).alloc (Nat.le_refl _) (Obj.cells #[Value.slice aa la ca] 26))
  have hw2 := hw1.alloc hw1.size (Obj.cells #[Value.slice aa la ca] 26)
  clear hx1 hy1 hv
  go_wp2_with fail
  refine (rparse_yes s _ hs h).mono ?_
  generalize w1.alloc (Obj.cells #[Value.slice aa la ca] 26) = W1 at *
  rintro e w3 ⟨⟨r, rfl, hr⟩, hb3⟩
  obtain ⟨ab, lb, cb, hsb⟩ := hr.form
  rw [hsb] at hr ⊢
  clear hsb
  have hx3 := box_alloc (box_below hb3 hx2 (lt_of_block hx2)) (Obj.cells #[Value.slice ab lb cb] 29)
  have hy3 := box_alloc (box_below hb3 hy2 (lt_of_block hy2)) (Obj.cells #[Value.slice ab lb cb] 29)
  have hz3 := box_alloc (box_below hb3 hz2 (lt_of_block hz2)) (Obj.cells #[Value.slice ab lb cb] 29)
  have hu3 := box_new w3 (Obj.cells #[Value.slice ab lb cb] 29)
  have hw3 : Below w.heap.size w (w3.alloc (Obj.cells #[Value.slice ab lb cb] 29)) := (hw2.trans (hb3.mono hw2.size)).alloc (by have := hw2.size; have := hb3.size; omega) _
  have hv3 := (hv2.below hb3).below ((Below.refl _ _).alloc (Nat.le_refl _) (Obj.cells #[Value.slice ab lb cb] 29))
  have hr3 := hr.below ((Below.refl _ _).alloc (Nat.le_refl _) (Obj.cells #[Value.slice ab lb cb] 29))
  have l3 : w1.heap.size < w3.heap.size := lt_of_block (box_below hb3 hz2 (lt_of_block hz2))
  clear hx2 hy2 hz2 hv2 hw2 hb3 hr
  go_wp2
  generalize w3.alloc (Obj.cells #[Value.slice ab lb cb] 29) = W3 at *
  have cz := cell_of_one hz3
  have cu := cell_of_one hu3
  have cx := cell_of_one hx3
  have cy := cell_of_one hy3
  have fx := free_of_one hx3
  have fy := free_of_one hy3
  have HX := hid (And.intro hx3 hy3)
  clear hz3 hu3 hx3 hy3
  go_region
  go_wp2
  have k1 := one_setCell (u := Value.slice aa la ca) HX.out.1
  have k2 := box_set HX.out.2 (show w.heap.size + 1 ≠ w.heap.size by omega) (Value.slice aa la ca)
  have k3 := box_set k1 (show w.heap.size ≠ w.heap.size + 1 by omega) (Value.slice ab lb cb)
  have k4 := one_setCell (u := Value.slice ab lb cb) k2
  have n1 := (hv3.box HX.out.1 (by decide) (Value.slice aa la ca)).box k2 (by decide) (Value.slice ab lb cb)
  have n2 := (hr3.box HX.out.1 (by decide) (Value.slice aa la ca)).box k2 (by decide) (Value.slice ab lb cb)
  have n3 := (hw3.setCell (p := ⟨w.heap.size, 0, none⟩) (Nat.le_refl _) (Value.slice aa la ca)).setCell (p := ⟨w.heap.size + 1, 0, none⟩) (Nat.le_succ _) (Value.slice ab lb cb)
  exact bodyPost_ret (v := .tuple #[.agg #[.slice aa la ca], .agg #[.slice ab lb cb], .bool true, .bool true]) (by simp [results, Tryd.results9, go_sem, cell_of_one k3, cell_of_one k4]) rfl ⟨⟨_, _, rfl, n1, n2⟩, n3.drew⟩
set_option maxHeartbeats 1000000 in
theorem number_no (s : ByteArray) (w : World) (hs : s.size ≤ 1000000000) (h : ¬ Txt s) :
    Calls Tryd.prog 9 #[.string s] w fun e w' => e = .returned (.tuple #[.agg #[.slice none 0 0], .agg #[.slice none 0 0], .bool false, .bool true]) ∧ Below w.heap.size w w' := by
  have hx0 : ((w.alloc (Obj.cells #[Value.slice none 0 0] 26)).alloc (Obj.cells #[Value.slice none 0 0] 29)).heap[w.heap.size]? = some (Obj.cells #[Value.slice none 0 0] 26) := box_alloc (box_new _ _) _
  have hy0 : ((w.alloc (Obj.cells #[Value.slice none 0 0] 26)).alloc (Obj.cells #[Value.slice none 0 0] 29)).heap[w.heap.size + 1]? = some (Obj.cells #[Value.slice none 0 0] 29) := by
    have := box_new (w.alloc (Obj.cells #[Value.slice none 0 0] 26)) (Obj.cells #[Value.slice none 0 0] 29); simpa using this
  have hw0 : Below w.heap.size w ((w.alloc (Obj.cells #[Value.slice none 0 0] 26)).alloc (Obj.cells #[Value.slice none 0 0] 29)) := ((Below.refl _ _).alloc (Nat.le_refl _) _).alloc (by simp) _
  go_enter Tryd.func9, Tryd.ntmps9
  go_wp2_with fail
  refine (parse_no s _ hs h).mono ?_
  generalize (w.alloc (Obj.cells #[Value.slice none 0 0] 26)).alloc (Obj.cells #[Value.slice none 0 0] 29) = W0 at *
  rintro e w1 ⟨rfl, hb1⟩
  have hx1 := box_below hb1 hx0 (lt_of_block hx0)
  have hy1 := box_below hb1 hy0 (lt_of_block hy0)
  have hw1 : Below w.heap.size w w1 := hw0.trans (hb1.mono hw0.size)
  have l2 : w.heap.size + 1 < w1.heap.size := lt_of_block hy1
  clear hb1 hx0 hy0 hw0
  have hx2 := box_alloc hx1 (Obj.cells #[Value.slice none 0 0] 26)
  have hy2 := box_alloc hy1 (Obj.cells #[Value.slice none 0 0] 26)
  have hz2 := box_new w1 (Obj.cells #[Value.slice none 0 0] 26)
  have hw2 := hw1.alloc hw1.size (Obj.cells #[Value.slice none 0 0] 26)
  clear hx1 hy1
  go_wp2_with fail
  refine (rparse_no s _ hs h).mono ?_
  generalize w1.alloc (Obj.cells #[Value.slice none 0 0] 26) = W1 at *
  rintro e w3 ⟨rfl, hb3⟩
  have hx3 := box_alloc (box_below hb3 hx2 (lt_of_block hx2)) (Obj.cells #[Value.slice none 0 0] 29)
  have hy3 := box_alloc (box_below hb3 hy2 (lt_of_block hy2)) (Obj.cells #[Value.slice none 0 0] 29)
  have hz3 := box_alloc (box_below hb3 hz2 (lt_of_block hz2)) (Obj.cells #[Value.slice none 0 0] 29)
  have hu3 := box_new w3 (Obj.cells #[Value.slice none 0 0] 29)
  have hw3 : Below w.heap.size w (w3.alloc (Obj.cells #[Value.slice none 0 0] 29)) := (hw2.trans (hb3.mono hw2.size)).alloc (by have := hw2.size; have := hb3.size; omega) _
  have l3 : w1.heap.size < w3.heap.size := lt_of_block (box_below hb3 hz2 (lt_of_block hz2))
  clear hx2 hy2 hz2 hw2 hb3
  go_wp2
  generalize w3.alloc (Obj.cells #[Value.slice none 0 0] 29) = W3 at *
  have cz := cell_of_one hz3
  have cu := cell_of_one hu3
  have cx := cell_of_one hx3
  have cy := cell_of_one hy3
  have fx := free_of_one hx3
  have fy := free_of_one hy3
  have HX := hid (And.intro hx3 hy3)
  clear hz3 hu3 hx3 hy3
  go_region
  go_wp2
  have k1 := one_setCell (u := Value.slice none 0 0) HX.out.1
  have k2 := box_set HX.out.2 (show w.heap.size + 1 ≠ w.heap.size by omega) (Value.slice none 0 0)
  have k3 := box_set k1 (show w.heap.size ≠ w.heap.size + 1 by omega) (Value.slice none 0 0)
  have k4 := one_setCell (u := Value.slice none 0 0) k2
  have n3 := (hw3.setCell (p := ⟨w.heap.size, 0, none⟩) (Nat.le_refl _) (Value.slice none 0 0)).setCell (p := ⟨w.heap.size + 1, 0, none⟩) (Nat.le_succ _) (Value.slice none 0 0)
  exact bodyPost_ret (v := .tuple #[.agg #[.slice none 0 0], .agg #[.slice none 0 0], .bool false, .bool true]) (by simp [results, Tryd.results9, go_sem, cell_of_one k3, cell_of_one k4]) rfl ⟨rfl, n3.drew⟩
/-- number, whatever the text: the third answer tells whether it is a number's; the fourth is true. -/
theorem number_any (s : ByteArray) (w : World) (hs : s.size ≤ 1000000000) :
    Calls Tryd.prog 9 #[.string s] w fun e w' => (∃ ao l c ar lr cr b, e = .returned (.tuple #[.agg #[.slice ao l c], .agg #[.slice ar lr cr], .bool b, .bool true]) ∧
      (b = true → Txt s ∧ NatIs w' (.agg #[.slice ao l c]) (num s) (s.size / 9 + 1) ∧ RefIs w' (.agg #[.slice ar lr cr]) (num s) (s.size / 9 + 1))) ∧ Below w.heap.size w w' := by
  by_cases h : Txt s
  · refine (number_yes s w hs h).mono ?_
    rintro e w' ⟨⟨v, r, rfl, hv, hr⟩, hw⟩
    obtain ⟨ao, l, c, rfl⟩ := hv.form
    obtain ⟨ar, lr, cr, rfl⟩ := hr.form
    exact ⟨⟨ao, l, c, ar, lr, cr, true, rfl, fun _ => ⟨h, hv, hr⟩⟩, hw⟩
  · refine (number_no s w hs h).mono ?_
    rintro e w' ⟨rfl, hw⟩
    exact ⟨⟨none, 0, 0, none, 0, 0, false, rfl, fun h => by simp at h⟩, hw⟩
end Go.Proofs.YtciecncdejlkkaaDoor
