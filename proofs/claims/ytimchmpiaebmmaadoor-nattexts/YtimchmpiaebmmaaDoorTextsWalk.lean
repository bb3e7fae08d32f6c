/- NatTexts: what the call answers. -/
import Derived.Test.YtimchmpiaebmmaaDoorText
import Derived.Test.YtimchmpiaebmmaaDoorROf
import Derived.Test.YtimchmpiaebmmaaDoorRText
import Derived.Test.YtimchmpiaebmmaaDoorOf
namespace Go.Proofs.YtimchmpiaebmmaaDoor
open Go.RowKit
set_option linter.unusedVariables false
set_option maxRecDepth 100000
set_option linter.unusedSimpArgs false

set_option maxHeartbeats 2000000 in
theorem texts_law (s : ByteArray) (n : Nat) (hn : n < 18446744073709551616) (w : World) (hs0 : s.size ≤ maxLen) (htab : Tab w) :
    Calls Tryd.prog 4 #[.string s, .int .u64 n] w fun e w' => e = .returned (.bool true) ∧ Below w.heap.size w w' := by
  unfold maxLen at hs0
  by_cases hs : s.size ≤ 2048
  case neg =>
    have hs' : ¬ (s.size : Int) ≤ 2048 := by omega
    go_enter Tryd.func4, Tryd.ntmps4
    go_wp2
    go_ret
    exact ⟨rfl, Below.refl _ _⟩
  clear hs0
  go_enter Tryd.func4, Tryd.ntmps4
  go_wp2_with fail
  refine (number_any s _ (by omega)).mono ?_
  rintro e u1 ⟨⟨aa, la, ca, ar1, lr1, cr1, b1, rfl, f1⟩, hb1⟩
  have c1 := boxed2 hb1 (Obj.cells #[Value.slice aa la ca] 26) (Obj.cells #[Value.slice ar1 lr1 cr1] 29)
  have d1 := boxed2 (Below.refl u1.heap.size u1) (Obj.cells #[Value.slice aa la ca] 26) (Obj.cells #[Value.slice ar1 lr1 cr1] 29)
  have p1 := boxed2_first u1 (Obj.cells #[Value.slice aa la ca] 26) (Obj.cells #[Value.slice ar1 lr1 cr1] 29)
  have F1 := hid f1
  clear f1 hb1
  go_wp2_with fail
  generalize (u1.alloc (Obj.cells #[Value.slice aa la ca] 26)).alloc (Obj.cells #[Value.slice ar1 lr1 cr1] 29) = W at *
  refine (of_any n hn _).mono ?_
  rintro e w2 ⟨v2, rfl, n2, hb2⟩
  have c2 := chain2 c1 hb2
  have p2 := box_below hb2 p1 (lt_of_block p1)
  obtain ⟨a2, l2, k2, hv2⟩ := n2.form
  rw [hv2] at n2 ⊢
  go_wp2_with fail
  refine (text_any _ _ _ _ (by omega) n2 (htab.below c2)).mono ?_
  rintro e w3 ⟨⟨s3, rfl, t3, m3⟩, hb3⟩
  have c3 := chain2 c2 hb3
  have p3 := box_below hb3 p2 (lt_of_block p2)
  have T3 := hid (And.intro t3 m3)
  clear hv2 n2 t3 m3
  go_wp2_with fail
  refine (rof_any n hn _).mono ?_
  rintro e w4 ⟨v4, rfl, n4, hb4⟩
  have c4 := chain2 c3 hb4
  have p4 := box_below hb4 p3 (lt_of_block p3)
  obtain ⟨a4, l4, k4, hv4⟩ := n4.form
  rw [hv4] at n4 ⊢
  go_wp2_with fail
  refine (rtext_any _ _ _ _ (by omega) n4).mono ?_
  rintro e w5 ⟨⟨s5, rfl, t5, m5⟩, hb5⟩
  have c5 := chain2 c4 hb5
  have p5 := box_below hb5 p4 (lt_of_block p4)
  have he : s5 = s3 := num_inj t5 T3.out.1 (by rw [m5, T3.out.2])
  rw [he]
  have q5 := cell_of_one p5
  have hbw : Below u1.heap.size u1 w5 := ((d1.trans (hb2.mono d1.size)).trans (hb3.mono (by have := d1.size; have := hb2.size; omega))).trans ((hb4.mono (by have := d1.size; have := hb2.size; have := hb3.size; omega)).trans (hb5.mono (by have := d1.size; have := hb2.size; have := hb3.size; have := hb4.size; omega)))
  have tab5 := htab.below c5
  clear hv4 n4 t5 m5 he p1 p2 p3 p4 p5 hb2 hb3 hb4 hb5 d1 c1 c2 c3 c4
  cases b1
  · go_wp2
    go_ret
    exact ⟨rfl, c5⟩
  · obtain ⟨ts, ns, _⟩ := F1.out rfl
    have ns5 := ns.below hbw
    have TS := hid ts
    clear F1 ns ts hbw
    go_wp2_with fail
    refine (text_any _ _ _ _ (by omega) ns5 tab5).mono ?_
    rintro e w6 ⟨⟨s6, rfl, t6, m6⟩, hb6⟩
    have c6 := chain2 c5 hb6
    have he : s6 = s := num_inj t6 TS.out m6
    rw [he]
    clear he t6 m6
    go_wp2
    go_ret
    exact ⟨rfl, c6⟩
end Go.Proofs.YtimchmpiaebmmaaDoor
