/- NumTexts: what the call answers. -/
import Derived.Test.YtjldlmonccgopaaDoorZNInt
import Derived.Test.YtjldlmonccgopaaDoorPk17
namespace Go.Proofs.YtjldlmonccgopaaDoor
open Go.RowKit
set_option linter.unusedVariables false
set_option maxRecDepth 100000
set_option linter.unusedSimpArgs false
attribute [local go_sem ↓] Go.wp_at_zero Go.wp_at_succ

theorem tx_keep {W X : World} {p q : Nat} {a b c d : Value} (h1 : W.cell? ⟨p, 0, none⟩ = some a) (h2 : W.cell? ⟨p, 1, none⟩ = some b) (h3 : W.cell? ⟨q, 0, none⟩ = some c) (h4 : W.cell? ⟨q, 1, none⟩ = some d) (h : Below W.heap.size W X) :
    X.cell? ⟨p, 0, none⟩ = some a ∧ X.cell? ⟨p, 1, none⟩ = some b ∧ X.cell? ⟨q, 0, none⟩ = some c ∧ X.cell? ⟨q, 1, none⟩ = some d :=
  ⟨(h.cell (World.block_lt_of_cell? _ _ h1)).trans h1, (h.cell (World.block_lt_of_cell? _ _ h2)).trans h2, (h.cell (World.block_lt_of_cell? _ _ h3)).trans h3, (h.cell (World.block_lt_of_cell? _ _ h4)).trans h4⟩
set_option maxHeartbeats 8000000 in
theorem ntx_any (s : ByteArray) (n : Int) (w : World) (hs : s.size ≤ maxLen) (hn1 : -9223372036854775808 ≤ n) (hn2 : n < 9223372036854775808) (htab : Tab w) (her : Er w) :
    Calls Tryd.prog 3 #[.string s, .int .i64 n] w fun e w' => e = .returned (.bool true) ∧ Below w.heap.size w w' := by
  unfold maxLen at hs
  by_cases hbig : 512 < s.size
  · go_enter Tryd.func3, Tryd.ntmps3
    go_wp2
    go_ret
    exact ⟨rfl, Below.refl _ _⟩
  have hF := fit_yes hn1 hn2
  go_enter Tryd.func3, Tryd.ntmps3
  go_wp2_with fail
  refine (number2_any s _ (by omega)).mono ?_
  rintro e u1 ⟨⟨aa, la, ca, ar1, lr1, cr1, n1, b1, rfl, f1⟩, hb1⟩
  have F1 := hid f1
  clear f1
  have c1 := boxed2 hb1 (Obj.cells #[Value.slice aa la ca, Value.bool n1] 26) (Obj.cells #[Value.bool n1, Value.slice ar1 lr1 cr1] 31)
  have d1 := boxed2 (Below.refl u1.heap.size u1) (Obj.cells #[Value.slice aa la ca, Value.bool n1] 26) (Obj.cells #[Value.bool n1, Value.slice ar1 lr1 cr1] 31)
  have p1 := boxed2_first u1 (Obj.cells #[Value.slice aa la ca, Value.bool n1] 26) (Obj.cells #[Value.bool n1, Value.slice ar1 lr1 cr1] 31)
  have r1 := boxed2_second u1 (Obj.cells #[Value.slice aa la ca, Value.bool n1] 26) (Obj.cells #[Value.bool n1, Value.slice ar1 lr1 cr1] 31)
  clear hb1
  go_wp2_with fail
  generalize (u1.alloc (Obj.cells #[Value.slice aa la ca, Value.bool n1] 26)).alloc (Obj.cells #[Value.bool n1, Value.slice ar1 lr1 cr1] 31) = W1 at *
  refine (nof_any W1 n hn1 hn2).mono ?_
  rintro e u2 ⟨v2, rfl, N2, hb2⟩
  obtain ⟨ax, lx, cx, rfl, nx⟩ := N2
  obtain ⟨sx, hsx⟩ : ∃ sx, sx = decide (n < 0) := ⟨_, rfl⟩
  have N2' : NumIs u2 (Value.agg #[Value.slice ax lx cx, Value.bool sx]) n 2 := ⟨ax, lx, cx, by rw [hsx], nx⟩
  rw [← hsx]
  clear hsx nx
  have hx2 := below_alloc' hb2 (Nat.le_refl _) (Obj.cells #[Value.slice ax lx cx, Value.bool sx] 26)
  have q2 := box_new u2 (Obj.cells #[Value.slice ax lx cx, Value.bool sx] 26)
  have Nx := N2'.below ((Below.refl _ _).alloc (Nat.le_refl _) (Obj.cells #[Value.slice ax lx cx, Value.bool sx] 26))
  have g2 := chain2 c1 hx2
  have p2 := box_below hx2 p1 (lt_of_block p1)
  have r2 := box_below hx2 r1 (lt_of_block r1)
  have d2 := chain2 d1 hx2
  clear hb2 N2' c1 p1 r1 d1 hx2
  go_wp2_with fail
  generalize u2.alloc (Obj.cells #[Value.slice ax lx cx, Value.bool sx] 26) = W2 at *
  have t0 := two_cell0 q2
  have t1 := two_cell1 q2
  refine (nint_any W2 _ n 2 (by omega) Nx (htab.below g2) (her.below g2)).mono ?_
  rintro e w3 ⟨rfl, hb3⟩
  rw [hF.1, hF.2]
  have g3 := chain2 g2 hb3
  have Nx := Nx.below hb3
  have q3 := box_below hb3 q2 (lt_of_block q2)
  have p3 := box_below hb3 p2 (lt_of_block p2)
  have r3 := box_below hb3 r2 (lt_of_block r2)
  have d3 := chain2 d2 hb3
  clear hb3 q2 p2 r2 g2 d2 t0 t1
  have t0 := two_cell0 q3
  have t1 := two_cell1 q3
  go_wp2_with fail
  refine (ntext_any w3 _ n 2 (by omega) Nx (htab.below g3)).mono ?_
  rintro e w4 ⟨⟨s4, rfl, h4⟩, hb4⟩
  have g4 := chain2 g3 hb4
  have p4 := box_below hb4 p3 (lt_of_block p3)
  have r4 := box_below hb4 r3 (lt_of_block r3)
  have d4 := chain2 d3 hb4
  clear hb4 t0 t1 q3 p3 r3 g3 d3 Nx
  go_wp2_with fail
  refine (sof_any w4 n hn1 hn2).mono ?_
  rintro e w5 ⟨v5, rfl, M5, hb5⟩
  have g5 := chain2 g4 hb5
  have p5 := box_below hb5 p4 (lt_of_block p4)
  have r5 := box_below hb5 r4 (lt_of_block r4)
  have d5 := chain2 d4 hb5
  clear hb5 p4 r4 g4 d4
  go_wp2_with fail
  refine (stext_any w5 _ n 3 (by omega) M5).mono ?_
  rintro e w6 ⟨⟨s6, rfl, h6⟩, hb6⟩
  rw [h6.inj h4]
  have g6 := chain2 g5 hb6
  have p6 := box_below hb6 p5 (lt_of_block p5)
  have r6 := box_below hb6 r5 (lt_of_block r5)
  have d6 := chain2 d5 hb6
  clear hb6 p5 r5 g5 d5 M5 h4 h6 s6
  cases b1
  · go_wp2
    go_ret
    exact ⟨rfl, g6⟩
  obtain ⟨X, tx, e1, na1, ra1⟩ := F1.out rfl
  have Na : NumIs w6 (Value.agg #[Value.slice aa la ca, Value.bool n1]) X 60 := ⟨_, _, _, by rw [e1], (na1.below d6).mono (show _ ≤ 60 by omega)⟩
  have Ma : RNumIs w6 (Value.agg #[Value.bool n1, Value.slice ar1 lr1 cr1]) X 60 := ⟨_, _, _, by rw [e1], (ra1.below d6).mono (show _ ≤ 60 by omega)⟩
  have Ra : RefIs w6 (Value.agg #[Value.slice ar1 lr1 cr1]) X.natAbs 60 := (ra1.below d6).mono (show _ ≤ 60 by omega)
  have TX := hid tx
  clear F1 tx e1 na1 ra1 d6
  have t0 := two_cell0 p6
  have t1 := two_cell1 p6
  have hI := fun (v : World) (h : NumIs v (Value.agg #[Value.slice aa la ca, Value.bool n1]) X 60) (ht : Tab v) (he : Er v) => nint_any v _ X 60 (by omega) h ht he
  have hJ := fun (v : World) (h : RNumIs v (Value.agg #[Value.bool n1, Value.slice ar1 lr1 cr1]) X 60) => sint_any v _ X 60 (by omega) h
  generalize fitV X = fv at *
  generalize fitB X = fb at *
  go_wp2_with fail
  refine (hI w6 Na (htab.below g6) (her.below g6)).mono ?_
  rintro e w7 ⟨rfl, hb7⟩
  have g7 := chain2 g6 hb7
  have p7 := box_below hb7 p6 (lt_of_block p6)
  have r7 := box_below hb7 r6 (lt_of_block r6)
  have Na := Na.below hb7
  have Ma := Ma.below hb7
  have Ra := Ra.below hb7
  clear hb7 p6 r6 g6 t0 t1 hI
  have t0 := two_cell0 r7
  have t1 := two_cell1 r7
  go_wp2_with fail
  refine (hJ w7 Ma).mono ?_
  rintro e w8 ⟨rfl, hb8⟩
  have g8 := chain2 g7 hb8
  have p8 := box_below hb8 p7 (lt_of_block p7)
  have r8 := box_below hb8 r7 (lt_of_block r7)
  have Na := Na.below hb8
  have Ma := Ma.below hb8
  have Ra := Ra.below hb8
  clear hb8 p7 r7 g7 t0 t1 hJ
  have t0 := two_cell0 p8
  have t1 := two_cell1 p8
  have t2 := two_cell0 r8
  have t3 := two_cell1 r8
  have tabE := htab.below g8
  clear htab her p8 r8
  go_wp2
  have B0 : Below w8.heap.size w8 w8.drew := (Below.refl _ _).drew
  go_region_held3 (fun w' => w'.cell? ⟨u1.heap.size, 0, none⟩ = some (Value.slice aa la ca) ∧ w'.cell? ⟨u1.heap.size, 1, none⟩ = some (Value.bool n1) ∧ w'.cell? ⟨u1.heap.size + 1, 0, none⟩ = some (Value.bool n1) ∧ w'.cell? ⟨u1.heap.size + 1, 1, none⟩ = some (Value.slice ar1 lr1 cr1)) ((refine tx_keep t0 t1 t2 t3 ?_; first | exact B0 | exact B1 | exact B2 | exact B3 | exact B4 | exact B5 | exact B6 | exact B7 | exact B8 | exact B9 | exact B10)) (first
    | (have gk := B9; go_at_call 17; refine (rtext_any _ _ _ _ (by omega) (Ra.below B9)).mono ?_; rintro e w110 ⟨⟨s110, rfl, h110, e110⟩, hb110⟩; have B10 := chain2 B9 hb110; rw [num_inj h110 h109 (e110.trans e109.symm)])
    | (have gk := B8; go_at_call 16; refine (text_any _ _ _ _ (by omega) n108 (tabE.below B8)).mono ?_; rintro e w109 ⟨⟨s109, rfl, h109, e109⟩, hb109⟩; have B9 := chain2 B8 hb109)
    | (have gk := B7; go_at_call 15; refine (nabs_any _ _ _ _ (by omega) (Na.below B7)).mono ?_; rintro e w108 ⟨v108, rfl, n108, hb108⟩; have B8 := chain2 B7 hb108)
    | (have gk := B6; go_at_call 9; refine (stext_any _ _ _ _ (by omega) n106).mono ?_; rintro e w107 ⟨⟨s107, rfl, h107⟩, hb107⟩; have B7 := chain2 B6 hb107; rw [h107.inj h105])
    | (have gk := B5; go_at_call 14; refine (sneg_any _ _ _ _ (by omega) (Ma.below B5)).mono ?_; rintro e w106 ⟨v106, rfl, n106, hb106⟩; have B6 := chain2 B5 hb106)
    | (have gk := B4; go_at_call 7; refine (ntext_any _ _ _ _ (by omega) n104 (tabE.below B4)).mono ?_; rintro e w105 ⟨⟨s105, rfl, h105⟩, hb105⟩; have B5 := chain2 B4 hb105)
    | (have gk := B3; go_at_call 13; refine (nneg_any _ _ _ _ (by omega) (Na.below B3)).mono ?_; rintro e w104 ⟨v104, rfl, n104, hb104⟩; have B4 := chain2 B3 hb104)
    | (have gk := B2; go_at_call 12; refine (ssign_any _ _ _ _ (by omega) (Ma.below B2)).mono ?_; rintro e w103 ⟨rfl, hb103⟩; have B3 := chain2 B2 hb103)
    | (have gk := B1; go_at_call 11; refine (nsign_any _ _ _ _ (by omega) (Na.below B1)).mono ?_; rintro e w102 ⟨rfl, hb102⟩; have B2 := chain2 B1 hb102)
    | (go_at_call 7; refine (ntext_any _ _ _ _ (by omega) (Na.below B0) (tabE.below B0)).mono ?_; rintro e w101 ⟨⟨s101, rfl, h101⟩, hb101⟩; have B1 := chain2 B0 hb101; rw [h101.inj TX.out]))
  all_goals
    have g9 := chain2 g8 B10
    clear B0 B1 B2 B3 B4 B5 B6 B7 B8 B9 B10 hb101 hb102 hb103 hb104 hb105 hb106 hb107 hb108 hb109 hb110
    go_wp2
    go_ret
    exact ⟨rfl, g9⟩
end Go.Proofs.YtjldlmonccgopaaDoor
