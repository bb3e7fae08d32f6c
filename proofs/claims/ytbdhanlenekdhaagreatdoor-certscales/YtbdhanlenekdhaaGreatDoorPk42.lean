/- HRead, HFeas, CLawM. -/
import Derived.Test.YtbdhanlenekdhaaGreatDoorPk34
import Derived.Test.YtbdhanlenekdhaaGreatDoorZHTim
import Derived.Test.YtbdhanlenekdhaaGreatDoorPk14
import Derived.Deep.RegionHeld3
/- cert: the document: read, Value, Bound, stands. -/
namespace Go.Proofs.YtbdhanlenekdhaaGreatDoor
open Go.RowKit
set_option linter.unusedVariables false
set_option maxRecDepth 100000
set_option linter.unusedSimpArgs false

theorem rd_ne' (P : Prb) (S : List ByteArray) (n : Nat) : rdE P S n ≠ 0 := by
  unfold rdE
  split
  · assumption
  · split <;> omega
set_option maxHeartbeats 6400000 in
theorem hread_any (w : World) (rv ev bv cv sv : Value) (P : Prb) (S : List ByteArray) (n : Nat) (hp : IsPrb w rv ev bv cv P) (hs : Strs w sv S) (hsz : chk P = 0 → ∀ s ∈ S, s.size ≤ 600) (hn0 : chk P = 0 → n ≤ 64) (hn1 : n ≤ 9223372036854775807) :
    Calls Tryz.prog 46 #[.agg #[rv, ev, bv, cv], sv, .int .i64 (n : Int)] w fun e w' =>
      HRd P S n e w' ∧ Below w.heap.size w w' := by
  obtain ⟨ra, rc, rfl, rl, rm⟩ := hp.rows.slice
  obtain ⟨ea, ec, rfl, el, em⟩ := hp.rel.slice
  obtain ⟨ba, bc, rfl, bl, bm⟩ := hp.b.slice
  obtain ⟨ca, cc, rfl, cl, cm⟩ := hp.c.slice
  obtain ⟨sa, sc, rfl, sl, sm⟩ := hs.slice
  unfold maxLen at rm em bm cm sm
  have b0 := (Below.refl w.heap.size w).alloc (Nat.le_refl _) (Obj.cells #[.slice ra P.rows.length rc, .slice ea P.rel.length ec, .slice ba P.b.length bc, .slice ca P.c.length cc] 32)
  have x0 := box_new w (Obj.cells #[.slice ra P.rows.length rc, .slice ea P.rel.length ec, .slice ba P.b.length bc, .slice ca P.c.length cc] 32)
  have y0 := bxc x0 0 (.slice ra P.rows.length rc) rfl
  have y1 := bxc x0 1 (.slice ea P.rel.length ec) rfl
  have y2 := bxc x0 2 (.slice ba P.b.length bc) rfl
  have y3 := bxc x0 3 (.slice ca P.c.length cc) rfl
  have HPB := hid x0
  have HP := hid (hp.below b0)
  have HB0 := hid b0
  have HS := hid (hs.below b0)
  have HSZ := hid hsz
  clear hp hs b0 x0 hsz
  go_enter Tryz.func46, Tryz.ntmps46
  go_wp2_with fail
  generalize w.alloc (Obj.cells #[.slice ra P.rows.length rc, .slice ea P.rel.length ec, .slice ba P.b.length bc, .slice ca P.c.length cc] 32) = W at *
  refine (hCheck_any W _ _ _ _ P HP.out).mono ?_
  rintro e X1 ⟨rfl, bX1⟩
  have B1 := chain2 HB0.out bX1
  have HS1 := hid (HS.out.below bX1)
  clear y0 y1 y2 y3 bX1
  by_cases hck : chk P = 0
  case neg =>
    have hck1 : (chk P == 0) = false := beq_eq_false_iff_ne.2 hck
    have HER := hid (show rdE P S n = chk P from by unfold rdE; rw [if_pos hck])
    have HNO := hid (show ¬ (chk P = 0 ∧ S.length = n ∧ ∃ X, Nums S X) from fun hh => hck hh.1)
    go_wp2
    go_ret2
    exact ⟨Or.inr ⟨HNO.out, by rw [HER.out]; rfl⟩, B1⟩
  have hn := hn0 hck
  have HER := hid (show rdE P S n = if S.length ≠ n then 120 else 10 by unfold rdE; rw [if_neg (by omega)])
  have HCK := hid hck
  rw [hck]
  clear hck
  by_cases hln : S.length = n
  case neg =>
    have hln1 : ((S.length : Int) == (n : Int)) = false := beq_eq_false_iff_ne.2 (by omega)
    have hln2 : ¬ (S.length : Int) = (n : Int) := by omega
    have HNO := hid (show ¬ (chk P = 0 ∧ S.length = n ∧ ∃ X, Nums S X) from fun hh => hln hh.2.1)
    have HE2 := hid (show rdE P S n = 120 by rw [HER.out, if_pos hln])
    go_wp2
    go_ret2
    exact ⟨Or.inr ⟨HNO.out, by rw [HE2.out]; rfl⟩, B1⟩
  subst hln
  have HE2 := hid (show rdE P S S.length = 10 by rw [HER.out, if_neg (by omega)])
  go_wp2_with fail
  refine (hNumbers_any X1 _ S HS1.out (HSZ.out HCK.out) (by omega)).mono ?_
  rintro e X2 ⟨hr, bX2⟩
  have B2 := chain2 B1 bX2
  rcases hr with ⟨X, tv, C, hnu, rfl, hl⟩ | ⟨hno, rfl⟩
  · have HNU := hid hnu
    have HL := hid hl
    obtain ⟨ta, tc, rfl, _, _⟩ := hl.slice
    clear hnu hl bX2
    go_wp2
    go_ret2
    exact ⟨Or.inl ⟨HCK.out, rfl, X, _, _, C, HNU.out, rfl, HL.out⟩, B2⟩
  · have HNO := hid hno
    clear hno bX2
    go_wp2
    go_ret2
    exact ⟨Or.inr ⟨fun hh => HNO.out hh.2.2, by rw [HE2.out]; rfl⟩, B2⟩
set_option maxHeartbeats 6400000 in
theorem hValue_any (w : World) (rv ev bv cv sv : Value) (P : Prb) (S : List ByteArray) (hp : IsPrb w rv ev bv cv P) (hs : Strs w sv S) (hsz : chk P = 0 → ∀ s ∈ S, s.size ≤ 600) :
    Calls Tryz.prog 20 #[.agg #[rv, ev, bv, cv], sv] w fun e w' => (∃ s er, e = .returned (.tuple #[.string s, .int .i64 er]) ∧ WorS P P.c S s er) ∧ Below w.heap.size w w' := by
  obtain ⟨ra, rc, rfl, rl, rm⟩ := hp.rows.slice
  obtain ⟨ea, ec, rfl, el, em⟩ := hp.rel.slice
  obtain ⟨ba, bc, rfl, bl, bm⟩ := hp.b.slice
  obtain ⟨ca, cc, rfl, cl, cm⟩ := hp.c.slice
  obtain ⟨sa, sc, rfl, sl, sm⟩ := hs.slice
  unfold maxLen at rm em bm cm sm
  have b0 := (Below.refl w.heap.size w).alloc (Nat.le_refl _) (Obj.cells #[.slice ra P.rows.length rc, .slice ea P.rel.length ec, .slice ba P.b.length bc, .slice ca P.c.length cc] 32)
  have x0 := box_new w (Obj.cells #[.slice ra P.rows.length rc, .slice ea P.rel.length ec, .slice ba P.b.length bc, .slice ca P.c.length cc] 32)
  have y0 := bxc x0 0 (.slice ra P.rows.length rc) rfl
  have y1 := bxc x0 1 (.slice ea P.rel.length ec) rfl
  have y2 := bxc x0 2 (.slice ba P.b.length bc) rfl
  have y3 := bxc x0 3 (.slice ca P.c.length cc) rfl
  have HPB := hid x0
  have HP := hid (hp.below b0)
  have HB0 := hid b0
  have HS := hid (hs.below b0)
  have HSZ := hid hsz
  clear hp hs b0 x0 hsz
  go_enter Tryz.func20, Tryz.ntmps20
  go_wp2_with fail
  generalize w.alloc (Obj.cells #[.slice ra P.rows.length rc, .slice ea P.rel.length ec, .slice ba P.b.length bc, .slice ca P.c.length cc] 32) = W at *
  refine (hread_any W _ _ _ _ _ P S P.c.length HP.out HS.out HSZ.out (fun hh => by have := (chk_ok hh).b; have := (chk_ok hh).rl; have := (chk_ok hh).cl; omega) (by omega)).mono ?_
  rintro e X1 ⟨hr, bX1⟩
  clear y0 y1 y2 y3
  have B1 := chain2 HB0.out bX1
  have x2 := box_below bX1 HPB.out (lt_of_block HPB.out)
  have y0 := bxc x2 0 (.slice ra P.rows.length rc) rfl
  have y1 := bxc x2 1 (.slice ea P.rel.length ec) rfl
  have y2 := bxc x2 2 (.slice ba P.b.length bc) rfl
  have y3 := bxc x2 3 (.slice ca P.c.length cc) rfl
  clear x2
  rcases hr with ⟨hck, hln, X, tv, base, C, hnu, rfl, hl⟩ | ⟨hno, rfl⟩
  · have ok := chk_ok hck
    have HTM := hid (hTimes_any X1 _ X base C _ P.c (hnu.lt (HSZ.out hck)) (by rw [hnu.len, hln]; have := ok.b; have := ok.rl; have := ok.cl; omega) hl (HP.out.c.below bX1) ok.c9 (by rw [hnu.len, hln]; exact Nat.le_refl _))
    have HNU := hid hnu
    have HCK := hid hck
    have HLN := hid hln
    obtain ⟨ta, tc, rfl, _, _⟩ := hl.slice
    clear hl hnu hck hln bX1 ok
    go_wp2_with fail
    refine HTM.out.mono ?_
    rintro e X2 ⟨v2, rfl, n2, bX2⟩
    have B2 := chain2 B1 bX2
    obtain ⟨d1, d2, d3, d4, d5, d6, d7, d8, rfl⟩ := n2.form
    have HN2 := hid n2
    clear n2 bX2 y0 y1 y2 y3
    go_wp2_with fail
    refine (t_text X2 _ _ 6000 (by omega) HN2.out).mono ?_
    rintro e X3 ⟨⟨s, rfl, ht⟩, bX3⟩
    have HT := hid ht
    have B3 := chain2 B2 bX3
    clear ht bX3
    go_wp2
    go_ret2
    exact ⟨⟨s, 0, rfl, Or.inl ⟨HCK.out, HLN.out, ⟨X, HNU.out, HT.out⟩, rfl⟩⟩, B3⟩
  · have hne := rd_ne' P S P.c.length
    have HW := hid (show WorS P P.c S ByteArray.empty (rdE P S P.c.length) from Or.inr ⟨hno, rfl, rfl⟩)
    generalize rdE P S P.c.length = er at *
    have hne1 : (er == 0) = false := beq_eq_false_iff_ne.2 hne
    clear hno bX1
    go_wp2
    go_ret2
    exact ⟨⟨_, er, rfl, HW.out⟩, B1⟩
set_option maxHeartbeats 6400000 in
theorem hBound_any (w : World) (rv ev bv cv sv : Value) (P : Prb) (S : List ByteArray) (hp : IsPrb w rv ev bv cv P) (hs : Strs w sv S) (hsz : chk P = 0 → ∀ s ∈ S, s.size ≤ 600) :
    Calls Tryz.prog 22 #[.agg #[rv, ev, bv, cv], sv] w fun e w' => (∃ s er, e = .returned (.tuple #[.string s, .int .i64 er]) ∧ WorS P P.b S s er) ∧ Below w.heap.size w w' := by
  obtain ⟨ra, rc, rfl, rl, rm⟩ := hp.rows.slice
  obtain ⟨ea, ec, rfl, el, em⟩ := hp.rel.slice
  obtain ⟨ba, bc, rfl, bl, bm⟩ := hp.b.slice
  obtain ⟨ca, cc, rfl, cl, cm⟩ := hp.c.slice
  obtain ⟨sa, sc, rfl, sl, sm⟩ := hs.slice
  unfold maxLen at rm em bm cm sm
  have b0 := (Below.refl w.heap.size w).alloc (Nat.le_refl _) (Obj.cells #[.slice ra P.rows.length rc, .slice ea P.rel.length ec, .slice ba P.b.length bc, .slice ca P.c.length cc] 32)
  have x0 := box_new w (Obj.cells #[.slice ra P.rows.length rc, .slice ea P.rel.length ec, .slice ba P.b.length bc, .slice ca P.c.length cc] 32)
  have y0 := bxc x0 0 (.slice ra P.rows.length rc) rfl
  have y1 := bxc x0 1 (.slice ea P.rel.length ec) rfl
  have y2 := bxc x0 2 (.slice ba P.b.length bc) rfl
  have y3 := bxc x0 3 (.slice ca P.c.length cc) rfl
  have HPB := hid x0
  have HP := hid (hp.below b0)
  have HB0 := hid b0
  have HS := hid (hs.below b0)
  have HSZ := hid hsz
  clear hp hs b0 x0 hsz
  go_enter Tryz.func22, Tryz.ntmps22
  go_wp2_with fail
  generalize w.alloc (Obj.cells #[.slice ra P.rows.length rc, .slice ea P.rel.length ec, .slice ba P.b.length bc, .slice ca P.c.length cc] 32) = W at *
  refine (hread_any W _ _ _ _ _ P S P.b.length HP.out HS.out HSZ.out (fun hh => by have := (chk_ok hh).b; have := (chk_ok hh).rl; have := (chk_ok hh).cl; omega) (by omega)).mono ?_
  rintro e X1 ⟨hr, bX1⟩
  clear y0 y1 y2 y3
  have B1 := chain2 HB0.out bX1
  have x2 := box_below bX1 HPB.out (lt_of_block HPB.out)
  have y0 := bxc x2 0 (.slice ra P.rows.length rc) rfl
  have y1 := bxc x2 1 (.slice ea P.rel.length ec) rfl
  have y2 := bxc x2 2 (.slice ba P.b.length bc) rfl
  have y3 := bxc x2 3 (.slice ca P.c.length cc) rfl
  clear x2
  rcases hr with ⟨hck, hln, X, tv, base, C, hnu, rfl, hl⟩ | ⟨hno, rfl⟩
  · have ok := chk_ok hck
    have HTM := hid (hTimes_any X1 _ X base C _ P.b (hnu.lt (HSZ.out hck)) (by rw [hnu.len, hln]; have := ok.b; have := ok.rl; have := ok.cl; omega) hl (HP.out.b.below bX1) ok.b9 (by rw [hnu.len, hln]; exact Nat.le_refl _))
    have HNU := hid hnu
    have HCK := hid hck
    have HLN := hid hln
    obtain ⟨ta, tc, rfl, _, _⟩ := hl.slice
    clear hl hnu hck hln bX1 ok
    go_wp2_with fail
    refine HTM.out.mono ?_
    rintro e X2 ⟨v2, rfl, n2, bX2⟩
    have B2 := chain2 B1 bX2
    obtain ⟨d1, d2, d3, d4, d5, d6, d7, d8, rfl⟩ := n2.form
    have HN2 := hid n2
    clear n2 bX2 y0 y1 y2 y3
    go_wp2_with fail
    refine (t_text X2 _ _ 6000 (by omega) HN2.out).mono ?_
    rintro e X3 ⟨⟨s, rfl, ht⟩, bX3⟩
    have HT := hid ht
    have B3 := chain2 B2 bX3
    clear ht bX3
    go_wp2
    go_ret2
    exact ⟨⟨s, 0, rfl, Or.inl ⟨HCK.out, HLN.out, ⟨X, HNU.out, HT.out⟩, rfl⟩⟩, B3⟩
  · have hne := rd_ne' P S P.b.length
    have HW := hid (show WorS P P.b S ByteArray.empty (rdE P S P.b.length) from Or.inr ⟨hno, rfl, rfl⟩)
    generalize rdE P S P.b.length = er at *
    have hne1 : (er == 0) = false := beq_eq_false_iff_ne.2 hne
    clear hno bX1
    go_wp2
    go_ret2
    exact ⟨⟨_, er, rfl, HW.out⟩, B1⟩
theorem gap_lt {s e : Int} (h : e < 0) : gapT (plN e) (plN s) = decide (s ≤ 0) := by
  have : plN e = 0 := by unfold plN; rw [if_pos h]
  rw [this]
  unfold plN
  by_cases h1 : s < 0
  · rw [if_pos h1]; simp [gapT]; omega
  · rw [if_neg h1]
    by_cases h2 : s = 0
    · rw [if_pos h2]; simp [gapT]; omega
    · rw [if_neg h2]; simp [gapT]; omega
theorem gap_gt {s e : Int} (h : 0 < e) : gapT (plN e) (plN s) = decide (0 ≤ s) := by
  have : plN e = 2 := by unfold plN; rw [if_neg (by omega), if_neg (by omega)]
  rw [this]
  unfold plN
  by_cases h1 : s < 0
  · rw [if_pos h1]; simp [gapT]; omega
  · rw [if_neg h1]
    by_cases h2 : s = 0
    · rw [if_pos h2]; simp [gapT]; omega
    · rw [if_neg h2]; simp [gapT]; omega
theorem gap_eq {s e : Int} (h : e = 0) : gapT (plN e) (plN s) = (s == 0) := by
  have : plN e = 1 := by unfold plN; rw [if_neg (by omega), if_pos h]
  rw [this]
  unfold plN
  by_cases h1 : s < 0
  · rw [if_pos h1]; simp [gapT]; omega
  · rw [if_neg h1]
    by_cases h2 : s = 0
    · rw [if_pos h2]; simp [gapT]; omega
    · rw [if_neg h2]; simp [gapT]; omega
set_option maxHeartbeats 1600000 in
theorem stands_any (s e : Int) (w : World) : Calls Tryz.prog 52 #[.int .i64 s, .int .i64 e] w fun x w' => x = .returned (.bool (gapT (plN e) (plN s))) ∧ w' = w := by
  by_cases h1 : e < 0
  · have h1' : decide (e < 0) = true := by simpa using h1
    rw [gap_lt h1]
    go_enter Tryz.func52, Tryz.ntmps52
    go_wp2
    go_ret
    exact ⟨rfl, rfl⟩
  have h1' : decide (e < 0) = false := by simpa using h1
  by_cases h2 : 0 < e
  · have h2' : decide (0 < e) = true := by simpa using h2
    have h2'' : decide (e > 0) = true := by simpa using h2
    rw [gap_gt h2]
    go_enter Tryz.func52, Tryz.ntmps52
    go_wp2
    go_ret
    exact ⟨rfl, rfl⟩
  have h2' : decide (0 < e) = false := by simpa using h2
  have h2'' : decide (e > 0) = false := by simpa using h2
  rw [gap_eq (by omega : e = 0)]
  go_enter Tryz.func52, Tryz.ntmps52
  go_wp2
  go_ret
  exact ⟨rfl, rfl⟩
end Go.Proofs.YtbdhanlenekdhaaGreatDoor
/- cert: the document: Feasible. -/
namespace Go.Proofs.YtbdhanlenekdhaaGreatDoor
open Go.RowKit
set_option linter.unusedVariables false
set_option maxRecDepth 100000
set_option linter.unusedSimpArgs false

theorem sgn_lt_iff (p : Rat) : decide (sgnR p < 0) = true ↔ p < 0 := by
  unfold sgnR
  by_cases h1 : p < 0
  · simp [h1]
  · rw [if_neg h1]; split <;> simp [h1]
theorem sgn_gt_iff (p : Rat) : decide (0 < sgnR p) = true ↔ 0 < p := by
  unfold sgnR
  by_cases h1 : p < 0
  · rw [if_pos h1]; simp; grind
  · rw [if_neg h1]
    by_cases h2 : 0 < p
    · simp [h2]
    · simp [h2]
theorem sgn_sub (p q : Rat) : sgnR (p - q) = cmpR p q := by
  unfold sgnR cmpR
  have h1 : p - q < 0 ↔ p < q := by constructor <;> intro h <;> grind
  have h2 : 0 < p - q ↔ q < p := by constructor <;> intro h <;> grind
  simp only [h1, h2]
set_option maxHeartbeats 25600000 in
theorem hFeasible_any (w : World) (rv ev bv cv sv : Value) (P : Prb) (S : List ByteArray) (hp : IsPrb w rv ev bv cv P) (hs : Strs w sv S) (hsz : chk P = 0 → ∀ s ∈ S, s.size ≤ 600) (R : Bool) (hR : R = true ↔ FeaS P S) :
    Calls Tryz.prog 24 #[.agg #[rv, ev, bv, cv], sv] w fun e w' => e = .returned (.bool R) ∧ Below w.heap.size w w' := by
  obtain ⟨ra, rc, rfl, rl, rm⟩ := hp.rows.slice
  obtain ⟨ea, ec, rfl, el, em⟩ := hp.rel.slice
  obtain ⟨ba, bc, rfl, bl, bm⟩ := hp.b.slice
  obtain ⟨ca, cc, rfl, cl, cm⟩ := hp.c.slice
  obtain ⟨sa, sc, rfl, sl, sm⟩ := hs.slice
  unfold maxLen at rm em bm cm sm
  have b0 := (Below.refl w.heap.size w).alloc (Nat.le_refl _) (Obj.cells #[.slice ra P.rows.length rc, .slice ea P.rel.length ec, .slice ba P.b.length bc, .slice ca P.c.length cc] 32)
  have x0 := box_new w (Obj.cells #[.slice ra P.rows.length rc, .slice ea P.rel.length ec, .slice ba P.b.length bc, .slice ca P.c.length cc] 32)
  have y0 := bxc x0 0 (.slice ra P.rows.length rc) rfl
  have y1 := bxc x0 1 (.slice ea P.rel.length ec) rfl
  have y2 := bxc x0 2 (.slice ba P.b.length bc) rfl
  have y3 := bxc x0 3 (.slice ca P.c.length cc) rfl
  have HPB := hid x0
  have HP := hid (hp.below b0)
  have HB0 := hid b0
  have HS := hid (hs.below b0)
  have HSZ := hid hsz
  have HR0 := hid hR
  clear hp hs b0 x0 hsz hR
  go_enter Tryz.func24, Tryz.ntmps24
  go_wp2_with fail
  generalize w.alloc (Obj.cells #[.slice ra P.rows.length rc, .slice ea P.rel.length ec, .slice ba P.b.length bc, .slice ca P.c.length cc] 32) = W at *
  refine (hread_any W _ _ _ _ _ P S P.c.length HP.out HS.out HSZ.out (fun hh => by have := (chk_ok hh).b; have := (chk_ok hh).rl; have := (chk_ok hh).cl; omega) (by omega)).mono ?_
  rintro e X1 ⟨hr, bX1⟩
  clear y0 y1 y2 y3
  have B1 := chain2 HB0.out bX1
  have HPK := hid (box_below bX1 HPB.out (lt_of_block HPB.out))
  rcases hr with ⟨hck, hln, X, tv, base, C, hnu, rfl, hl⟩ | ⟨hno, rfl⟩
  · have HOK := hid (chk_ok hck)
    have HX7 := hid (hnu.lt (HSZ.out hck))
    have HX64 := hid (show X.length ≤ 64 by rw [hnu.len, hln]; exact (chk_ok hck).cl)
    have HXL := hid (show X.length = P.c.length by rw [hnu.len, hln])
    have HRR := hid (show R = true ↔ nng X ∧ gps P.rows P.rel X P.b from HR0.out.trans ⟨fun ⟨h1, h2, Y, h3, h4⟩ => by rw [hnu.uniq h3]; exact h4, fun h4 => ⟨hck, hln, X, hnu, h4⟩⟩)
    have HRF := hid (fun hh : ¬ nng X => bool_no HRR.out (fun ⟨h1, _⟩ => hh h1))
    obtain ⟨ta, tc, rfl, _, _⟩ := hl.slice
    have HP1 := hid (HP.out.below bX1)
    have HL1 := hid hl
    have HPB1 := HPK
    have HB1 := hid B1
    clear hl hnu hck hln bX1 HR0 HPB HP HS HB0
    have HP := HP1
    have HLX := HL1
    have HB0 := HB1
    have HBI := hid HP.out.b
    have HB9 := hid HOK.out.b9
    have HBBL := hid HOK.out.b
    go_wp2
    clear HP1 HL1 HPB1 HB1 B1
    generalize X1 = W at *
    obtain ⟨bb, hbb⟩ : ∃ bb, bb = P.b := ⟨_, rfl⟩
    have bw : Below W.heap.size W W := Below.refl _ _
    rw [← hbb] at HRR HBI HB9 HBBL
    have HBB := hid hbb
    clear hbb
    go_loopw [7] (fun i wr => ∃ k : Nat, k ≤ X.length ∧ i = .int .i64 (k : Int) ∧ Hid (wr.heap[w.heap.size]? = some (.cells #[.slice ra P.rows.length rc, .slice ea P.rel.length ec, .slice ba P.b.length bc, .slice ca P.c.length cc] 32 (0, 0))) ∧ Hid (nngK X k) ∧ Below W.heap.size W wr) (fun i _ => X.length - (intOf i).toNat)
    case atStart => exact ⟨0, Nat.zero_le _, rfl, HPK, fun i _ h => by omega, bw⟩
    case round =>
      clear bw HPK
      obtain ⟨k, hk, rfl, HPK, HSG, bw⟩ := hrel
      have BW := hid (chain2 HB0.out bw)
      by_cases hlt : k < X.length
      · skip
        obtain ⟨g, c', u0, u1, u2, u3, e, _, q0, q1, q2, q3, hq⟩ := (Ls.below (fun h b => h.below b) HLX.out bw).at k hlt
        simp only [Value.slice.injEq] at e
        obtain ⟨rfl, -, rfl⟩ := e
        obtain ⟨s1, s2, s3, s4, s5, s6, s7, s8, hs⟩ := hq.form
        simp only [Value.agg.injEq, Array.mk.injEq, List.cons.injEq, and_true] at hs
        obtain ⟨rfl, rfl, rfl, rfl⟩ := hs
        have HYT := hid (fun hh : decide (sgnR X[k] < 0) = false => nn_succ HSG.out hlt (sgR_nn hh))
        have HNT := hid (fun hh : decide (sgnR X[k] < 0) = true => show R = false from HRF.out (fun hn => absurd (hn k hlt) (Rat.not_le.2 (sgR_neg hh))))
        have HSN := hid (t_sign wr _ _ 5100 (by omega) hq)
        clear hq HSG
        generalize sgnR X[k] = sk at *
        go_wp2_with fail
        refine HSN.out.mono ?_
        rintro e X2 ⟨rfl, bX2⟩
        have B2 := chain2 bw bX2
        have HP2 := hid (box_below bX2 HPK.out (lt_of_block HPK.out))
        have BF := hid (chain2 BW.out bX2)
        clear bX2 q0 q1 q2 q3
        cases hcr : decide (sk < 0) with
        | true =>
          have HSF := hid (HNT.out hcr)
          go_wp2
          go_ret
          exact ⟨by rw [HSF.out]; rfl, BF.out⟩
        | false =>
          have HSF := hid (HYT.out hcr)
          go_wp2
          go_roundw
          case rel => exact ⟨k + 1, by omega, by go_num, HP2, HSF, B2⟩
          case measure => simp [intOf]; omega
      · obtain rfl : k = X.length := by omega
        have HS1 := hid (show nng X from fun i k1 => HSG.out i k1 k1)
        have HRT := hid (fun hh : gps P.rows P.rel X bb => show R = true from HRR.out.2 ⟨HS1.out, hh⟩)
        have HRN := hid (fun hh : ¬ gps P.rows P.rel X bb => bool_no HRR.out (fun ⟨_, h2⟩ => hh h2))
        have pr := bxc HPK.out 0 (.slice ra P.rows.length rc) rfl
        clear HRF HSG BW
        go_wp2
        generalize wr = W1 at *
        clear pr
        go_loopw [8] (fun i wr => ∃ j : Nat, j ≤ P.rows.length ∧ i = .int .i64 (j : Int) ∧ Hid (wr.heap[w.heap.size]? = some (.cells #[.slice ra P.rows.length rc, .slice ea P.rel.length ec, .slice ba P.b.length bc, .slice ca P.c.length cc] 32 (0, 0))) ∧ Hid (gpsK P.rows P.rel X bb j) ∧ Below W.heap.size W wr) (fun i _ => P.rows.length - (intOf i).toNat)
        case atStart => exact ⟨0, Nat.zero_le _, rfl, HPK, fun i _ _ _ h => by omega, bw⟩
        case round =>
          clear bw HPK
          obtain ⟨j, hj, rfl, HPK, HCV, bw⟩ := hrel
          have BW := hid (chain2 HB0.out bw)
          by_cases hlt : j < P.rows.length
          · obtain ⟨rb, ro, rcap, ru, re, rcell, hru⟩ := (HP.out.rows.below bw).at j hlt
            simp only [Value.slice.injEq] at re
            obtain ⟨rfl, -, rfl⟩ := re
            have hje : j < P.rel.length := by rw [HOK.out.rel]; exact hlt
            have hjb : j < bb.length := by rw [HBBL.out]; exact hlt
            obtain ⟨eb, eo, ed, ee, _, _, ff⟩ := (HP.out.rel.below bw).at j hje
            simp only [Value.slice.injEq] at ee
            obtain ⟨rfl, -, rfl⟩ := ee
            obtain ⟨kb, ko, kd, ek, _, _, fk⟩ := (HBI.out.below bw).at j hjb
            simp only [Value.slice.injEq] at ek
            obtain ⟨rfl, -, rfl⟩ := ek
            have HKJ := hid (HB9.out _ (List.getElem_mem hjb))
            have hjb2 : j < P.b.length := by rw [← HBB.out]; exact hjb
            have HTIM := hid (fun (Y : World) (bY : Below wr.heap.size wr Y) => hTimes_any Y _ X base C ru P.rows[j] HX7.out HX64.out (Ls.below (fun h b => h.below b) HLX.out (chain2 bw bY)) (hru.below bY) (HOK.out.r9 _ (List.getElem_mem hlt)) (by rw [HOK.out.c _ (List.getElem_mem hlt), HXL.out]; exact Nat.le_refl _))
            have HYES := hid (fun hh : gapT (plN P.rel[j]) (plN (cmpR (dot P.rows[j] X) (bb[j] : Rat))) = true => gp_succ HCV.out hlt hje hjb hh)
            have HNO := hid (fun hh : gapT (plN P.rel[j]) (plN (cmpR (dot P.rows[j] X) (bb[j] : Rat))) = false => HRN.out (fun hg => by have := hg j hlt hje hjb; rw [hh] at this; cases this))
            have HSIG := hid (fun (Y : World) (v : Value) (hv : TIs Y v (dot P.rows[j] X - (bb[j] : Rat)) (2 * (6000 + 3) + 6)) => t_sign Y v _ _ (by omega) hv)
            rw [sgn_sub] at HSIG
            obtain ⟨ua, uc, hue, _, hum⟩ := hru.slice
            subst hue
            clear HCV hru
            generalize cmpR (dot P.rows[j] X) (bb[j] : Rat) = cr at *
            generalize P.rows[j].length = rowl at *
            generalize dot P.rows[j] X = D at *
            generalize bb[j] = bj at *
            generalize P.rel[j] = rk at *
            have pr0 := bxc HPK.out 0 (.slice (some ⟨rb, ro, none⟩) P.rows.length rc) rfl
            have pe0 := bxc HPK.out 1 (.slice (some ⟨eb, eo, none⟩) P.rel.length ec) rfl
            have pk0 := bxc HPK.out 2 (.slice (some ⟨kb, ko, none⟩) P.b.length bc) rfl
            have HST := hid (fun (s n : Int) (Y : World) => stands_any s n Y)
            have F0 : Below wr.heap.size wr wr.drew := below_drew1 wr
            have HKx := hid (fun (Y : World) (k : Below wr.heap.size wr Y) => show (Y.cell? ⟨w.heap.size, 0, none⟩ = some (.slice (some ⟨rb, ro, none⟩) P.rows.length rc) ∧ Y.cell? ⟨w.heap.size, 1, none⟩ = some (.slice (some ⟨eb, eo, none⟩) P.rel.length ec) ∧ Y.cell? ⟨w.heap.size, 2, none⟩ = some (.slice (some ⟨kb, ko, none⟩) P.b.length bc) ∧ Y.cell? ⟨rb, ro + j, none⟩ = some (.slice ua rowl uc) ∧ Y.cell? ⟨eb, eo + j, none⟩ = some (.int .i64 rk) ∧ Y.cell? ⟨kb, ko + j, none⟩ = some (.int .i64 bj)) from ⟨kc' k pr0, kc' k pe0, kc' k pk0, kc' k rcell, kc' k ff, kc' k fk⟩)
            go_wp2_with fail
            go_region_held3 (fun Z => Z.cell? ⟨w.heap.size, 0, none⟩ = some (.slice (some ⟨rb, ro, none⟩) P.rows.length rc) ∧ Z.cell? ⟨w.heap.size, 1, none⟩ = some (.slice (some ⟨eb, eo, none⟩) P.rel.length ec) ∧ Z.cell? ⟨w.heap.size, 2, none⟩ = some (.slice (some ⟨kb, ko, none⟩) P.b.length bc) ∧ Z.cell? ⟨rb, ro + j, none⟩ = some (.slice ua rowl uc) ∧ Z.cell? ⟨eb, eo + j, none⟩ = some (.int .i64 rk) ∧ Z.cell? ⟨kb, ko + j, none⟩ = some (.int .i64 bj)) (first | exact HKx.out _ F4 | exact HKx.out _ F3 | exact HKx.out _ F2 | exact HKx.out _ F1 | exact HKx.out _ F0) (first
              | (go_at_call 51; have gk := F3; refine (HSIG.out _ _ nS).mono ?_; rintro e YG ⟨rfl, bb⟩; have F4 := chain2 F3 bb)
              | (go_at_call 53; have gk := F2; refine (t_sub _ _ _ D (bj : Rat) 6000 (by omega) nT2 nO (by omega)).mono ?_; rintro e YS ⟨vS, rfl, nS, bb⟩; have F3 := chain2 F2 bb)
              | (go_at_call 15; have gk := F1; refine (t_of _ bj HKJ.out.1 HKJ.out.2).mono ?_; rintro e YO ⟨vO, rfl, nO', bb⟩; have F2 := chain2 F1 bb; have nO := nO'.mono (show 3 ≤ 6000 by omega); have nT2 := nT.below bb)
              | (go_at_call 49; have gk := F0; refine (HTIM.out _ F0).mono ?_; rintro e YT ⟨vT, rfl, nT, bb⟩; have F1 := chain2 F0 bb)
              | (go_at_call 52; refine (HST.out _ _ _).mono ?_; rintro e Z ⟨rfl, hZ⟩; subst hZ))
            have FF := F4
            have BF := chain2 bw FF
            have BG := hid (chain2 HB0.out BF)
            have HPF := hid (box_below FF HPK.out (lt_of_block HPK.out))
            clear FF F0 HKx HST HTIM HSIG
            generalize gapT (plN rk) (plN cr) = gg at *
            cases gg with
            | true =>
              have HSF := hid (HYES.out rfl)
              go_wp2
              go_roundw
              case rel => exact ⟨j + 1, by omega, by go_num, HPF, HSF, by first | exact BF | exact BF.drew | exact below_dn BF _⟩
              case measure => simp [intOf]; omega
            | false =>
              have HSF := hid (HNO.out rfl)
              go_wp2
              go_ret
              exact ⟨by rw [HSF.out]; rfl, by first | exact BG.out | exact BG.out.drew | exact below_dn BG.out _⟩
          · obtain rfl : j = P.rows.length := by omega
            have pr := bxc HPK.out 0 (.slice ra P.rows.length rc) rfl
            have HF := hid (HRT.out (fun i h1 h2 h3 => HCV.out i h1 h2 h3 h1))
            go_wp2
            go_ret
            exact ⟨by rw [HF.out]; rfl, BW.out⟩
  · have hne := rd_ne' P S P.c.length
    have HF := hid (bool_no HR0.out (fun ⟨h1, h2, X, h3, _⟩ => hno ⟨h1, h2, X, h3⟩))
    generalize rdE P S P.c.length = er at *
    have hne1 : (er == 0) = false := beq_eq_false_iff_ne.2 hne
    clear hno bX1
    go_wp2
    go_ret
    exact ⟨by rw [HF.out]; rfl, B1⟩
end Go.Proofs.YtbdhanlenekdhaaGreatDoor
/- cert: what the laws use. -/
namespace Go.Proofs.YtbdhanlenekdhaaGreatDoor
open Go.RowKit
set_option linter.unusedVariables false
set_option maxRecDepth 100000
set_option linter.unusedSimpArgs false

theorem strRows1 {X : World} {b : Nat} {a1 : Option Addr} {l1 c1 : Nat} {S : List ByteArray} (h : X.heap[b]? = some (.cells #[.slice a1 l1 c1] 26 (0, 0))) (h1 : Strs X (.slice a1 l1 c1) S) : StrRows X (.slice (some ⟨b, 0, none⟩) 1 1) [S] := by
  refine ⟨[.slice a1 l1 c1], Row1.of_block (L := [.slice a1 l1 c1]) h (by unfold maxLen; simp), rfl, fun i k1 k2 => ?_⟩
  have : i = 0 := by simp at k1; omega
  subst this
  exact h1
theorem strRows2 {X : World} {b : Nat} {a1 a2 : Option Addr} {l1 c1 l2 c2 : Nat} {S T : List ByteArray} (h : X.heap[b]? = some (.cells #[.slice a1 l1 c1, .slice a2 l2 c2] 26 (0, 0))) (h1 : Strs X (.slice a1 l1 c1) S) (h2 : Strs X (.slice a2 l2 c2) T) : StrRows X (.slice (some ⟨b, 0, none⟩) 2 2) [S, T] := by
  refine ⟨[.slice a1 l1 c1, .slice a2 l2 c2], Row1.of_block (L := [.slice a1 l1 c1, .slice a2 l2 c2]) h (by unfold maxLen; simp), rfl, fun i k1 k2 => ?_⟩
  have : i = 0 ∨ i = 1 := by simp at k1; omega
  rcases this with rfl | rfl
  · exact h1
  · exact h2
theorem strRows3 {X : World} {b : Nat} {a1 a2 a3 : Option Addr} {l1 c1 l2 c2 l3 c3 : Nat} {S T U : List ByteArray} (h : X.heap[b]? = some (.cells #[.slice a1 l1 c1, .slice a2 l2 c2, .slice a3 l3 c3] 26 (0, 0))) (h1 : Strs X (.slice a1 l1 c1) S) (h2 : Strs X (.slice a2 l2 c2) T) (h3 : Strs X (.slice a3 l3 c3) U) : StrRows X (.slice (some ⟨b, 0, none⟩) 3 3) [S, T, U] := by
  refine ⟨[.slice a1 l1 c1, .slice a2 l2 c2, .slice a3 l3 c3], Row1.of_block (L := [.slice a1 l1 c1, .slice a2 l2 c2, .slice a3 l3 c3]) h (by unfold maxLen; simp), rfl, fun i k1 k2 => ?_⟩
  have : i = 0 ∨ i = 1 ∨ i = 2 := by simp at k1; omega
  rcases this with rfl | rfl | rfl
  · exact h1
  · exact h2
  · exact h3
theorem szM_of {M : List (List ByteArray)} {S : List ByteArray} (h : S ∈ M) : szL S ≤ szM M := by
  induction M with
  | nil => cases h
  | cons x M ih =>
    unfold szM
    rw [List.map_cons, List.sum_cons]
    rcases List.mem_cons.1 h with rfl | h
    · omega
    · have := ih h
      unfold szM at this
      omega
theorem sz_le {M : List (List ByteArray)} {S : List ByteArray} (h : S ∈ M) (k : szM M ≤ 256) : ∀ s ∈ S, s.size ≤ 600 := fun s hs => by
  have := szM_of h
  have := szL_mem hs
  omega
theorem txt_len {s : ByteArray} {m : Nat} (h : Txt s) (k : num s < 10 ^ m) (hm : 1 ≤ m) : s.size ≤ m := by
  apply Decidable.byContradiction
  intro hn
  obtain ⟨h0, h1, h2⟩ := h
  have h3 := dv_ge (s := s) (s.size - 1) (by have := h1 (by omega); have := h2 0 (by omega); omega)
  rw [show s.size - 1 + 1 = s.size by omega] at h3
  have h4 : 10 ^ m ≤ 10 ^ (s.size - 1) := Nat.pow_le_pow_right (by decide) (by omega)
  unfold num at k
  omega
theorem ztx_len {s : ByteArray} {z : Int} {m : Nat} (h : ZTx s z) (k : z.natAbs < 10 ^ m) (hm : 1 ≤ m) : s.size ≤ m + 1 := by
  rcases h with ⟨_, h1, h2⟩ | ⟨_, t, rfl, h1, h2⟩
  · have := txt_len h1 (by rw [h2]; exact k) hm; omega
  · have := txt_len h1 (by rw [h2]; exact k) hm
    rw [minus_size]; omega
theorem txr_len {s : ByteArray} {q : Rat} {m : Nat} (h : TxR s q) (k : Lt10 m q) (hm : 1 ≤ m) : s.size ≤ 2 * m + 3 := by
  rcases h with ⟨_, h1⟩ | ⟨_, a, b, h1, h2, rfl⟩
  · have := ztx_len h1 k.1 hm; omega
  · have e1 := ztx_len h1 k.1 hm
    have e2 := ztx_len h2 (by rw [Int.natAbs_natCast]; exact k.2) hm
    rw [slash_size]; omega
theorem dot_lt47 {f : List Int} {X : List Rat} (hf : In9 f) (hX : ∀ x ∈ X, Lt10 700 x) (hl : f.length ≤ X.length) (h64 : X.length ≤ 64) : Lt10 47000 (dot f X) := by
  have hL := dot_lt f X hf hX hl f.length (Nat.le_refl _)
  rw [List.take_length] at hL
  exact hL.mono (by omega)
theorem txr_can' {s : ByteArray} {q : Rat} (h : TxR s q) : CanR s q := ⟨h, by have := q.den_pos; omega, by rw [Int.natAbs_natCast]; exact q.reduced⟩
/-- A text of a number is parsed. -/
theorem t_parse_of (s : ByteArray) (q : Rat) (w : World) (h : TxR s q) (hs : s.size ≤ 100000) :
    Calls Tryz.prog 30 #[.string s] w fun e w' => (∃ s1 s2 s3 s4 s5 s6 s7 s8, e = .returned (.tuple #[.agg #[.bool s1, .slice s2 s3 s4, .bool s5, .slice s6 s7 s8], .int .i64 0]) ∧ TIs w' (.agg #[.bool s1, .slice s2 s3 s4, .bool s5, .slice s6 s7 s8]) q (s.size / 9 + 8)) ∧ Below w.heap.size w w' := by
  refine (t_parse s w hs).mono ?_
  rintro e w' ⟨hr, b⟩
  refine ⟨?_, b⟩
  rcases hr with ⟨q', v, hc, rfl, hv⟩ | ⟨hn, _⟩
  · obtain rfl := CanR.inj hc (txr_can' h)
    obtain ⟨s1, s2, s3, s4, s5, s6, s7, s8, rfl⟩ := hv.form
    exact ⟨s1, s2, s3, s4, s5, s6, s7, s8, rfl, hv⟩
  · exact absurd (txr_can' h) (hn q)
theorem WorS.yes {P : Prb} {f : List Int} {S : List ByteArray} {X : List Rat} {s : ByteArray} {e : Int} (h : WorS P f S s e) (hc : chk P = 0) (hl : S.length = f.length) (hX : Nums S X) : e = 0 ∧ TxR s (dot f X) := by
  rcases h with ⟨_, _, ⟨Y, h3, h4⟩, h5⟩ | ⟨h1, _, _⟩
  · rw [h3.uniq hX] at h4
    exact ⟨h5, h4⟩
  · exact absurd ⟨hc, hl, X, hX⟩ h1
/-- Where something is feasible nothing shows that nothing is. -/
theorem fea_far {P : Prb} {S T : List ByteArray} (h : FeaS P S) (k : FarS P T) : False := by
  obtain ⟨h1, h2, X, h3, h4, h5⟩ := h
  obtain ⟨k1, k2, Y, k3, ⟨k4, k5⟩, k6⟩ := k
  have ok := chk_ok h1
  have := weak_dual (c := List.replicate P.c.length 0) ok.rel ok.b (by rw [k3.len, k2, ok.b]) (by rw [List.length_replicate, h3.len, h2]) h4 h5 k4 k5
  rw [dot_zero] at this
  exact Rat.not_le.2 k6 this
theorem cmp_le {p q : Rat} (h : p ≤ q) : decide (cmpR p q ≤ 0) = true := by
  unfold cmpR
  by_cases h1 : p < q
  · simp [h1]
  · have : ¬ q < p := Rat.not_lt.2 h
    simp [h1, this]
end Go.Proofs.YtbdhanlenekdhaaGreatDoor
