/- YWeak, GLaw. -/
import Derived.Test.YtjldlmonccgopaaGreatPk33
import Derived.Test.YtjldlmonccgopaaGreatZGHelp
import Derived.Test.YtjldlmonccgopaaGreatZGDisks
import Derived.Test.YtjldlmonccgopaaGreatPk13
import Derived.Test.YtjldlmonccgopaaGreatZFLaw
/- The document's store: Add, Replace, whatever its records are. -/
namespace Go.Proofs.YtjldlmonccgopaaGreat.Rc
open Go.RowKit Go.Deep
set_option linter.unusedVariables false
set_option maxRecDepth 100000
set_option linter.unusedSimpArgs false

/-- So many records in a row of the call's own. -/
def Yw (w0 w : World) (v : Value) (m : Nat) : Prop := ∃ xs : List Value, (∀ x ∈ xs, x.oneCell' = true) ∧ w.ownsRow w0.heap.size 81 4 v m xs
theorem Yw.form {w0 w : World} {v : Value} {m : Nat} (h : Yw w0 w v m) : ∃ sa sc, v = .slice sa m sc := by
  obtain ⟨xs, _, h⟩ := h
  exact own_slice h
theorem Yw.kt {w0 w w' : World} {v : Value} {m : Nat} (h : Yw w0 w v m) (k : Kt w w') : Yw w0 w' v m := by
  obtain ⟨xs, h1, h2⟩ := h
  refine ⟨xs, h1, h2.1, ?_⟩
  rcases h2.2 with h3 | ⟨g, cap, cur, hv, hg, hh, q⟩
  · exact Or.inl h3
  · exact Or.inr ⟨g, cap, cur, hv, hg, (k g _ _ _ hh (by decide) (by decide) (by decide) (by decide) (by decide) (by decide)).trans hh, q⟩
theorem Yw.ky {y r : Nat} {w0 w w' : World} {v vL : Value} {m : Nat} (h : Yw w0 w v m) (k : Ky y w w') (hy : YAt w y r vL) : Yw w0 w' v m := by
  obtain ⟨xs, h1, h2⟩ := h
  refine ⟨xs, h1, h2.1, ?_⟩
  rcases h2.2 with h3 | ⟨g, cap, cur, hv, hg, hh, q⟩
  · exact Or.inl h3
  · exact Or.inr ⟨g, cap, cur, hv, hg, (k g _ _ _ hh (by decide) (by decide) (by decide) (by decide) (by decide) (by decide) (kind_ne hh hy.blk (by decide))).trans hh, q⟩
theorem Yw.kys {s l k' : Nat} {w0 w w' : World} {v : Value} {m : Nat} (h : Yw w0 w v m) (k : Ky s w w') (hs : StoreAt w s l k') : Yw w0 w' v m := by
  obtain ⟨xs, h1, h2⟩ := h
  refine ⟨xs, h1, h2.1, ?_⟩
  rcases h2.2 with h3 | ⟨g, cap, cur, hv, hg, hh, q⟩
  · exact Or.inl h3
  · exact Or.inr ⟨g, cap, cur, hv, hg, (k g _ _ _ hh (by decide) (by decide) (by decide) (by decide) (by decide) (by decide) (kind_ne hh hs.blk (by decide))).trans hh, q⟩
theorem Yw.below {w0 w w' : World} {v : Value} {m : Nat} (h : Yw w0 w v m) (k : Below w.heap.size w w') : Yw w0 w' v m := by
  obtain ⟨xs, h1, h2⟩ := h
  exact ⟨xs, h1, own_below h2 k⟩
theorem Row.yw {w0 w : World} {base : Nat} {v : Value} {L : List Rec} (h : Row w base v L) (hb : w0.heap.size ≤ base) : Yw w0 w v L.length := by
  obtain ⟨_, vs, h1, h2, h3⟩ := h
  refine ⟨flat L vs, flat_one L vs (fun x hx => ?_), own_mono h2 hb⟩
  obtain ⟨i, hi, rfl⟩ := List.getElem_of_mem hx
  exact (h3 i (by omega) hi).1.one
/-- What is appended. -/
def SrcG (w : World) (u : Value) (m : Nat) (xs : List Value) : Prop :=
  xs.length = m * 4 ∧ (∀ x ∈ xs, x.oneCell' = true) ∧ ((u = .slice none 0 0 ∧ m = 0) ∨ ∃ ad c, u = .slice (some ad) m c ∧ ∀ j x, xs[j]? = some x → w.cell? (ad.add j) = some x)
theorem SrcG.below {w w' : World} {u : Value} {m : Nat} {xs : List Value} (h : SrcG w u m xs) (k : Below w.heap.size w w') : SrcG w' u m xs := by
  obtain ⟨h1, h2, h3⟩ := h
  refine ⟨h1, h2, ?_⟩
  rcases h3 with h3 | ⟨ad, c, h3, h4⟩
  · exact Or.inl h3
  · exact Or.inr ⟨ad, c, h3, fun j x hx => (k.cell (by
      have := World.block_lt_of_cell? w _ (h4 j x hx)
      exact this)).trans (h4 j x hx)⟩
theorem Yw.src {w0 w : World} {v : Value} {m : Nat} (h : Yw w0 w v m) : ∃ xs, SrcG w v m xs := by
  obtain ⟨xs, h1, h2⟩ := h
  refine ⟨xs, h2.1, h1, ?_⟩
  rcases h2.2 with ⟨rfl, h0⟩ | ⟨g, cap, cur, rfl, _⟩
  · exact Or.inl ⟨rfl, h0⟩
  · exact Or.inr ⟨_, cap, rfl, h2.cells (g := g) rfl⟩
theorem SrcF.g {w : World} {u : Value} {L : List Rec} {us : List Value} (h : SrcF w u L us) : SrcG w u L.length (flat L us) := by
  obtain ⟨h1, h2, h3⟩ := h
  refine ⟨flat_len L us h1, flat_one L us h2, ?_⟩
  rcases h3 with ⟨h3, h4⟩ | h3
  · exact Or.inl ⟨h3, by rw [h4]; rfl⟩
  · exact Or.inr h3
theorem wpList_append_rows {w : World} {ops : Array Oper} {rest : List Oper} {o : Oper} {a : Act} {Q : Exit → Act → World → Prop} (hgd : o.guard = none) (s x : Operand) (ho : o.op = .call { callee := .builtin .append, args := #[s, x], argTypes := #[29, 29] })
    (base : Nat) (v : Value) (n : Nat) (xs : List Value) (hs : a.eval s = v) (hown : w.ownsRow base 81 4 v n xs) (u : Value) (m : Nat) (ys : List Value) (hx : a.eval x = u) (hsrc : SrcG w u m ys) (hn : n + m ≤ 10000000) (hbase : base ≤ w.heap.size)
    (h : ∀ sa sc w', w'.ownsRow base 81 4 (.slice sa (n + m) sc) (n + m) (xs ++ ys) → w.grownBy w' v.ownBlock → wpList Tryz.prog ops Q rest (a.put o.dst (.slice sa (n + m) sc)) w') : wpList Tryz.prog ops Q (o :: rest) a w := by
  obtain ⟨i0, hi, hz0, hz1, hz2⟩ := info_parts info_rec
  obtain ⟨h1, h2, h3⟩ := hsrc
  rcases h3 with ⟨rfl, rfl⟩ | ⟨ad, c, rfl, h3⟩
  · refine wpList_append_own_none hgd s x 29 ho base 81 i0 4 Tryz.underlying29 hi v n xs hs hown hx ?_
    obtain ⟨sa, sc, rfl⟩ := own_slice hown
    have e : ys = [] := List.eq_nil_of_length_eq_zero (by omega)
    subst e
    exact h sa sc w (by simpa using hown) ⟨rfl, rfl, rfl, Nat.le_refl _, fun _ _ _ => rfl⟩
  · refine wpList_append_own _ hgd s x 29 ho base 81 i0 (.agg #[.int .i64 0, .string ⟨#[]⟩, .slice none 0 0, .string ⟨#[]⟩]) 4 64 Tryz.underlying29 hi hz0 hz1 hz2 rfl (by decide) v n xs hs hown ad m c ys hx (by rw [h1]) h3 h2 (by unfold maxLen; omega) (by omega) hbase ?_
    intro v' w' o1 g1 _
    obtain ⟨sa, sc, rfl⟩ := own_slice o1
    exact h sa sc w' o1 g1
def YPw (w0 w w' : World) (b l c r y : Nat) (D1 : Dsk) (L1 : Lg) (X : VSt) (m m' : Nat) (e : Ending) : Prop :=
  e = .returned (.int .i64 X.E) ∧ Pr w0.heap.size w0 w' b l c r D1 L1 X.D X.t X.n X.a X.er ∧ Ky y w w' ∧ ∃ vL, YAt w' y r vL ∧ Yw w0 w' vL (if X.E = 0 then m' else m)
set_option maxHeartbeats 8000000 in
theorem y_addw {w0 w : World} {b l c r y : Nat} {D1 D : Dsk} {L1 : Lg} {t : ByteArray} {n a : Nat} {er : Int} {vL : Value} {m0 : Nat} (h : Pr w0.heap.size w0 w b l c r D1 L1 D t n a er) (hf : Fine D) (hv : VFit t n a) (ho : D.ops + 1000 < 4611686018427387904) (hy : YAt w y r vL) (hyb : w0.heap.size ≤ y) (hR : Yw w0 w vL m0) (hRl : m0 ≤ 8500000)
    (v : Value) (R : List Rec) (hv0 : IsRecs w0 v R) (hform : v = .slice none 0 0 ∨ ∃ ad n c, v = .slice (some ad) n c) (hRR : R.length ≤ 1048576) :
    Calls Tryz.prog 10 #[.pointer (some ⟨y, 0, none⟩), v] w fun e w' => YPw w0 w w' b l c r y D1 L1 (yst D t n a er R (vapp D t n a er (allT R))) m0 (m0 + R.length) e := by
  have hvw := hv0.below h.bel
  have hts := allT_size hv0.fit hRR
  have htext := ybytes_any w v R hRR hvw
  have HSRC := hid (fun W (k : Below w0.heap.size w0 W) => src_in hv0 hform k)
  obtain ⟨va, vc, rfl, _⟩ := hv0.slice
  obtain ⟨sa, sc, hvL⟩ := hR.form
  subst hvL
  have HA := hid (fun W (p : Pr w0.heap.size w0 W b l c r D1 L1 D t n a er) => f_append2 p hf hv (allT R) hts ho)
  have HX := hid (show yst D t n a er R (vapp D t n a er (allT R)) = if allE R = 0 then vapp D t n a er (allT R) else ⟨D, t, n, a, er, allE R⟩ from rfl)
  have HP := hid h
  have HY := hid hy
  have HR := hid hR
  have hBw := h.bel.size
  have hyw := lt_of_block hy.blk
  clear hvw hv0 hform h hy hR hf hv
  generalize yst D t n a er R (vapp D t n a er (allT R)) = X at *
  generalize allE R = E at *
  generalize allT R = T at *
  generalize vapp D t n a er T = S at *
  go_enter Tryz.func10, Tryz.ntmps10
  go_wp2_with fail
  refine htext.mono ?_
  rintro e w1 ⟨rfl, b1⟩
  clear htext
  have hy1 := HY.out.below b1
  have hp1 := HP.out.below b1
  have k1 : Ky y w w1 := Ky.of (Kt.of_below b1)
  have hR1 := HR.out.ky k1 HY.out
  have s1 := b1.size
  by_cases h0 : E = 0
  · subst h0
    have HX1 := hid (HX.out.trans (if_pos rfl))
    obtain ⟨c0, c1, cf⟩ := hy1.cells
    go_wp2_with fail
    refine (HA.out w1 hp1).mono ?_
    rintro e w2 ⟨rfl, hp2, kt2⟩
    have hy2 := hy1.kt kt2
    have hR2 := hR1.kt kt2
    have k2 := k1.trans (Ky.of kt2)
    have HE := hid (show X = S from HX1.out)
    clear HX HX1 hy1 hp1 hR1 c0 c1 cf k1
    have hpB := hp2.bel.size
    by_cases hE : S.E = 0
    · obtain ⟨xs1, hs1⟩ := hR2.src
      obtain ⟨us2, hs2, _⟩ := HSRC.out w2 hp2.bel
      have o0 : (w2.alloc (Obj.cells #[] 81)).ownsRow w2.heap.size 81 4 (.slice (some ⟨w2.heap.size, 0, none⟩) 0 0) 0 [] := World.ownsRow_made w2 #[] 0 (Nat.le_refl _) (Nat.zero_le _) (by simp)
      have b3 := (Below.refl w2.heap.size w2).alloc (Nat.le_refl _) (Obj.cells #[] 81)
      have hs1' := hs1.below b3
      have hy3 := hy2.below b3
      obtain ⟨c0, c1, cf⟩ := hy3.cells
      have HS1 := hid hs1
      have HS2 := hid hs2.g
      have HP2 := hid hp2
      have HY2 := hid hy2
      have HK2 := hid k2
      have s3 := b3.size
      rw [hE]
      have HE0 := hid hE
      clear hs1 hs2 hp2 hy2 k2 hE hR2
      go_wp2_with (at_builtin; refine wpList_append_rows rfl _ _ rfl w2.heap.size _ _ _ rfl o0 _ m0 xs1 rfl hs1' (by omega) (by omega) ?_)
      intro sa4 sc4 w4 o4 g4
      have b4 : Below w2.heap.size w2 w4 := b3.grown g4 (by omega) (fun q hq => (o0.lt q hq).1)
      have s4 := b4.size
      have hs2' := HS2.out.below b4
      have hy4 := HY2.out.below b4
      clear o0 b3 g4 hy3 c0 c1 cf hs1'
      obtain ⟨c0, c1, cf⟩ := hy4.cells
      go_wp2_with (at_builtin; refine wpList_append_rows rfl _ _ rfl w2.heap.size _ _ _ rfl o4 _ R.length (flat R us2) rfl hs2' (by omega) (by omega) ?_)
      intro sa5 sc5 w5 o5 g5
      have b5 : Below w2.heap.size w2 w5 := b4.grown g5 (by omega) (fun q hq => (o4.lt q hq).1)
      have hy5 := HY2.out.below b5
      have hp5 := HP2.out.below b5
      have k5 : Ky y w w5 := HK2.out.trans (Ky.of (Kt.of_below b5))
      clear c0 c1 cf hy4 o4 g5 b4
      (try simp only [Nat.zero_add, List.nil_append] at o5)
      (try simp only [Nat.zero_add])
      obtain ⟨M, hM⟩ : ∃ M, M = m0 + R.length := ⟨_, rfl⟩
      rw [← hM] at o5 ⊢
      have HM := hid hM
      clear hM
      obtain ⟨c0, c1, cf⟩ := hy5.cells
      have HFIN := hid (show YPw w0 w (w5.setCell ⟨y, 1, none⟩ (.slice sa5 M sc5)) b l c r y D1 L1 X m0 (m0 + R.length) (.returned (.int .i64 0)) from by
        rw [← HM.out]
        have hpF := Pr.yset hp5 hy5 hyb (.slice sa5 M sc5)
        rw [HE.out]
        refine ⟨by rw [HE0.out], hpF, k5.set, _, hy5.set _, ?_⟩
        rw [if_pos HE0.out]
        have hne : ∀ g, (Value.slice sa5 M sc5).ownBlock = some g → g ≠ y := fun g hg => by
          obtain ⟨c', fz, hc⟩ := own_kind o5 g hg
          exact kind_ne hc hy5.blk (by decide)
        exact ⟨xs1 ++ flat R us2, fun x hx => by
          rcases List.mem_append.1 hx with hx | hx
          · exact HS1.out.2.1 x hx
          · exact HS2.out.2.1 x hx, ownsRow_same (own_mono o5 hpB) fun g hg => Below.heap_setCell w5 ⟨y, 1, none⟩ _ g (hne g hg)⟩)
      clear o5 hp5 b5
      go_wp2
      go_ret
      exact HFIN.out
    · have HFIN := hid (show YPw w0 w w2 b l c r y D1 L1 X m0 (m0 + R.length) (.returned (.int .i64 S.E)) from by
        rw [HE.out]
        exact ⟨rfl, hp2, k2, _, hy2, by rw [if_neg hE]; exact hR2⟩)
      generalize S.E = F at *
      go_wp2
      go_ret
      exact HFIN.out
  · have HX1 := hid (HX.out.trans (if_neg h0))
    go_wp2
    go_ret
    rw [HX1.out]
    exact ⟨rfl, hp1, k1, _, hy1, by rw [if_neg h0]; exact hR1⟩
set_option maxHeartbeats 8000000 in
theorem y_replacew {w0 w : World} {b l c r y : Nat} {D1 D : Dsk} {L1 : Lg} {t : ByteArray} {n a : Nat} {er : Int} {vL : Value} {m0 : Nat} (h : Pr w0.heap.size w0 w b l c r D1 L1 D t n a er) (hf : Fine D) (hv : VFit t n a) (ho : D.ops + 1000 < 4611686018427387904) (hy : YAt w y r vL) (hyb : w0.heap.size ≤ y) (hR : Yw w0 w vL m0) (hRl : m0 ≤ 8500000)
    (v : Value) (R : List Rec) (hv0 : IsRecs w0 v R) (hform : v = .slice none 0 0 ∨ ∃ ad n c, v = .slice (some ad) n c) (hRR : R.length ≤ 1048576) :
    Calls Tryz.prog 12 #[.pointer (some ⟨y, 0, none⟩), v] w fun e w' => YPw w0 w w' b l c r y D1 L1 (yst D t n a er R (vchk D t n a er (allT R))) m0 R.length e := by
  have hvw := hv0.below h.bel
  have hts := allT_size hv0.fit hRR
  have htext := ybytes_any w v R hRR hvw
  have HSRC := hid (fun W (k : Below w0.heap.size w0 W) => src_in hv0 hform k)
  obtain ⟨va, vc, rfl, _⟩ := hv0.slice
  obtain ⟨sa, sc, hvL⟩ := hR.form
  subst hvL
  have HA := hid (fun W (p : Pr w0.heap.size w0 W b l c r D1 L1 D t n a er) => f_check2 p hf hv (allT R) hts ho)
  have HX := hid (show yst D t n a er R (vchk D t n a er (allT R)) = if allE R = 0 then vchk D t n a er (allT R) else ⟨D, t, n, a, er, allE R⟩ from rfl)
  have HP := hid h
  have HY := hid hy
  have HR := hid hR
  have hBw := h.bel.size
  have hyw := lt_of_block hy.blk
  clear hvw hv0 hform h hy hR hf hv
  generalize yst D t n a er R (vchk D t n a er (allT R)) = X at *
  generalize allE R = E at *
  generalize allT R = T at *
  generalize vchk D t n a er T = S at *
  go_enter Tryz.func12, Tryz.ntmps12
  go_wp2_with fail
  refine htext.mono ?_
  rintro e w1 ⟨rfl, b1⟩
  clear htext
  have hy1 := HY.out.below b1
  have hp1 := HP.out.below b1
  have k1 : Ky y w w1 := Ky.of (Kt.of_below b1)
  have hR1 := HR.out.ky k1 HY.out
  have s1 := b1.size
  by_cases h0 : E = 0
  · subst h0
    have HX1 := hid (HX.out.trans (if_pos rfl))
    obtain ⟨c0, c1, cf⟩ := hy1.cells
    go_wp2_with fail
    refine (HA.out w1 hp1).mono ?_
    rintro e w2 ⟨rfl, hp2, kt2⟩
    have hy2 := hy1.kt kt2
    have hR2 := hR1.kt kt2
    have k2 := k1.trans (Ky.of kt2)
    have HE := hid (show X = S from HX1.out)
    clear HX HX1 hy1 hp1 hR1 c0 c1 cf k1
    have hpB := hp2.bel.size
    by_cases hE : S.E = 0
    · have hy3 := hy2.set (.slice none 0 0)
      have hp3 := Pr.yset hp2 hy2 hyb (.slice none 0 0)
      have k3 : Ky y w (w2.setCell ⟨y, 1, none⟩ (.slice none 0 0)) := k2.set
      obtain ⟨c0, c1, cf⟩ := hy2.cells
      rw [hE]
      have HE0 := hid hE
      have HP3 := hid hp3
      have HY3 := hid hy3
      have HK3 := hid k3
      clear hp2 hp3 hy3 k3 k2 hE hR2
      have HSS := hid (HSRC.out _ HP3.out.bel)
      have s3 : w2.heap.size ≤ (w2.setCell ⟨y, 1, none⟩ (.slice none 0 0)).heap.size := by simp
      obtain ⟨W3, hW3⟩ : ∃ W3, W3 = w2.setCell ⟨y, 1, none⟩ (.slice none 0 0) := ⟨_, rfl⟩
      rw [← hW3] at HP3 HY3 HK3 HSS s3
      have hy3 := HY3.out
      obtain ⟨z0, z1, zf⟩ := hy3.cells
      rw [hW3] at z0 z1 zf
      obtain ⟨us2, hs2, hi2⟩ := HSS.out
      have hs2' : SrcF (w2.setCell ⟨y, 1, none⟩ (.slice none 0 0)) (.slice va R.length vc) R us2 := by rw [← hW3]; exact hs2
      have HI2 := hid hi2
      have HW3 := hid hW3
      have HG2 := hid hs2.g
      clear hi2 hs2 hy3 hW3
      go_wp2_with (at_builtin; refine wpList_append_recs rfl _ _ rfl w2.heap.size (.slice none 0 0) 0 [] rfl (World.ownsRow_nil _ _ _ _) _ R us2 rfl hs2' (by omega) (by simp) ?_)
      intro sa5 sc5 w5 o5 g5
      rw [← HW3.out] at g5
      have b5 : Below W3.heap.size W3 w5 := (Below.refl W3.heap.size W3).grown g5 (Nat.le_refl _) (fun q hq => by simp [Value.ownBlock] at hq)
      have hy5 := HY3.out.below b5
      have hp5 := HP3.out.below b5
      have k5 : Ky y w w5 := HK3.out.trans (Ky.of (Kt.of_below b5))
      clear c0 c1 cf g5 z0 z1 zf hs2'
      (try simp only [Nat.zero_add, List.nil_append] at o5)
      obtain ⟨c0, c1, cf⟩ := hy5.cells
      have HFIN := hid (show YPw w0 w (w5.setCell ⟨y, 1, none⟩ (.slice sa5 R.length sc5)) b l c r y D1 L1 X m0 R.length (.returned (.int .i64 0)) from by
        have hpF := Pr.yset hp5 hy5 hyb (.slice sa5 R.length sc5)
        rw [HE.out]
        refine ⟨by rw [HE0.out], hpF, k5.set, _, hy5.set _, ?_⟩
        rw [if_pos HE0.out]
        have hne : ∀ g, (Value.slice sa5 R.length sc5).ownBlock = some g → g ≠ y := fun g hg => by
          obtain ⟨c', fz, hc⟩ := own_kind o5 g hg
          exact kind_ne hc hy5.blk (by decide)
        exact ⟨flat R us2, HG2.out.2.1, ownsRow_same (own_mono o5 hpB) fun g hg => Below.heap_setCell w5 ⟨y, 1, none⟩ _ g (hne g hg)⟩)
      clear o5 hp5 b5
      (try simp only [Nat.zero_add])
      go_wp2
      go_ret
      exact HFIN.out
    · have HFIN := hid (show YPw w0 w w2 b l c r y D1 L1 X m0 R.length (.returned (.int .i64 S.E)) from by
        rw [HE.out]
        exact ⟨rfl, hp2, k2, _, hy2, by rw [if_neg hE]; exact hR2⟩)
      generalize S.E = F at *
      go_wp2
      go_ret
      exact HFIN.out
  · have HX1 := hid (HX.out.trans (if_neg h0))
    go_wp2
    go_ret
    rw [HX1.out]
    exact ⟨rfl, hp1, k1, _, hy1, by rw [if_neg h0]; exact hR1⟩
end Go.Proofs.YtjldlmonccgopaaGreat.Rc
/- StoreScript: both stores side by side. -/
namespace Go.Proofs.YtjldlmonccgopaaGreat.Rc
open Go.RowKit Go.Deep
set_option linter.unusedVariables false
set_option maxRecDepth 100000
set_option linter.unusedSimpArgs false

/-- Both stores alike: the program's in s, the document's in y, of m records each. -/
structure Sb (w0 w : World) (b l c r s y : Nat) (D : Dsk) (t : ByteArray) (n a : Nat) (er : Int) (m : Nat) : Prop where
  pb : Pb w0.heap.size w0 w b l c r D t n a er
  st : StoreAt w s l m
  ya : ∃ vL, YAt w y r vL ∧ Yw w0 w vL m
  hs : w0.heap.size ≤ s
  hy : w0.heap.size ≤ y
section
variable {w0 w : World} {b l c r s y : Nat} {D : Dsk} {t : ByteArray} {n a : Nat} {er : Int} {m : Nat}
theorem Sb.below (h : Sb w0 w b l c r s y D t n a er m) {w' : World} (k : Below w.heap.size w w') : Sb w0 w' b l c r s y D t n a er m := by
  obtain ⟨vL, h1, h2⟩ := h.ya
  exact ⟨h.pb.below k, h.st.below k, ⟨vL, h1.below k, h2.below k⟩, h.hs, h.hy⟩
theorem yroom_any (w : World) {vL : Value} (hy : YAt w y r vL) (hv : VAt w r c t n a er) (ht : t.size ≤ 32512) : Calls Tryz.prog 26 #[.pointer (some ⟨y, 0, none⟩)] w fun e w' => e = .returned (.int .i64 (32512 - t.size : Nat)) ∧ w' = w := by
  obtain ⟨c0, c1, cf⟩ := hy.cells
  obtain ⟨x0, x1, x2, x3, x4, xf⟩ := hv.cells
  have HE := hid (show ((32512 - t.size : Nat) : Int) = 32512 - (t.size : Int) by omega)
  have hw : IntKind.i64.wrap (32512 - (t.size : Int)) = 32512 - (t.size : Int) := by rw [IntKind.wrap_i64]; omega
  go_enter Tryz.func26, Tryz.ntmps26
  go_wp2
  go_ret
  rw [HE.out]
  exact ⟨rfl, rfl⟩
theorem s_len (h : Sb w0 w b l c r s y D t n a er m) : Calls Tryz.prog 24 #[.pointer (some ⟨s, 0, none⟩)] w fun e w' => e = .returned (.int .i64 (m : Int)) ∧ w' = w := olen_any w s l m h.st
theorem s_room (h : Sb w0 w b l c r s y D t n a er m) : Calls Tryz.prog 25 #[.pointer (some ⟨s, 0, none⟩)] w fun e w' => e = .returned (.int .i64 (32512 - t.size : Nat)) ∧ w' = w := oroom_any w s l m b (VL t n a er) h.pb.pr.log h.pb.fit.t h.st
theorem s_yroom (h : Sb w0 w b l c r s y D t n a er m) : Calls Tryz.prog 26 #[.pointer (some ⟨y, 0, none⟩)] w fun e w' => e = .returned (.int .i64 (32512 - t.size : Nat)) ∧ w' = w := by
  obtain ⟨vL, h1, h2⟩ := h.ya
  exact yroom_any w h1 h.pb.pr.vat h.pb.fit.t
theorem s_disks (h : Sb w0 w b l c r s y D t n a er m) : Calls Tryz.prog 27 #[.pointer (some ⟨b, 0, none⟩), .pointer (some ⟨c, 0, none⟩)] w fun e w' => e = .returned (.bool true) ∧ ∃ n, w' = w.drewN n := by
  obtain ⟨sl, vw, vi, vc, cl, fk, keep, h2⟩ := h.pb.pr.two
  exact disks7_any w b c D sl vw vi vc cl fk keep h2
/-- What the step leaves is as it should be. -/
theorem yst_fine {R : List Rec} {S : VSt} (hS : Fine S.D ∧ VFit S.t S.n S.a ∧ S.D.ops ≤ D.ops + 200) (hf : Fine D) (hv : VFit t n a) : Fine (yst D t n a er R S).D ∧ VFit (yst D t n a er R S).t (yst D t n a er R S).n (yst D t n a er R S).a ∧ (yst D t n a er R S).D.ops ≤ D.ops + 200 := by
  unfold yst
  split
  · exact hS
  · exact ⟨hf, hv, by simp only; omega⟩
theorem vapp_fine (hf : Fine D) (hv : VFit t n a) (x : ByteArray) : Fine (vapp D t n a er x).D ∧ VFit (vapp D t n a er x).t (vapp D t n a er x).n (vapp D t n a er x).a ∧ (vapp D t n a er x).D.ops ≤ D.ops + 200 := ⟨(hf.bec hv.a).1, bec_fit hv hv.a, (hf.bec hv.a).2⟩
theorem vchk_fine (hf : Fine D) (hv : VFit t n a) (x : ByteArray) : Fine (vchk D t n a er x).D ∧ VFit (vchk D t n a er x).t (vchk D t n a er x).n (vchk D t n a er x).a ∧ (vchk D t n a er x).D.ops ≤ D.ops + 200 := ⟨(hf.bec (by omega)).1, bec_fit hv (by omega), (hf.bec (by omega)).2⟩
theorem Sb.disk (h : Sb w0 w b l c r s y D t n a er m) : DiskIs w b D ∧ RIs w c D ∧ Sz D.wr := by
  obtain ⟨sl, vw, vi, vc, cl, fk, keep, h2⟩ := h.pb.pr.two
  exact ⟨⟨sl, h2.d⟩, ⟨vw, vi, vc, cl, fk, keep, h2.r⟩, h.pb.fine.sz.now h.pb.fine.good⟩
/-- Both are opened anew. -/
theorem Sb.opened (h : Sb w0 w b l c r s y D t n a er m) {w1 w2 : World} {k : Com} {u : ByteArray} {s' l' y' r' : Nat} {v2 : Value} {L : List Rec} (hT : Tells D.wr k u) (b1 : Below w.heap.size w w1) (b2 : Below w1.heap.size w1 w2) (hs : w.heap.size ≤ s') (hl : w.heap.size ≤ l') (hL : LogAt w1 l' b k (tailT u) 0) (hS : StoreAt w1 s' l' L.length)
    (hy : w1.heap.size ≤ y') (hr : w1.heap.size ≤ r') (hV : VAt w2 r' c u k.num k.area 0) (hY : YAt w2 y' r' v2) (hR : Row w2 w1.heap.size v2 L) : Sb w0 w2 b l' c r' s' y' D u k.num k.area 0 L.length := by
  have p := (h.pb.below b1).below b2
  have z0 := h.pb.pr.bel.size
  have z1 := b1.size
  have hL2 := LogAt.below hL b2 (lt_of_block (LogAt.blk hL))
  refine ⟨⟨⟨p.pr.two, ?_, hV, p.pr.bel, p.pr.hb, by omega, p.pr.hc, by omega⟩, p.fine, (tells_vl hT).2⟩, hS.below b2, ⟨v2, hY, hR.yw (by omega)⟩, by omega, by omega⟩
  rw [← (tells_vl hT).1]
  exact hL2
end
theorem stq_box {w : World} {p : Nat} {v0 v1 v2 v3 v4 : Value} (h : w.heap[p]? = some (.cells #[v0, v1, v2, v3, v4] 38 (0, 0))) : w.cell? ⟨p, 0, none⟩ = some v0 ∧ w.cell? ⟨p, 1, none⟩ = some v1 ∧ w.cell? ⟨p, 2, none⟩ = some v2 ∧ w.cell? ⟨p, 3, none⟩ = some v3 ∧ w.cell? ⟨p, 4, none⟩ = some v4 :=
  ⟨cell_at (L := [_, _, _, _, _]) h 0 _ rfl, cell_at (L := [_, _, _, _, _]) h 1 _ rfl, cell_at (L := [_, _, _, _, _]) h 2 _ rfl, cell_at (L := [_, _, _, _, _]) h 3 _ rfl, cell_at (L := [_, _, _, _, _]) h 4 _ rfl⟩
theorem kt_stq {w w' : World} {p : Nat} {x : Array Value} (k : Kt w w') (h : w.heap[p]? = some (.cells x 38 (0, 0))) : w'.heap[p]? = some (.cells x 38 (0, 0)) :=
  (k p x 38 (0, 0) h (by decide) (by decide) (by decide) (by decide) (by decide) (by decide)).trans h
theorem ky_stqs {w w' : World} {p s l m : Nat} {x : Array Value} (k : Ky s w w') (hs : StoreAt w s l m) (h : w.heap[p]? = some (.cells x 38 (0, 0))) : w'.heap[p]? = some (.cells x 38 (0, 0)) :=
  (k p x 38 (0, 0) h (by decide) (by decide) (by decide) (by decide) (by decide) (by decide) (kind_ne h hs.blk (by decide))).trans h
theorem ky_stqy {w w' : World} {p y r : Nat} {v : Value} {x : Array Value} (k : Ky y w w') (hy : YAt w y r v) (h : w.heap[p]? = some (.cells x 38 (0, 0))) : w'.heap[p]? = some (.cells x 38 (0, 0)) :=
  (k p x 38 (0, 0) h (by decide) (by decide) (by decide) (by decide) (by decide) (by decide) (kind_ne h hy.blk (by decide))).trans h
theorem g_cut_ops (D : Dsk) (i : Int) (keep : Nat) : (D.cut i keep).ops = D.ops := rfl
theorem g_fail_ops (D : Dsk) (i : Int) : (D.fail i).ops = D.ops := rfl
theorem g_power_ops (D : Dsk) : D.power.ops = D.ops := rfl
theorem g_crash_ops (D : Dsk) (keep : Nat) : (D.crash keep).ops = D.ops := by
  unfold Dsk.crash
  split
  · rfl
  · simp [Dsk.lose, Dsk.forget]
theorem g_nil (w : World) : IsRecs w (.slice none 0 0) [] := Row.recs (base := 0) ⟨by simp, [], rfl, World.ownsRow_nil w _ _ _, fun i hi => by simp at hi⟩
end Go.Proofs.YtjldlmonccgopaaGreat.Rc
