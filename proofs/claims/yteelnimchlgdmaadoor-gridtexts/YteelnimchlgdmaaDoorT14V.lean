/- GridTexts: what the call answers. -/
import Derived.Test.YteelnimchlgdmaaDoorT14W
namespace Go.Proofs.YteelnimchlgdmaaDoor
open Go.RowKit
set_option linter.unusedVariables false
set_option maxRecDepth 100000
set_option linter.unusedSimpArgs false

/-- What an answer says. -/
def Tie14 (s : ByteArray) (G : Gr) (n : Int) : Prop := (n = 0 ∧ ∃ L, Psr s L ∧ G = grd L) ∨ (n = 51 ∧ (∀ L, ¬ Psr s L) ∧ G = ⟨0, 0, 0, 0, []⟩)
theorem gpsr_form {s : ByteArray} {e : Ending} {w : World} (h : GPsr s e w) : ∃ (G : Gr) (la : Option Addr) (lc : Nat) (n : Int), e = .returned (.tuple #[.agg #[.int .i64 G.zones, .int .i64 G.hours, .slice la G.lines.length lc, .int .i64 G.low, .int .i64 G.high], .int .i64 n]) ∧ Lns w (.slice la G.lines.length lc) G.lines ∧ Tie14 s G n := by
  rcases h with ⟨L, p, la, lc, rfl, l⟩ | ⟨no, rfl⟩
  · exact ⟨grd L, la, lc, 0, rfl, l, Or.inl ⟨rfl, L, p, rfl⟩⟩
  · exact ⟨⟨0, 0, 0, 0, []⟩, none, 0, 51, rfl, zero_lns w, Or.inr ⟨rfl, no, rfl⟩⟩
theorem Tie14.match {s : ByteArray} {G : Gr} {n : Int} {e : Ending} {w : World} (t : Tie14 s G n) (h : GPsr s e w) : ∃ (la : Option Addr) (lc : Nat), e = .returned (.tuple #[.agg #[.int .i64 G.zones, .int .i64 G.hours, .slice la G.lines.length lc, .int .i64 G.low, .int .i64 G.high], .int .i64 n]) ∧ Lns w (.slice la G.lines.length lc) G.lines := by
  rcases t with ⟨rfl, L, p, rfl⟩ | ⟨rfl, no, rfl⟩
  · rcases h with ⟨M, q, la, lc, rfl, l⟩ | ⟨no, _⟩
    · obtain rfl := p.uniq q
      exact ⟨la, lc, rfl, l⟩
    · exact absurd p (no L)
  · rcases h with ⟨M, q, _⟩ | ⟨_, rfl⟩
    · exact absurd q (no M)
    · exact ⟨none, 0, rfl, zero_lns w⟩
theorem Tie14.ways {s : ByteArray} {G : Gr} {n : Int} (t : Tie14 s G n) : (n = 0 ∧ gok G = true ∧ prt G = s ∧ ∀ x ∈ nms G, I64b x) ∨ n = 51 := by
  rcases t with ⟨rfl, L, p, rfl⟩ | ⟨rfl, _⟩
  · refine Or.inl ⟨rfl, p.2.2.2.2.2, p.prt, fun x hx => ?_⟩
    rw [nms_grd p.2.2.2.1 p.2.2.2.2.1] at hx
    have := p.2.2.1 x hx
    unfold I64b
    omega
  · exact Or.inr rfl
theorem prt_size {g : Gr} (h64 : ∀ n ∈ nms g, I64b n) (hn : g.lines.length ≤ 256) : (prt g).size ≤ 20000 := by
  have h := prt_few h64
  rw [← join_bl, bl_len, nms_len] at h
  show (joinB (wds (nms g))).size ≤ 20000
  omega
set_option maxHeartbeats 6400000 in
theorem gridTexts_any (w : World) (g : Gr) (la : Option Addr) (lc : Nat) (h : Lns w (.slice la g.lines.length lc) g.lines) (h64 : ∀ n ∈ nms g, I64b n) (s : ByteArray) (hs : s.size ≤ maxLen) (hmx : Mx w) (htab : TabD w) :
    Calls Tryd.prog 3 #[.agg #[.int .i64 g.zones, .int .i64 g.hours, .slice la g.lines.length lc, .int .i64 g.low, .int .i64 g.high], .string s] w fun e w' => e = .returned (.bool true) ∧ Below w.heap.size w w' := by
  unfold maxLen at hs
  have b0 := ibel w (Obj.cells #[.int .i64 g.zones, .int .i64 g.hours, .slice la g.lines.length lc, .int .i64 g.low, .int .i64 g.high] 24)
  have x0 := inew w (Obj.cells #[.int .i64 g.zones, .int .i64 g.hours, .slice la g.lines.length lc, .int .i64 g.low, .int .i64 g.high] 24)
  have HB0 := hid b0
  have HX0 := hid x0
  have HH := hid (fun (Y : World) (b : Below w.heap.size w Y) => heavy14_any Y g la lc (h.below b) (.slice none 0 0) [] (Strs.nil Y))
  have HPA := hid (fun (Y : World) (b : Below w.heap.size w Y) (hz : s.size ≤ 1000000000) => gparse_any s Y hz (hmx.below b))
  have HPR := hid (fun (Y : World) (b : Below w.heap.size w Y) (hn : g.lines.length ≤ 256) => gprint_any Y g la lc (h.below b) hn h64 (htab.below b))
  have HCK := hid (fun (Y : World) (b : Below w.heap.size w Y) => mcheck_any Y g la lc (h.below b))
  have HL := hid h
  have H64 := hid h64
  have HMX := hid hmx
  have HTB := hid htab
  have z0 := ibx x0 0 (.int .i64 g.zones) rfl
  have z1 := ibx x0 1 (.int .i64 g.hours) rfl
  have z2 := ibx x0 2 (.slice la g.lines.length lc) rfl
  have z3 := ibx x0 3 (.int .i64 g.low) rfl
  have z4 := ibx x0 4 (.int .i64 g.high) rfl

  clear b0 x0 h h64 hmx htab
  go_enter Tryd.func3, Tryd.ntmps3
  go_wp2_with fail
  generalize w.alloc (Obj.cells #[.int .i64 g.zones, .int .i64 g.hours, .slice la g.lines.length lc, .int .i64 g.low, .int .i64 g.high] 24) = W0 at *
  refine (HH.out W0 HB0.out).mono ?_
  rintro e w1 ⟨R, rfl, hR, b1⟩
  have HB1 := hid (HB0.out.trans (b1.mono HB0.out.size))
  have x1 := (b1.block _ (lt_of_block HX0.out)).trans HX0.out
  have HX1 := hid x1
  clear b1 x1 HH z0 z1 z2 z3 z4
  cases R with
  | true =>
    go_wp2_with fail
    go_ret
    exact ⟨rfl, HB1.out⟩
  | false =>
    have HN := hid (hR rfl).2.2
    clear hR
    by_cases hbig : 256 < s.size
    · go_wp2_with fail
      go_ret
      exact ⟨rfl, HB1.out⟩
    go_wp2_with fail
    refine (HPA.out w1 HB1.out (by omega)).mono ?_
    rintro e w2 ⟨hp1, b2⟩
    obtain ⟨G, ka, kc, n, rfl, hk, tie⟩ := gpsr_form hp1
    have HB2 := hid (HB1.out.trans (b2.mono HB1.out.size))
    have HX2 := hid ((b2.block _ (lt_of_block HX1.out)).trans HX1.out)

    have HT := hid tie
    have bA := ibel w2 (Obj.cells #[.int .i64 G.zones, .int .i64 G.hours, .slice ka G.lines.length kc, .int .i64 G.low, .int .i64 G.high] 24)
    have HXA := hid (inew w2 (Obj.cells #[.int .i64 G.zones, .int .i64 G.hours, .slice ka G.lines.length kc, .int .i64 G.low, .int .i64 G.high] 24))
    have HKA := hid (hk.below bA)
    have HXG := hid ((bA.block _ (lt_of_block HX2.out)).trans HX2.out)
    have HB3 := hid (HB2.out.trans (bA.mono HB2.out.size))
    clear hp1 b2 HX1 HX2 HPA tie hk bA HB2
    go_wp2_with fail
    generalize w2.heap.size = ab at *
    generalize w2.alloc (Obj.cells #[.int .i64 G.zones, .int .i64 G.hours, .slice ka G.lines.length kc, .int .i64 G.low, .int .i64 G.high] 24) = V3 at *
    refine (gmparse_any s V3 (by omega)).mono ?_
    rintro e w4 ⟨hp2, b4⟩
    obtain ⟨kb, kd, rfl, hkb⟩ := HT.out.match hp2
    have HB4 := hid (HB3.out.trans (b4.mono HB3.out.size))
    have HXA4 := hid ((b4.block _ (lt_of_block HXA.out)).trans HXA.out)
    have HXG4 := hid ((b4.block _ (lt_of_block HXG.out)).trans HXG.out)
    have HKA4 := hid (HKA.out.below b4)

    have bA := ibel w4 (Obj.cells #[.int .i64 G.zones, .int .i64 G.hours, .slice kb G.lines.length kd, .int .i64 G.low, .int .i64 G.high] 24)
    have HXB := hid (inew w4 (Obj.cells #[.int .i64 G.zones, .int .i64 G.hours, .slice kb G.lines.length kd, .int .i64 G.low, .int .i64 G.high] 24))
    have HKB := hid (hkb.below bA)
    have HB5 := hid (HB4.out.trans (bA.mono HB4.out.size))
    have HXA5 := hid ((bA.block _ (lt_of_block HXA4.out)).trans HXA4.out)
    have HXG5 := hid ((bA.block _ (lt_of_block HXG4.out)).trans HXG4.out)
    have HKA5 := hid (HKA4.out.below bA)

    have w0 := HXG5.out
    have z0 := ibx w0 0 (.int .i64 g.zones) rfl
    have z1 := ibx w0 1 (.int .i64 g.hours) rfl
    have z2 := ibx w0 2 (.slice la g.lines.length lc) rfl
    have z3 := ibx w0 3 (.int .i64 g.low) rfl
    have z4 := ibx w0 4 (.int .i64 g.high) rfl

    clear w0 hp2 b4 bA hkb HXA HXG HXA4 HXG4 HKA HKA4 HB3 HB4
    go_wp2_with fail
    generalize w4.heap.size = bb at *
    generalize w4.alloc (Obj.cells #[.int .i64 G.zones, .int .i64 G.hours, .slice kb G.lines.length kd, .int .i64 G.low, .int .i64 G.high] 24) = V5 at *
    refine (HPR.out V5 HB5.out HN.out).mono ?_
    rintro e w6 ⟨rfl, b6⟩
    have HB6 := hid (HB5.out.trans (b6.mono HB5.out.size))
    have HXA6 := hid ((b6.block _ (lt_of_block HXA5.out)).trans HXA5.out)
    have HXG6 := hid ((b6.block _ (lt_of_block HXG5.out)).trans HXG5.out)
    have HXB6 := hid ((b6.block _ (lt_of_block HXB.out)).trans HXB.out)
    have HKA6 := hid (HKA5.out.below b6)
    have HKB6 := hid (HKB.out.below b6)

    clear b6 z0 z1 z2 z3 z4 HXA5 HXG5 HXB HKA5 HKB HB5 HPR
    have w0 := HXA6.out
    have p0 := ibx w0 0 (.int .i64 G.zones) rfl
    have p1 := ibx w0 1 (.int .i64 G.hours) rfl
    have p2 := ibx w0 2 (.slice ka G.lines.length kc) rfl
    have p3 := ibx w0 3 (.int .i64 G.low) rfl
    have p4 := ibx w0 4 (.int .i64 G.high) rfl

    have w1' := HXB6.out
    have q0 := ibx w1' 0 (.int .i64 G.zones) rfl
    have q1 := ibx w1' 1 (.int .i64 G.hours) rfl
    have q2 := ibx w1' 2 (.slice kb G.lines.length kd) rfl
    have q3 := ibx w1' 3 (.int .i64 G.low) rfl
    have q4 := ibx w1' 4 (.int .i64 G.high) rfl

    have HSM := hid (same14g_any w6 G ka kb kc kd HKA6.out HKB6.out)
    have HPS := hid (prt_size H64.out HN.out)
    have HGP := hid (fun (ok : gok g = true) (e : Ending) (w : World) (h : GPsr (prt g) e w) => gpsr_back h ok)
    have HMP := hid (fun (Y : World) (b : Below w.heap.size w Y) => gmprint_any Y g la lc (HL.out.below b) HN.out H64.out)
    obtain ⟨P, HP⟩ : ∃ P, Hid (prt g = P) := ⟨_, hid rfl⟩
    rw [HP.out] at HPS HGP HMP ⊢
    clear w0 w1'
    rcases HT.out.ways with ⟨rfl, hg1, hg2, hg3⟩ | rfl
    · have HG2 := hid hg2
      have HPG := hid (fun (Y : World) (h : Lns Y (.slice ka G.lines.length kc) G.lines) (t : TabD Y) => gprint_any Y G ka kc h (by have := (gok_iff.1 hg1).2.2.2.1; omega) hg3 t)
      clear hg1 hg2 hg3 HT
      go_wp2_with fail
      refine HSM.out.mono ?_
      rintro e w7 ⟨rfl, b7⟩
      have HB7 := hid (HB6.out.trans (b7.mono HB6.out.size))
      have HXA7 := hid ((b7.block _ (lt_of_block HXA6.out)).trans HXA6.out)
      have HXG7 := hid ((b7.block _ (lt_of_block HXG6.out)).trans HXG6.out)
      have HKA7 := hid (HKA6.out.below b7)

      clear b7 p0 p1 p2 p3 p4 q0 q1 q2 q3 q4 HXA6 HXG6 HB6 HKA6 HSM
      have w0 := HXA7.out
      have p0 := ibx w0 0 (.int .i64 G.zones) rfl
      have p1 := ibx w0 1 (.int .i64 G.hours) rfl
      have p2 := ibx w0 2 (.slice ka G.lines.length kc) rfl
      have p3 := ibx w0 3 (.int .i64 G.low) rfl
      have p4 := ibx w0 4 (.int .i64 G.high) rfl

      clear w0
      have HPW := hid (HPG.out w7 HKA7.out (HTB.out.below HB7.out))
      rw [HG2.out] at HPW
      go_wp2_with fail
      refine HPW.out.mono ?_
      rintro e w8 ⟨rfl, b8⟩
      have HB8 := hid (HB7.out.trans (b8.mono HB7.out.size))
      have HXG8 := hid ((b8.block _ (lt_of_block HXG7.out)).trans HXG7.out)

      clear b8 p0 p1 p2 p3 p4 HPG HPW HXA7 HKA7 HXG7 HB7
      have w0 := HXG8.out
      have z0 := ibx w0 0 (.int .i64 g.zones) rfl
      have z1 := ibx w0 1 (.int .i64 g.hours) rfl
      have z2 := ibx w0 2 (.slice la g.lines.length lc) rfl
      have z3 := ibx w0 3 (.int .i64 g.low) rfl
      have z4 := ibx w0 4 (.int .i64 g.high) rfl

      clear w0
      have HCW := hid (HCK.out w8 HB8.out)
      go_wp2_with fail
      refine HCW.out.mono ?_
      rintro e w9 ⟨rfl, b9⟩
      have HB9 := hid (HB8.out.trans (b9.mono HB8.out.size))
      have HXG9 := hid ((b9.block _ (lt_of_block HXG8.out)).trans HXG8.out)

      clear b9 z0 z1 z2 z3 z4 HXG8 HB8 HCW
      cases hg : gok g with
      | false =>
        rw [show errG g = 140 by unfold errG; rw [hg]; rfl]
        clear hg
        go_wp2_with fail
        go_ret
        exact ⟨rfl, HB9.out⟩
      | true =>
        rw [show errG g = 0 by unfold errG; rw [hg]; rfl]
        have HGB := hid (HGP.out hg)
        clear hg HGP
        have HPP := hid (gparse_any P w9 (by have := HPS.out; omega) (HMX.out.below HB9.out))
        go_wp2_with fail
        refine HPP.out.mono ?_
        rintro e w10 ⟨hp3, b10⟩
        obtain ⟨va, vc, rfl, hk3⟩ := HGB.out _ _ hp3
        have HB10 := hid (HB9.out.trans (b10.mono HB9.out.size))
        have HXG10 := hid ((b10.block _ (lt_of_block HXG9.out)).trans HXG9.out)

        have bA := ibel w10 (Obj.cells #[.int .i64 g.zones, .int .i64 g.hours, .slice va g.lines.length vc, .int .i64 g.low, .int .i64 g.high] 24)
        have HXC := hid (inew w10 (Obj.cells #[.int .i64 g.zones, .int .i64 g.hours, .slice va g.lines.length vc, .int .i64 g.low, .int .i64 g.high] 24))
        have HKC := hid (hk3.below bA)
        have HB11 := hid (HB10.out.trans (bA.mono HB10.out.size))
        have HXG11 := hid ((bA.block _ (lt_of_block HXG10.out)).trans HXG10.out)

        clear hp3 b10 bA hk3 HXG9 HXG10 HB9 HB10 HPP HGB
        have w0 := HXG11.out
        have z0 := ibx w0 0 (.int .i64 g.zones) rfl
        have z1 := ibx w0 1 (.int .i64 g.hours) rfl
        have z2 := ibx w0 2 (.slice la g.lines.length lc) rfl
        have z3 := ibx w0 3 (.int .i64 g.low) rfl
        have z4 := ibx w0 4 (.int .i64 g.high) rfl

        clear w0
        go_wp2_with fail
        generalize w10.heap.size = cb at *
        generalize w10.alloc (Obj.cells #[.int .i64 g.zones, .int .i64 g.hours, .slice va g.lines.length vc, .int .i64 g.low, .int .i64 g.high] 24) = V11 at *
        refine (HMP.out V11 HB11.out).mono ?_
        rintro e w12 ⟨rfl, b12⟩
        have HB12 := hid (HB11.out.trans (b12.mono HB11.out.size))
        have HXG12 := hid ((b12.block _ (lt_of_block HXG11.out)).trans HXG11.out)
        have HXC12 := hid ((b12.block _ (lt_of_block HXC.out)).trans HXC.out)
        have HKC12 := hid (HKC.out.below b12)

        clear b12 z0 z1 z2 z3 z4 HXG11 HXC HKC HB11
        have w0 := HXG12.out
        have z0 := ibx w0 0 (.int .i64 g.zones) rfl
        have z1 := ibx w0 1 (.int .i64 g.hours) rfl
        have z2 := ibx w0 2 (.slice la g.lines.length lc) rfl
        have z3 := ibx w0 3 (.int .i64 g.low) rfl
        have z4 := ibx w0 4 (.int .i64 g.high) rfl

        have w1' := HXC12.out
        have p0 := ibx w1' 0 (.int .i64 g.zones) rfl
        have p1 := ibx w1' 1 (.int .i64 g.hours) rfl
        have p2 := ibx w1' 2 (.slice va g.lines.length vc) rfl
        have p3 := ibx w1' 3 (.int .i64 g.low) rfl
        have p4 := ibx w1' 4 (.int .i64 g.high) rfl

        clear w0 w1'
        have HS2 := hid (same14g_any w12 g va la vc lc HKC12.out (HL.out.below HB12.out))
        go_wp2_with fail
        refine HS2.out.mono ?_
        rintro e w13 ⟨rfl, b13⟩
        have HB13 := hid (HB12.out.trans (b13.mono HB12.out.size))
        clear b13
        go_wp2_with fail
        go_ret
        exact ⟨rfl, HB13.out⟩

    · clear HT
      go_wp2_with fail
      refine HSM.out.mono ?_
      rintro e w8 ⟨rfl, b8⟩
      have HB8 := hid (HB6.out.trans (b8.mono HB6.out.size))
      have HXG8 := hid ((b8.block _ (lt_of_block HXG6.out)).trans HXG6.out)

      clear b8 p0 p1 p2 p3 p4 q0 q1 q2 q3 q4 HXA6 HXG6 HB6 HKA6 HSM
      have w0 := HXG8.out
      have z0 := ibx w0 0 (.int .i64 g.zones) rfl
      have z1 := ibx w0 1 (.int .i64 g.hours) rfl
      have z2 := ibx w0 2 (.slice la g.lines.length lc) rfl
      have z3 := ibx w0 3 (.int .i64 g.low) rfl
      have z4 := ibx w0 4 (.int .i64 g.high) rfl

      clear w0
      have HCW := hid (HCK.out w8 HB8.out)
      go_wp2_with fail
      refine HCW.out.mono ?_
      rintro e w9 ⟨rfl, b9⟩
      have HB9 := hid (HB8.out.trans (b9.mono HB8.out.size))
      have HXG9 := hid ((b9.block _ (lt_of_block HXG8.out)).trans HXG8.out)

      clear b9 z0 z1 z2 z3 z4 HXG8 HB8 HCW
      cases hg : gok g with
      | false =>
        rw [show errG g = 140 by unfold errG; rw [hg]; rfl]
        clear hg
        go_wp2_with fail
        go_ret
        exact ⟨rfl, HB9.out⟩
      | true =>
        rw [show errG g = 0 by unfold errG; rw [hg]; rfl]
        have HGB := hid (HGP.out hg)
        clear hg HGP
        have HPP := hid (gparse_any P w9 (by have := HPS.out; omega) (HMX.out.below HB9.out))
        go_wp2_with fail
        refine HPP.out.mono ?_
        rintro e w10 ⟨hp3, b10⟩
        obtain ⟨va, vc, rfl, hk3⟩ := HGB.out _ _ hp3
        have HB10 := hid (HB9.out.trans (b10.mono HB9.out.size))
        have HXG10 := hid ((b10.block _ (lt_of_block HXG9.out)).trans HXG9.out)

        have bA := ibel w10 (Obj.cells #[.int .i64 g.zones, .int .i64 g.hours, .slice va g.lines.length vc, .int .i64 g.low, .int .i64 g.high] 24)
        have HXC := hid (inew w10 (Obj.cells #[.int .i64 g.zones, .int .i64 g.hours, .slice va g.lines.length vc, .int .i64 g.low, .int .i64 g.high] 24))
        have HKC := hid (hk3.below bA)
        have HB11 := hid (HB10.out.trans (bA.mono HB10.out.size))
        have HXG11 := hid ((bA.block _ (lt_of_block HXG10.out)).trans HXG10.out)

        clear hp3 b10 bA hk3 HXG9 HXG10 HB9 HB10 HPP HGB
        have w0 := HXG11.out
        have z0 := ibx w0 0 (.int .i64 g.zones) rfl
        have z1 := ibx w0 1 (.int .i64 g.hours) rfl
        have z2 := ibx w0 2 (.slice la g.lines.length lc) rfl
        have z3 := ibx w0 3 (.int .i64 g.low) rfl
        have z4 := ibx w0 4 (.int .i64 g.high) rfl

        clear w0
        go_wp2_with fail
        generalize w10.heap.size = cb at *
        generalize w10.alloc (Obj.cells #[.int .i64 g.zones, .int .i64 g.hours, .slice va g.lines.length vc, .int .i64 g.low, .int .i64 g.high] 24) = V11 at *
        refine (HMP.out V11 HB11.out).mono ?_
        rintro e w12 ⟨rfl, b12⟩
        have HB12 := hid (HB11.out.trans (b12.mono HB11.out.size))
        have HXG12 := hid ((b12.block _ (lt_of_block HXG11.out)).trans HXG11.out)
        have HXC12 := hid ((b12.block _ (lt_of_block HXC.out)).trans HXC.out)
        have HKC12 := hid (HKC.out.below b12)

        clear b12 z0 z1 z2 z3 z4 HXG11 HXC HKC HB11
        have w0 := HXG12.out
        have z0 := ibx w0 0 (.int .i64 g.zones) rfl
        have z1 := ibx w0 1 (.int .i64 g.hours) rfl
        have z2 := ibx w0 2 (.slice la g.lines.length lc) rfl
        have z3 := ibx w0 3 (.int .i64 g.low) rfl
        have z4 := ibx w0 4 (.int .i64 g.high) rfl

        have w1' := HXC12.out
        have p0 := ibx w1' 0 (.int .i64 g.zones) rfl
        have p1 := ibx w1' 1 (.int .i64 g.hours) rfl
        have p2 := ibx w1' 2 (.slice va g.lines.length vc) rfl
        have p3 := ibx w1' 3 (.int .i64 g.low) rfl
        have p4 := ibx w1' 4 (.int .i64 g.high) rfl

        clear w0 w1'
        have HS2 := hid (same14g_any w12 g va la vc lc HKC12.out (HL.out.below HB12.out))
        go_wp2_with fail
        refine HS2.out.mono ?_
        rintro e w13 ⟨rfl, b13⟩
        have HB13 := hid (HB12.out.trans (b13.mono HB12.out.size))
        clear b13
        go_wp2_with fail
        go_ret
        exact ⟨rfl, HB13.out⟩

end Go.Proofs.YteelnimchlgdmaaDoor
