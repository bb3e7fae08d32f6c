/- grid: the document's Exports. -/
import Derived.Test.YtmoailbilnkfnaaGreatDoorPk42
import Derived.Test.YtmoailbilnkfnaaGreatDoorPk43
import Derived.Deep.RegionWith
namespace Go.Proofs.YtmoailbilnkfnaaGreatDoor
open Go.RowKit
set_option linter.unusedVariables false
set_option maxRecDepth 100000
set_option linter.unusedSimpArgs false

theorem expo_both (e x : Rat) (a b z : Nat) (h : (a : Int) ≠ (b : Int)) : (a = z → e + (if a = z then x else 0) - (if b = z then x else 0) = e + x) ∧ (a ≠ z → b = z → e + (if a = z then x else 0) - (if b = z then x else 0) = e - x) ∧ (a ≠ z → b ≠ z → e + (if a = z then x else 0) - (if b = z then x else 0) = e) := by
  refine ⟨fun h1 => ?_, fun h1 h2 => ?_, fun h1 h2 => ?_⟩
  · rw [if_pos h1, if_neg (by omega)]; grind
  · rw [if_neg h1, if_pos h2]; grind
  · rw [if_neg h1, if_neg h2]; grind
theorem Ls.base {I : World → Value → Rat → Nat → Prop} {e : TypeId} {w : World} {base base' : Nat} {v : Value} {C : List (List Value)} {X : List Rat} {K : Nat} (h : Ls I e w base v C X K) (hb : base' ≤ base) : Ls I e w base' v C X K := ⟨own_mono h.own hb, h.len, h.four, h.is_⟩
set_option maxHeartbeats 12800000 in
theorem mexports_any (w : World) (g : Gr) (la : Option Addr) (lc : Nat) (h : Lns w (.slice la g.lines.length lc) g.lines) (ok : gok g = true) (n : Nat) (hn : g.zones = n) (tv : Value) (C : List (List Value)) (X : List Rat) (base K : Nat) (h3 : 3 ≤ K) (hK : K ≤ 12000) (hX : TLs w base tv C X K) (hXL : X.length = g.lines.length) :
    Calls Tryz.prog 34 #[.agg #[.int .i64 g.zones, .int .i64 g.hours, .slice la g.lines.length lc, .int .i64 g.low, .int .i64 g.high], tv] w fun e w' => ∃ ov C', e = .returned ov ∧ TLs w' w.heap.size ov C' (exps g.lines X n) (64 * K + 756) ∧ Below w.heap.size w w' := by
  obtain ⟨i0, hi0, hz0, hz1, hz2⟩ := info_parts info_refRatZ
  obtain ⟨hz, -, -, hl3, -⟩ := gok_iff.1 ok
  have HFIT := hid (gok_fit ok)
  rw [show g.zones.toNat = n by omega] at HFIT
  obtain ⟨Z, H, lo, hi, S⟩ := g
  simp only at h hn hz hl3 HFIT hXL ⊢
  subst hn
  have b0 := ibel w (Obj.cells #[.int .i64 (n : Int), .int .i64 H, .slice la S.length lc, .int .i64 lo, .int .i64 hi] 24)
  have x0 := inew w (Obj.cells #[.int .i64 (n : Int), .int .i64 H, .slice la S.length lc, .int .i64 lo, .int .i64 hi] 24)
  have z0 := ibx x0 0 (.int .i64 (n : Int)) rfl
  have z2 := ibx x0 2 (.slice la S.length lc) rfl
  have HL := hid h
  have HX := hid hX
  obtain ⟨ta, tc, hte, tl, tm⟩ := hX.slice
  obtain ⟨a', c', e', hl, hm⟩ := h.slice
  simp only [Value.slice.injEq] at e'
  obtain ⟨rfl, -, rfl⟩ := e'
  unfold maxLen at hm
  have HXL := hid hXL
  subst hte
  rw [hXL] at tl
  have hXe : (Value.slice ta X.length tc) = .slice ta S.length tc := by rw [hXL]
  rw [hXe] at HX
  simp only [hXe]
  have bA := b0.alloc b0.size (Obj.cells #[] 38)
  have hsz : (w.alloc (Obj.cells #[.int .i64 (n : Int), .int .i64 H, .slice la S.length lc, .int .i64 lo, .int .i64 hi] 24)).heap.size = w.heap.size + 1 := by simp
  have hg0 : w.heap.size < w.heap.size + 1 := by omega
  have N0 := hid (show TLs ((w.alloc (Obj.cells #[.int .i64 (n : Int), .int .i64 H, .slice la S.length lc, .int .i64 lo, .int .i64 hi] 24)).alloc (Obj.cells #[] 38)) (w.heap.size + 1) (.slice (some ⟨w.heap.size + 1, 0, none⟩) 0 0) [] (exps S X 0) (64 * K + 756) from by rw [← hsz]; exact ls_made (I := TIs) (e := 38) (K := 64 * K + 756) (w.alloc (Obj.cells #[.int .i64 (n : Int), .int .i64 H, .slice la S.length lc, .int .i64 lo, .int .i64 hi] 24)) (w.alloc (Obj.cells #[.int .i64 (n : Int), .int .i64 H, .slice la S.length lc, .int .i64 lo, .int .i64 hi] 24)).heap.size (Nat.le_refl _))
  have bA1 := ibel (w.alloc (Obj.cells #[.int .i64 (n : Int), .int .i64 H, .slice la S.length lc, .int .i64 lo, .int .i64 hi] 24)) (Obj.cells #[] 38)
  have hg1 := bA1.size
  rw [hsz] at hg1
  have z0 := ikc bA1 z0
  have z2 := ikc bA1 z2
  clear h x0 b0 ok hX hXL bA1 hXe hsz
  go_enter Tryz.func34, Tryz.ntmps34
  go_wp2_with fail
  generalize (w.alloc (Obj.cells #[.int .i64 (n : Int), .int .i64 H, .slice la S.length lc, .int .i64 lo, .int .i64 hi] 24)).alloc (Obj.cells #[] 38) = W0 at *
  generalize w.heap.size + 1 = g0 at *
  have HKx0 := hid (fun (Y : World) (k : Below g0 W0 Y) => And.intro ((k.cell (p := ⟨w.heap.size, 0, none⟩) hg0).trans z0) ((k.cell (p := ⟨w.heap.size, 2, none⟩) hg0).trans z2))
  have HW0 := hid bA
  clear z0 z2 bA
  go_loopw [5, 6] (fun ov zv wr => ∃ (z : Nat) (C' : List (List Value)), z ≤ n ∧ zv = .int .i64 (z : Int) ∧ Hid (TLs wr g0 ov C' (exps S X z) (64 * K + 756)) ∧ Below g0 W0 wr) (fun _ i _ => n - (intOf i).toNat)
  case atStart => exact ⟨0, [], Nat.zero_le _, rfl, N0, Below.refl _ _⟩
  case round =>
  obtain ⟨z, C', hzn, rfl, HO, bwr⟩ := hrel
  obtain ⟨wo, hwo⟩ : ∃ wo, wo = wr := ⟨_, rfl⟩
  subst hwo
  obtain ⟨z0, z2⟩ := HKx0.out _ bwr
  obtain ⟨oa, oc, hoe, ol, om⟩ := HO.out.slice
  subst hoe
  have HEL := hid (exps_len S X z)
  rw [HEL.out] at ol
  by_cases hlz : z < n
  case neg =>
    obtain rfl : z = n := by omega
    have B1 := HW0.out.trans (bwr.mono (Nat.le_of_lt hg0))
    have HOB := hid (HO.out.base (Nat.le_of_lt hg0))
    go_wp2_with fail
    go_ret
    exact ⟨_, _, rfl, HOB.out, B1⟩
  have hlzI : (z : Int) < (n : Int) := by omega
  go_wp2_with fail
  refine (t_of wo 0 (by decide) (by decide)).mono ?_
  rintro e Y1 ⟨v, rfl, hv, bY1⟩
  obtain ⟨s1, s2, s3, s4, s5, s6, s7, s8, rfl⟩ := hv.form
  have bA1 := ibel Y1 (Obj.cells #[.bool s1, .slice s2 s3 s4, .bool s5, .slice s6 s7 s8] 38)
  have HB0 := hid (box_new Y1 (Obj.cells #[.bool s1, .slice s2 s3 s4, .bool s5, .slice s6 s7 s8] 38))
  have HT0 := hid (((hv.mono h3).below bA1))
  have hwr0 : g0 ≤ wo.heap.size := Nat.le_trans hg1 bwr.size
  have BW1 := (bwr.trans (bY1.mono hwr0)).trans (bA1.mono (Nat.le_trans hwr0 bY1.size))
  have HBO := hid (chain2 bY1 bA1)
  have hbxo : wo.heap.size ≤ Y1.heap.size := bY1.size
  have hbx0 : g0 ≤ Y1.heap.size := Nat.le_trans hwr0 bY1.size
  clear bA1 bY1 hv z0 z2
  go_wp2_with (first | (refine wpList_store_fresh rfl 38 _ _ rfl _ _ _ rfl (by simp) rfl 4 info_refRat (by rfl) (by rfl) (by simp [Value.oneCell']) ?_) | fail)
  generalize Y1.alloc (Obj.cells #[.bool s1, .slice s2 s3 s4, .bool s5, .slice s6 s7 s8] 38) = W1 at *
  generalize Y1.heap.size = bx at *
  have HBW1 := hid (HW0.out.trans (BW1.mono (Nat.le_of_lt hg0)))
  have hbw : w.heap.size ≤ bx := by omega
  have hbw1 : bx < W1.heap.size := lt_of_block HB0.out
  obtain ⟨z0, z2⟩ := HKx0.out _ BW1
  have HKx := hid (fun (Y : World) (k : Below bx W1 Y) => HKx0.out _ (BW1.trans (k.mono hbx0)))
  go_loopw [8] (fun iv wr => ∃ (k : Nat) (x0 x1 x2 x3 : Value), k ≤ S.length ∧ iv = .int .i64 (k : Int) ∧ Hid (wr.heap[bx]? = some (.cells #[x0, x1, x2, x3] 38 (0, 0))) ∧ Hid (TIs wr (.agg #[x0, x1, x2, x3]) (expo S X z k) (KK K k)) ∧ Below bx W1 wr) (fun i _ => S.length - (intOf i).toNat)
  case atStart => exact ⟨0, _, _, _, _, Nat.zero_le _, rfl, HB0, HT0, Below.refl _ _⟩
  case round =>
    obtain ⟨k, t0', t1', t2', t3', hk, rfl, HBX, HTX, bW⟩ := hrel
    obtain ⟨z0, z2⟩ := HKx.out _ bW
    have hbx : bx ≤ wr.heap.size := Nat.le_trans (Nat.le_of_lt hbw1) bW.size
    have HBW := hid (HBW1.out.trans (bW.mono hbw))
    by_cases hlt : k < S.length
    · have hltI : (k : Int) < (S.length : Int) := by omega
      obtain ⟨b, off, c', e, _, _, q0, q1, q2⟩ := (HL.out.below HBW.out).at k hlt
      simp only [Value.slice.injEq] at e
      obtain ⟨rfl, -, rfl⟩ := e
      have hli : (0 : Int) ≤ (k : Int) ∧ (k : Int) < (S.length : Int) := by omega
      obtain ⟨gx, xc, p0', p1', p2', p3', e, _, p0, p1, p2, p3, hxi⟩ := (Ls.below (fun h b => h.below b) HX.out HBW.out).at k (by rw [HXL.out]; exact hlt)
      simp only [Value.slice.injEq] at e
      obtain ⟨rfl, -, rfl⟩ := e
      have hfit := HFIT.out _ (List.getElem_mem hlt)
      have HNX := hid (show expo S X z (k + 1) = expo S X z k + (if S[k].f.toNat = z then rat' X k else 0) - (if S[k].t.toNat = z then rat' X k else 0) by simp only [expo]; rw [getD_mem hlt])
      have HKL := hid (kk_le K k (by omega))
      have HKS := hid (show KK K (k + 1) = 4 * KK K k + 36 from rfl)
      have HKM := hid (kk_ge K k)
      obtain ⟨Kk, HKK⟩ : ∃ Kk, Hid (KK K k = Kk) := ⟨_, hid rfl⟩
      rw [HKK.out] at HKL HTX HKS HKM
      have HXI := hid (hxi.mono HKM.out)
      rw [show X[k]'(by rw [HXL.out]; exact hlt) = rat' X k from rat_get _] at HXI
      obtain ⟨E, HE⟩ : ∃ E, Hid (expo S X z k = E) := ⟨_, hid rfl⟩
      rw [HE.out] at HNX HTX
      generalize hSk : S[k] = l at *
      obtain ⟨lf, lt, lcap⟩ := l
      obtain ⟨f1, f2, f3, f4, f5, -⟩ := hfit
      simp only at f1 f2 f3 f4 f5 HNX q0 q1 q2
      obtain ⟨a, rfl⟩ : ∃ a : Nat, lf = a := ⟨lf.toNat, by omega⟩
      obtain ⟨b', rfl⟩ : ∃ b' : Nat, lt = b' := ⟨lt.toNat, by omega⟩
      simp only [Int.toNat_natCast] at HNX
      generalize rat' X k = xk at *
      obtain ⟨eb1, eb2, eb3⟩ := expo_both E xk a b' z f5
      have HE1 := hid eb1
      have HE2 := hid eb2
      have HE3 := hid eb3
      obtain ⟨t0, t1, t2, t3⟩ := four_cell HBX.out
      clear eb1 eb2 eb3 hxi
      by_cases ha : a = z
      · have hb : ¬ b' = z := by omega
        have ha1 : ((a : Int) == (z : Int)) = true := by simp; omega
        have hb1 : ((b' : Int) == (z : Int)) = false := by simp; omega
        have HNE := hid (HNX.out.trans (HE1.out ha))
        clear ha hb HE1 HE2 HE3 HNX
        · have HOP := hid (fun (Y : World) (bY : Below wr.heap.size wr Y) => t_add Y _ _ E xk Kk (by have := HKL.out; omega) (HTX.out.below bY) (HXI.out.below bY))
          have F0 : Below wr.heap.size wr wr.drew := (Below.refl _ _).drew
          go_wp2_with fail
          first
          | (go_region_with (first
              | (go_at_call 10; refine (HOP.out _ (by first | exact Below.refl _ _ | exact (Below.refl _ _).drew | exact below_dn (Below.refl _ _) _)).mono ?_; rintro e X4 ⟨v4, rfl, n4, b4⟩; obtain ⟨g1, g2, g3, g4, g5, g6, g7, g8, rfl⟩ := n4.form; have bX4 : Below wr.heap.size wr X4 := ⟨b4.os, b4.tape, b4.output, b4.size, b4.block⟩; have hy4 := box_below bX4 HBX.out (lt_of_block HBX.out); obtain ⟨y0, y1, y2, y3⟩ := four_cell hy4; have fr := fun j => blk_free hy4 j; clear b4)))
          | fail
          all_goals
            have HG := hid (set4g hy4 (.bool g1) (.slice g2 g3 g4) (.bool g5) (.slice g6 g7 g8))
            have NV := hid (n4.kty (set4_kty (o := 0) (t1 := 38) (t2 := 38) hy4 (Or.inl rfl) (.bool g1) (.slice g2 g3 g4) (.bool g5) (.slice g6 g7 g8)) (by decide) (by decide))
            have bV := bW.trans (set4_below (o := 0) (bX4.mono hbx) (Nat.le_refl _) (.bool g1) (.slice g2 g3 g4) (.bool g5) (.slice g6 g7 g8))
            clear bX4 hy4 n4 y0 y1 y2 y3 fr F0 HOP HBX HTX HXI t0 t1 t2 t3 p0 p1 p2 p3
            generalize (((X4.setCell ⟨bx, 0, none⟩ (.bool g1)).setCell ⟨bx, 1, none⟩ (.slice g2 g3 g4)).setCell ⟨bx, 2, none⟩ (.bool g5)).setCell ⟨bx, 3, none⟩ (.slice g6 g7 g8) = V at *
            obtain ⟨z0, z2⟩ := HKx.out _ bV
            obtain ⟨_, _, _, e, _, _, q0, q1, q2⟩ := (HL.out.below (HBW1.out.trans (bV.mono hbw))).at k hlt
            simp only [Value.slice.injEq, Option.some.injEq, Addr.mk.injEq, and_true, true_and] at e
            obtain ⟨⟨rfl, rfl⟩, rfl⟩ := e
            rw [hSk] at q0 q1 q2
            simp only at q0 q1 q2
            have HNW := hid (show TIs V (.agg #[.bool g1, .slice g2 g3 g4, .bool g5, .slice g6 g7 g8]) (expo S X z (k + 1)) (KK K (k + 1)) by rw [HNE.out, HKS.out]; exact NV.out.mono (by omega))
            go_wp2_with fail
            go_roundw
            case rel => exact ⟨k + 1, _, _, _, _, by omega, by go_num, HG, HNW, bV⟩
            case measure => simp [intOf]; omega
      · have ha1 : ((a : Int) == (z : Int)) = false := by simp; omega
        by_cases hb : b' = z
        · have hb1 : ((b' : Int) == (z : Int)) = true := by simp; omega
          have HNE := hid (HNX.out.trans (HE2.out ha hb))
          clear ha hb HE1 HE2 HE3 HNX
          have HOP := hid (fun (Y : World) (bY : Below wr.heap.size wr Y) => t_sub Y _ _ E xk Kk (by have := HKL.out; omega) (HTX.out.below bY) (HXI.out.below bY) (by have := HKL.out; omega))
          have F0 : Below wr.heap.size wr wr.drew := (Below.refl _ _).drew
          go_wp2_with fail
          first
          | (go_region_with (first
              | (go_at_call 57; refine (HOP.out _ (by first | exact Below.refl _ _ | exact (Below.refl _ _).drew | exact below_dn (Below.refl _ _) _)).mono ?_; rintro e X4 ⟨v4, rfl, n4, b4⟩; obtain ⟨g1, g2, g3, g4, g5, g6, g7, g8, rfl⟩ := n4.form; have bX4 : Below wr.heap.size wr X4 := ⟨b4.os, b4.tape, b4.output, b4.size, b4.block⟩; have hy4 := box_below bX4 HBX.out (lt_of_block HBX.out); obtain ⟨y0, y1, y2, y3⟩ := four_cell hy4; have fr := fun j => blk_free hy4 j; clear b4)))
          | fail
          all_goals
            have HG := hid (set4g hy4 (.bool g1) (.slice g2 g3 g4) (.bool g5) (.slice g6 g7 g8))
            have NV := hid (n4.kty (set4_kty (o := 0) (t1 := 38) (t2 := 38) hy4 (Or.inl rfl) (.bool g1) (.slice g2 g3 g4) (.bool g5) (.slice g6 g7 g8)) (by decide) (by decide))
            have bV := bW.trans (set4_below (o := 0) (bX4.mono hbx) (Nat.le_refl _) (.bool g1) (.slice g2 g3 g4) (.bool g5) (.slice g6 g7 g8))
            clear bX4 hy4 n4 y0 y1 y2 y3 fr F0 HOP HBX HTX HXI t0 t1 t2 t3 p0 p1 p2 p3
            generalize (((X4.setCell ⟨bx, 0, none⟩ (.bool g1)).setCell ⟨bx, 1, none⟩ (.slice g2 g3 g4)).setCell ⟨bx, 2, none⟩ (.bool g5)).setCell ⟨bx, 3, none⟩ (.slice g6 g7 g8) = V at *
            obtain ⟨z0, z2⟩ := HKx.out _ bV
            obtain ⟨_, _, _, e, _, _, q0, q1, q2⟩ := (HL.out.below (HBW1.out.trans (bV.mono hbw))).at k hlt
            simp only [Value.slice.injEq, Option.some.injEq, Addr.mk.injEq, and_true, true_and] at e
            obtain ⟨⟨rfl, rfl⟩, rfl⟩ := e
            rw [hSk] at q0 q1 q2
            simp only at q0 q1 q2
            have HNW := hid (show TIs V (.agg #[.bool g1, .slice g2 g3 g4, .bool g5, .slice g6 g7 g8]) (expo S X z (k + 1)) (KK K (k + 1)) by rw [HNE.out, HKS.out]; exact NV.out.mono (by omega))
            go_wp2_with fail
            go_roundw
            case rel => exact ⟨k + 1, _, _, _, _, by omega, by go_num, HG, HNW, bV⟩
            case measure => simp [intOf]; omega
        · have hb1 : ((b' : Int) == (z : Int)) = false := by simp; omega
          have HNE := hid (HNX.out.trans (HE3.out ha hb))
          have HNW := hid (show TIs wr (.agg #[t0', t1', t2', t3']) (expo S X z (k + 1)) (KK K (k + 1)) by rw [HNE.out, HKS.out]; exact HTX.out.mono (by omega))
          clear ha hb HE1 HE2 HE3 HNX
          go_wp2_with fail
          go_roundw
          case rel => exact ⟨k + 1, _, _, _, _, by omega, by go_num, HBX, HNW, bW⟩
          case measure => simp [intOf]; omega
    · obtain rfl : k = S.length := by omega
      obtain ⟨t0, t1, t2, t3⟩ := four_cell HBX.out
      obtain ⟨u1, u2, u3, u4, u5, u6, u7, u8, e⟩ := HTX.out.form
      simp only [Value.agg.injEq, Array.mk.injEq, List.cons.injEq, and_true] at e
      obtain ⟨rfl, rfl, rfl, rfl⟩ := e
      have bA := ibel wr (Obj.cells #[.bool u1, .slice u2 u3 u4, .bool u5, .slice u6 u7 u8] 38)
      have la_ := Ls.below (fun h b => h.below b) (Ls.below (fun h b => h.below b) HO.out (HBO.out.trans (bW.mono hbxo))) bA
      have own := la_.own
      have hfn := four_new wr 38 (.bool u1) (.slice u2 u3 u4) (.bool u5) (.slice u6 u7 u8)
      have HLA := hid la_
      have HQA := hid ((HTX.out.below bA).mono (kk_le K S.length hl3))
      have HWA := hid (BW1.trans ((bW.mono hbx0).trans (bA.mono (Nat.le_trans hbx0 hbx))))
      have hbs : g0 ≤ (wr.alloc (Obj.cells #[.bool u1, .slice u2 u3 u4, .bool u5, .slice u6 u7 u8] 38)).heap.size := Nat.le_trans (Nat.le_trans hbx0 hbx) bA.size
      have hX64 : (exps S X z).length ≤ 1000 := by rw [HEL.out]; omega
      clear la_ bA HKx HTX HBX bW
      go_wp2_with (first | (at_builtin; refine wpList_append_own_at _ rfl _ _ 29 rfl g0 38 i0 (.agg #[.bool false, .slice none 0 0, .bool false, .slice none 0 0]) 4 64 Tryz.underlying29 hi0 hz0 hz1 hz2 rfl (by decide) (.slice oa (exps S X z).length oc) (exps S X z).length C'.flatten rfl own ⟨wr.heap.size, 0, none⟩ 1 1 [.bool u1, .slice u2 u3 u4, .bool u5, .slice u6 u7 u8] rfl rfl hfn (by intro u hu; simp at hu; rcases hu with rfl | rfl | rfl | rfl <;> rfl) (by unfold maxLen; omega) (by omega) hbs ?_) | fail)
      intro v' Y5 o5 hg5 _ hat5
      have kg : Kty 38 38 _ Y5 := Kty.of_grown hg5 (fun g hg => own_ty own g hg)
      have hpush := Ls.push HLA.out (w' := Y5) (v' := v') (x0 := .bool u1) (x1 := .slice u2 u3 u4) (x2 := .bool u5) (x3 := .slice u6 u7 u8) (q := expo S X z S.length) o5 (fun h => TIs.kty h kg (by decide) (by decide)) HQA.out
      rw [← exps_succ] at hpush
      have B5 := HWA.out.grown hg5 hbs (fun g hg => (own.lt g hg).1)
      have HPU := hid hpush
      clear hpush kg own hfn o5 hg5 hat5 hbs t0 t1 t2 t3
      go_wp2_with fail
      go_roundw
      case rel => exact ⟨z + 1, _, by omega, by go_num, HPU, B5⟩
      case measure => simp [intOf]; omega
end Go.Proofs.YtmoailbilnkfnaaGreatDoor
