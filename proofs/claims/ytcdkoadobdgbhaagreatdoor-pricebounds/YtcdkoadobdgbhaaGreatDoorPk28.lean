/- Divide, Words, DivMod, Gcd. -/
import Derived.Test.YtcdkoadobdgbhaaGreatDoorPk0
import Derived.Test.YtcdkoadobdgbhaaGreatDoorPk8
import Derived.Test.YtcdkoadobdgbhaaGreatDoorPk24
import Derived.Test.YtcdkoadobdgbhaaGreatDoorPk10
import Derived.Deep.LoopGhost
import Derived.Test.YtcdkoadobdgbhaaGreatDoorPk7
import Derived.Test.YtcdkoadobdgbhaaGreatDoorPk5
/- divide: long division, a limb a digit. -/
namespace Go.Proofs.YtcdkoadobdgbhaaGreatDoor
open Go.RowKit
set_option linter.unusedVariables false
set_option maxRecDepth 100000
set_option linter.unusedSimpArgs false
attribute [local go_sem ↓] Go.wp_at_zero Go.wp_at_succ

theorem lz_facts (x : Nat) (h0 : x ≠ 0) (hx : x < 4294967296) : ∃ s : Nat, s ≤ 31 ∧ 32 - (Lib.bitLen x : Int) = (s : Int) ∧ x * 2 ^ s < 4294967296 := by
  obtain ⟨h1, h2, h3⟩ := bin_len x hx
  have hle := bin_le (bin_len x hx) (show x < 2 ^ 32 from hx)
  generalize Lib.bitLen x = b at *
  have hb0 : b ≠ 0 := by rintro rfl; simp at h1; omega
  refine ⟨32 - b, by omega, by omega, ?_⟩
  have : x * 2 ^ (32 - b) < 2 ^ b * 2 ^ (32 - b) := Nat.mul_lt_mul_of_pos_right h1 (Nat.two_pow_pos _)
  rw [← Nat.pow_add, show b + (32 - b) = 32 by omega] at this
  exact this
/-- What memory holds: the divisor, the rest, the quotient. -/
def DivMem (w0 : World) (gd gr gq na nb c : Nat) (D R Q : List Nat) (wr : World) : Prop :=
  wr.ownsRow 0 213 1 (.slice (some ⟨gd, 0, none⟩) nb (nb + 1)) nb (u32s D) ∧ wr.ownsRow w0.heap.size 213 1 (.slice (some ⟨gr, 0, none⟩) (na + 1) (na + 1)) (na + 1) (u32s R) ∧ wr.ownsRow w0.heap.size 213 1 (.slice (some ⟨gq, 0, none⟩) c c) c (u32s Q) ∧ Below w0.heap.size w0 wr
theorem DivMem.drewN {w0 wr : World} {gd gr gq na nb c : Nat} {D R Q : List Nat} (h : DivMem w0 gd gr gq na nb c D R Q wr) (q : Nat) : DivMem w0 gd gr gq na nb c D R Q (wr.drewN q) :=
  ⟨own_drewN h.1 q, own_drewN h.2.1 q, own_drewN h.2.2.1 q, below_drewN h.2.2.2 q⟩
theorem DivMem.rest {w0 wr X : World} {gd gr gq na nb c : Nat} {D R R' Q : List Nat} (h : DivMem w0 gd gr gq na nb c D R Q wr) (hg : wr.grownBy X (some gr)) (hd : gd ≠ gr) (hq : gq ≠ gr) (hw : w0.heap.size ≤ gr)
    (ho : X.ownsRow w0.heap.size 213 1 (.slice (some ⟨gr, 0, none⟩) (na + 1) (na + 1)) (na + 1) (u32s R')) : DivMem w0 gd gr gq na nb c D R' Q X :=
  ⟨h.1.kept hg (Or.inr (by simp [Value.ownBlock]; exact hd)), ho, h.2.2.1.kept hg (Or.inr (by simp [Value.ownBlock]; exact hq)), h.2.2.2.grown hg h.2.2.2.size (fun k hk => by cases hk; exact hw)⟩
theorem DivMem.quot {w0 wr : World} {gd gr gq na nb c : Nat} {D R Q : List Nat} (h : DivMem w0 gd gr gq na nb c D R Q wr) (hd : gd ≠ gq) (hq : gr ≠ gq) (hw : w0.heap.size ≤ gq) (j x : Nat) :
    DivMem w0 gd gr gq na nb c D R (Q.set j x) (wr.setCell ⟨gq, j, none⟩ (.int .u32 (x : Int))) := by
  have O := h.2.2.1.stored j (.int .u32 (x : Int))
  rw [← u32s_set] at O
  exact ⟨h.1.kept O.2 (Or.inr (by simp [Value.ownBlock]; exact hd)), h.2.1.kept O.2 (Or.inr (by simp [Value.ownBlock]; exact hq)), O.1, h.2.2.2.grown O.2 h.2.2.2.size (fun k hk => by cases hk; exact hw)⟩
theorem own_lt {w : World} {base g n cap : Nat} {e : TypeId} {size : Nat} {xs : List Value} (h : w.ownsRow base e size (.slice (some ⟨g, 0, none⟩) n cap) n xs) : g < w.heap.size := by
  rcases h.2 with ⟨h', _⟩ | ⟨g', cap', cur, h', hb, hg, _⟩
  · simp at h'
  · simp only [Value.slice.injEq, Option.some.injEq, Addr.mk.injEq, and_true, true_and] at h'
    obtain ⟨rfl, rfl⟩ := h'
    exact (Array.getElem?_eq_some_iff.1 hg).1
theorem own_base {w : World} {base base' g n cap : Nat} {e : TypeId} {size : Nat} {xs : List Value} (h : w.ownsRow base e size (.slice (some ⟨g, 0, none⟩) n cap) n xs) (hb : base' ≤ base) : w.ownsRow base' e size (.slice (some ⟨g, 0, none⟩) n cap) n xs := by
  refine ⟨h.1, ?_⟩
  rcases h.2 with h' | ⟨g', cap', cur, h', hg, r⟩
  · exact Or.inl h'
  · exact Or.inr ⟨g', cap', cur, h', by omega, r⟩
theorem divmem_start {w0 w1 w2 w3 : World} {na nb c : Nat} {M N Q : List Nat} (oM : w1.ownsRow w0.heap.size 213 1 (.slice (some ⟨w0.heap.size, 0, none⟩) (nb + 1) (nb + 1)) (nb + 1) (u32s M)) (hb1 : Below w0.heap.size w0 w1)
    (oN : w2.ownsRow w1.heap.size 213 1 (.slice (some ⟨w1.heap.size, 0, none⟩) (na + 1) (na + 1)) (na + 1) (u32s N)) (hb2 : Below w1.heap.size w1 w2) (oQ : w3.ownsRow w2.heap.size 213 1 (.slice (some ⟨w2.heap.size, 0, none⟩) c c) c (u32s Q)) (hg : w2.grownBy w3 none) :
    ∃ gd gr gq, w0.heap.size = gd ∧ w1.heap.size = gr ∧ w2.heap.size = gq ∧ gd < gr ∧ gr < gq ∧ w0.heap.size ≤ gd ∧ DivMem w0 gd gr gq na nb c (M.take nb) N Q w3 := by
  have l1 := own_lt oM
  have l2 := own_lt oN
  refine ⟨_, _, _, rfl, rfl, rfl, l1, l2, Nat.le_refl _, ?_, ?_, ?_, ?_⟩
  · rw [u32s_take]
    exact (ownsRow_base0 (ownsRow_take (ownsRow_below oM hb2) (Nat.le_succ nb))).kept hg (Or.inr (by simp [Value.ownBlock]))
  · exact own_base (oN.kept hg (Or.inr (by simp [Value.ownBlock]))) (by omega)
  · exact own_base oQ (by omega)
  · exact (hb1.trans (hb2.mono (by omega))).grown hg (by omega) (fun k hk => by simp at hk)
set_option maxHeartbeats 4000000 in
theorem divide_any (w : World) (ga na ca gb nb cb m : Nat) (A B : List Nat) (hA : Bd A) (hB : Bd B) (hAl : A.length = na) (hBl : B.length = nb) (hm : nb = m + 1) (hab : nb ≤ na) (hna : na ≤ 1000000000) (hca : na ≤ ca) (hcam : ca ≤ maxLen) (hcb : nb ≤ cb) (hcbm : cb ≤ maxLen) (ht : lg B m ≠ 0)
    (oa : w.ownsRow 0 213 1 (.slice (some ⟨ga, 0, none⟩) na ca) na (u32s A)) (ob : w.ownsRow 0 213 1 (.slice (some ⟨gb, 0, none⟩) nb cb) nb (u32s B)) :
    Calls Tryz.prog 211 #[.slice (some ⟨ga, 0, none⟩) na ca, .slice (some ⟨gb, 0, none⟩) nb cb] w fun e w' => (∃ gq nq gr nr Q R, e = .returned (.tuple #[.slice (some ⟨gq, 0, none⟩) nq nq, .slice (some ⟨gr, 0, none⟩) nr nr]) ∧ Q.length = nq ∧ R.length = nr ∧ nq ≤ na ∧ nr ≤ na + 1 ∧ Bd Q ∧ Bd R ∧ val Q = val A / val B ∧ val R = val A % val B ∧ w'.ownsRow w.heap.size 213 1 (.slice (some ⟨gq, 0, none⟩) nq nq) nq (u32s Q) ∧ w'.ownsRow w.heap.size 213 1 (.slice (some ⟨gr, 0, none⟩) nr nr) nr (u32s R)) ∧ Below w.heap.size w w' := by
  obtain ⟨i0, hi, hz0, hz1, hz2⟩ := info_parts Tryz.info213
  have hbm := hB m
  have cbm := u32s_at ob m (by omega)
  unfold maxLen at hcam hcbm
  have hm1 : (nb : Int) - 1 = (m : Int) := by omega
  have hmlt : m < nb := by omega
  have HF := hid (And.intro hAl (And.intro hBl hm))
  clear hAl hBl hm
  obtain ⟨s, hs, hse, hst⟩ := lz_facts (lg B m) ht hbm
  go_enter Tryz.func211, Tryz.ntmps211
  go_wp2_with fail
  go_step3
  go_wp2_with fail
  refine (Tryz.bits_LeadingZeros32 (lg B m : Int) _ (by omega) (by omega)).mono ?_
  rintro e w0 ⟨rfl, rfl⟩
  rw [Int.toNat_natCast, hse]
  clear cbm hse
  go_wp2_with fail
  refine (shiftUp_any _ gb nb cb s B hB HF.out.2.1 (by omega) hcb (by unfold maxLen; omega) hs ob).mono ?_
  rintro e w1 ⟨rfl, ⟨M, hMl, hMb, hMv, oM⟩, hb1⟩
  have HM := hid (And.intro hMl hMv)
  clear hMl hMv
  go_wp2_with fail
  refine (shiftUp_any _ ga na ca s A hA HF.out.1 hna hca (by unfold maxLen; omega) hs (ownsRow_below oa hb1)).mono ?_
  rintro e w2 ⟨rfl, ⟨N, hNl, hNb, hNv, oN⟩, hb2⟩
  have HN := hid (And.intro hNl hNv)
  clear hNl hNv
  obtain ⟨c, hc⟩ : ∃ c : Nat, (na : Int) - (nb : Int) + 1 = (c : Int) := ⟨na - nb + 1, by omega⟩
  go_wp2_with (first | (at_make; refine wpList_make_full _ rfl _ _ 67 rfl w2.heap.size 213 i0 (.int .u32 0) 1 Tryz.underlying67 hi hz0 hz1 _ _ _ _ c rfl rfl (by omega) (by omega) (by rw [hz2]; omega) (by unfold maxLen; omega) (Nat.le_refl _) ?_))
  intro w3 oQ hgrow
  simp only [toList_madeCells_one, Value.cells, Nat.mul_one] at oQ
  rw [← u32s_rep] at oQ
  obtain ⟨D, hDe⟩ : ∃ D, M.take nb = D := ⟨_, rfl⟩
  have hu := up_take B M nb m s hB hMb HF.out.2.1 HF.out.2.2 HM.out.1 ht hst HM.out.2
  obtain ⟨gd, gr, gq, e1, e2, e3, l1, l2, l0, hMem⟩ := divmem_start oM hb1 oN hb2 oQ hgrow
  rw [hDe] at hu hMem
  obtain ⟨hDl, hDb, hDv, hD0⟩ := hu
  have hBeg := div_begin A B N na nb m c s hA HF.out.1 HF.out.2.1 HF.out.2.2 hab (by omega) ht hNb HN.out.1 HN.out.2
  rw [e1, e2, e3]
  have H := hid (And.intro hDl (And.intro hDb (And.intro hDv (And.intro hD0 (And.intro hBeg hMem)))))
  clear hDl hDb hDv hD0 hBeg hMem oM hb1 oN hb2 oQ hgrow hDe e2 e3 HM HN hst oa ob hNb hMb hi hz0 hz1 hz2 hbm hA hB ht
  go_wp2
  go_step3
  go_wp2
  go_loopg [39] c (fun g i wr => ∃ (k : Nat) (R Q : List Nat), k + g = c ∧ i = .int .i64 k ∧ Hid (LongRel R Q (val B * 2 ^ s) (val A * 2 ^ s) (na + 1) c g) ∧ Hid (DivMem w0 gd gr gq na nb c D R Q wr))
  case atStart => exact ⟨0, N, _, by omega, rfl, hid H.out.2.2.2.2.1, hid H.out.2.2.2.2.2⟩
  case round =>
    obtain ⟨k, R, Q, hkg, rfl, HR, HM⟩ := hrel
    cases gk with
    | zero =>
      have hkz : ¬ ((k : Int) < (c : Int)) := by omega
      go_wp2_with fail
      refine (shiftDown_any _ w0.heap.size gr (na + 1) (na + 1) s R HR.out.2.1 HR.out.1 (by omega) (Nat.le_refl _) (by unfold maxLen; omega) hs HM.out.2.1).mono ?_
      rintro e w4 ⟨rfl, ⟨R2, hR2l, hR2b, hR2v, oR2⟩, hg4⟩
      have HE := hid (div_end R Q (val A) (val B) (na + 1) c s HR.out)
      have HM4 := hid (HM.out.rest hg4 (by omega) (by omega) (by omega) oR2)
      have HX := hid (And.intro hR2l (And.intro hR2b hR2v))
      have HQ := hid (And.intro HR.out.2.2.1 HR.out.2.2.2.1)
      clear hR2l hR2b hR2v oR2 hg4 HR
      go_wp2
      try rw [Exit.noGoto_ret]
      refine bodyPost_ret (v := .tuple #[.slice (some ⟨gq, 0, none⟩) c c, .slice (some ⟨gr, 0, none⟩) (na + 1) (na + 1)]) (by simp [results, Tryz.results211, go_sem]) rfl ?_
      exact ⟨⟨gq, c, gr, na + 1, Q, R2, rfl, HQ.out.1, HX.out.1, by have := HF.out.2.2; omega, Nat.le_refl _, HQ.out.2, HX.out.2.1, HE.out.1, by rw [HX.out.2.2]; exact HE.out.2, HM4.out.2.2.1, HM4.out.2.1⟩, HM4.out.2.2.2⟩
    | succ g =>
      have hkz : (k : Int) < (c : Int) := by omega
      have hpl : (c : Int) - 1 - (k : Int) = (g : Int) := by omega
      have hgn : g + nb < na + 1 := by omega
      have hwl : g + nb + 1 - g = nb + 1 := by omega
      go_wp2_with fail
      refine (guess_any _ w0.heap.size gr (na + 1) (na + 1) g (na + 1 - g) gd nb m (nb + 1) R D HR.out.2.1 H.out.2.1 HR.out.1 H.out.1 HF.out.2.2 (by omega) (by omega) hgn (by omega) (by omega) H.out.2.2.2.1 HM.out.2.1 HM.out.1).mono ?_
      rintro e w4 ⟨rfl, q, rfl⟩
      have hG := div_guess R Q D _ _ _ _ g nb m HR.out H.out.2.1 H.out.1 HF.out.2.2 H.out.2.2.1 H.out.2.2.2.1
      obtain ⟨f, hf⟩ : ∃ f : Nat, min ((lg R (g + nb) * 4294967296 + lg R (g + m)) / lg D m) 4294967295 = f := ⟨_, rfl⟩
      have hf2 : f < 4294967296 := hf ▸ Nat.lt_of_le_of_lt (Nat.min_le_right _ _) (by decide)
      rw [hf] at hG ⊢
      clear hf
      have HG := hid hG
      clear hG
      have HM' := hid (HM.out.drewN q)
      go_wp2_with fail
      refine (take_any _ w0.heap.size gr (na + 1) (na + 1) g (na + 1 - g) f gd nb (nb + 1) R D HR.out.2.1 H.out.2.1 HR.out.1 H.out.1 hf2 (by omega) (by omega) hgn (by omega) (by omega) (by omega) HM'.out.2.1 HM'.out.1).mono ?_
      rintro e w5 ⟨⟨P, b, hb1, rfl, hPl, hPb, hPk, hPv, oP⟩, hg5⟩
      rw [H.out.2.2.1] at hPv
      have HI := hid (in_first R P (val R) _ (na + 1) g nb f b HG.out.1 HG.out.2.1.symm hf2 (by rw [HG.out.2.1]; exact HG.out.2.2) hPl hPb hb1 hPk hPv)
      have HM5 := hid (HM'.out.rest hg5 (by omega) (by omega) (by omega) oP)
      clear hPl hPb hPk hPv oP hg5 HM HM' HG hf2
      go_wp2
      go_loopg [12, 13] f (fun h d bo wx => ∃ (S : List Nat) (bl : Nat), d = .int .u32 h ∧ bo = .bool (decide (bl = 1)) ∧ h < 4294967296 ∧ bl ≤ 1 ∧ Hid (InRel S (val R) (val B * 2 ^ s) (na + 1) g nb h bl) ∧ Hid (DivMem w0 gd gr gq na nb c D S Q wx))
      case atStart => exact ⟨P, b, rfl, rfl, HI.out.2.2.2.1, hb1, HI, HM5⟩
      case round =>
        obtain ⟨S, bl, rfl, rfl, hh, hbl, HI2, HM6⟩ := hrel
        rcases (show bl = 0 ∨ bl = 1 by omega) with rfl | rfl
        · have st := u32s_at HM6.out.2.2.1 g (by rw [HR.out.2.2.1]; omega)
          have fr := HM6.out.2.2.1.frozenAt g
          have HM7 := hid (HM6.out.quot (by omega) (by omega) (by omega) g gk)
          have HR7 := hid (div_next R S Q _ _ _ _ g nb gk HR.out (by omega) HI2.out)
          go_wp2
          go_roundg g
          case rel => exact ⟨k + 1, S, Q.set g gk, by omega, by go_num, HR7, HM7⟩
          case measure => omega
        · have hp := in_pos HI2.out
          obtain ⟨h1, rfl⟩ : ∃ h1, gk = h1 + 1 := ⟨gk - 1, by omega⟩
          go_wp2_with fail
          refine (give_any _ w0.heap.size gr (na + 1) (na + 1) g (na + 1 - g) gd nb (nb + 1) S D HI2.out.2.1 H.out.2.1 HI2.out.1 H.out.1 (by omega) (by omega) hgn (by omega) (by omega) (by omega) HM6.out.2.1 HM6.out.1).mono ?_
          rintro e w7 ⟨⟨P2, b2, hb2', rfl, hPl, hPb, hPk, hPv, oP⟩, hg7⟩
          rw [H.out.2.2.1] at hPv
          have HN := hid (in_next S P2 (val R) _ (na + 1) g nb (h1 + 1) b2 HI2.out hPl hPb hb2' hPk hPv).2
          rw [Nat.add_sub_cancel] at HN
          have HM7 := hid (HM6.out.rest hg7 (by omega) (by omega) (by omega) oP)
          clear hPl hPb hPk hPv oP hg7 HM6 HI2
          have e0 : decide (b2 = 0) = decide (1 - b2 = 1) := decide_eq_decide.2 (by omega)
          rw [e0]
          clear e0
          obtain ⟨b3, hb3⟩ : ∃ b3, 1 - b2 = b3 := ⟨_, rfl⟩
          rw [hb3] at HN ⊢
          have hb4 : b3 ≤ 1 := by omega
          clear hb3
          go_wp2
          go_roundg h1
          case rel => exact ⟨P2, b3, by go_num, rfl, by omega, hb4, HN, HM7⟩
          case measure => omega
end Go.Proofs.YtcdkoadobdgbhaaGreatDoor
/- fitsWord, word, gcdOfWords, copied: numbers of two limbs at most, as words; a number's copy. -/
namespace Go.Proofs.YtcdkoadobdgbhaaGreatDoor
open Go.RowKit
set_option linter.unusedVariables false
set_option maxRecDepth 100000
set_option linter.unusedSimpArgs false

theorem fits_any (w : World) (ao : Option Addr) (n c : Nat) (hn : n ≤ 1000000000) :
    Calls Tryz.prog 193 #[.agg #[.slice ao n c]] w fun e w' => e = .returned (.bool (decide (n ≤ 2))) ∧ Below w.heap.size w w' := by
  by_cases h : n ≤ 2
  · go_enter Tryz.func193, Tryz.ntmps193
    go_wp2
    go_ret
    exact ⟨by simp [h]; omega, (Below.refl _ _).alloc (Nat.le_refl _) _⟩
  · go_enter Tryz.func193, Tryz.ntmps193
    go_wp2
    go_ret
    exact ⟨by simp [h]; omega, (Below.refl _ _).alloc (Nat.le_refl _) _⟩
theorem kcell {W X : World} {p : Addr} {v : Value} (h : Below W.heap.size W X) (hp : W.cell? p = some v) : X.cell? p = some v := (h.cell (World.block_lt_of_cell? W _ hp)).trans hp
theorem val_two {L : List Nat} (h : L.length ≤ 2) : val L = lg L 1 * 4294967296 + lg L 0 := by
  rw [← pv_val L 2 h]; simp [pv]; omega
theorem limb_lit (w0 w : World) (v : Value) (L : List Nat) (hb : Bd L) (h : Limbs w0 v L) (i : Nat) (z : Int) (hz : z = (i : Int)) (hw : Below w0.heap.size w0 w) :
    Calls Tryz.prog 181 #[.agg #[v], .int .i64 z] w fun e w' => e = .returned (.int .u64 (lg L i : Int)) ∧ ∃ c, w' = w.alloc (.cells c 69) := by
  subst hz; exact limb_any w v L hb (h.below hw) i
set_option maxHeartbeats 800000 in
theorem word_raw (w : World) (v : Value) (ao : Option Addr) (n c x1 x0 T : Nat) (hv : v = .slice ao n c) (L1 : ∀ w', Below w.heap.size w w' → Calls Tryz.prog 181 #[.agg #[.slice ao n c], .int .i64 1] w' fun e w'' => e = .returned (.int .u64 (x1 : Int)) ∧ ∃ c, w'' = w'.alloc (.cells c 69))
    (L0 : ∀ w', Below w.heap.size w w' → Calls Tryz.prog 181 #[.agg #[.slice ao n c], .int .i64 0] w' fun e w'' => e = .returned (.int .u64 (x0 : Int)) ∧ ∃ c, w'' = w'.alloc (.cells c 69)) (b1 : x1 < 4294967296) (OS : bits .or .u64 ((x1 : Int) * 4294967296) (x0 : Int) = (T : Int)) :
    Calls Tryz.prog 195 #[.agg #[v]] w fun e w' => e = .returned (.int .u64 (T : Int)) ∧ Below w.heap.size w w' := by
  subst hv
  have HL1 := hid L1
  have HL0 := hid L0
  have HO := hid OS
  clear L1 L0 OS
  go_enter Tryz.func195, Tryz.ntmps195
  go_wp2
  have B0 : Below w.heap.size w (w.alloc (Obj.cells #[Value.slice ao n c] 69)) := (Below.refl _ _).alloc (Nat.le_refl _) _
  have c0 : (w.alloc (Obj.cells #[Value.slice ao n c] 69)).cell? ⟨w.heap.size, 0, none⟩ = some (.slice ao n c) := by simp [go_sem]
  have s0 : w.heap.size < (w.alloc (Obj.cells #[Value.slice ao n c] 69)).heap.size := by simp
  generalize w.alloc (Obj.cells #[Value.slice ao n c] 69) = W at *
  go_region_held3 (fun w' => w'.cell? ⟨w.heap.size, 0, none⟩ = some (.slice ao n c) ∧ Below W.heap.size W w')
    ((refine And.intro ?_ ?_ <;> first | (refine kcell ?_ c0; first | exact (Below.refl _ _).drew | exact ((Below.refl _ _).alloc (Nat.le_refl _) _).drew | exact (Below.refl _ _).drew.alloc (Nat.le_refl _) _ | exact (boxed2 (Below.refl _ _) _ _).drew | exact boxed2 (Below.refl _ _).drew _ _) | exact (Below.refl _ _).drew | exact ((Below.refl _ _).alloc (Nat.le_refl _) _).drew | exact (Below.refl _ _).drew.alloc (Nat.le_refl _) _ | exact (boxed2 (Below.refl _ _) _ _).drew | exact boxed2 (Below.refl _ _).drew _ _))
    (first | (have g1 := B1; go_at_call 181; refine (HL0.out _ ?_).mono ?_; (first | exact B1 | exact B1.drew); rintro e w' ⟨rfl, c2, rfl⟩) | (go_at_call 181; refine (HL1.out _ ?_).mono ?_; exact B0.drew; rintro e w' ⟨rfl, c1, rfl⟩; have B1 : Below w.heap.size w (W.drew.alloc (Obj.cells c1 69)) := below_alloc' B0.drew (Nat.le_refl _) _))
  have ew : IntKind.u64.wrap ((x1 : Int) * 4294967296) = (x1 : Int) * 4294967296 := w64 _ (by omega) (by omega)
  rw [ew, HO.out]
  clear ew
  have BE : Below w.heap.size w ((W.alloc (Obj.cells c1 69)).alloc (Obj.cells c2 69)).drew := (boxed2 B0 _ _).drew
  generalize ((W.alloc (Obj.cells c1 69)).alloc (Obj.cells c2 69)).drew = X at *
  go_wp2
  go_ret
  exact ⟨rfl, BE⟩
theorem word_any (w : World) (ao : Option Addr) (n c : Nat) (L : List Nat) (hb : Bd L) (h : Limbs w (.slice ao n c) L) (hl : L.length ≤ 2) :
    Calls Tryz.prog 195 #[.agg #[.slice ao n c]] w fun e w' => e = .returned (.int .u64 ((val L : Nat) : Int)) ∧ Below w.heap.size w w' := by
  rw [val_two hl]
  exact word_raw w _ ao n c (lg L 1) (lg L 0) _ rfl (fun w' h' => limb_lit w w' _ L hb h 1 1 rfl h') (fun w' h' => limb_lit w w' _ L hb h 0 0 rfl h') (hb 1) (or_sum (lg L 1) (lg L 0) (hb 1) (hb 0))
set_option maxHeartbeats 800000 in
theorem gcdw_any (w : World) (x y : Nat) (hx : x < 18446744073709551616) (hy : y < 18446744073709551616) :
    Calls Tryz.prog 194 #[.int .u64 x, .int .u64 y] w fun e w' => e = .returned (.int .u64 ((Nat.gcd x y : Nat) : Int)) ∧ Below w.heap.size w w' := by
  go_enter Tryz.func194, Tryz.ntmps194
  go_wp2
  go_loopg [0, 1] y (fun k a b wr => ∃ p : Nat, a = .int .u64 p ∧ b = .int .u64 k ∧ p < 18446744073709551616 ∧ k < 18446744073709551616 ∧ Hid (Nat.gcd p k = Nat.gcd x y) ∧ Below w.heap.size w wr)
  case atStart => exact ⟨x, rfl, rfl, hx, hy, hid rfl, Below.refl _ _⟩
  case round =>
    obtain ⟨p, rfl, rfl, hp, hk, HG, hB⟩ := hrel
    rcases Nat.eq_zero_or_pos gk with h0 | h0
    · subst h0
      have hG := HG.out
      rw [Nat.gcd_zero_right] at hG
      have HG' := hid hG
      clear hG HG
      go_wp2
      go_ret
      exact ⟨by rw [HG'.out]; rfl, hB⟩
    · have h1 : 0 < (gk : Int) := by omega
      have hm := Nat.mod_lt p h0
      have hz : (gk : Int) ≠ 0 := by omega
      have e1 : ((p : Nat) : Int).tmod (gk : Int) = ((p % gk : Nat) : Int) := by rw [Int.tmod_eq_emod_of_nonneg (by omega)]; omega
      have HG2 := hid (show Nat.gcd gk (p % gk) = Nat.gcd x y by rw [← HG.out, Nat.gcd_comm gk, ← Nat.gcd_rec, Nat.gcd_comm])
      obtain ⟨r, hr⟩ : ∃ r, p % gk = r := ⟨_, rfl⟩
      rw [hr] at hm e1 HG2
      clear hr HG
      go_wp2
      go_quiet (fail)
      go_wp2
      go_roundg r
      case rel => exact ⟨gk, rfl, rfl, hk, by omega, HG2, by first | exact hB | exact below_drewN hB _ | exact hB.drew⟩
      case measure => omega
set_option maxHeartbeats 800000 in
theorem copied_any (w : World) (a : Value) (m K : Nat) (hK : K ≤ 1000000000) (ha : NatIs w a m K) :
    Calls Tryz.prog 197 #[a] w fun e w' => ∃ v, e = .returned v ∧ NatIs w' v m K ∧ Below w.heap.size w w' := by
  obtain ⟨sa, A, rfl, oa, bA, tA, rfl, lA⟩ := ha
  obtain ⟨ao, cap, rfl⟩ := oa.slice
  go_enter Tryz.func197, Tryz.ntmps197
  go_wp2_with fail
  have B0 := boxed2 (Below.refl w.heap.size w) (Obj.cells #[Value.slice ao A.length cap] 69) (Obj.cells #[Value.slice none 0 0] 69)
  have b1 := boxed2_second w (Obj.cells #[Value.slice ao A.length cap] 69) (Obj.cells #[Value.slice none 0 0] 69)
  have s0 : ((w.alloc (Obj.cells #[Value.slice ao A.length cap] 69)).alloc (Obj.cells #[Value.slice none 0 0] 69)).heap.size = w.heap.size + 1 + 1 := by simp
  generalize (w.alloc (Obj.cells #[Value.slice ao A.length cap] 69)).alloc (Obj.cells #[Value.slice none 0 0] 69) = W at *
  refine (clone_any W _ A (by omega) (oa.below B0)).mono ?_
  rintro e w' ⟨⟨v', rfl, ho⟩, hb⟩
  obtain ⟨ao', cp, rfl⟩ := Limbs.slice (ownsRow_base0 ho)
  have b2 := box_below hb b1 (by omega)
  have hc := cell_of_one b2
  have hf := free_of_one b2
  have ho2 := ownsRow_setCell_below ho (a := ⟨w.heap.size + 1, 0, none⟩) (by show w.heap.size + 1 < _; omega) (.slice ao' A.length cp)
  have hB2 := (B0.trans (hb.mono (by omega))).setCell (p := ⟨w.heap.size + 1, 0, none⟩) (by show w.heap.size ≤ w.heap.size + 1; omega) (.slice ao' A.length cp)
  clear ho hb b1 b2 B0 oa
  go_wp2
  exact bodyPost_ret (v := .agg #[.slice ao' A.length cp]) (by simp [results, Tryz.results197, go_sem, hc]) rfl ⟨_, rfl, ⟨_, A, rfl, ownsRow_base0 ho2, bA, tA, rfl, lA⟩, hB2⟩
end Go.Proofs.YtcdkoadobdgbhaaGreatDoor
/- DivMod: quotient and rest, or ErrZero. -/
namespace Go.Proofs.YtcdkoadobdgbhaaGreatDoor
open Go.RowKit
set_option linter.unusedVariables false
set_option maxRecDepth 100000
set_option linter.unusedSimpArgs false

theorem NatIs.lt {w : World} {v : Value} {n K : Nat} (h : NatIs w v n K) : n < 4294967296 ^ K := by
  obtain ⟨sl, L, h1, h2, h3, h4, rfl, h6⟩ := h
  exact Nat.lt_of_lt_of_le (val_lt h3) (Nat.pow_le_pow_right (by decide) h6)
theorem NatIs.fit {w : World} {v : Value} {n K K' : Nat} (h : NatIs w v n K) (hn : n < 4294967296 ^ K') : NatIs w v n K' := by
  obtain ⟨sl, L, h1, h2, h3, h4, rfl, h6⟩ := h
  refine ⟨sl, L, h1, h2, h3, h4, rfl, ?_⟩
  rcases Nat.lt_or_ge K' L.length with hl | hl
  · exfalso
    obtain ⟨j, hj⟩ : ∃ j, L.length = j + 1 := ⟨L.length - 1, by omega⟩
    have ht : lg L j ≠ 0 := by have := h4 (by omega); rw [hj] at this; exact this
    have h7 := val_ge_top L j L.length rfl hj ht
    have h8 : 4294967296 ^ K' ≤ 4294967296 ^ j := Nat.pow_le_pow_right (by decide) (by omega)
    omega
  · exact hl
/-- Four variables, one behind the other. -/
theorem boxed4 (w : World) (A B C D : Obj) : Below w.heap.size w ((((w.alloc A).alloc B).alloc C).alloc D) ∧ ((((w.alloc A).alloc B).alloc C).alloc D).heap[w.heap.size]? = some A ∧ ((((w.alloc A).alloc B).alloc C).alloc D).heap[w.heap.size + 1]? = some B ∧ ((((w.alloc A).alloc B).alloc C).alloc D).heap[w.heap.size + 1 + 1]? = some C ∧ ((((w.alloc A).alloc B).alloc C).alloc D).heap[w.heap.size + 1 + 1 + 1]? = some D ∧ ((((w.alloc A).alloc B).alloc C).alloc D).heap.size = w.heap.size + 1 + 1 + 1 + 1 := by
  refine ⟨below_alloc' (boxed3 (Below.refl _ _) A B C) (Nat.le_refl _) D, box_alloc (boxed3_first w A B C) D, box_alloc (boxed3_second w A B C) D, box_alloc (boxed3_third w A B C) D, ?_, by simp⟩
  have := box_new (((w.alloc A).alloc B).alloc C) D
  simpa using this
/-- Two results that are written into their variables. -/
theorem div_out {w0 w1 : World} {p q : Nat} {u v x y : Value} {m n K K' : Nat} (hb : Below w0.heap.size w0 w1) (hp : w0.heap.size ≤ p) (hq : w0.heap.size ≤ q) (hne : p ≠ q) (h1 : w1.heap[p]? = some (.cells #[u] 69 (0, 0))) (h2 : w1.heap[q]? = some (.cells #[v] 69 (0, 0))) (hx : NatIs w1 x m K) (hy : NatIs w1 y n K') (s t : Value) :
    NatIs ((w1.setCell ⟨p, 0, none⟩ s).setCell ⟨q, 0, none⟩ t) x m K ∧ NatIs ((w1.setCell ⟨p, 0, none⟩ s).setCell ⟨q, 0, none⟩ t) y n K' ∧ Below w0.heap.size w0 ((w1.setCell ⟨p, 0, none⟩ s).setCell ⟨q, 0, none⟩ t) ∧ ((w1.setCell ⟨p, 0, none⟩ s).setCell ⟨q, 0, none⟩ t).cell? ⟨p, 0, none⟩ = some s ∧ ((w1.setCell ⟨p, 0, none⟩ s).setCell ⟨q, 0, none⟩ t).cell? ⟨q, 0, none⟩ = some t := by
  have h3 : (w1.setCell ⟨p, 0, none⟩ s).heap[q]? = some (.cells #[v] 69 (0, 0)) := box_set h2 (fun e => hne e.symm) s
  refine ⟨(hx.box h1 (by decide) s).box h3 (by decide) t, (hy.box h1 (by decide) s).box h3 (by decide) t, (hb.setCell (p := ⟨p, 0, none⟩) hp s).setCell (p := ⟨q, 0, none⟩) hq t, ?_, ?_⟩
  · have c1 := cell_of_one h1
    have f1 := free_of_one h1
    simp [go_sem, hne, c1, f1]
  · have c1 := cell_of_one h3
    simp [go_sem, c1]
set_option maxHeartbeats 1000000 in
theorem divmod_less (w : World) (ao bo : Option Addr) (n c n' c' m K : Nat) (hK : K ≤ 1000000000) (ha : NatIs w (.agg #[.slice ao n c]) m K) (h : n < n') :
    Calls Tryz.prog 196 #[.agg #[.slice ao n c], .agg #[.slice bo n' c']] w fun e w' => (∃ q v, e = .returned (.tuple #[q, v, .int .i64 0]) ∧ NatIs w' q 0 0 ∧ NatIs w' v m K) ∧ Below w.heap.size w w' := by
  have hn' : ((n' : Int) == 0) = false := beq_eq_false_iff_ne.2 (by omega)
  go_enter Tryz.func196, Tryz.ntmps196
  go_wp2_with fail
  obtain ⟨B4, b0, b1, b2, b3, s4⟩ := boxed4 w (Obj.cells #[Value.slice ao n c] 69) (Obj.cells #[Value.slice bo n' c'] 69) (Obj.cells #[Value.slice none 0 0] 69) (Obj.cells #[Value.slice none 0 0] 69)
  generalize (((w.alloc (Obj.cells #[Value.slice ao n c] 69)).alloc (Obj.cells #[Value.slice bo n' c'] 69)).alloc (Obj.cells #[Value.slice none 0 0] 69)).alloc (Obj.cells #[Value.slice none 0 0] 69) = W at *
  refine (copied_any W _ m K hK (ha.below B4)).mono ?_
  rintro e w' ⟨v, rfl, hv, hb⟩
  obtain ⟨ao', l', cp, rfl⟩ := hv.form
  have B5 := B4.trans (hb.mono (by omega))
  have b2' := box_below hb b2 (by omega)
  have b3' := box_below hb b3 (by omega)
  obtain ⟨o1, o2, o3, o4, o5⟩ := div_out B5 (by omega) (by omega) (by omega) b2' b3' (nat_zero w') hv (.slice none 0 0) (.slice ao' l' cp)
  have c2 := cell_of_one b2'
  have f2 := free_of_one b2'
  have c3 := cell_of_one b3'
  have f3 := free_of_one b3'
  clear b0 b1 b2 b3 b2' b3' hb B4 s4
  have HO := hid (And.intro o1 (And.intro o2 o3))
  clear o1 o2 o3
  go_wp2
  exact bodyPost_ret (v := .tuple #[.agg #[.slice none 0 0], .agg #[.slice ao' l' cp], .int .i64 0]) (by simp [results, Tryz.results196, go_sem, o4, o5]) rfl ⟨⟨_, _, rfl, HO.out.1, HO.out.2.1⟩, HO.out.2.2⟩
set_option maxHeartbeats 1000000 in
theorem divmod_word (w : World) (ao bo : Option Addr) (n c n' c' : Nat) (A B : List Nat) (hA : Bd A) (hB : Bd B) (oa : Limbs w (.slice ao n c) A) (ob : Limbs w (.slice bo n' c') B) (hAl : A.length = n) (hBl : B.length = n') (h0 : n' ≠ 0) (h1 : n' ≤ n) (h2 : n ≤ 2) (hv : val B ≠ 0) :
    Calls Tryz.prog 196 #[.agg #[.slice ao n c], .agg #[.slice bo n' c']] w fun e w' => (∃ q v, e = .returned (.tuple #[q, v, .int .i64 0]) ∧ NatIs w' q (val A / val B) 2 ∧ NatIs w' v (val A % val B) 2) ∧ Below w.heap.size w w' := by
  have hn' : ((n' : Int) == 0) = false := beq_eq_false_iff_ne.2 (by omega)
  have hlt : ¬ ((n : Int) < (n' : Int)) := by omega
  have hd2 : decide (n ≤ 2) = true := by simp [h2]
  go_enter Tryz.func196, Tryz.ntmps196
  go_wp2_with fail
  obtain ⟨B4, b0, b1, b2, b3, s4⟩ := boxed4 w (Obj.cells #[Value.slice ao n c] 69) (Obj.cells #[Value.slice bo n' c'] 69) (Obj.cells #[Value.slice none 0 0] 69) (Obj.cells #[Value.slice none 0 0] 69)
  generalize (((w.alloc (Obj.cells #[Value.slice ao n c] 69)).alloc (Obj.cells #[Value.slice bo n' c'] 69)).alloc (Obj.cells #[Value.slice none 0 0] 69)).alloc (Obj.cells #[Value.slice none 0 0] 69) = W at *
  refine (fits_any W ao n c (by omega)).mono ?_
  rintro e w1 ⟨rfl, hb1⟩
  rw [hd2]
  have hb1x := hb1.size
  have t1 := cell_of_one (box_below hb1 b0 (by omega))
  have t2 := cell_of_one (box_below hb1 b1 (by omega))
  have b2' := box_below hb1 b2 (by omega)
  have b3' := box_below hb1 b3 (by omega)
  have B0 := chain2 B4 hb1
  have HB := hid (And.intro b2' b3')
  clear b0 b1 b2 b3 b2' b3' hb1
  have s1 : w.heap.size + 1 + 1 + 1 + 1 ≤ w1.heap.size := by have := hb1x; omega
  have hx64 : val A < 18446744073709551616 := Nat.lt_of_lt_of_le (val_lt hA) (by rw [hAl]; exact Nat.le_trans (Nat.pow_le_pow_right (by decide) h2) (by decide))
  have hy64 : val B < 18446744073709551616 := Nat.lt_of_lt_of_le (val_lt hB) (by rw [hBl]; exact Nat.le_trans (Nat.pow_le_pow_right (by decide) (Nat.le_trans h1 h2)) (by decide))
  have WA := fun w' (h' : Below w.heap.size w w') => word_any w' ao n c A hA (oa.below h') (by omega)
  have WB := fun w' (h' : Below w.heap.size w w') => word_any w' bo n' c' B hB (ob.below h') (by omega)
  obtain ⟨x, hxe⟩ : ∃ x, val A = x := ⟨_, rfl⟩
  obtain ⟨y, hye⟩ : ∃ y, val B = y := ⟨_, rfl⟩
  rw [hxe] at hx64 WA
  rw [hye] at hy64 WB hv
  have HX := hid (And.intro hxe hye)
  clear hxe hye
  have HWA := hid WA
  have HWB := hid WB
  clear WA WB oa ob hA hB hAl hBl B4
  have hy0 : (y : Int) ≠ 0 := by omega
  have e1 : ((x : Nat) : Int).tdiv (y : Int) = ((x / y : Nat) : Int) := by rw [Int.tdiv_eq_ediv_of_nonneg (by omega)]; omega
  have e2 : ((x : Nat) : Int).tmod (y : Int) = ((x % y : Nat) : Int) := by rw [Int.tmod_eq_emod_of_nonneg (by omega)]; omega
  have hq : x / y < 18446744073709551616 := Nat.lt_of_le_of_lt (Nat.div_le_self _ _) hx64
  have hr : x % y < 18446744073709551616 := Nat.lt_of_le_of_lt (Nat.mod_le _ _) hx64
  obtain ⟨q, hqe⟩ : ∃ q, x / y = q := ⟨_, rfl⟩
  obtain ⟨r, hre⟩ : ∃ r, x % y = r := ⟨_, rfl⟩
  rw [hqe] at e1 hq
  rw [hre] at e2 hr
  have HQ := hid (And.intro hqe hre)
  clear hqe hre
  have ewq : IntKind.u64.wrap (q : Int) = (q : Int) := w64 _ (by omega) (by omega)
  go_wp2
  have D0 : Below w.heap.size w w1.drew := B0.drew
  have d1 : w1.drew.cell? ⟨w.heap.size, 0, none⟩ = some (.slice ao n c) := t1
  have d2 : w1.drew.cell? ⟨w.heap.size + 1, 0, none⟩ = some (.slice bo n' c') := t2
  go_region_held3 (fun w' => w'.cell? ⟨w.heap.size, 0, none⟩ = some (.slice ao n c) ∧ w'.cell? ⟨w.heap.size + 1, 0, none⟩ = some (.slice bo n' c')) ((first | exact ⟨d1, d2⟩ | exact K1 | exact K2)) (first
    | (have gk := B1; go_at_call 195; refine (HWB.out _ B1).mono ?_; rintro e w3 ⟨rfl, hb3⟩; have B2 := chain2 B1 hb3; have K2 := And.intro (kcell hb3 K1.1) (kcell hb3 K1.2))
    | (have gk := D0; go_at_call 195; refine (HWA.out _ D0).mono ?_; rintro e w2 ⟨rfl, hb2⟩; have B1 := chain2 D0 hb2; have K1 := And.intro (kcell hb2 d1) (kcell hb2 d2)))
  have L3 := chain2 (chain2 (Below.refl w1.heap.size w1).drew hb2) hb3
  have C0 : Below w1.heap.size w1 w3.drew := L3.drew
  have S0 : w1.heap.size ≤ w3.drew.heap.size := C0.size
  have W0 : Below w.heap.size w w3.drew := B2.drew
  clear K1 K2 gk hb2 hb3 B1 B2 L3 d1 d2 D0 t1 t2 HWA HWB B0
  go_wp2
  go_region_held3 (fun _ => True) (trivial) (first
    | (have gk := C1; go_at_call 157; refine (of_any r hr _).mono ?_; rintro e w5 ⟨v2, rfl, n2, hb5⟩; obtain ⟨p2, l2, k2, rfl⟩ := n2.form; have C2 := C1.trans (hb5.mono C1.size); have W2 := chain2 W1 hb5; have x2 := box_below C2 HB.out.1 (by omega); have x3 := box_below C2 HB.out.2 (by omega); have u2 := cell_of_one x2; have f2 := free_of_one x2; have u3 := cell_of_one x3; have f3 := free_of_one x3; have u4 := cell_of_one (box_set x3 (show w.heap.size + 1 + 1 + 1 ≠ w.heap.size + 1 + 1 by omega) (.slice p1 l1 k1)); have f4 := free_of_one (box_set x3 (show w.heap.size + 1 + 1 + 1 ≠ w.heap.size + 1 + 1 by omega) (.slice p1 l1 k1)))
    | (have gk := C0; go_at_call 157; refine (of_any q hq _).mono ?_; rintro e w4 ⟨v1, rfl, n1, hb4⟩; obtain ⟨p1, l1, k1, rfl⟩ := n1.form; have C1 := C0.trans (hb4.mono S0); have W1 := chain2 W0 hb4))
  obtain ⟨o1, o2, o3, o4, o5⟩ := div_out W2 (by omega) (by omega) (by omega) x2 x3 (n1.below hb5) n2 (.slice p1 l1 k1) (.slice p2 l2 k2)
  have HO := hid (And.intro o1 (And.intro o2 o3))
  clear o1 o2 o3 x2 x3 u2 u3 u4 f2 f3 f4 n1 n2 hb5 hb4 W2 W1 C2 C1
  generalize ((w5.setCell ⟨w.heap.size + 1 + 1, 0, none⟩ (Value.slice p1 l1 k1)).setCell ⟨w.heap.size + 1 + 1 + 1, 0, none⟩ (Value.slice p2 l2 k2)) = X at *
  go_wp2
  exact bodyPost_ret (v := .tuple #[.agg #[.slice p1 l1 k1], .agg #[.slice p2 l2 k2], .int .i64 0]) (by simp [results, Tryz.results196, go_sem, o4, o5]) rfl ⟨⟨_, _, rfl, by rw [HX.out.1, HX.out.2, HQ.out.1]; exact HO.out.1, by rw [HX.out.1, HX.out.2, HQ.out.2]; exact HO.out.2.1⟩, HO.out.2.2⟩
set_option maxHeartbeats 1000000 in
theorem divmod_limb (w : World) (ao : Option Addr) (gb n c c' : Nat) (A B : List Nat) (hA : Bd A) (hB : Bd B) (oa : Limbs w (.slice ao n c) A) (ob : Limbs w (.slice (some ⟨gb, 0, none⟩) 1 c') B) (hAl : A.length = n) (hBl : B.length = 1) (h2 : 2 < n) (hn : n ≤ 1000000000) (hv : lg B 0 ≠ 0) :
    Calls Tryz.prog 196 #[.agg #[.slice ao n c], .agg #[.slice (some ⟨gb, 0, none⟩) 1 c']] w fun e w' => (∃ q v, e = .returned (.tuple #[q, v, .int .i64 0]) ∧ NatIs w' q (val A / lg B 0) n ∧ NatIs w' v (val A % lg B 0) 2) ∧ Below w.heap.size w w' := by
  have hlt : ¬ ((n : Int) < 1) := by omega
  have hd2 : decide (n ≤ 2) = false := by simp; omega
  go_enter Tryz.func196, Tryz.ntmps196
  go_wp2_with fail
  obtain ⟨B4, b0, b1, b2, b3, s4⟩ := boxed4 w (Obj.cells #[Value.slice ao n c] 69) (Obj.cells #[Value.slice (some ⟨gb, 0, none⟩) 1 c'] 69) (Obj.cells #[Value.slice none 0 0] 69) (Obj.cells #[Value.slice none 0 0] 69)
  generalize (((w.alloc (Obj.cells #[Value.slice ao n c] 69)).alloc (Obj.cells #[Value.slice (some ⟨gb, 0, none⟩) 1 c'] 69)).alloc (Obj.cells #[Value.slice none 0 0] 69)).alloc (Obj.cells #[Value.slice none 0 0] 69) = W at *
  refine (fits_any W ao n c (by omega)).mono ?_
  rintro e w1 ⟨rfl, hb1⟩
  rw [hd2]
  have t1 := cell_of_one (box_below hb1 b0 (by omega))
  have t2 := cell_of_one (box_below hb1 b1 (by omega))
  have s1 := hb1.size
  have B1 := chain2 B4 hb1
  have b2' := box_below hb1 b2 (by omega)
  have b3' := box_below hb1 b3 (by omega)
  have HB := hid (And.intro b2' b3')
  have HAB := hid (And.intro hAl hBl)
  clear b0 b1 b2 b3 b2' b3' hb1 B4
  go_wp2_with fail
  refine (clone_any w1 _ A (by omega) (oa.below B1)).mono ?_
  rintro e w2 ⟨⟨v', rfl, ho⟩, hb2⟩
  have ho' : Limbs w2 v' A := ownsRow_base0 ho
  rcases ho'.form with ⟨_, e0⟩ | ⟨g, cap, rfl, k1, k2, _⟩
  · rw [e0] at hAl; simp at hAl; omega
  rw [hAl] at ho k1 ⊢
  have t3 := kcell hb2 t2
  have ob2 := ob.below (chain2 B1 hb2)
  have cb := u32s_at (L := B) (by have := ob2; unfold Limbs at this; rw [hBl] at this; exact this) 0 (by omega)
  have hd := hB 0
  have hg0 : w1.heap.size ≤ g := by
    rcases ho.2 with ⟨h', _⟩ | ⟨g', cap', cur, h', hg, _⟩
    · simp at h'
    · simp only [Value.slice.injEq, Option.some.injEq, Addr.mk.injEq, and_true, true_and] at h'
      obtain ⟨rfl, rfl⟩ := h'
      exact hg
  clear hAl hBl t1 t2 oa ob ob2 ho'
  go_wp2_with fail
  refine (divl_any w2 w1.heap.size g n cap A hA HAB.out.1 k1 k2 ho (lg B 0) (by omega) hd).mono ?_
  rintro e w3 ⟨rfl, ⟨Q, hQl, hQb, hQv, oQ⟩, hg3⟩
  have C3 : Below w1.heap.size w1 w3 := hb2.grown hg3 hb2.size (fun k hk => by cases hk; exact hg0)
  have hr : val A % lg B 0 < 4294967296 := Nat.lt_of_lt_of_le (Nat.mod_lt _ (by omega)) (by omega)
  have HQ := hid (And.intro hQl hQv)
  obtain ⟨r, hre⟩ : ∃ r, val A % lg B 0 = r := ⟨_, rfl⟩
  rw [hre] at hr ⊢
  have HR := hid hre
  have T3 : w1.heap.size ≤ w3.heap.size := C3.size
  have W3 := chain2 B1 C3
  have TR := hid (trim_base w3 w1.heap.size (.slice (some ⟨g, 0, none⟩) n cap) Q hQb (by rw [hQl]; exact oQ))
  clear hQl hQv hre hb2 hg3 ho cb t3 oQ hA hB
  have x2 := box_below C3 HB.out.1 (by omega)
  have x3 := box_below C3 HB.out.2 (by omega)
  go_wp2_with fail
  refine TR.out.mono ?_
  rintro e w4 ⟨⟨v', M, rfl, hM, bM, tM, vM, lM⟩, rfl⟩
  obtain ⟨p1, l1, hl1⟩ := Limbs.slice (ownsRow_base0 hM)
  rw [hl1]
  rw [hl1] at hM
  have N1 : NatIs w4 (.agg #[.slice p1 M.length l1]) (val A / lg B 0) n := ⟨_, M, rfl, ownsRow_base0 hM, bM, tM, by rw [vM, HQ.out.2], by rw [← HQ.out.1]; exact lM⟩
  generalize M.length = lm at *
  clear hl1 hM bM tM vM lM TR hQb
  go_wp2_with fail
  refine (of_any r (by omega) _).mono ?_
  rintro e w5 ⟨v2, rfl, n2, hb5⟩
  obtain ⟨p2, l2, k2', rfl⟩ := n2.form
  have y2 := box_below hb5 x2 (by omega)
  have y3 := box_below hb5 x3 (by omega)
  obtain ⟨o1, o2, o3, o4, o5⟩ := div_out (chain2 W3 hb5) (by omega) (by omega) (by omega) y2 y3 (N1.below hb5) n2 (.slice p1 lm l1) (.slice p2 l2 k2')
  have HO := hid (And.intro o1 (And.intro o2 o3))
  have u2 := cell_of_one y2
  have f2 := free_of_one y2
  have u3 := cell_of_one y3
  have f3 := free_of_one y3
  clear o1 o2 o3 x2 x3 y2 y3 N1 n2 hb5 W3
  go_wp2
  exact bodyPost_ret (v := .tuple #[.agg #[.slice p1 lm l1], .agg #[.slice p2 l2 k2'], .int .i64 0]) (by simp [results, Tryz.results196, go_sem, o4, o5]) rfl ⟨⟨_, _, rfl, HO.out.1, by rw [HR.out]; exact HO.out.2.1⟩, HO.out.2.2⟩
set_option maxHeartbeats 1000000 in
theorem divmod_long (w : World) (ga gb n c n' c' m : Nat) (A B : List Nat) (hA : Bd A) (hB : Bd B) (oa : Limbs w (.slice (some ⟨ga, 0, none⟩) n c) A) (ob : Limbs w (.slice (some ⟨gb, 0, none⟩) n' c') B) (hAl : A.length = n) (hBl : B.length = n') (hm : n' = m + 1) (h2 : 2 < n) (h1 : 1 < n') (hle : n' ≤ n) (hn : n ≤ 1000000000) (hc : n ≤ c) (hcm : c ≤ maxLen) (hc' : n' ≤ c') (hcm' : c' ≤ maxLen) (hv : lg B m ≠ 0) :
    Calls Tryz.prog 196 #[.agg #[.slice (some ⟨ga, 0, none⟩) n c], .agg #[.slice (some ⟨gb, 0, none⟩) n' c']] w fun e w' => (∃ q v, e = .returned (.tuple #[q, v, .int .i64 0]) ∧ NatIs w' q (val A / val B) n ∧ NatIs w' v (val A % val B) (n + 1)) ∧ Below w.heap.size w w' := by
  have hn' : ((n' : Int) == 0) = false := beq_eq_false_iff_ne.2 (by omega)
  have hn1 : ((n' : Int) == 1) = false := beq_eq_false_iff_ne.2 (by omega)
  have hlt : ¬ ((n : Int) < (n' : Int)) := by omega
  have hd2 : decide (n ≤ 2) = false := by simp; omega
  have HM := hid (And.intro hm (And.intro hAl hBl))
  clear hm hAl hBl
  go_enter Tryz.func196, Tryz.ntmps196
  go_wp2_with fail
  obtain ⟨B4, b0, b1, b2, b3, s4⟩ := boxed4 w (Obj.cells #[Value.slice (some ⟨ga, 0, none⟩) n c] 69) (Obj.cells #[Value.slice (some ⟨gb, 0, none⟩) n' c'] 69) (Obj.cells #[Value.slice none 0 0] 69) (Obj.cells #[Value.slice none 0 0] 69)
  generalize (((w.alloc (Obj.cells #[Value.slice (some ⟨ga, 0, none⟩) n c] 69)).alloc (Obj.cells #[Value.slice (some ⟨gb, 0, none⟩) n' c'] 69)).alloc (Obj.cells #[Value.slice none 0 0] 69)).alloc (Obj.cells #[Value.slice none 0 0] 69) = W at *
  refine (fits_any W _ n c (by omega)).mono ?_
  rintro e w1 ⟨rfl, hb1⟩
  rw [hd2]
  have t1 := cell_of_one (box_below hb1 b0 (by omega))
  have t2 := cell_of_one (box_below hb1 b1 (by omega))
  have s1 := hb1.size
  have B1 := chain2 B4 hb1
  have b2' := box_below hb1 b2 (by omega)
  have b3' := box_below hb1 b3 (by omega)
  have HB := hid (And.intro b2' b3')
  have oa1 := oa.below B1
  have ob1 := ob.below B1
  unfold Limbs at oa1 ob1
  rw [HM.out.2.1] at oa1
  rw [HM.out.2.2] at ob1
  have DV := hid (divide_any w1 ga n c gb n' c' m A B hA hB HM.out.2.1 HM.out.2.2 HM.out.1 hle hn hc hcm hc' hcm' hv oa1 ob1)
  clear b0 b1 b2 b3 b2' b3' hb1 B4 oa1 ob1 oa ob hA hB hv
  go_wp2_with fail
  refine DV.out.mono ?_
  rintro e w2 ⟨⟨gq, nq, gr, nr, Q, R, rfl, hQl, hRl, hQn, hRn, hQb, hRb, hQv, hRv, oQ, oR⟩, hb2⟩
  have HQ := hid (And.intro hQl (And.intro hRl (And.intro hQv hRv)))
  have TQ := hid (trim_base w2 w1.heap.size (.slice (some ⟨gq, 0, none⟩) nq nq) Q hQb (by rw [hQl]; exact oQ))
  have TR := hid (trim_base w2 w1.heap.size (.slice (some ⟨gr, 0, none⟩) nr nr) R hRb (by rw [hRl]; exact oR))
  have x2 := box_below hb2 HB.out.1 (by omega)
  have x3 := box_below hb2 HB.out.2 (by omega)
  have W2 := chain2 B1 hb2
  have s2 := hb2.size
  clear hQl hRl hQv hRv oQ oR DV hQb hRb hb2
  go_wp2_with fail
  refine TQ.out.mono ?_
  rintro e w3 ⟨⟨v', M, rfl, hM, bM, tM, vM, lM⟩, rfl⟩
  obtain ⟨p1, l1, hl1⟩ := Limbs.slice (ownsRow_base0 hM)
  rw [hl1]
  rw [hl1] at hM
  have N1 : NatIs w3 (.agg #[.slice p1 M.length l1]) (val A / val B) n := ⟨_, M, rfl, ownsRow_base0 hM, bM, tM, by rw [vM, HQ.out.2.2.1], by have := HQ.out.1; omega⟩
  generalize M.length = lm at *
  clear hl1 hM bM tM vM lM TQ
  go_wp2_with fail
  refine TR.out.mono ?_
  rintro e w4 ⟨⟨v', M, rfl, hM, bM, tM, vM, lM⟩, rfl⟩
  obtain ⟨p2, l2, hl2⟩ := Limbs.slice (ownsRow_base0 hM)
  rw [hl2]
  rw [hl2] at hM
  have N2 : NatIs w4 (.agg #[.slice p2 M.length l2]) (val A % val B) (n + 1) := ⟨_, M, rfl, ownsRow_base0 hM, bM, tM, by rw [vM, HQ.out.2.2.2], by have := HQ.out.2.1; omega⟩
  generalize M.length = lk at *
  clear hl2 hM bM tM vM lM TR
  obtain ⟨o1, o2, o3, o4, o5⟩ := div_out W2 (by omega) (by omega) (by omega) x2 x3 N1 N2 (.slice p1 lm l1) (.slice p2 lk l2)
  have HO := hid (And.intro o1 (And.intro o2 o3))
  have u2 := cell_of_one x2
  have f2 := free_of_one x2
  have u3 := cell_of_one x3
  have f3 := free_of_one x3
  clear o1 o2 o3 x2 x3 N1 N2 W2
  go_wp2
  exact bodyPost_ret (v := .tuple #[.agg #[.slice p1 lm l1], .agg #[.slice p2 lk l2], .int .i64 0]) (by simp [results, Tryz.results196, go_sem, o4, o5]) rfl ⟨⟨_, _, rfl, HO.out.1, HO.out.2.1⟩, HO.out.2.2⟩
/-- DivMod where the divisor is not 0. -/
theorem divmod_any (w : World) (a b : Value) (m n K K' : Nat) (hK : K ≤ 1000000000) (hK' : K' ≤ 1000000000) (ha : NatIs w a m K) (hb : NatIs w b n K') (h0 : n ≠ 0) :
    Calls Tryz.prog 196 #[a, b] w fun e w' => (∃ q r, e = .returned (.tuple #[q, r, .int .i64 0]) ∧ NatIs w' q (m / n) K ∧ NatIs w' r (m % n) K') ∧ Below w.heap.size w w' := by
  have hm := ha.lt
  have hn := hb.lt
  have hq : m / n < 4294967296 ^ K := Nat.lt_of_le_of_lt (Nat.div_le_self _ _) hm
  have hr : m % n < 4294967296 ^ K' := Nat.lt_trans (Nat.mod_lt _ (by omega)) hn
  have ha0 := ha
  obtain ⟨sa, A, rfl, oa, bA, tA, rfl, lA⟩ := ha
  obtain ⟨sb, B, rfl, ob, bB, tB, rfl, lB⟩ := hb
  have hB0 : B.length ≠ 0 := by
    intro e
    rw [List.eq_nil_of_length_eq_zero e] at h0
    exact h0 rfl
  have htB : lg B (B.length - 1) ≠ 0 := tB hB0
  rcases ob.form with ⟨_, e⟩ | ⟨gb, cb, rfl, c1, c2, _⟩
  · rw [e] at hB0; exact absurd rfl hB0
  rcases Nat.lt_or_ge A.length B.length with hlt | hge
  · obtain ⟨ao, ca, rfl⟩ := oa.slice
    refine (divmod_less w ao _ A.length ca B.length cb (val A) K hK ha0 hlt).mono ?_
    rintro e w' ⟨⟨q, r, rfl, h1, h2⟩, hw⟩
    have hv := val_lt_len bA tB hlt
    rw [Nat.div_eq_of_lt hv] at *
    rw [Nat.mod_eq_of_lt hv] at *
    exact ⟨⟨q, r, rfl, h1.fit hq, h2.fit hr⟩, hw⟩
  · rcases oa.form with ⟨_, e⟩ | ⟨ga, ca, rfl, c3, c4, _⟩
    · rw [e] at hge; exact absurd (Nat.le_zero.1 hge) hB0
    rcases Nat.lt_or_ge 2 A.length with h2 | h2
    · rcases Nat.lt_or_ge 1 B.length with h3 | h3
      · refine (divmod_long w ga gb A.length ca B.length cb (B.length - 1) A B bA bB oa ob rfl rfl (by omega) h2 h3 hge (by omega) c3 c4 c1 c2 htB).mono ?_
        rintro e w' ⟨⟨q, r, rfl, h1, h2⟩, hw⟩
        exact ⟨⟨q, r, rfl, h1.fit hq, h2.fit hr⟩, hw⟩
      · have h4 : B.length = 1 := by omega
        have hvB : val B = lg B 0 := by unfold val; rw [h4]; simp [pv]
        have ob' := ob
        rw [h4] at ob' htB
        simp at htB
        rw [h4]
        refine (divmod_limb w _ gb A.length ca cb A B bA bB oa ob' rfl h4 h2 (by omega) htB).mono ?_
        rintro e w' ⟨⟨q, r, rfl, h1, h2⟩, hw⟩
        rw [← hvB] at h1 h2
        exact ⟨⟨q, r, rfl, h1.fit hq, h2.fit hr⟩, hw⟩
    · refine (divmod_word w _ _ A.length ca B.length cb A B bA bB oa ob rfl rfl hB0 hge h2 h0).mono ?_
      rintro e w' ⟨⟨q, r, rfl, h1, h2⟩, hw⟩
      exact ⟨⟨q, r, rfl, h1.fit hq, h2.fit hr⟩, hw⟩
end Go.Proofs.YtcdkoadobdgbhaaGreatDoor
/- Gcd: the greatest number that divides both. -/
namespace Go.Proofs.YtcdkoadobdgbhaaGreatDoor
open Go.RowKit
set_option linter.unusedVariables false
set_option maxRecDepth 100000
set_option linter.unusedSimpArgs false

theorem NatIs.len {w : World} {ao : Option Addr} {l c n K : Nat} (h : NatIs w (.agg #[.slice ao l c]) n K) : ∃ L, Limbs w (.slice ao l c) L ∧ Bd L ∧ Top L ∧ val L = n ∧ L.length = l ∧ l ≤ K ∧ (l = 0 ↔ n = 0) := by
  obtain ⟨sl, L, h1, h2, h3, h4, h5, h6⟩ := h
  simp only [Value.agg.injEq] at h1
  have e : sl = .slice ao l c := by simpa using h1.symm
  subst e
  have hl : L.length = l := by
    obtain ⟨ao', c', e⟩ := h2.slice
    simp only [Value.slice.injEq] at e
    exact e.2.1.symm
  refine ⟨L, h2, h3, h4, h5, hl, by omega, ?_, ?_⟩
  · intro e; rw [← h5, List.eq_nil_of_length_eq_zero (by omega : L.length = 0)]; rfl
  · intro e
    rcases Nat.eq_zero_or_pos L.length with h | h
    · omega
    · exfalso
      have := val_ge_top L (L.length - 1) L.length rfl (by omega) (h4 (by omega))
      have := pow_pos32 (L.length - 1)
      omega
theorem one_set {w : World} {b : Nat} {u x : Value} {t : TypeId} (h : w.heap[b]? = some (.cells #[u] t (0, 0))) : (w.setCell ⟨b, 0, none⟩ x).heap[b]? = some (.cells #[x] t (0, 0)) := by
  have hlt := lt_of_block h
  have h' : w.heap[b] = .cells #[u] t (0, 0) := by simpa [Array.getElem?_eq_getElem hlt] using h
  show (w.heap.modify b _)[b]? = _
  simp [Array.getElem_modify, hlt, h']
def GcdMem (w : World) (K p k : Nat) (ao : Option Addr) (la ca : Nat) (bo : Option Addr) (lb cb : Nat) (wr : World) : Prop :=
  NatIs wr (.agg #[.slice ao la ca]) p K ∧ NatIs wr (.agg #[.slice bo lb cb]) k K ∧ wr.heap[w.heap.size]? = some (Obj.cells #[.slice ao la ca] 69) ∧ wr.heap[w.heap.size + 1]? = some (Obj.cells #[.slice bo lb cb] 69) ∧ wr.heap[w.heap.size + 1 + 1]? = some (Obj.cells #[.slice none 0 0] 69) ∧ Below w.heap.size w wr ∧ w.heap.size + 1 + 1 < wr.heap.size
theorem GcdMem.below {w : World} {K p k : Nat} {ao : Option Addr} {la ca : Nat} {bo : Option Addr} {lb cb : Nat} {wr X : World} (h : GcdMem w K p k ao la ca bo lb cb wr) (hb : Below wr.heap.size wr X) : GcdMem w K p k ao la ca bo lb cb X := by
  obtain ⟨h1, h2, h3, h4, h5, h6, h7⟩ := h
  have := hb.size
  exact ⟨h1.below hb, h2.below hb, box_below hb h3 (by omega), box_below hb h4 (by omega), box_below hb h5 (by omega), chain2 h6 hb, by omega⟩
theorem gcd_cells {w w3 : World} {K p k r : Nat} {ao bo pr : Option Addr} {la ca lb cb lr cr : Nat} (h : GcdMem w K p k ao la ca bo lb cb w3) (hr : NatIs w3 (.agg #[.slice pr lr cr]) r K) (o : Obj) :
    ((w3.alloc o).alloc (Obj.cells #[.slice pr lr cr] 69)).cell? ⟨w.heap.size, 0, none⟩ = some (.slice ao la ca) ∧ ((w3.alloc o).alloc (Obj.cells #[.slice pr lr cr] 69)).cell? ⟨w.heap.size + 1, 0, none⟩ = some (.slice bo lb cb) ∧ ((w3.alloc o).alloc (Obj.cells #[.slice pr lr cr] 69)).cell? ⟨w3.heap.size + 1, 0, none⟩ = some (.slice pr lr cr) ∧
    ((w3.alloc o).alloc (Obj.cells #[.slice pr lr cr] 69)).frozen? ⟨w.heap.size, 0, none⟩ = false ∧ ((w3.alloc o).alloc (Obj.cells #[.slice pr lr cr] 69)).frozen? ⟨w.heap.size + 1, 0, none⟩ = false ∧ w3.heap.size + 1 ≠ w.heap.size ∧ w3.heap.size + 1 ≠ w.heap.size + 1 := by
  obtain ⟨h1, h2, h3, h4, h5, h6, h7⟩ := h
  have b0 := box_alloc (box_alloc h3 o) (Obj.cells #[.slice pr lr cr] 69)
  have b1 := box_alloc (box_alloc h4 o) (Obj.cells #[.slice pr lr cr] 69)
  have b2 := boxed2_second w3 o (Obj.cells #[.slice pr lr cr] 69)
  exact ⟨cell_of_one b0, cell_of_one b1, cell_of_one b2, free_of_one b0, free_of_one b1, by omega, by omega⟩
theorem gcd_turn {w w3 : World} {K p k m n : Nat} {ao bo pr : Option Addr} {la ca lb cb lr cr : Nat} (h : GcdMem w K p k ao la ca bo lb cb w3) (hr : NatIs w3 (.agg #[.slice pr lr cr]) (p % k) K) (hg : Nat.gcd p k = Nat.gcd m n) (h0 : 0 < k) (o : Obj) :
    p % k < k ∧ Nat.gcd k (p % k) = Nat.gcd m n ∧ ∀ X, ((w3.alloc o).alloc (Obj.cells #[.slice pr lr cr] 69)) = X → GcdMem w K k (p % k) bo lb cb pr lr cr ((X.setCell ⟨w.heap.size, 0, none⟩ (.slice bo lb cb)).setCell ⟨w.heap.size + 1, 0, none⟩ (.slice pr lr cr)) := by
  obtain ⟨h1, h2, h3, h4, h5, h6, h7⟩ := h
  refine ⟨Nat.mod_lt _ h0, by rw [← hg, Nat.gcd_comm k, ← Nat.gcd_rec, Nat.gcd_comm], ?_⟩
  rintro X rfl
  have B0 : Below w3.heap.size w3 ((w3.alloc o).alloc (Obj.cells #[.slice pr lr cr] 69)) := boxed2 (Below.refl _ _) _ _
  have b0 := box_below B0 h3 (by omega)
  have b1 := box_below B0 h4 (by omega)
  have b2 := box_below B0 h5 (by omega)
  have s0 := B0.size
  generalize ((w3.alloc o).alloc (Obj.cells #[.slice pr lr cr] 69)) = X at *
  have b1' := box_set b1 (show w.heap.size + 1 ≠ w.heap.size by omega) (.slice bo lb cb)
  refine ⟨((h2.below B0).box b0 (by decide) _).box b1' (by decide) _, ((hr.below B0).box b0 (by decide) _).box b1' (by decide) _, ?_, ?_, ?_, ?_, ?_⟩
  · exact box_set (one_set b0) (by omega) _
  · exact one_set b1'
  · exact box_set (box_set b2 (by omega) _) (by omega) _
  · exact ((chain2 h6 B0).setCell (p := ⟨w.heap.size, 0, none⟩) (Nat.le_refl _) _).setCell (p := ⟨w.heap.size + 1, 0, none⟩) (by show w.heap.size ≤ w.heap.size + 1; omega) _
  · have : ((X.setCell ⟨w.heap.size, 0, none⟩ (.slice bo lb cb)).setCell ⟨w.heap.size + 1, 0, none⟩ (.slice pr lr cr)).heap.size = X.heap.size := by simp
    omega
set_option maxHeartbeats 2000000 in
theorem gcd_any (w : World) (a b : Value) (m n K : Nat) (hK : K ≤ 1000000000) (ha : NatIs w a m K) (hb : NatIs w b n K) :
    Calls Tryz.prog 177 #[a, b] w fun e w' => ∃ v, e = .returned v ∧ NatIs w' v (Nat.gcd m n) K ∧ Below w.heap.size w w' := by
  obtain ⟨ao0, la0, ca0, rfl⟩ := ha.form
  obtain ⟨bo0, lb0, cb0, rfl⟩ := hb.form
  go_enter Tryz.func177, Tryz.ntmps177
  go_wp2
  have B3 := boxed3 (Below.refl w.heap.size w) (Obj.cells #[Value.slice ao0 la0 ca0] 69) (Obj.cells #[Value.slice bo0 lb0 cb0] 69) (Obj.cells #[Value.slice none 0 0] 69)
  have b0 := boxed3_first w (Obj.cells #[Value.slice ao0 la0 ca0] 69) (Obj.cells #[Value.slice bo0 lb0 cb0] 69) (Obj.cells #[Value.slice none 0 0] 69)
  have b1 := boxed3_second w (Obj.cells #[Value.slice ao0 la0 ca0] 69) (Obj.cells #[Value.slice bo0 lb0 cb0] 69) (Obj.cells #[Value.slice none 0 0] 69)
  have b2 := boxed3_third w (Obj.cells #[Value.slice ao0 la0 ca0] 69) (Obj.cells #[Value.slice bo0 lb0 cb0] 69) (Obj.cells #[Value.slice none 0 0] 69)
  have s3 : w.heap.size + 1 + 1 < (((w.alloc (Obj.cells #[Value.slice ao0 la0 ca0] 69)).alloc (Obj.cells #[Value.slice bo0 lb0 cb0] 69)).alloc (Obj.cells #[Value.slice none 0 0] 69)).heap.size := by simp
  generalize ((w.alloc (Obj.cells #[Value.slice ao0 la0 ca0] 69)).alloc (Obj.cells #[Value.slice bo0 lb0 cb0] 69)).alloc (Obj.cells #[Value.slice none 0 0] 69) = W at *
  have G0 := hid (show GcdMem w K m n ao0 la0 ca0 bo0 lb0 cb0 W from ⟨ha.below B3, hb.below B3, b0, b1, b2, B3, s3⟩)
  clear B3 b0 b1 b2 s3 ha hb
  go_loopg [] n (fun k wr => ∃ p ao la ca bo lb cb, Hid (GcdMem w K p k ao la ca bo lb cb wr) ∧ Hid (Nat.gcd p k = Nat.gcd m n))
  case atStart => exact ⟨m, _, _, _, _, _, _, G0, hid rfl⟩
  case round =>
    obtain ⟨p, ao, la, ca, bo, lb, cb, HG, HE⟩ := hrel
    have c0 := cell_of_one HG.out.2.2.1
    have c1 := cell_of_one HG.out.2.2.2.1
    have c2 := cell_of_one HG.out.2.2.2.2.1
    have f2 := free_of_one HG.out.2.2.2.2.1
    obtain ⟨LB, oB, bB, tB, vB, lB, kB, zB⟩ := HG.out.2.1.len
    obtain ⟨LA, oA, bA, tA, vA, lA, kA, zA⟩ := HG.out.1.len
    rcases Nat.eq_zero_or_pos gk with h0 | h0
    · have hl0 : lb = 0 := zB.2 h0
      subst hl0
      subst h0
      have hE := HE.out
      rw [Nat.gcd_zero_right] at hE
      have HE' := hid hE
      clear hE HE zA zB vA vB lA lB
      go_wp2_with fail
      refine (copied_any wr _ p K hK HG.out.1).mono ?_
      rintro e w1 ⟨v, rfl, hv, hb⟩
      obtain ⟨a1, l1, k1, rfl⟩ := hv.form
      have x2 := box_below hb HG.out.2.2.2.2.1 (by have := HG.out.2.2.2.2.2.2; omega)
      have u2 := cell_of_one x2
      have g2 := free_of_one x2
      have n2 := hv.box x2 (by decide) (.slice a1 l1 k1)
      have B2 := (chain2 HG.out.2.2.2.2.2.1 hb).setCell (p := ⟨w.heap.size + 1 + 1, 0, none⟩) (by show w.heap.size ≤ w.heap.size + 1 + 1; omega) (.slice a1 l1 k1)
      clear hv hb x2 c0 c1 c2 f2
      go_wp2
      exact bodyPost_ret (v := .agg #[.slice a1 l1 k1]) (by simp [results, Tryz.results177, go_sem, u2]) rfl ⟨_, rfl, by rw [← HE'.out]; exact n2, B2⟩
    · have hlb : 0 < (lb : Int) := by have := zB.1; omega
      have hla1 : la ≤ 1000000000 := by omega
      have hlb1 : lb ≤ 1000000000 := by omega
      have HL := hid (And.intro (And.intro vA lA) (And.intro vB lB))
      clear zA zB vA vB lA lB
      go_wp2_with fail
      refine (fits_any wr ao la ca hla1).mono ?_
      rintro e w1 ⟨rfl, hb1⟩
      have HG1 := hid (HG.out.below hb1)
      have d0 := cell_of_one HG1.out.2.2.1
      have d1 := cell_of_one HG1.out.2.2.2.1
      clear c0 c1 c2 f2
      by_cases h2 : la ≤ 2
      · rw [show decide (la ≤ 2) = true by simp [h2]]
        go_wp2_with fail
        refine (fits_any w1 bo lb cb hlb1).mono ?_
        rintro e w2 ⟨rfl, hb2⟩
        have HG2 := hid (HG1.out.below hb2)
        have e0 := cell_of_one HG2.out.2.2.1
        have e1 := cell_of_one HG2.out.2.2.2.1
        clear d0 d1
        by_cases h3 : lb ≤ 2
        · rw [show decide (lb ≤ 2) = true by simp [h3]]
          have hx64 : p < 18446744073709551616 := by
            have h := val_lt bA
            rw [HL.out.1.1, HL.out.1.2] at h
            exact Nat.lt_of_lt_of_le h (Nat.le_trans (Nat.pow_le_pow_right (by decide) h2) (by decide))
          have hy64 : gk < 18446744073709551616 := by
            have h := val_lt bB
            rw [HL.out.2.1, HL.out.2.2] at h
            exact Nat.lt_of_lt_of_le h (Nat.le_trans (Nat.pow_le_pow_right (by decide) h3) (by decide))
          have hz64 : Nat.gcd p gk < 18446744073709551616 := Nat.lt_of_le_of_lt (Nat.gcd_le_right p h0) hy64
          have HWA := hid (fun w' (h' : Below wr.heap.size wr w') => word_any w' ao la ca LA bA (oA.below h') (by rw [HL.out.1.2]; exact h2))
          have HWB := hid (fun w' (h' : Below wr.heap.size wr w') => word_any w' bo lb cb LB bB (oB.below h') (by rw [HL.out.2.2]; exact h3))
          rw [HL.out.1.1] at HWA
          rw [HL.out.2.1] at HWB
          have C0 : Below wr.heap.size wr w2.drew := (chain2 hb1 hb2).drew
          have M0 := hid (show GcdMem w K p gk ao la ca bo lb cb w2.drew from HG.out.below C0)
          have e0' : w2.drew.cell? ⟨w.heap.size, 0, none⟩ = some (.slice ao la ca) := e0
          have e1' : w2.drew.cell? ⟨w.heap.size + 1, 0, none⟩ = some (.slice bo lb cb) := e1
          obtain ⟨z, hze⟩ : ∃ z, Nat.gcd p gk = z := ⟨_, rfl⟩
          have HW := hid (fun w' => gcdw_any w' p gk hx64 hy64)
          rw [hze] at hz64 HW
          have HZ := hid (hze.symm.trans HE.out)
          clear hze oA oB bA bB tA tB
          go_wp2
          go_region_held3 (fun w' => w'.cell? ⟨w.heap.size, 0, none⟩ = some (.slice ao la ca) ∧ w'.cell? ⟨w.heap.size + 1, 0, none⟩ = some (.slice bo lb cb)) ((first | exact ⟨e0', e1'⟩ | exact K1 | exact K2 | exact K3 | exact K4 | exact K5)) (first
            | (have gg := C3; go_at_call 157; refine (of_any z hz64 _).mono ?_; rintro e w6 ⟨v6, rfl, n6, hb6⟩; obtain ⟨a6, l6, c6, rfl⟩ := n6.form; have C4 := chain2 C3 hb6; have M6 := HG.out.below C4; have K4 := And.intro (kcell hb6 K3.1) (kcell hb6 K3.2); have u6 := cell_of_one M6.2.2.2.2.1; have f6 := free_of_one M6.2.2.2.2.1; have K5 : (w6.setCell ⟨w.heap.size + 1 + 1, 0, none⟩ (.slice a6 l6 c6)).cell? ⟨w.heap.size, 0, none⟩ = some (.slice ao la ca) ∧ (w6.setCell ⟨w.heap.size + 1 + 1, 0, none⟩ (.slice a6 l6 c6)).cell? ⟨w.heap.size + 1, 0, none⟩ = some (.slice bo lb cb) := And.intro (cell_of_one (box_set M6.2.2.1 (by omega) _)) (cell_of_one (box_set M6.2.2.2.1 (by omega) _)))
            | (have gg := C2; go_at_call 194; refine (HW.out _).mono ?_; rintro e w5 ⟨rfl, hb5⟩; have C3 := chain2 C2 hb5; have K3 := And.intro (kcell hb5 K2.1) (kcell hb5 K2.2))
            | (have gg := C1; go_at_call 195; refine (HWB.out _ C1).mono ?_; rintro e w4 ⟨rfl, hb4⟩; have C2 := chain2 C1 hb4; have K2 := And.intro (kcell hb4 K1.1) (kcell hb4 K1.2))
            | (have gg := C0; go_at_call 195; refine (HWA.out _ C0).mono ?_; rintro e w3 ⟨rfl, hb3⟩; have C1 := chain2 C0 hb3; have K1 := And.intro (kcell hb3 e0') (kcell hb3 e1')))
          have n7 := n6.box M6.2.2.2.2.1 (by decide) (.slice a6 l6 c6)
          have B7 := M6.2.2.2.2.2.1.setCell (p := ⟨w.heap.size + 1 + 1, 0, none⟩) (by show w.heap.size ≤ w.heap.size + 1 + 1; omega) (.slice a6 l6 c6)
          have c7 := cell_of_one (one_set M6.2.2.2.2.1 (x := .slice a6 l6 c6))
          have n8 := n7.fit (show z < 4294967296 ^ K by have h := HG.out.2.1.lt; have h' := HZ.out; rw [← HE.out] at h'; exact h' ▸ Nat.lt_of_le_of_lt (Nat.gcd_le_right p h0) h)
          clear n7 n6 M6 C1 C2 C3 C4 K1 K2 K3 K4 K5 hb3 hb4 hb5 hb6 u6 f6 e0 e1 e0' e1'
          generalize w6.setCell ⟨w.heap.size + 1 + 1, 0, none⟩ (.slice a6 l6 c6) = X at *
          go_wp2
          exact bodyPost_ret (v := .agg #[.slice a6 l6 c6]) (by simp [results, Tryz.results177, go_sem, c7]) rfl ⟨_, rfl, by rw [← HZ.out]; exact n8, B7⟩
        · rw [show decide (lb ≤ 2) = false by simp [h3]]
          go_wp2_with fail
          refine (divmod_any w2 _ _ p gk K K hK hK HG2.out.1 HG2.out.2.1 (by omega)).mono ?_
          rintro e w3 ⟨⟨q, r, rfl, hq, hr⟩, hb3⟩
          obtain ⟨pq, lq, cq, rfl⟩ := hq.form
          obtain ⟨pr, lr, cr, rfl⟩ := hr.form
          have HG3 := hid (HG2.out.below hb3)
          have g0 := cell_of_one HG3.out.2.2.1
          have g1 := cell_of_one HG3.out.2.2.2.1
          have HR := hid hr
          clear hq hr hb3 e0 e1
          go_wp2
          have HZ := hid (gcd_turn HG3.out HR.out HE.out h0 (Obj.cells #[Value.slice pq lq cq] 69))
          have HZX := HZ.out.2.2 _ rfl
          have hX := gcd_cells HG3.out HR.out (Obj.cells #[Value.slice pq lq cq] 69)
          obtain ⟨h4, h5, h6, h7, h8, h9, h10⟩ := hX
          generalize ((w3.alloc (Obj.cells #[Value.slice pq lq cq] 69)).alloc (Obj.cells #[Value.slice pr lr cr] 69)) = X at *
          generalize w3.heap.size + 1 = y at *
          clear g0 g1
          go_region
          all_goals
            have HM := hid HZX
            clear h4 h5 h6 h7 h8
            generalize p % gk = rr at *
            go_wp2
            go_roundg rr
            case rel => exact ⟨gk, _, _, _, _, _, _, hid (HM.out.below (Below.refl _ _).drew), hid HZ.out.2.1⟩
            case measure => exact HZ.out.1
      · rw [show decide (la ≤ 2) = false by simp [h2]]
        go_wp2_with fail
        refine (divmod_any w1 _ _ p gk K K hK hK HG1.out.1 HG1.out.2.1 (by omega)).mono ?_
        rintro e w3 ⟨⟨q, r, rfl, hq, hr⟩, hb3⟩
        obtain ⟨pq, lq, cq, rfl⟩ := hq.form
        obtain ⟨pr, lr, cr, rfl⟩ := hr.form
        have HG3 := hid (HG1.out.below hb3)
        have g0 := cell_of_one HG3.out.2.2.1
        have g1 := cell_of_one HG3.out.2.2.2.1
        have HR := hid hr
        clear hq hr hb3 d0 d1
        go_wp2
        have HZ := hid (gcd_turn HG3.out HR.out HE.out h0 (Obj.cells #[Value.slice pq lq cq] 69))
        have HZX := HZ.out.2.2 _ rfl
        have hX := gcd_cells HG3.out HR.out (Obj.cells #[Value.slice pq lq cq] 69)
        obtain ⟨h4, h5, h6, h7, h8, h9, h10⟩ := hX
        generalize ((w3.alloc (Obj.cells #[Value.slice pq lq cq] 69)).alloc (Obj.cells #[Value.slice pr lr cr] 69)) = X at *
        generalize w3.heap.size + 1 = y at *
        clear g0 g1
        go_region
        all_goals
          have HM := hid HZX
          clear h4 h5 h6 h7 h8
          generalize p % gk = rr at *
          go_wp2
          go_roundg rr
          case rel => exact ⟨gk, _, _, _, _, _, _, hid (HM.out.below (Below.refl _ _).drew), hid HZ.out.2.1⟩
          case measure => exact HZ.out.1
end Go.Proofs.YtcdkoadobdgbhaaGreatDoor
