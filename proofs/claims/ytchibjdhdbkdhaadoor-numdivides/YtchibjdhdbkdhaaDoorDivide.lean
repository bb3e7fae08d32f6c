/- divide: long division, a limb a digit. -/
import Derived.Test.YtchibjdhdbkdhaaDoorDivMath
import Derived.Test.YtchibjdhdbkdhaaDoorTake
import Derived.Test.YtchibjdhdbkdhaaDoorShift
import Derived.Test.YtchibjdhdbkdhaaDoorBits
import Derived.Test.YtchibjdhdbkdhaaDoorAdd
import Derived.Deep.LoopGhost
namespace Go.Proofs.YtchibjdhdbkdhaaDoor
open Go.RowKit
set_option linter.unusedVariables false
set_option maxRecDepth 100000
set_option linter.unusedSimpArgs false
attribute [local go_sem ↓] Go.wp_at_zero Go.wp_at_succ

theorem lz_facts (x : Nat) (h0 : x ≠ 0) (hx : x < 4294967296) : ∃ s : Nat, s ≤ 31 ∧ 32 - (Lib.bitLen x : Int) = (s : Int) ∧ x * 2 ^ s < 4294967296 := by
  obtain ⟨h1, h2, h3⟩ := bin_len x hx
  have hle := bin_le (bin_len x hx) (show x < 2 ^ 32 from hx)
  generalize Lib.bitLen x = b at *
  have hb0 : b ≠ 0 := by rintro rfl; simp at h1; omega
  refine ⟨32 - b, by omega, by omega, ?_⟩
  have : x * 2 ^ (32 - b) < 2 ^ b * 2 ^ (32 - b) := Nat.mul_lt_mul_of_pos_right h1 (Nat.two_pow_pos _)
  rw [← Nat.pow_add, show b + (32 - b) = 32 by omega] at this
  exact this
/-- What memory holds: the divisor, the rest, the quotient. -/
def DivMem (w0 : World) (gd gr gq na nb c : Nat) (D R Q : List Nat) (wr : World) : Prop :=
  wr.ownsRow 0 73 1 (.slice (some ⟨gd, 0, none⟩) nb (nb + 1)) nb (u32s D) ∧ wr.ownsRow w0.heap.size 73 1 (.slice (some ⟨gr, 0, none⟩) (na + 1) (na + 1)) (na + 1) (u32s R) ∧ wr.ownsRow w0.heap.size 73 1 (.slice (some ⟨gq, 0, none⟩) c c) c (u32s Q) ∧ Below w0.heap.size w0 wr
theorem DivMem.drewN {w0 wr : World} {gd gr gq na nb c : Nat} {D R Q : List Nat} (h : DivMem w0 gd gr gq na nb c D R Q wr) (q : Nat) : DivMem w0 gd gr gq na nb c D R Q (wr.drewN q) :=
  ⟨own_drewN h.1 q, own_drewN h.2.1 q, own_drewN h.2.2.1 q, below_drewN h.2.2.2 q⟩
theorem DivMem.rest {w0 wr X : World} {gd gr gq na nb c : Nat} {D R R' Q : List Nat} (h : DivMem w0 gd gr gq na nb c D R Q wr) (hg : wr.grownBy X (some gr)) (hd : gd ≠ gr) (hq : gq ≠ gr) (hw : w0.heap.size ≤ gr)
    (ho : X.ownsRow w0.heap.size 73 1 (.slice (some ⟨gr, 0, none⟩) (na + 1) (na + 1)) (na + 1) (u32s R')) : DivMem w0 gd gr gq na nb c D R' Q X :=
  ⟨h.1.kept hg (Or.inr (by simp [Value.ownBlock]; exact hd)), ho, h.2.2.1.kept hg (Or.inr (by simp [Value.ownBlock]; exact hq)), h.2.2.2.grown hg h.2.2.2.size (fun k hk => by cases hk; exact hw)⟩
theorem DivMem.quot {w0 wr : World} {gd gr gq na nb c : Nat} {D R Q : List Nat} (h : DivMem w0 gd gr gq na nb c D R Q wr) (hd : gd ≠ gq) (hq : gr ≠ gq) (hw : w0.heap.size ≤ gq) (j x : Nat) :
    DivMem w0 gd gr gq na nb c D R (Q.set j x) (wr.setCell ⟨gq, j, none⟩ (.int .u32 (x : Int))) := by
  have O := h.2.2.1.stored j (.int .u32 (x : Int))
  rw [← u32s_set] at O
  exact ⟨h.1.kept O.2 (Or.inr (by simp [Value.ownBlock]; exact hd)), h.2.1.kept O.2 (Or.inr (by simp [Value.ownBlock]; exact hq)), O.1, h.2.2.2.grown O.2 h.2.2.2.size (fun k hk => by cases hk; exact hw)⟩
theorem own_lt {w : World} {base g n cap : Nat} {e : TypeId} {size : Nat} {xs : List Value} (h : w.ownsRow base e size (.slice (some ⟨g, 0, none⟩) n cap) n xs) : g < w.heap.size := by
  rcases h.2 with ⟨h', _⟩ | ⟨g', cap', cur, h', hb, hg, _⟩
  · simp at h'
  · simp only [Value.slice.injEq, Option.some.injEq, Addr.mk.injEq, and_true, true_and] at h'
    obtain ⟨rfl, rfl⟩ := h'
    exact (Array.getElem?_eq_some_iff.1 hg).1
theorem own_base {w : World} {base base' g n cap : Nat} {e : TypeId} {size : Nat} {xs : List Value} (h : w.ownsRow base e size (.slice (some ⟨g, 0, none⟩) n cap) n xs) (hb : base' ≤ base) : w.ownsRow base' e size (.slice (some ⟨g, 0, none⟩) n cap) n xs := by
  refine ⟨h.1, ?_⟩
  rcases h.2 with h' | ⟨g', cap', cur, h', hg, r⟩
  · exact Or.inl h'
  · exact Or.inr ⟨g', cap', cur, h', by omega, r⟩
theorem divmem_start {w0 w1 w2 w3 : World} {na nb c : Nat} {M N Q : List Nat} (oM : w1.ownsRow w0.heap.size 73 1 (.slice (some ⟨w0.heap.size, 0, none⟩) (nb + 1) (nb + 1)) (nb + 1) (u32s M)) (hb1 : Below w0.heap.size w0 w1)
    (oN : w2.ownsRow w1.heap.size 73 1 (.slice (some ⟨w1.heap.size, 0, none⟩) (na + 1) (na + 1)) (na + 1) (u32s N)) (hb2 : Below w1.heap.size w1 w2) (oQ : w3.ownsRow w2.heap.size 73 1 (.slice (some ⟨w2.heap.size, 0, none⟩) c c) c (u32s Q)) (hg : w2.grownBy w3 none) :
    ∃ gd gr gq, w0.heap.size = gd ∧ w1.heap.size = gr ∧ w2.heap.size = gq ∧ gd < gr ∧ gr < gq ∧ w0.heap.size ≤ gd ∧ DivMem w0 gd gr gq na nb c (M.take nb) N Q w3 := by
  have l1 := own_lt oM
  have l2 := own_lt oN
  refine ⟨_, _, _, rfl, rfl, rfl, l1, l2, Nat.le_refl _, ?_, ?_, ?_, ?_⟩
  · rw [u32s_take]
    exact (ownsRow_base0 (ownsRow_take (ownsRow_below oM hb2) (Nat.le_succ nb))).kept hg (Or.inr (by simp [Value.ownBlock]))
  · exact own_base (oN.kept hg (Or.inr (by simp [Value.ownBlock]))) (by omega)
  · exact own_base oQ (by omega)
  · exact (hb1.trans (hb2.mono (by omega))).grown hg (by omega) (fun k hk => by simp at hk)
set_option maxHeartbeats 4000000 in
theorem divide_any (w : World) (ga na ca gb nb cb m : Nat) (A B : List Nat) (hA : Bd A) (hB : Bd B) (hAl : A.length = na) (hBl : B.length = nb) (hm : nb = m + 1) (hab : nb ≤ na) (hna : na ≤ 1000000000) (hca : na ≤ ca) (hcam : ca ≤ maxLen) (hcb : nb ≤ cb) (hcbm : cb ≤ maxLen) (ht : lg B m ≠ 0)
    (oa : w.ownsRow 0 73 1 (.slice (some ⟨ga, 0, none⟩) na ca) na (u32s A)) (ob : w.ownsRow 0 73 1 (.slice (some ⟨gb, 0, none⟩) nb cb) nb (u32s B)) :
    Calls Tryd.prog 93 #[.slice (some ⟨ga, 0, none⟩) na ca, .slice (some ⟨gb, 0, none⟩) nb cb] w fun e w' => (∃ gq nq gr nr Q R, e = .returned (.tuple #[.slice (some ⟨gq, 0, none⟩) nq nq, .slice (some ⟨gr, 0, none⟩) nr nr]) ∧ Q.length = nq ∧ R.length = nr ∧ nq ≤ na ∧ nr ≤ na + 1 ∧ Bd Q ∧ Bd R ∧ val Q = val A / val B ∧ val R = val A % val B ∧ w'.ownsRow w.heap.size 73 1 (.slice (some ⟨gq, 0, none⟩) nq nq) nq (u32s Q) ∧ w'.ownsRow w.heap.size 73 1 (.slice (some ⟨gr, 0, none⟩) nr nr) nr (u32s R)) ∧ Below w.heap.size w w' := by
  obtain ⟨i0, hi, hz0, hz1, hz2⟩ := info_parts Tryd.info73
  have hbm := hB m
  have cbm := u32s_at ob m (by omega)
  unfold maxLen at hcam hcbm
  have hm1 : (nb : Int) - 1 = (m : Int) := by omega
  have hmlt : m < nb := by omega
  have HF := hid (And.intro hAl (And.intro hBl hm))
  clear hAl hBl hm
  obtain ⟨s, hs, hse, hst⟩ := lz_facts (lg B m) ht hbm
  go_enter Tryd.func93, Tryd.ntmps93
  go_wp2_with fail
  go_step3
  go_wp2_with fail
  refine (Tryd.bits_LeadingZeros32 (lg B m : Int) _ (by omega) (by omega)).mono ?_
  rintro e w0 ⟨rfl, rfl⟩
  rw [Int.toNat_natCast, hse]
  clear cbm hse
  go_wp2_with fail
  refine (shiftUp_any _ gb nb cb s B hB HF.out.2.1 (by omega) hcb (by unfold maxLen; omega) hs ob).mono ?_
  rintro e w1 ⟨rfl, ⟨M, hMl, hMb, hMv, oM⟩, hb1⟩
  have HM := hid (And.intro hMl hMv)
  clear hMl hMv
  go_wp2_with fail
  refine (shiftUp_any _ ga na ca s A hA HF.out.1 hna hca (by unfold maxLen; omega) hs (ownsRow_below oa hb1)).mono ?_
  rintro e w2 ⟨rfl, ⟨N, hNl, hNb, hNv, oN⟩, hb2⟩
  have HN := hid (And.intro hNl hNv)
  clear hNl hNv
  obtain ⟨c, hc⟩ : ∃ c : Nat, (na : Int) - (nb : Int) + 1 = (c : Int) := ⟨na - nb + 1, by omega⟩
  go_wp2_with (first | (at_make; refine wpList_make_full _ rfl _ _ 22 rfl w2.heap.size 73 i0 (.int .u32 0) 1 Tryd.underlying22 hi hz0 hz1 _ _ _ _ c rfl rfl (by omega) (by omega) (by rw [hz2]; omega) (by unfold maxLen; omega) (Nat.le_refl _) ?_))
  intro w3 oQ hgrow
  simp only [toList_madeCells_one, Value.cells, Nat.mul_one] at oQ
  rw [← u32s_rep] at oQ
  obtain ⟨D, hDe⟩ : ∃ D, M.take nb = D := ⟨_, rfl⟩
  have hu := up_take B M nb m s hB hMb HF.out.2.1 HF.out.2.2 HM.out.1 ht hst HM.out.2
  obtain ⟨gd, gr, gq, e1, e2, e3, l1, l2, l0, hMem⟩ := divmem_start oM hb1 oN hb2 oQ hgrow
  rw [hDe] at hu hMem
  obtain ⟨hDl, hDb, hDv, hD0⟩ := hu
  have hBeg := div_begin A B N na nb m c s hA HF.out.1 HF.out.2.1 HF.out.2.2 hab (by omega) ht hNb HN.out.1 HN.out.2
  rw [e1, e2, e3]
  have H := hid (And.intro hDl (And.intro hDb (And.intro hDv (And.intro hD0 (And.intro hBeg hMem)))))
  clear hDl hDb hDv hD0 hBeg hMem oM hb1 oN hb2 oQ hgrow hDe e2 e3 HM HN hst oa ob hNb hMb hi hz0 hz1 hz2 hbm hA hB ht
  go_wp2
  go_step3
  go_wp2
  go_loopg [39] c (fun g i wr => ∃ (k : Nat) (R Q : List Nat), k + g = c ∧ i = .int .i64 k ∧ Hid (LongRel R Q (val B * 2 ^ s) (val A * 2 ^ s) (na + 1) c g) ∧ Hid (DivMem w0 gd gr gq na nb c D R Q wr))
  case atStart => exact ⟨0, N, _, by omega, rfl, hid H.out.2.2.2.2.1, hid H.out.2.2.2.2.2⟩
  case round =>
    obtain ⟨k, R, Q, hkg, rfl, HR, HM⟩ := hrel
    cases gk with
    | zero =>
      have hkz : ¬ ((k : Int) < (c : Int)) := by omega
      go_wp2_with fail
      refine (shiftDown_any _ w0.heap.size gr (na + 1) (na + 1) s R HR.out.2.1 HR.out.1 (by omega) (Nat.le_refl _) (by unfold maxLen; omega) hs HM.out.2.1).mono ?_
      rintro e w4 ⟨rfl, ⟨R2, hR2l, hR2b, hR2v, oR2⟩, hg4⟩
      have HE := hid (div_end R Q (val A) (val B) (na + 1) c s HR.out)
      have HM4 := hid (HM.out.rest hg4 (by omega) (by omega) (by omega) oR2)
      have HX := hid (And.intro hR2l (And.intro hR2b hR2v))
      have HQ := hid (And.intro HR.out.2.2.1 HR.out.2.2.2.1)
      clear hR2l hR2b hR2v oR2 hg4 HR
      go_wp2
      try rw [Exit.noGoto_ret]
      refine bodyPost_ret (v := .tuple #[.slice (some ⟨gq, 0, none⟩) c c, .slice (some ⟨gr, 0, none⟩) (na + 1) (na + 1)]) (by simp [results, Tryd.results93, go_sem]) rfl ?_
      exact ⟨⟨gq, c, gr, na + 1, Q, R2, rfl, HQ.out.1, HX.out.1, by have := HF.out.2.2; omega, Nat.le_refl _, HQ.out.2, HX.out.2.1, HE.out.1, by rw [HX.out.2.2]; exact HE.out.2, HM4.out.2.2.1, HM4.out.2.1⟩, HM4.out.2.2.2⟩
    | succ g =>
      have hkz : (k : Int) < (c : Int) := by omega
      have hpl : (c : Int) - 1 - (k : Int) = (g : Int) := by omega
      have hgn : g + nb < na + 1 := by omega
      have hwl : g + nb + 1 - g = nb + 1 := by omega
      go_wp2_with fail
      refine (guess_any _ w0.heap.size gr (na + 1) (na + 1) g (na + 1 - g) gd nb m (nb + 1) R D HR.out.2.1 H.out.2.1 HR.out.1 H.out.1 HF.out.2.2 (by omega) (by omega) hgn (by omega) (by omega) H.out.2.2.2.1 HM.out.2.1 HM.out.1).mono ?_
      rintro e w4 ⟨rfl, q, rfl⟩
      have hG := div_guess R Q D _ _ _ _ g nb m HR.out H.out.2.1 H.out.1 HF.out.2.2 H.out.2.2.1 H.out.2.2.2.1
      obtain ⟨f, hf⟩ : ∃ f : Nat, min ((lg R (g + nb) * 4294967296 + lg R (g + m)) / lg D m) 4294967295 = f := ⟨_, rfl⟩
      have hf2 : f < 4294967296 := hf ▸ Nat.lt_of_le_of_lt (Nat.min_le_right _ _) (by decide)
      rw [hf] at hG ⊢
      clear hf
      have HG := hid hG
      clear hG
      have HM' := hid (HM.out.drewN q)
      go_wp2_with fail
      refine (take_any _ w0.heap.size gr (na + 1) (na + 1) g (na + 1 - g) f gd nb (nb + 1) R D HR.out.2.1 H.out.2.1 HR.out.1 H.out.1 hf2 (by omega) (by omega) hgn (by omega) (by omega) (by omega) HM'.out.2.1 HM'.out.1).mono ?_
      rintro e w5 ⟨⟨P, b, hb1, rfl, hPl, hPb, hPk, hPv, oP⟩, hg5⟩
      rw [H.out.2.2.1] at hPv
      have HI := hid (in_first R P (val R) _ (na + 1) g nb f b HG.out.1 HG.out.2.1.symm hf2 (by rw [HG.out.2.1]; exact HG.out.2.2) hPl hPb hb1 hPk hPv)
      have HM5 := hid (HM'.out.rest hg5 (by omega) (by omega) (by omega) oP)
      clear hPl hPb hPk hPv oP hg5 HM HM' HG hf2
      go_wp2
      go_loopg [12, 13] f (fun h d bo wx => ∃ (S : List Nat) (bl : Nat), d = .int .u32 h ∧ bo = .bool (decide (bl = 1)) ∧ h < 4294967296 ∧ bl ≤ 1 ∧ Hid (InRel S (val R) (val B * 2 ^ s) (na + 1) g nb h bl) ∧ Hid (DivMem w0 gd gr gq na nb c D S Q wx))
      case atStart => exact ⟨P, b, rfl, rfl, HI.out.2.2.2.1, hb1, HI, HM5⟩
      case round =>
        obtain ⟨S, bl, rfl, rfl, hh, hbl, HI2, HM6⟩ := hrel
        rcases (show bl = 0 ∨ bl = 1 by omega) with rfl | rfl
        · have st := u32s_at HM6.out.2.2.1 g (by rw [HR.out.2.2.1]; omega)
          have fr := HM6.out.2.2.1.frozenAt g
          have HM7 := hid (HM6.out.quot (by omega) (by omega) (by omega) g gk)
          have HR7 := hid (div_next R S Q _ _ _ _ g nb gk HR.out (by omega) HI2.out)
          go_wp2
          go_roundg g
          case rel => exact ⟨k + 1, S, Q.set g gk, by omega, by go_num, HR7, HM7⟩
          case measure => omega
        · have hp := in_pos HI2.out
          obtain ⟨h1, rfl⟩ : ∃ h1, gk = h1 + 1 := ⟨gk - 1, by omega⟩
          go_wp2_with fail
          refine (give_any _ w0.heap.size gr (na + 1) (na + 1) g (na + 1 - g) gd nb (nb + 1) S D HI2.out.2.1 H.out.2.1 HI2.out.1 H.out.1 (by omega) (by omega) hgn (by omega) (by omega) (by omega) HM6.out.2.1 HM6.out.1).mono ?_
          rintro e w7 ⟨⟨P2, b2, hb2', rfl, hPl, hPb, hPk, hPv, oP⟩, hg7⟩
          rw [H.out.2.2.1] at hPv
          have HN := hid (in_next S P2 (val R) _ (na + 1) g nb (h1 + 1) b2 HI2.out hPl hPb hb2' hPk hPv).2
          rw [Nat.add_sub_cancel] at HN
          have HM7 := hid (HM6.out.rest hg7 (by omega) (by omega) (by omega) oP)
          clear hPl hPb hPk hPv oP hg7 HM6 HI2
          have e0 : decide (b2 = 0) = decide (1 - b2 = 1) := decide_eq_decide.2 (by omega)
          rw [e0]
          clear e0
          obtain ⟨b3, hb3⟩ : ∃ b3, 1 - b2 = b3 := ⟨_, rfl⟩
          rw [hb3] at HN ⊢
          have hb4 : b3 ≤ 1 := by omega
          clear hb3
          go_wp2
          go_roundg h1
          case rel => exact ⟨P2, b3, by go_num, rfl, by omega, hb4, HN, HM7⟩
          case measure => omega
end Go.Proofs.YtchibjdhdbkdhaaDoor
