/- The law BookOwes. -/
import Derived.Test.YtfneiilookoipaaBOwesM
import Derived.BigQuiet
import Derived.Deep.QuietTactic
namespace Go.Proofs.Ytfneiilookoipaa
open Go.RowKit Go.MapKept
set_option linter.unusedVariables false
set_option maxRecDepth 100000
set_option linter.unusedSimpArgs false

theorem fine_near {z : Kb} (h : Near z) (h0 : 0 ≤ z.sqty) (h1 : ∀ x ∈ z.Q, 0 ≤ x) : Fine z := ⟨⟨h0, h.sq.2⟩, h.sp, h.bp, h.len, fun x hx => ⟨h1 x hx, (h.q x hx).2⟩⟩
set_option maxHeartbeats 16000000 in
theorem bookOwes_any (a : Option Addr) (len cap : Nat) (z : Nat → Kb) (w : World) (h : IsKbs w a len cap z) :
    Calls Try.prog 6 #[.slice a len cap] w fun e w' => e = .returned (.bool true) ∧ Below w.heap.size w w' := by
  have hlen : len ≤ 9223372036854775807 := by have := h.len; omega
  go_enter Try.func6, Try.ntmps6
  go_wp2_with fail
  refine (heavy10_any w a len cap z h).mono ?_
  rintro e w1 ⟨hr, b1⟩
  rcases hr with rfl | ⟨rfl, _⟩
  · go_wp2
    go_ret
    exact ⟨rfl, b1⟩
  go_wp2_with fail
  refine (new_any w1).mono ?_
  rintro e w2 ⟨v, rfl, b2, hbk⟩
  have q0 : GSt w1.heap.size w2 v 0 := ⟨_, _, _, hbk, fun i hi => hi.1, Or.inl rfl, good0, rfl⟩
  clear hbk
  have HST := hid (show ∀ X, Below w1.heap.size w1 X → Below w.heap.size w X from fun X k => chain2 b1 k)
  go_wp2
  go_loopw [4, 5] (fun l i wr => ∃ (q : Nat) (lk : Int), q ≤ len ∧ i = .int .i64 (q : Int) ∧ l = .int .i64 lk ∧ Hid (GSt w1.heap.size wr v lk) ∧ Below w1.heap.size w1 wr) (fun _ i _ => len - (intOf i).toNat)
  case atStart => exact ⟨0, 0, Nat.zero_le _, rfl, rfl, q0, b2⟩
  case round =>
    obtain ⟨q, lk, hq, rfl, rfl, HG, bq⟩ := hrel
    have hlk := HG.out.lk
    by_cases hlt : q < len
    · obtain ⟨b, off, rfl, hst, hfit, hl, hc, hbl⟩ := h.at q hlt
      have bw := HST.out wr bq
      have hst2 := hst.kx (S := fun _ => False) (Kx.of_below bw) (fun h => h)
      obtain ⟨va, vc, hv, hv1, hv2⟩ := hfit.ints.slice
      unfold maxLen at hv2
      have hk : kbC (z q) = #[.int .i64 (z q).kind, .int .i64 (z q).cents, .int .i64 (z q).seq, .string (z q).swho, .int .i64 (z q).sseq, .int .i64 (z q).szone, .int .i64 (z q).shour, .bool (z q).sbuy, .int .i64 (z q).sqty, .int .i64 (z q).sprice, .string (z q).bwho, .int .i64 (z q).bseq, .int .i64 (z q).bzone, .bool (z q).bbuy, .int .i64 (z q).bprice, .slice va (z q).Q.length vc, .int .i64 (z q).parent, .int .i64 (z q).group] := by unfold kbC; rw [hv]
      have k0 : wr.cell? ⟨b, off + q * 19 + 1, none⟩ = some (.int .i64 (z q).kind) := hst2.ask 0 (.int .i64 (z q).kind) (by rw [hk]; rfl)
      have k1 : wr.cell? ⟨b, off + q * 19 + 2, none⟩ = some (.int .i64 (z q).cents) := hst2.ask 1 (.int .i64 (z q).cents) (by rw [hk]; rfl)
      have k2 : wr.cell? ⟨b, off + q * 19 + 3, none⟩ = some (.int .i64 (z q).seq) := hst2.ask 2 (.int .i64 (z q).seq) (by rw [hk]; rfl)
      have k3 : wr.cell? ⟨b, off + q * 19 + 4, none⟩ = some (.string (z q).swho) := hst2.ask 3 (.string (z q).swho) (by rw [hk]; rfl)
      have k4 : wr.cell? ⟨b, off + q * 19 + 5, none⟩ = some (.int .i64 (z q).sseq) := hst2.ask 4 (.int .i64 (z q).sseq) (by rw [hk]; rfl)
      have k5 : wr.cell? ⟨b, off + q * 19 + 6, none⟩ = some (.int .i64 (z q).szone) := hst2.ask 5 (.int .i64 (z q).szone) (by rw [hk]; rfl)
      have k6 : wr.cell? ⟨b, off + q * 19 + 7, none⟩ = some (.int .i64 (z q).shour) := hst2.ask 6 (.int .i64 (z q).shour) (by rw [hk]; rfl)
      have k7 : wr.cell? ⟨b, off + q * 19 + 8, none⟩ = some (.bool (z q).sbuy) := hst2.ask 7 (.bool (z q).sbuy) (by rw [hk]; rfl)
      have k8 : wr.cell? ⟨b, off + q * 19 + 9, none⟩ = some (.int .i64 (z q).sqty) := hst2.ask 8 (.int .i64 (z q).sqty) (by rw [hk]; rfl)
      have k9 : wr.cell? ⟨b, off + q * 19 + 10, none⟩ = some (.int .i64 (z q).sprice) := hst2.ask 9 (.int .i64 (z q).sprice) (by rw [hk]; rfl)
      have k10 : wr.cell? ⟨b, off + q * 19 + 11, none⟩ = some (.string (z q).bwho) := hst2.ask 10 (.string (z q).bwho) (by rw [hk]; rfl)
      have k11 : wr.cell? ⟨b, off + q * 19 + 12, none⟩ = some (.int .i64 (z q).bseq) := hst2.ask 11 (.int .i64 (z q).bseq) (by rw [hk]; rfl)
      have k12 : wr.cell? ⟨b, off + q * 19 + 13, none⟩ = some (.int .i64 (z q).bzone) := hst2.ask 12 (.int .i64 (z q).bzone) (by rw [hk]; rfl)
      have k13 : wr.cell? ⟨b, off + q * 19 + 14, none⟩ = some (.bool (z q).bbuy) := hst2.ask 13 (.bool (z q).bbuy) (by rw [hk]; rfl)
      have k14 : wr.cell? ⟨b, off + q * 19 + 15, none⟩ = some (.int .i64 (z q).bprice) := hst2.ask 14 (.int .i64 (z q).bprice) (by rw [hk]; rfl)
      have k15 : wr.cell? ⟨b, off + q * 19 + 16, none⟩ = some (.slice va (z q).Q.length vc) := hst2.ask 15 (.slice va (z q).Q.length vc) (by rw [hk]; rfl)
      have k16 : wr.cell? ⟨b, off + q * 19 + 17, none⟩ = some (.int .i64 (z q).parent) := hst2.ask 16 (.int .i64 (z q).parent) (by rw [hk]; rfl)
      have k17 : wr.cell? ⟨b, off + q * 19 + 18, none⟩ = some (.int .i64 (z q).group) := hst2.ask 17 (.int .i64 (z q).group) (by rw [hk]; rfl)
      have hfit2 := hfit.below bw
      have ba : Below wr.heap.size wr (wr.alloc (Obj.cells #[.int .i64 (z q).kind, .int .i64 (z q).cents, .int .i64 (z q).seq, .string (z q).swho, .int .i64 (z q).sseq, .int .i64 (z q).szone, .int .i64 (z q).shour, .bool (z q).sbuy, .int .i64 (z q).sqty, .int .i64 (z q).sprice, .string (z q).bwho, .int .i64 (z q).bseq, .int .i64 (z q).bzone, .bool (z q).bbuy, .int .i64 (z q).bprice, .slice va (z q).Q.length vc, .int .i64 (z q).parent, .int .i64 (z q).group] 32 (0, 0))) := (Below.refl _ _).alloc (Nat.le_refl _) _
      have eb : (wr.alloc (Obj.cells #[.int .i64 (z q).kind, .int .i64 (z q).cents, .int .i64 (z q).seq, .string (z q).swho, .int .i64 (z q).sseq, .int .i64 (z q).szone, .int .i64 (z q).shour, .bool (z q).sbuy, .int .i64 (z q).sqty, .int .i64 (z q).sprice, .string (z q).bwho, .int .i64 (z q).bseq, .int .i64 (z q).bzone, .bool (z q).bbuy, .int .i64 (z q).bprice, .slice va (z q).Q.length vc, .int .i64 (z q).parent, .int .i64 (z q).group] 32 (0, 0))).heap[wr.heap.size]? = some (Obj.cells #[.int .i64 (z q).kind, .int .i64 (z q).cents, .int .i64 (z q).seq, .string (z q).swho, .int .i64 (z q).sseq, .int .i64 (z q).szone, .int .i64 (z q).shour, .bool (z q).sbuy, .int .i64 (z q).sqty, .int .i64 (z q).sprice, .string (z q).bwho, .int .i64 (z q).bseq, .int .i64 (z q).bzone, .bool (z q).bbuy, .int .i64 (z q).bprice, .slice va (z q).Q.length vc, .int .i64 (z q).parent, .int .i64 (z q).group] 32 (0, 0)) := heap_alloc_last _ _
      have hfit3 := hfit2.below ba
      have HF3 := hid hfit3
      have HBA := hid ba
      have HEB := hid eb
      have HK := hid hk
      have HV := hid hv
      clear hst hst2 hfit hfit2 bw ba eb hfit3 hk hv hv1 hv2
      go_wp2_with (refine wpList_store_new rfl 32 _ _ rfl _ _ _ rfl (by simp) rfl 18 info_Ask (by rfl) (by rfl) (by simp [Value.oneCell']) ?_)
      have hgr := great10_any (z q) _ HF3.out.ints
      rw [HK.out] at hgr
      refine hgr.mono ?_
      clear hgr
      rintro e X1 ⟨hr, bX⟩
      have bX1 := chain2 HBA.out bX
      have e1 := (Kx.of_below (S := fun _ => False) bX).blk HEB.out (fun h => h)
      have HF1 := hid (HF3.out.below bX)
      have BX1 : Below w1.heap.size w1 X1 := bq.trans (bX1.mono bq.size)
      clear bX HBA HEB HF3 k0 k1 k2 k3 k4 k5 k6 k7 k8 k9 k10 k11 k12 k13 k14 k15 k16 k17
      rcases hr with rfl | ⟨rfl, hnear⟩
      · go_wp2
        go_ret
        exact ⟨rfl, HST.out _ BX1⟩
      have HNE := hid hnear
      clear hnear
      have a0 := blk_cell e1 0 (.int .i64 (z q).kind) rfl
      have a1 := blk_cell e1 1 (.int .i64 (z q).cents) rfl
      have a2 := blk_cell e1 2 (.int .i64 (z q).seq) rfl
      have a3 := blk_cell e1 3 (.string (z q).swho) rfl
      have a4 := blk_cell e1 4 (.int .i64 (z q).sseq) rfl
      have a5 := blk_cell e1 5 (.int .i64 (z q).szone) rfl
      have a6 := blk_cell e1 6 (.int .i64 (z q).shour) rfl
      have a7 := blk_cell e1 7 (.bool (z q).sbuy) rfl
      have a8 := blk_cell e1 8 (.int .i64 (z q).sqty) rfl
      have a9 := blk_cell e1 9 (.int .i64 (z q).sprice) rfl
      have a10 := blk_cell e1 10 (.string (z q).bwho) rfl
      have a11 := blk_cell e1 11 (.int .i64 (z q).bseq) rfl
      have a12 := blk_cell e1 12 (.int .i64 (z q).bzone) rfl
      have a13 := blk_cell e1 13 (.bool (z q).bbuy) rfl
      have a14 := blk_cell e1 14 (.int .i64 (z q).bprice) rfl
      have a15 := blk_cell e1 15 (.slice va (z q).Q.length vc) rfl
      have a16 := blk_cell e1 16 (.int .i64 (z q).parent) rfl
      have a17 := blk_cell e1 17 (.int .i64 (z q).group) rfl
      have HE1 := hid e1
      clear e1
      by_cases hs0 : (z q).sqty < 0
      · have hs0' : decide ((z q).sqty < 0) = true := by simpa using hs0
        go_wp2
        go_ret
        exact ⟨rfl, HST.out _ BX1⟩
      have hs0' : decide ((z q).sqty < 0) = false := by simpa using hs0
      have HS0 := hid (show 0 ≤ (z q).sqty by omega)
      clear hs0
      go_wp2_with fail
      have hbe := below10_any X1 _ _ HF1.out.ints
      rw [HV.out] at hbe
      refine hbe.mono ?_
      clear hbe
      rintro e X2 ⟨hr, hX2⟩
      subst hX2
      rcases hr with rfl | ⟨rfl, hnn⟩
      · go_wp2
        go_ret
        exact ⟨rfl, HST.out _ BX1⟩
      have HFI := hid (fine_near HNE.out HS0.out hnn)
      clear hnn HNE HS0 hs0'
      go_wp2_with fail
      have had := g_add HG.out bX1 BX1.size (z q) HF1.out HFI.out
      rw [HK.out] at had
      refine had.mono ?_
      clear had
      rintro e X3 ⟨E, rfl, b3, hg3, hkeep⟩
      have e3 := hkeep wr.heap.size _ (Nat.le_refl _) HE1.out
      have BX3 := BX1.trans b3
      clear hkeep b3 BX1 bX1 HF1 HFI HE1 HG HK HV bq a0 a1 a2 a3 a4 a5 a6 a7 a8 a9 a10 a11 a12 a13 a14 a15 a16 a17
      have a0 := blk_cell e3 0 (.int .i64 (z q).kind) rfl
      have a1 := blk_cell e3 1 (.int .i64 (z q).cents) rfl
      clear e3
      generalize (z q).kind = K at *
      generalize (z q).cents = C at *
      generalize wr.heap.size = bx at *
      by_cases hK : K = 1
      · subst hK
        by_cases hE : E = 0
        · subst hE
          rw [if_pos ⟨rfl, rfl⟩] at hg3
          have hL0 := hg3.lk
          obtain ⟨L, hL⟩ : ∃ L, L = lk + C := ⟨_, rfl⟩
          rw [← hL] at hg3 hL0
          have hwr : IntKind.i64.wrap (lk + C) = L := by rw [IntKind.wrap_i64]; omega
          have hwr2 : wrap64 (lk + C) = L := by unfold wrap64; omega
          clear hL
          have HG3 := hid hg3
          clear hg3 hlk
          have hLk := HG3.out.lk
          have m1 : max (0 : Int) L = L := by omega
          have m2 : max L (0 : Int) = L := by omega
          have m3 : (if (0 : Int) < L then L else (0 : Int)) = L := by split <;> omega
          have m4 : (if L < (0 : Int) then (0 : Int) else L) = L := by split <;> omega
          go_wp2_with fail
          refine (g_locked HG3.out).mono ?_
          rintro e X4 ⟨rfl, hX4⟩
          subst hX4
          go_wp2_with fail
          refine (g_owes HG3.out).mono ?_
          rintro e X5 ⟨⟨ow, rfl, how⟩, b5⟩
          have HG5 := hid (HG3.out.below b5)
          have B5 := BX3.trans (b5.mono BX3.size)
          clear b5
          have how' : decide (L < ow) = false := by simpa using how
          go_wp2_with fail
          refine (g_locked HG5.out).mono ?_
          rintro e X6 ⟨rfl, hX6⟩
          subst hX6
          go_wp2_with fail
          refine (g_asks HG5.out).mono ?_
          rintro e X7 ⟨⟨ak, rfl, hak⟩, hX7⟩
          subst hX7
          have hak' : decide (24 < ak) = false := by simpa using hak
          go_wp2_with fail
          refine (g_steps HG5.out).mono ?_
          rintro e X8 ⟨⟨sa, sn, sc, rfl, hsn⟩, b8⟩
          have HG8 := hid (HG5.out.below b8)
          have B8 := B5.trans (b8.mono B5.size)
          clear b8 B5 HG5
          have hsn' : decide ((8 : Int) < (sn : Int)) = false := by simp; omega
          go_wp2_with fail
          refine (g_blocks HG8.out).mono ?_
          rintro e X9 ⟨⟨ba, bn, bc, bsq, bpa, rfl, hB0⟩, b9⟩
          have HG9 := hid (HG8.out.below b9)
          have B9 := B8.trans (b9.mono B8.size)
          have hbn := hB0.len
          have hbn' : decide ((3 : Int) < (bn : Int)) = false := by simp; omega
          clear b9 B8 HG8 hB0
          go_wp2_with fail
          refine (g_blocks HG9.out).mono ?_
          rintro e V ⟨⟨xa, n, xc, sq, pa, rfl, hB⟩, b10⟩
          have HGV := hid (HG9.out.below b10)
          have BV := B9.trans (b10.mono B9.size)
          have hn3 := hB.len
          have hnc := hB.cap
          have HB := hid hB
          clear b10 B9 HG9 hB hbn hbn' hsn hsn' hak hak' how how' m1 m2 m3 m4 BX3 HG3
          go_wp2
          go_loopw [9] (fun j wr => ∃ p : Nat, p ≤ n ∧ j = .int .i64 (p : Int) ∧ Below V.heap.size V wr) (fun j _ => n - (intOf j).toNat)
          case atStart => exact ⟨0, Nat.zero_le _, rfl, Below.refl _ _⟩
          case round =>
            obtain ⟨p, hp, rfl, bp⟩ := hrel
            by_cases hpn : p < n
            · obtain ⟨g, rfl, hc1, hc6⟩ := HB.out.at_ p hpn
              have hd6 : wr.cell? ⟨g, p * 8 + 6, none⟩ = some (.int .i64 (pa p)) := (Kx.of_below (S := fun _ => False) bp).cell hc6 (fun h => h)
              have hd1 : wr.cell? ⟨g, p * 8 + 1, none⟩ = some (.int .i64 (sq p)) := (Kx.of_below (S := fun _ => False) bp).cell hc1 (fun h => h)
              clear hc1 hc6
              go_wp2
              generalize wr = V1 at *
              go_loopw [10, 11] (fun f j wr => ∃ (r : Nat) (t : Bool), r ≤ n ∧ j = .int .i64 (r : Int) ∧ f = .bool t ∧ Hid ((pa p ≤ 0 ∨ ∃ j, j < r ∧ sq j = pa p) → t = true) ∧ Below V1.heap.size V1 wr) (fun _ j _ => n - (intOf j).toNat)
              case atStart => exact ⟨0, decide (pa p ≤ 0), Nat.zero_le _, rfl, rfl, fun hh => by rcases hh with hh | ⟨j, hj, _⟩; { simpa using hh }; { omega }, Below.refl _ _⟩
              case round =>
                obtain ⟨r, t, hr, rfl, rfl, HT, br⟩ := hrel
                by_cases hrn : r < n
                · obtain ⟨g', hg', hc1, hc6⟩ := HB.out.at_ r hrn
                  simp only [Option.some.injEq, Addr.mk.injEq, and_true] at hg'
                  subst hg'
                  have he1 : wr.cell? ⟨g, r * 8 + 1, none⟩ = some (.int .i64 (sq r)) := (Kx.of_below (S := fun _ => False) br).cell ((Kx.of_below (S := fun _ => False) bp).cell hc1 (fun h => h)) (fun h => h)
                  have he6 : wr.cell? ⟨g, p * 8 + 6, none⟩ = some (.int .i64 (pa p)) := (Kx.of_below (S := fun _ => False) br).cell hd6 (fun h => h)
                  have hf1 : wr.cell? ⟨g, p * 8 + 1, none⟩ = some (.int .i64 (sq p)) := (Kx.of_below (S := fun _ => False) br).cell hd1 (fun h => h)
                  clear hc1 hc6
                  have HR := hid (fun (h1 : r < p) => HB.out.rise r p h1 hpn)
                  have HNT := hid (show ∀ t' : Bool, (t = true → t' = true) → (sq r = pa p → t' = true) → (pa p ≤ 0 ∨ ∃ j, j < r + 1 ∧ sq j = pa p) → t' = true from fun t' h1 h2 h3 => by
                    rcases h3 with h3 | ⟨j, hj, hj2⟩
                    · exact h1 (HT.out (Or.inl h3))
                    · by_cases ej : j = r
                      · subst ej; exact h2 hj2
                      · exact h1 (HT.out (Or.inr ⟨j, by omega, hj2⟩)))
                  clear HT
                  cases t with
                  | true =>
                    by_cases hrp : r < p
                    · have hrp' : decide ((r : Int) < (p : Int)) = true := by simp; omega
                      have hge := HR.out hrp
                      have hge' : decide (sq p ≤ sq r) = false := by simp; omega
                      clear HR hge
                      go_wp2_with fail
                      go_quiet (fail)
                      go_wp2_with fail
                      go_quiet (fail)
                      go_wp2
                      go_roundw
                      case rel => exact ⟨r + 1, true, by omega, by go_num, rfl, HNT.out true (fun _ => rfl) (fun _ => rfl), below_dn br _⟩
                      case measure => simp [intOf]; omega
                    · have hrp' : decide ((r : Int) < (p : Int)) = false := by simp; omega
                      clear HR
                      go_wp2_with fail
                      go_quiet (fail)
                      go_wp2_with fail
                      go_quiet (fail)
                      go_wp2
                      go_roundw
                      case rel => exact ⟨r + 1, true, by omega, by go_num, rfl, HNT.out true (fun _ => rfl) (fun _ => rfl), below_dn br _⟩
                      case measure => simp [intOf]; omega
                  | false =>
                    obtain ⟨t', ht'⟩ : ∃ t' : Bool, t' = decide (sq r = pa p) := ⟨_, rfl⟩
                    have HE := hid (HNT.out t' (fun h => by cases h) (fun h => by rw [ht']; simpa using h))
                    have ht1 : decide (sq r = pa p) = t' := ht'.symm
                    have ht2 : (sq r == pa p) = t' := by rw [ht']; by_cases h : sq r = pa p <;> simp [h]
                    clear ht' HNT
                    by_cases hrp : r < p
                    · have hrp' : decide ((r : Int) < (p : Int)) = true := by simp; omega
                      have hge := HR.out hrp
                      have hge' : decide (sq p ≤ sq r) = false := by simp; omega
                      clear HR hge
                      go_wp2_with fail
                      go_quiet (fail)
                      go_wp2_with fail
                      go_quiet (fail)
                      go_wp2
                      go_roundw
                      case rel => exact ⟨r + 1, t', by omega, by go_num, by first | rfl | (simp only [ht1, ht2]), HE, below_dn br _⟩
                      case measure => simp [intOf]; omega
                    · have hrp' : decide ((r : Int) < (p : Int)) = false := by simp; omega
                      clear HR
                      go_wp2_with fail
                      go_quiet (fail)
                      go_wp2_with fail
                      go_quiet (fail)
                      go_wp2
                      go_roundw
                      case rel => exact ⟨r + 1, t', by omega, by go_num, by first | rfl | (simp only [ht1, ht2]), HE, below_dn br _⟩
                      case measure => simp [intOf]; omega
                · have hrn' : r = n := by omega
                  have ht : t = true := HT.out (by
                    by_cases h0 : pa p ≤ 0
                    · exact Or.inl h0
                    · obtain ⟨j, hj, hj2⟩ := HB.out.par p hpn (by omega)
                      exact Or.inr ⟨j, by omega, hj2⟩)
                  subst ht
                  subst hrn'
                  clear HT
                  have bend : Below V.heap.size V wr := bp.trans (br.mono bp.size)
                  go_wp2
                  go_roundw
                  case rel => exact ⟨p + 1, by omega, by go_num, bend⟩
                  case measure => simp [intOf]; omega
            · have hpn' : p = n := by omega
              have HGF := hid (HGV.out.below bp)
              have BF := BV.trans (bp.mono BV.size)
              clear HGV BV
              go_wp2
              go_roundw
              case rel => exact ⟨q + 1, L, by omega, by go_num, rfl, HGF, BF⟩
              case measure => simp [intOf]; omega
        · have hE1 : (E == 0) = false := by simpa using hE
          have hE2 : decide (E = 0) = false := by simpa using hE
          rw [if_neg (fun hh => hE hh.2)] at hg3
          obtain ⟨L, hL⟩ : ∃ L, L = lk := ⟨_, rfl⟩
          subst hL
          have HG3 := hid hg3
          clear hg3 hlk
          have hLk := HG3.out.lk
          have m1 : max (0 : Int) L = L := by omega
          have m2 : max L (0 : Int) = L := by omega
          have m3 : (if (0 : Int) < L then L else (0 : Int)) = L := by split <;> omega
          have m4 : (if L < (0 : Int) then (0 : Int) else L) = L := by split <;> omega
          go_wp2_with fail
          refine (g_locked HG3.out).mono ?_
          rintro e X4 ⟨rfl, hX4⟩
          subst hX4
          go_wp2_with fail
          refine (g_owes HG3.out).mono ?_
          rintro e X5 ⟨⟨ow, rfl, how⟩, b5⟩
          have HG5 := hid (HG3.out.below b5)
          have B5 := BX3.trans (b5.mono BX3.size)
          clear b5
          have how' : decide (L < ow) = false := by simpa using how
          go_wp2_with fail
          refine (g_locked HG5.out).mono ?_
          rintro e X6 ⟨rfl, hX6⟩
          subst hX6
          go_wp2_with fail
          refine (g_asks HG5.out).mono ?_
          rintro e X7 ⟨⟨ak, rfl, hak⟩, hX7⟩
          subst hX7
          have hak' : decide (24 < ak) = false := by simpa using hak
          go_wp2_with fail
          refine (g_steps HG5.out).mono ?_
          rintro e X8 ⟨⟨sa, sn, sc, rfl, hsn⟩, b8⟩
          have HG8 := hid (HG5.out.below b8)
          have B8 := B5.trans (b8.mono B5.size)
          clear b8 B5 HG5
          have hsn' : decide ((8 : Int) < (sn : Int)) = false := by simp; omega
          go_wp2_with fail
          refine (g_blocks HG8.out).mono ?_
          rintro e X9 ⟨⟨ba, bn, bc, bsq, bpa, rfl, hB0⟩, b9⟩
          have HG9 := hid (HG8.out.below b9)
          have B9 := B8.trans (b9.mono B8.size)
          have hbn := hB0.len
          have hbn' : decide ((3 : Int) < (bn : Int)) = false := by simp; omega
          clear b9 B8 HG8 hB0
          go_wp2_with fail
          refine (g_blocks HG9.out).mono ?_
          rintro e V ⟨⟨xa, n, xc, sq, pa, rfl, hB⟩, b10⟩
          have HGV := hid (HG9.out.below b10)
          have BV := B9.trans (b10.mono B9.size)
          have hn3 := hB.len
          have hnc := hB.cap
          have HB := hid hB
          clear b10 B9 HG9 hB hbn hbn' hsn hsn' hak hak' how how' m1 m2 m3 m4 BX3 HG3
          go_wp2
          go_loopw [9] (fun j wr => ∃ p : Nat, p ≤ n ∧ j = .int .i64 (p : Int) ∧ Below V.heap.size V wr) (fun j _ => n - (intOf j).toNat)
          case atStart => exact ⟨0, Nat.zero_le _, rfl, Below.refl _ _⟩
          case round =>
            obtain ⟨p, hp, rfl, bp⟩ := hrel
            by_cases hpn : p < n
            · obtain ⟨g, rfl, hc1, hc6⟩ := HB.out.at_ p hpn
              have hd6 : wr.cell? ⟨g, p * 8 + 6, none⟩ = some (.int .i64 (pa p)) := (Kx.of_below (S := fun _ => False) bp).cell hc6 (fun h => h)
              have hd1 : wr.cell? ⟨g, p * 8 + 1, none⟩ = some (.int .i64 (sq p)) := (Kx.of_below (S := fun _ => False) bp).cell hc1 (fun h => h)
              clear hc1 hc6
              go_wp2
              generalize wr = V1 at *
              go_loopw [10, 11] (fun f j wr => ∃ (r : Nat) (t : Bool), r ≤ n ∧ j = .int .i64 (r : Int) ∧ f = .bool t ∧ Hid ((pa p ≤ 0 ∨ ∃ j, j < r ∧ sq j = pa p) → t = true) ∧ Below V1.heap.size V1 wr) (fun _ j _ => n - (intOf j).toNat)
              case atStart => exact ⟨0, decide (pa p ≤ 0), Nat.zero_le _, rfl, rfl, fun hh => by rcases hh with hh | ⟨j, hj, _⟩; { simpa using hh }; { omega }, Below.refl _ _⟩
              case round =>
                obtain ⟨r, t, hr, rfl, rfl, HT, br⟩ := hrel
                by_cases hrn : r < n
                · obtain ⟨g', hg', hc1, hc6⟩ := HB.out.at_ r hrn
                  simp only [Option.some.injEq, Addr.mk.injEq, and_true] at hg'
                  subst hg'
                  have he1 : wr.cell? ⟨g, r * 8 + 1, none⟩ = some (.int .i64 (sq r)) := (Kx.of_below (S := fun _ => False) br).cell ((Kx.of_below (S := fun _ => False) bp).cell hc1 (fun h => h)) (fun h => h)
                  have he6 : wr.cell? ⟨g, p * 8 + 6, none⟩ = some (.int .i64 (pa p)) := (Kx.of_below (S := fun _ => False) br).cell hd6 (fun h => h)
                  have hf1 : wr.cell? ⟨g, p * 8 + 1, none⟩ = some (.int .i64 (sq p)) := (Kx.of_below (S := fun _ => False) br).cell hd1 (fun h => h)
                  clear hc1 hc6
                  have HR := hid (fun (h1 : r < p) => HB.out.rise r p h1 hpn)
                  have HNT := hid (show ∀ t' : Bool, (t = true → t' = true) → (sq r = pa p → t' = true) → (pa p ≤ 0 ∨ ∃ j, j < r + 1 ∧ sq j = pa p) → t' = true from fun t' h1 h2 h3 => by
                    rcases h3 with h3 | ⟨j, hj, hj2⟩
                    · exact h1 (HT.out (Or.inl h3))
                    · by_cases ej : j = r
                      · subst ej; exact h2 hj2
                      · exact h1 (HT.out (Or.inr ⟨j, by omega, hj2⟩)))
                  clear HT
                  cases t with
                  | true =>
                    by_cases hrp : r < p
                    · have hrp' : decide ((r : Int) < (p : Int)) = true := by simp; omega
                      have hge := HR.out hrp
                      have hge' : decide (sq p ≤ sq r) = false := by simp; omega
                      clear HR hge
                      go_wp2_with fail
                      go_quiet (fail)
                      go_wp2_with fail
                      go_quiet (fail)
                      go_wp2
                      go_roundw
                      case rel => exact ⟨r + 1, true, by omega, by go_num, rfl, HNT.out true (fun _ => rfl) (fun _ => rfl), below_dn br _⟩
                      case measure => simp [intOf]; omega
                    · have hrp' : decide ((r : Int) < (p : Int)) = false := by simp; omega
                      clear HR
                      go_wp2_with fail
                      go_quiet (fail)
                      go_wp2_with fail
                      go_quiet (fail)
                      go_wp2
                      go_roundw
                      case rel => exact ⟨r + 1, true, by omega, by go_num, rfl, HNT.out true (fun _ => rfl) (fun _ => rfl), below_dn br _⟩
                      case measure => simp [intOf]; omega
                  | false =>
                    obtain ⟨t', ht'⟩ : ∃ t' : Bool, t' = decide (sq r = pa p) := ⟨_, rfl⟩
                    have HE := hid (HNT.out t' (fun h => by cases h) (fun h => by rw [ht']; simpa using h))
                    have ht1 : decide (sq r = pa p) = t' := ht'.symm
                    have ht2 : (sq r == pa p) = t' := by rw [ht']; by_cases h : sq r = pa p <;> simp [h]
                    clear ht' HNT
                    by_cases hrp : r < p
                    · have hrp' : decide ((r : Int) < (p : Int)) = true := by simp; omega
                      have hge := HR.out hrp
                      have hge' : decide (sq p ≤ sq r) = false := by simp; omega
                      clear HR hge
                      go_wp2_with fail
                      go_quiet (fail)
                      go_wp2_with fail
                      go_quiet (fail)
                      go_wp2
                      go_roundw
                      case rel => exact ⟨r + 1, t', by omega, by go_num, by first | rfl | (simp only [ht1, ht2]), HE, below_dn br _⟩
                      case measure => simp [intOf]; omega
                    · have hrp' : decide ((r : Int) < (p : Int)) = false := by simp; omega
                      clear HR
                      go_wp2_with fail
                      go_quiet (fail)
                      go_wp2_with fail
                      go_quiet (fail)
                      go_wp2
                      go_roundw
                      case rel => exact ⟨r + 1, t', by omega, by go_num, by first | rfl | (simp only [ht1, ht2]), HE, below_dn br _⟩
                      case measure => simp [intOf]; omega
                · have hrn' : r = n := by omega
                  have ht : t = true := HT.out (by
                    by_cases h0 : pa p ≤ 0
                    · exact Or.inl h0
                    · obtain ⟨j, hj, hj2⟩ := HB.out.par p hpn (by omega)
                      exact Or.inr ⟨j, by omega, hj2⟩)
                  subst ht
                  subst hrn'
                  clear HT
                  have bend : Below V.heap.size V wr := bp.trans (br.mono bp.size)
                  go_wp2
                  go_roundw
                  case rel => exact ⟨p + 1, by omega, by go_num, bend⟩
                  case measure => simp [intOf]; omega
            · have hpn' : p = n := by omega
              have HGF := hid (HGV.out.below bp)
              have BF := BV.trans (bp.mono BV.size)
              clear HGV BV
              go_wp2
              go_roundw
              case rel => exact ⟨q + 1, L, by omega, by go_num, rfl, HGF, BF⟩
              case measure => simp [intOf]; omega
      · have hK1 : (K == 1) = false := by simpa using hK
        have hK2 : decide (K = 1) = false := by simpa using hK
        rw [if_neg (fun hh => hK hh.1)] at hg3
        obtain ⟨L, hL⟩ : ∃ L, L = lk := ⟨_, rfl⟩
        subst hL
        have HG3 := hid hg3
        clear hg3 hlk
        have hLk := HG3.out.lk
        have m1 : max (0 : Int) L = L := by omega
        have m2 : max L (0 : Int) = L := by omega
        have m3 : (if (0 : Int) < L then L else (0 : Int)) = L := by split <;> omega
        have m4 : (if L < (0 : Int) then (0 : Int) else L) = L := by split <;> omega
        go_wp2_with fail
        refine (g_locked HG3.out).mono ?_
        rintro e X4 ⟨rfl, hX4⟩
        subst hX4
        go_wp2_with fail
        refine (g_owes HG3.out).mono ?_
        rintro e X5 ⟨⟨ow, rfl, how⟩, b5⟩
        have HG5 := hid (HG3.out.below b5)
        have B5 := BX3.trans (b5.mono BX3.size)
        clear b5
        have how' : decide (L < ow) = false := by simpa using how
        go_wp2_with fail
        refine (g_locked HG5.out).mono ?_
        rintro e X6 ⟨rfl, hX6⟩
        subst hX6
        go_wp2_with fail
        refine (g_asks HG5.out).mono ?_
        rintro e X7 ⟨⟨ak, rfl, hak⟩, hX7⟩
        subst hX7
        have hak' : decide (24 < ak) = false := by simpa using hak
        go_wp2_with fail
        refine (g_steps HG5.out).mono ?_
        rintro e X8 ⟨⟨sa, sn, sc, rfl, hsn⟩, b8⟩
        have HG8 := hid (HG5.out.below b8)
        have B8 := B5.trans (b8.mono B5.size)
        clear b8 B5 HG5
        have hsn' : decide ((8 : Int) < (sn : Int)) = false := by simp; omega
        go_wp2_with fail
        refine (g_blocks HG8.out).mono ?_
        rintro e X9 ⟨⟨ba, bn, bc, bsq, bpa, rfl, hB0⟩, b9⟩
        have HG9 := hid (HG8.out.below b9)
        have B9 := B8.trans (b9.mono B8.size)
        have hbn := hB0.len
        have hbn' : decide ((3 : Int) < (bn : Int)) = false := by simp; omega
        clear b9 B8 HG8 hB0
        go_wp2_with fail
        refine (g_blocks HG9.out).mono ?_
        rintro e V ⟨⟨xa, n, xc, sq, pa, rfl, hB⟩, b10⟩
        have HGV := hid (HG9.out.below b10)
        have BV := B9.trans (b10.mono B9.size)
        have hn3 := hB.len
        have hnc := hB.cap
        have HB := hid hB
        clear b10 B9 HG9 hB hbn hbn' hsn hsn' hak hak' how how' m1 m2 m3 m4 BX3 HG3
        go_wp2
        go_loopw [9] (fun j wr => ∃ p : Nat, p ≤ n ∧ j = .int .i64 (p : Int) ∧ Below V.heap.size V wr) (fun j _ => n - (intOf j).toNat)
        case atStart => exact ⟨0, Nat.zero_le _, rfl, Below.refl _ _⟩
        case round =>
          obtain ⟨p, hp, rfl, bp⟩ := hrel
          by_cases hpn : p < n
          · obtain ⟨g, rfl, hc1, hc6⟩ := HB.out.at_ p hpn
            have hd6 : wr.cell? ⟨g, p * 8 + 6, none⟩ = some (.int .i64 (pa p)) := (Kx.of_below (S := fun _ => False) bp).cell hc6 (fun h => h)
            have hd1 : wr.cell? ⟨g, p * 8 + 1, none⟩ = some (.int .i64 (sq p)) := (Kx.of_below (S := fun _ => False) bp).cell hc1 (fun h => h)
            clear hc1 hc6
            go_wp2
            generalize wr = V1 at *
            go_loopw [10, 11] (fun f j wr => ∃ (r : Nat) (t : Bool), r ≤ n ∧ j = .int .i64 (r : Int) ∧ f = .bool t ∧ Hid ((pa p ≤ 0 ∨ ∃ j, j < r ∧ sq j = pa p) → t = true) ∧ Below V1.heap.size V1 wr) (fun _ j _ => n - (intOf j).toNat)
            case atStart => exact ⟨0, decide (pa p ≤ 0), Nat.zero_le _, rfl, rfl, fun hh => by rcases hh with hh | ⟨j, hj, _⟩; { simpa using hh }; { omega }, Below.refl _ _⟩
            case round =>
              obtain ⟨r, t, hr, rfl, rfl, HT, br⟩ := hrel
              by_cases hrn : r < n
              · obtain ⟨g', hg', hc1, hc6⟩ := HB.out.at_ r hrn
                simp only [Option.some.injEq, Addr.mk.injEq, and_true] at hg'
                subst hg'
                have he1 : wr.cell? ⟨g, r * 8 + 1, none⟩ = some (.int .i64 (sq r)) := (Kx.of_below (S := fun _ => False) br).cell ((Kx.of_below (S := fun _ => False) bp).cell hc1 (fun h => h)) (fun h => h)
                have he6 : wr.cell? ⟨g, p * 8 + 6, none⟩ = some (.int .i64 (pa p)) := (Kx.of_below (S := fun _ => False) br).cell hd6 (fun h => h)
                have hf1 : wr.cell? ⟨g, p * 8 + 1, none⟩ = some (.int .i64 (sq p)) := (Kx.of_below (S := fun _ => False) br).cell hd1 (fun h => h)
                clear hc1 hc6
                have HR := hid (fun (h1 : r < p) => HB.out.rise r p h1 hpn)
                have HNT := hid (show ∀ t' : Bool, (t = true → t' = true) → (sq r = pa p → t' = true) → (pa p ≤ 0 ∨ ∃ j, j < r + 1 ∧ sq j = pa p) → t' = true from fun t' h1 h2 h3 => by
                  rcases h3 with h3 | ⟨j, hj, hj2⟩
                  · exact h1 (HT.out (Or.inl h3))
                  · by_cases ej : j = r
                    · subst ej; exact h2 hj2
                    · exact h1 (HT.out (Or.inr ⟨j, by omega, hj2⟩)))
                clear HT
                cases t with
                | true =>
                  by_cases hrp : r < p
                  · have hrp' : decide ((r : Int) < (p : Int)) = true := by simp; omega
                    have hge := HR.out hrp
                    have hge' : decide (sq p ≤ sq r) = false := by simp; omega
                    clear HR hge
                    go_wp2_with fail
                    go_quiet (fail)
                    go_wp2_with fail
                    go_quiet (fail)
                    go_wp2
                    go_roundw
                    case rel => exact ⟨r + 1, true, by omega, by go_num, rfl, HNT.out true (fun _ => rfl) (fun _ => rfl), below_dn br _⟩
                    case measure => simp [intOf]; omega
                  · have hrp' : decide ((r : Int) < (p : Int)) = false := by simp; omega
                    clear HR
                    go_wp2_with fail
                    go_quiet (fail)
                    go_wp2_with fail
                    go_quiet (fail)
                    go_wp2
                    go_roundw
                    case rel => exact ⟨r + 1, true, by omega, by go_num, rfl, HNT.out true (fun _ => rfl) (fun _ => rfl), below_dn br _⟩
                    case measure => simp [intOf]; omega
                | false =>
                  obtain ⟨t', ht'⟩ : ∃ t' : Bool, t' = decide (sq r = pa p) := ⟨_, rfl⟩
                  have HE := hid (HNT.out t' (fun h => by cases h) (fun h => by rw [ht']; simpa using h))
                  have ht1 : decide (sq r = pa p) = t' := ht'.symm
                  have ht2 : (sq r == pa p) = t' := by rw [ht']; by_cases h : sq r = pa p <;> simp [h]
                  clear ht' HNT
                  by_cases hrp : r < p
                  · have hrp' : decide ((r : Int) < (p : Int)) = true := by simp; omega
                    have hge := HR.out hrp
                    have hge' : decide (sq p ≤ sq r) = false := by simp; omega
                    clear HR hge
                    go_wp2_with fail
                    go_quiet (fail)
                    go_wp2_with fail
                    go_quiet (fail)
                    go_wp2
                    go_roundw
                    case rel => exact ⟨r + 1, t', by omega, by go_num, by first | rfl | (simp only [ht1, ht2]), HE, below_dn br _⟩
                    case measure => simp [intOf]; omega
                  · have hrp' : decide ((r : Int) < (p : Int)) = false := by simp; omega
                    clear HR
                    go_wp2_with fail
                    go_quiet (fail)
                    go_wp2_with fail
                    go_quiet (fail)
                    go_wp2
                    go_roundw
                    case rel => exact ⟨r + 1, t', by omega, by go_num, by first | rfl | (simp only [ht1, ht2]), HE, below_dn br _⟩
                    case measure => simp [intOf]; omega
              · have hrn' : r = n := by omega
                have ht : t = true := HT.out (by
                  by_cases h0 : pa p ≤ 0
                  · exact Or.inl h0
                  · obtain ⟨j, hj, hj2⟩ := HB.out.par p hpn (by omega)
                    exact Or.inr ⟨j, by omega, hj2⟩)
                subst ht
                subst hrn'
                clear HT
                have bend : Below V.heap.size V wr := bp.trans (br.mono bp.size)
                go_wp2
                go_roundw
                case rel => exact ⟨p + 1, by omega, by go_num, bend⟩
                case measure => simp [intOf]; omega
          · have hpn' : p = n := by omega
            have HGF := hid (HGV.out.below bp)
            have BF := BV.trans (bp.mono BV.size)
            clear HGV BV
            go_wp2
            go_roundw
            case rel => exact ⟨q + 1, L, by omega, by go_num, rfl, HGF, BF⟩
            case measure => simp [intOf]; omega
    · have hql : q = len := by omega
      go_wp2_with fail
      refine (g_nobody HG.out).mono ?_
      rintro e X1 ⟨rfl, bX⟩
      have HG1 := hid (HG.out.below bX)
      have B1 := bq.trans (bX.mono bq.size)
      clear bX
      go_wp2_with fail
      refine (g_who HG1.out).mono ?_
      rintro e X2 ⟨⟨sa, sn, sc, rfl, hsn⟩, bX2⟩
      have B2 := B1.trans (bX2.mono B1.size)
      have hsn' : decide ((sn : Int) ≤ 1) = true := by simp; omega
      go_wp2
      go_ret
      exact ⟨by simp <;> omega, HST.out _ B2⟩
end Go.Proofs.Ytfneiilookoipaa
