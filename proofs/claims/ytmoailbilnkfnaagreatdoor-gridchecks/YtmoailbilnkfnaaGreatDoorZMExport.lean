/- grid: the document's Export. -/
import Derived.Test.YtmoailbilnkfnaaGreatDoorZMExps
namespace Go.Proofs.YtmoailbilnkfnaaGreatDoor
open Go.RowKit
set_option linter.unusedVariables false
set_option maxRecDepth 100000
set_option linter.unusedSimpArgs false

set_option maxHeartbeats 12800000 in
theorem mexport_any (w : World) (g : Gr) (la : Option Addr) (lc : Nat) (h : Lns w (.slice la g.lines.length lc) g.lines) (ok : gok g = true) (n : Nat) (hn : g.zones = n) (fv : Value) (F : List ByteArray) (hf : Strs w fv F) (m K : Nat) (hm100 : m ≤ 100000) (hmK : m / 9 + 8 ≤ K) (hK : K ≤ 12000) (hsz : ∀ s ∈ F, s.size ≤ m) :
    Calls Tryz.prog 13 #[.agg #[.int .i64 g.zones, .int .i64 g.hours, .slice la g.lines.length lc, .int .i64 g.low, .int .i64 g.high], fv] w fun e w' => IExp F g.lines n (1280 * K + 15135) e w' ∧ Below w.heap.size w w' := by
  obtain ⟨i0, hi0, hz0, hz1, hz2⟩ := info_parts info_string
  obtain ⟨hz, -, -, hl3, -⟩ := gok_iff.1 ok
  have HNU0 := hid (fun (Y : World) (b : Below w.heap.size w Y) (hl : F.length ≤ 1000) => hNumbersW_any Y fv F (hf.below b) m K hm100 hmK hsz hl)
  have HEX0 := hid (fun (Y : World) (b : Below w.heap.size w Y) (tv : Value) (C : List (List Value)) (X : List Rat) (base : Nat) (hX : TLs Y base tv C X K) (hXL : X.length = g.lines.length) => mexports_any Y g la lc (h.below b) ok n hn tv C X base K (by omega) hK hX hXL)
  obtain ⟨fa, fc, hfe, fl, fm⟩ := hf.slice
  obtain ⟨Z, H, lo, hi, S⟩ := g
  simp only at h hn hz hl3 HEX0 ⊢
  subst hn
  have b0 := ibel w (Obj.cells #[.int .i64 (n : Int), .int .i64 H, .slice la S.length lc, .int .i64 lo, .int .i64 hi] 24)
  have x0 := inew w (Obj.cells #[.int .i64 (n : Int), .int .i64 H, .slice la S.length lc, .int .i64 lo, .int .i64 hi] 24)
  have z0 := ibx x0 0 (.int .i64 (n : Int)) rfl
  have z1 := ibx x0 1 (.int .i64 H) rfl
  have z2 := ibx x0 2 (.slice la S.length lc) rfl
  have z3 := ibx x0 3 (.int .i64 lo) rfl
  have z4 := ibx x0 4 (.int .i64 hi) rfl
  obtain ⟨a', c', e', hl, hm⟩ := h.slice
  simp only [Value.slice.injEq] at e'
  obtain ⟨rfl, -, rfl⟩ := e'
  unfold maxLen at hm fm
  have HB0 := hid b0
  have HNU := hid (HNU0.out (w.alloc (Obj.cells #[.int .i64 (n : Int), .int .i64 H, .slice la S.length lc, .int .i64 lo, .int .i64 hi] 24)) b0)
  have HQ0 := hid (show ∀ w', F.length ≠ S.length → IExp F S n (1280 * K + 15135) (.returned (.tuple #[.slice none 0 0, .int .i64 120])) w' from fun w' k => Or.inl ⟨k, rfl⟩)
  subst hfe
  clear h x0 b0 ok hf hsz hm100 hmK HNU0
  go_enter Tryz.func13, Tryz.ntmps13
  by_cases hn' : F.length = S.length
  case neg =>
    have hn1 : ((F.length : Int) == (S.length : Int)) = false := by simp; omega
    have hn2 : ((F.length : Int) != (S.length : Int)) = true := by simp; omega
    have HQ := hid (HQ0.out (w.alloc (Obj.cells #[.int .i64 (n : Int), .int .i64 H, .slice la S.length lc, .int .i64 lo, .int .i64 hi] 24)) hn')
    have B1 := HB0.out
    clear hn' HNU HEX0
    go_wp2_with fail
    go_ret2
    exact ⟨HQ.out, B1⟩
  have HFS := hid hn'
  have HNU := hid (HNU.out (by omega))
  have hn1 : ((F.length : Int) == (S.length : Int)) = true := by simp; omega
  have hn2 : ((F.length : Int) != (S.length : Int)) = false := by simp; omega
  clear hn' HQ0
  go_wp2_with fail
  generalize hW : w.alloc (Obj.cells #[.int .i64 (n : Int), .int .i64 H, .slice la S.length lc, .int .i64 lo, .int .i64 hi] 24) = W at *
  clear hW
  refine HNU.out.mono ?_
  rintro e X1 ⟨hr, bX1⟩
  have B1 := HB0.out.trans (bX1.mono HB0.out.size)
  have z0 := ikc bX1 z0
  have z1 := ikc bX1 z1
  have z2 := ikc bX1 z2
  have z3 := ikc bX1 z3
  have z4 := ikc bX1 z4
  clear HNU
  rcases hr with ⟨X, tv, C, hnu, rfl, hls⟩ | ⟨hno, rfl⟩
  case inr =>
    have HQ := hid (show IExp F S n (1280 * K + 15135) (.returned (.tuple #[.slice none 0 0, .int .i64 10])) X1 from Or.inr (Or.inl ⟨HFS.out, hno, rfl⟩))
    clear hno HEX0 bX1
    go_wp2_with fail
    go_ret2
    exact ⟨HQ.out, B1⟩
  have hXL : X.length = S.length := hnu.len.trans HFS.out
  have HEX := hid (HEX0.out X1 B1 tv C X _ hls hXL)
  obtain ⟨ta, tc, hte, tl, tm⟩ := hls.slice
  subst hte
  have HQE := hid (fun (tv : Value) (Z : List ByteArray) (w' : World) (k1 : Strs w' tv Z) (k2 : TxL Z (exps S X n)) (k4 : ∀ s ∈ Z, s.size ≤ 1280 * K + 15135) => show IExp F S n (1280 * K + 15135) (.returned (.tuple #[tv, .int .i64 0])) w' from Or.inr (Or.inr ⟨HFS.out, X, tv, Z, hnu, rfl, k1, k2, k4⟩))
  clear HEX0 hls hnu bX1 hXL tl
  generalize X.length = xl at *
  go_wp2_with fail
  refine HEX.out.mono ?_
  rintro e X2 ⟨ov, C', rfl, hls, bX2⟩
  have B2 := B1.trans (bX2.mono B1.size)
  have HO := hid hls
  obtain ⟨oa, oc, hoe, ol, om⟩ := hls.slice
  rw [exps_len] at hoe ol
  subst hoe
  have HEL := hid (exps_len S X n)
  clear hls z0 z1 z2 z3 z4 HEX bX2
  have bM := ibel X2 (Obj.cells #[] 9)
  have N0 := hid (show (X2.alloc (Obj.cells #[] 9)).ownsRow X2.heap.size 9 1 (.slice (some ⟨X2.heap.size, 0, none⟩) 0 0) 0 (strV []) from World.ownsRow_made X2 #[] 0 (Nat.le_refl _) (Nat.zero_le _) (by simp))
  have HB2 := hid B2
  have hwx : w.heap.size ≤ X2.heap.size := B2.size
  go_wp2_with fail
  generalize hM : X2.alloc (Obj.cells #[] 9) = W2 at *
  clear hM B2 B1
  go_loopw [9, 10] (fun sv iv wr => ∃ (k : Nat) (Z : List ByteArray), k ≤ n ∧ iv = .int .i64 (k : Int) ∧ Hid (TxL Z ((exps S X n).take k)) ∧ Hid (∀ s ∈ Z, s.size ≤ 1280 * K + 15135) ∧ Hid (wr.ownsRow X2.heap.size 9 1 sv k (strV Z)) ∧ Below X2.heap.size X2 wr) (fun _ i _ => n - (intOf i).toNat)
  case atStart => exact ⟨0, [], Nat.zero_le _, rfl, hid (by simpa using TxL.nil), hid (by simp), N0, bM⟩
  case round =>
    obtain ⟨k, Z, hk, rfl, HTL, HTS, HOW, bW⟩ := hrel
    obtain ⟨qa, qc, hse⟩ := own_slice HOW.out
    subst hse
    by_cases hlt : k < n
    · have hltI : (k : Int) < (n : Int) := by omega
      have hli : (0 : Int) ≤ (k : Int) ∧ (k : Int) < (n : Int) := by omega
      obtain ⟨gx, xc, p0', p1', p2', p3', e, _, p0, p1, p2, p3, hxi⟩ := (Ls.below (fun h b => h.below b) HO.out bW).at k (by rw [HEL.out]; exact hlt)
      simp only [Value.slice.injEq] at e
      obtain ⟨rfl, -, rfl⟩ := e
      have HKB := hid (show 64 * K + 756 ≤ 1000000 by omega)
      have HTT := hid (t_text wr _ _ _ HKB.out hxi)
      have HQI := hid hxi
      have HPU := hid (fun (st : ByteArray) (h : TxR st ((exps S X n)[k]'(by rw [HEL.out]; exact hlt))) => HTL.out.push (by rw [HEL.out]; exact hlt) h)
      have hbW := bW.size
      clear hxi
      go_wp2_with fail
      refine HTT.out.mono ?_
      rintro e Y1 ⟨⟨st, rfl, hst⟩, bY1⟩
      have HSZ := hid (t_size HQI.out hst)
      have HNT := hid (HPU.out st hst)
      have HTS' := hid (show ∀ s ∈ Z ++ [st], s.size ≤ 1280 * K + 15135 from fun s hs => by
        rcases List.mem_append.1 hs with h | h
        · exact HTS.out s h
        · rw [List.mem_singleton] at h; subst h; have := HSZ.out; omega)
      have hown := (own_below HOW.out bY1).alloc (.cells #[.string st] 9)
      have HA := hid ((bW.trans (bY1.mono hbW)).alloc (Nat.le_trans hbW bY1.size) (Obj.cells #[.string st] 9))
      have hbs : X2.heap.size ≤ (Y1.alloc (Obj.cells #[.string st] 9)).heap.size := HA.out.size
      clear HTT HQI HPU HSZ hst bY1 p0 p1 p2 p3 HTL HTS
      go_wp2_with (first | (at_builtin; refine wpList_append_own_at _ rfl _ _ 25 rfl X2.heap.size 9 i0 (.string ByteArray.empty) 1 16 Tryz.underlying25 hi0 hz0 hz1 hz2 rfl (by decide) (.slice qa k qc) k _ rfl hown ⟨Y1.heap.size, 0, none⟩ 1 1 [.string st] rfl rfl (str_newE _ _) (by intro u hu; simp at hu; subst hu; rfl) (by unfold maxLen; omega) (by omega) hbs ?_) | fail)
      intro v' Y5 o5 hg5 _ hat5
      have B5 := HA.out.grown hg5 hbs (fun g hg => (hown.lt g hg).1)
      have HO5 := hid (show Y5.ownsRow X2.heap.size 9 1 v' (k + 1) (strV (Z ++ [st])) by rw [← strV_push]; exact o5)
      clear o5 hg5 hat5 hown hbs HOW HA
      go_wp2_with fail
      go_roundw
      case rel => exact ⟨k + 1, _, by omega, by go_num, HNT, HTS', HO5, B5⟩
      case measure => simp [intOf]; omega
    · obtain rfl : k = n := by omega
      have hTL := HTL.out
      rw [List.take_of_length_le (by rw [HEL.out]; exact Nat.le_refl _)] at hTL
      have HQ := hid (HQE.out _ Z wr (strs_own HOW.out (by rw [hTL.len, HEL.out]) HTS.out (by omega)) hTL HTS.out)
      have BF := HB2.out.trans (bW.mono hwx)
      clear hTL HTL HQE
      go_wp2_with fail
      go_ret2
      exact ⟨HQ.out, BF⟩
end Go.Proofs.YtmoailbilnkfnaaGreatDoor
