/- grid: the document's Islands. -/
import Derived.Test.YtmoailbilnkfnaaGreatDoorZIBlk
import Derived.Test.YtmoailbilnkfnaaGreatDoorZCLev
import Derived.Deep.RegionHeld3
namespace Go.Proofs.YtmoailbilnkfnaaGreatDoor
open Go.RowKit
set_option linter.unusedVariables false
set_option maxRecDepth 100000
set_option linter.unusedSimpArgs false

theorem oset {w : World} {base : Nat} {e : TypeId} {size : Nat} {v : Value} {n : Nat} {xs : List Value} (h : w.ownsRow base e size v n xs) {g : Nat} (hv : v.ownBlock = some g) (k : Nat) (hk : k < xs.length) (u : Value) :
    (w.setCell ⟨g, k, none⟩ u).ownsRow base e size v n (xs.set k u) := by
  obtain ⟨h1, h2⟩ := h
  refine ⟨by simpa using h1, ?_⟩
  rcases h2 with ⟨rfl, _⟩ | ⟨g', cap, cur, rfl, hb, hh, q1, q2, q3, q4⟩
  · cases hv
  · simp only [Value.ownBlock, Option.some.injEq] at hv
    subst hv
    refine Or.inr ⟨g', cap, cur.setIfInBounds k u, rfl, hb, ?_, q1, q2, by simpa using q3, ?_⟩
    · rw [setCell_eq_setRow w g' k cur e (0, 0) u hh]
      exact setRow_heap w g' cur _ e (0, 0) hh
    · rw [Array.toList_setIfInBounds, List.take_set, q4]
theorem ofree {w : World} {base : Nat} {e : TypeId} {size : Nat} {v : Value} {n : Nat} {xs : List Value} (h : w.ownsRow base e size v n xs) {g : Nat} (hv : v.ownBlock = some g) (k : Nat) : w.frozen? ⟨g, k, none⟩ = false := by
  rcases h.2 with ⟨rfl, _⟩ | ⟨g', cap, cur, rfl, hb, hh, q1, q2, q3, q4⟩
  · cases hv
  · simp only [Value.ownBlock, Option.some.injEq] at hv
    subst hv
    exact blk_free hh k
theorem olt {w : World} {base : Nat} {e : TypeId} {size : Nat} {v : Value} {n : Nat} {xs : List Value} (h : w.ownsRow base e size v n xs) {g : Nat} (hv : v.ownBlock = some g) : base ≤ g ∧ g < w.heap.size := by
  rcases h.2 with ⟨rfl, _⟩ | ⟨g', cap, cur, rfl, hb, hh, q1, q2, q3, q4⟩
  · cases hv
  · simp only [Value.ownBlock, Option.some.injEq] at hv
    subst hv
    exact ⟨hb, lt_of_block hh⟩
theorem ocell {w : World} {base : Nat} {c gr n : Nat} {R : List Nat} (h : w.ownsRow base 3 1 (.slice (some ⟨gr, 0, none⟩) n c) n (iv R)) (i : Nat) (hi : i < R.length) : w.cell? ⟨gr, i, none⟩ = some (.int .i64 ((at' R i : Nat) : Int)) := by
  have := h.cells (g := gr) rfl i _ (iv_at hi)
  rw [add_off, Nat.zero_add] at this
  exact this
theorem oints {w : World} {base : Nat} {v : Value} {n : Nat} {R : List Nat} (h : w.ownsRow base 3 1 v n (iv R)) (hR : R.length = n) : Ints w v (R.map fun x => ((x : Nat) : Int)) := by
  subst hR
  have := Row1.of_own (base := base) (e := 3) (L := iv R) (by rw [iv_len]; exact h)
  unfold Ints
  rw [show intV (R.map fun x => ((x : Nat) : Int)) = iv R by simp [intV, iv]]
  exact this
theorem int_newI (X : World) (s : Int) : ∀ j u, [Value.int .i64 s][j]? = some u → (X.alloc (.cells #[.int .i64 s] 3)).cell? ((⟨X.heap.size, 0, none⟩ : Addr).add j) = some u := by
  intro j u hu
  match j, hu with
  | 0, hu => simp at hu; subst hu; simp [Addr.add]
theorem iv_push (k : Nat) : iv (List.range k) ++ [Value.int .i64 (k : Int)] = iv (List.range (k + 1)) := by simp [iv, List.range_succ]
theorem rnd_take (S : List Ln) (R : List Nat) (i : Nat) (h : i < S.length) : rnd (S.take (i + 1)) R = if 0 < S[i].c then joinL (rnd (S.take i) R) S[i] else rnd (S.take i) R := by
  unfold rnd
  rw [List.take_add_one, List.getElem?_eq_getElem h, List.foldl_append]
  rfl
theorem btw_yes {lo n hi : Int} (h1 : lo ≤ n) (h2 : n ≤ hi) : btw lo n hi = true := by simp [btw, h1, h2]
set_option maxHeartbeats 12800000 in
theorem mislands_any (w : World) (g : Gr) (la : Option Addr) (lc : Nat) (h : Lns w (.slice la g.lines.length lc) g.lines) (ok : gok g = true) (n : Nat) (hn : g.zones = n) :
    Calls Tryz.prog 18 #[.agg #[.int .i64 g.zones, .int .i64 g.hours, .slice la g.lines.length lc, .int .i64 g.low, .int .i64 g.high]] w fun e w' => ∃ (R : List Nat) (v : Value), e = .returned v ∧ Ints w' v (R.map fun x => ((x : Nat) : Int)) ∧ Isl g.lines n R ∧ Clo g.lines R ∧ Below w.heap.size w w' := by
  obtain ⟨i0, hi0, hz0, hz1, hz2⟩ := iparts iinfo
  obtain ⟨hz, -, -, hl3, -⟩ := gok_iff.1 ok
  have HFIT := hid (gok_fit ok)
  rw [show g.zones.toNat = n by omega] at HFIT
  obtain ⟨Z, H, lo, hi, S⟩ := g
  simp only at h hn hz hl3 HFIT ⊢
  subst hn
  have b0 := ibel w (Obj.cells #[.int .i64 (n : Int), .int .i64 H, .slice la S.length lc, .int .i64 lo, .int .i64 hi] 24)
  have x0 := inew w (Obj.cells #[.int .i64 (n : Int), .int .i64 H, .slice la S.length lc, .int .i64 lo, .int .i64 hi] 24)
  have z0 := ibx x0 0 (.int .i64 (n : Int)) rfl
  have z2 := ibx x0 2 (.slice la S.length lc) rfl
  have HL := hid h
  obtain ⟨a', c', e', hl, hm⟩ := h.slice
  simp only [Value.slice.injEq] at e'
  obtain ⟨rfl, -, rfl⟩ := e'
  unfold maxLen at hm
  have bA := b0.alloc b0.size (Obj.cells #[] 3)
  have hsz : (w.alloc (Obj.cells #[.int .i64 (n : Int), .int .i64 H, .slice la S.length lc, .int .i64 lo, .int .i64 hi] 24)).heap.size = w.heap.size + 1 := by simp
  have hg0 : w.heap.size < w.heap.size + 1 := by omega
  have N0 := hid (show ((w.alloc (Obj.cells #[.int .i64 (n : Int), .int .i64 H, .slice la S.length lc, .int .i64 lo, .int .i64 hi] 24)).alloc (Obj.cells #[] 3)).ownsRow (w.heap.size + 1) 3 1 (.slice (some ⟨w.heap.size + 1, 0, none⟩) 0 0) 0 (iv (List.range 0)) from by
    rw [← hsz]; exact World.ownsRow_made (w.alloc (Obj.cells #[.int .i64 (n : Int), .int .i64 H, .slice la S.length lc, .int .i64 lo, .int .i64 hi] 24)) #[] 0 (Nat.le_refl _) (Nat.zero_le _) (by simp))
  have bA1 := ibel (w.alloc (Obj.cells #[.int .i64 (n : Int), .int .i64 H, .slice la S.length lc, .int .i64 lo, .int .i64 hi] 24)) (Obj.cells #[] 3)
  have hg1 := bA1.size
  rw [hsz] at hg1
  have z0 := ikc bA1 z0
  have z2 := ikc bA1 z2
  clear h x0 b0 ok bA1 hsz
  go_enter Tryz.func18, Tryz.ntmps18
  go_wp2_with fail
  generalize (w.alloc (Obj.cells #[.int .i64 (n : Int), .int .i64 H, .slice la S.length lc, .int .i64 lo, .int .i64 hi] 24)).alloc (Obj.cells #[] 3) = W0 at *
  generalize w.heap.size + 1 = g0 at *
  have HKx0 := hid (fun (Y : World) (k : Below g0 W0 Y) => And.intro ((k.cell (p := ⟨w.heap.size, 0, none⟩) hg0).trans z0) ((k.cell (p := ⟨w.heap.size, 2, none⟩) hg0).trans z2))
  have HW0 := hid bA
  clear z0 z2 bA
  go_loopw [3, 4] (fun ov zv wr => ∃ (k : Nat), k ≤ n ∧ zv = .int .i64 (k : Int) ∧ Hid (wr.ownsRow g0 3 1 ov k (iv (List.range k))) ∧ Below g0 W0 wr) (fun _ i _ => n - (intOf i).toNat)
  case atStart => exact ⟨0, Nat.zero_le _, rfl, N0, Below.refl _ _⟩
  case round =>
  obtain ⟨k, hkn, rfl, HO, bwr⟩ := hrel
  obtain ⟨z0, z2⟩ := HKx0.out _ bwr
  obtain ⟨oa, oc, hoe⟩ := own_form4 HO.out
  subst hoe
  by_cases hlz : k < n
  · have hlzI : (k : Int) < (n : Int) := by omega
    have hlzJ : (k : Int) < 1024 := by omega
    have hown := HO.out.alloc (.cells #[.int .i64 (k : Int)] 3)
    have hbs : g0 ≤ (wr.alloc (Obj.cells #[.int .i64 (k : Int)] 3)).heap.size := by have := bwr.size; simp; omega
    have HA := hid (bwr.alloc (by have := bwr.size; omega) (Obj.cells #[.int .i64 (k : Int)] 3))
    clear HO
    go_wp2_with (first | (at_builtin; refine wpList_append_own_at _ rfl _ _ 32 rfl g0 3 i0 (.int .i64 0) 1 8 Tryz.underlying32 hi0 hz0 hz1 hz2 rfl (by decide) (.slice oa k oc) k _ rfl hown ⟨wr.heap.size, 0, none⟩ 1 1 [.int .i64 (k : Int)] rfl rfl (int_newI _ _) (by intro u hu; simp at hu; subst hu; rfl) (by unfold maxLen; omega) (by omega) hbs ?_) | fail)
    intro v' Y5 o5 hg5 _ hat5
    have B5 := HA.out.grown hg5 hbs (fun g hg => (hown.lt g hg).1)
    have HO5 := hid (show Y5.ownsRow g0 3 1 v' (k + 1) (iv (List.range (k + 1))) by rw [← iv_push]; exact o5)
    clear o5 hg5 hat5 hown hbs HA
    go_wp2_with fail
    go_roundw
    case rel => exact ⟨k + 1, by omega, by go_num, HO5, B5⟩
    case measure => simp [intOf]; omega
  obtain rfl : k = n := by omega
  obtain ⟨gr, hgr⟩ : ∃ gr, oa = some ⟨gr, 0, none⟩ := by
    rcases HO.out.2 with ⟨_, h0⟩ | ⟨g', cap, cur, e, _⟩
    · omega
    · simp only [Value.slice.injEq] at e
      exact ⟨g', e.1⟩
  subst hgr
  have HR0 := hid (show wr.ownsRow g0 3 1 (.slice (some ⟨gr, 0, none⟩) k oc) k (iv (rnds S (List.range k) 0)) from HO.out)
  obtain ⟨hgr0, hgr1⟩ := olt HO.out (g := gr) rfl
  have hoc : k ≤ oc ∧ oc ≤ maxLen := by
    rcases HO.out.2 with ⟨e, h0⟩ | ⟨g', cap, cur, e, _, _, q1, q2, _⟩
    · omega
    · simp only [Value.slice.injEq] at e
      rw [e.2.2]; exact ⟨q1, q2⟩
  obtain ⟨hoc1, hoc2⟩ := hoc
  unfold maxLen at hoc2
  clear HO hlz
  obtain ⟨V0, hV0⟩ : ∃ V0, V0 = wr := ⟨_, rfl⟩
  subst hV0
  have hwn : IntKind.i64.wrap ((k : Int) - 1) = (k : Int) - 1 := by rw [IntKind.wrap_i64]; omega
  have hwn2 : wrap64 ((k : Int) - 1) = (k : Int) - 1 := by simp only [wrap64]; omega
  go_wp2_with fail
  go_loopw [5] (fun zv wr => ∃ (z : Nat), z ≤ k ∧ zv = .int .i64 (z : Int) ∧ Hid (wr.ownsRow g0 3 1 (.slice (some ⟨gr, 0, none⟩) k oc) k (iv (rnds S (List.range k) z))) ∧ Below g0 W0 wr) (fun i _ => k - (intOf i).toNat)
  case atStart => exact ⟨0, Nat.zero_le _, rfl, HR0, bwr⟩
  case round =>
  obtain ⟨z, hzn, rfl, HO, bw1⟩ := hrel
  by_cases hlz : z < k
  case neg =>
    obtain rfl : z = k := by omega
    have HIS := hid (rnds_isl HFIT.out z)
    have HI := hid (oints HO.out HIS.out.len)
    have HC := hid (rnds_clo HFIT.out)
    have BF := HW0.out.trans (bw1.mono (Nat.le_of_lt hg0))
    clear hlz
    go_wp2_with fail
    go_ret
    exact ⟨_, _, rfl, HI.out, HIS.out, HC.out, BF⟩
  have hlzI : (z : Int) < (k : Int) := by omega
  have HISL := hid (rnds_isl (S := S) HFIT.out z)
  have HNXT := hid (show rnds S (List.range k) (z + 1) = rnd (S.take S.length) (rnds S (List.range k) z) by rw [List.take_length]; rfl)
  generalize rnds S (List.range k) z = Rk at *
  go_wp2_with fail
  go_loopw [6] (fun iv_ wr => ∃ (i : Nat), i ≤ S.length ∧ iv_ = .int .i64 (i : Int) ∧ Hid (wr.ownsRow g0 3 1 (.slice (some ⟨gr, 0, none⟩) k oc) k (iv (rnd (S.take i) Rk))) ∧ Below g0 W0 wr) (fun i _ => S.length - (intOf i).toNat)
  case atStart => exact ⟨0, Nat.zero_le _, rfl, HO, bw1⟩
  case round =>
  obtain ⟨i, hil, rfl, HO, bw⟩ := hrel
  obtain ⟨z0, z2⟩ := HKx0.out _ bw
  by_cases hlt : i < S.length
  case neg =>
    obtain rfl : i = S.length := by omega
    have HO2 := hid (show wr.ownsRow g0 3 1 (.slice (some ⟨gr, 0, none⟩) k oc) k (iv (rnds S (List.range k) (z + 1))) by rw [HNXT.out]; exact HO.out)
    clear hlt HO
    go_wp2_with fail
    go_roundw
    case rel => exact ⟨z + 1, by omega, by go_num, HO2, bw⟩
    case measure => simp [intOf]; omega
  have hltI : (i : Int) < (S.length : Int) := by omega
  have hli : (0 : Int) ≤ (i : Int) ∧ (i : Int) < (S.length : Int) := by omega
  obtain ⟨b, off, c', e, _, _, q0, q1, q2⟩ := (HL.out.below (HW0.out.trans (bw.mono (Nat.le_of_lt hg0)))).at i hlt
  simp only [Value.slice.injEq] at e
  obtain ⟨rfl, -, rfl⟩ := e
  have hfit := HFIT.out _ (List.getElem_mem hlt)
  have HISR := hid (fold_isl HFIT.out (S.take i) Rk (fun l hl => List.mem_of_mem_take hl) HISL.out)
  have HRT := hid (rnd_take S Rk i hlt)
  generalize S[i] = l at *
  obtain ⟨lf, lt, lcap⟩ := l
  obtain ⟨f1, f2, f3, f4, f5, -⟩ := hfit
  simp only at f1 f2 f3 f4 f5 HRT q0 q1 q2
  obtain ⟨f, rfl⟩ : ∃ f : Nat, lf = f := ⟨lf.toNat, by omega⟩
  obtain ⟨t, rfl⟩ : ∃ t : Nat, lt = t := ⟨lt.toNat, by omega⟩
  have bX := ibel wr (Obj.cells #[.int .i64 (f : Int), .int .i64 (t : Int), .int .i64 lcap] 50)
  have x1 := inew wr (Obj.cells #[.int .i64 (f : Int), .int .i64 (t : Int), .int .i64 lcap] 50)
  have p0 := ibx x1 0 (.int .i64 (f : Int)) rfl
  have p1 := ibx x1 1 (.int .i64 (t : Int)) rfl
  have p2 := ibx x1 2 (.int .i64 lcap) rfl
  have hwr0 : g0 ≤ wr.heap.size := Nat.le_trans hg1 bw.size
  have BWX := bw.trans (bX.mono hwr0)
  have HOX := hid (own_below HO.out bX)
  have hgw : gr < wr.heap.size := (olt HO.out (g := gr) rfl).2
  clear x1 HO
  by_cases hc : 0 < lcap
  · have hc' : decide (0 < lcap) = true := decide_eq_true hc
    rw [if_pos hc] at HRT
    have hb1 : btw 0 (f : Int) ((k : Int) - 1) = true := btw_yes (by omega) (by omega)
    have hb2 : btw 0 (t : Int) ((k : Int) - 1) = true := btw_yes (by omega) (by omega)
    generalize rnd (S.take i) Rk = R at *
    have HRN := hid (HISR.out.len)
    have cf := ocell HOX.out f (by rw [HRN.out]; omega)
    have ct := ocell HOX.out t (by rw [HRN.out]; omega)
    obtain ⟨av, HAV⟩ : ∃ av, Hid (at' R f = av) := ⟨_, hid rfl⟩
    obtain ⟨bv, HBV⟩ : ∃ bv, Hid (at' R t = bv) := ⟨_, hid rfl⟩
    have HAL := hid (show av ≤ 3 ∧ bv ≤ 3 by
      have h1 := HISR.out.le f (by omega)
      have h2 := HISR.out.le t (by omega)
      rw [HAV.out] at h1
      rw [HBV.out] at h2
      omega)
    obtain ⟨mv, HMV⟩ : ∃ mv : Nat, Hid (min av bv = mv) := ⟨_, hid rfl⟩
    have HJ := hid (show joinL R ⟨(f : Int), (t : Int), lcap⟩ = (R.set f mv).set t mv by simp only [joinL, Int.toNat_natCast]; rw [HAV.out, HBV.out, HMV.out])
    rw [HAV.out] at cf
    rw [HBV.out] at ct
    have hmn : min (av : Int) (bv : Int) = (mv : Int) := by rw [← HMV.out]; omega
    have hmn2 : (if (bv : Int) < (av : Int) then (bv : Int) else (av : Int)) = (mv : Int) := by rw [← HMV.out]; split <;> omega
    have hmn3 : (if bv < av then (bv : Int) else (av : Int)) = (mv : Int) := by rw [← HMV.out]; split <;> omega
    have hmw : IntKind.i64.wrap (mv : Int) = (mv : Int) := by have := HAL.out; have := HMV.out; rw [IntKind.wrap_i64]; omega
    have hfi : (0 : Int) ≤ (f : Int) ∧ (f : Int) < (k : Int) := by omega
    have hti : (0 : Int) ≤ (t : Int) ∧ (t : Int) < (k : Int) := by omega
    clear hc bX
    go_wp2_with fail
    generalize wr.heap.size = bl at *
    generalize wr.alloc (Obj.cells #[.int .i64 (f : Int), .int .i64 (t : Int), .int .i64 lcap] 50) = W at *
    refine (mwithin_any 0 (f : Int) ((k : Int) - 1) _ hb1 _).mono ?_
    rintro e X ⟨rfl, hX⟩
    rw [hX]
    clear hX
    go_wp2_with fail
    refine (mwithin_any 0 (t : Int) ((k : Int) - 1) _ hb2 _).mono ?_
    rintro e X ⟨rfl, hX⟩
    rw [hX]
    clear hX
    go_wp2_with fail
    have F0 : Below W.heap.size W W.drew := (Below.refl _ _).drew
    have HKx := hid (fun (Y : World) (kz : Below W.heap.size W Y) => show (Y.cell? ⟨bl, 0, none⟩ = some (.int .i64 (f : Int)) ∧ Y.cell? ⟨bl, 1, none⟩ = some (.int .i64 (t : Int)) ∧ Y.cell? ⟨gr, f, none⟩ = some (.int .i64 (av : Int)) ∧ Y.cell? ⟨gr, t, none⟩ = some (.int .i64 (bv : Int))) from ⟨ikc kz p0, ikc kz p1, ikc kz cf, ikc kz ct⟩)
    refine wp_region_noPanic ?_
    refine wp_region_held_drew (S := fun Y => Y.cell? ⟨bl, 0, none⟩ = some (.int .i64 (f : Int)) ∧ Y.cell? ⟨bl, 1, none⟩ = some (.int .i64 (t : Int)) ∧ Y.cell? ⟨gr, f, none⟩ = some (.int .i64 (av : Int)) ∧ Y.cell? ⟨gr, t, none⟩ = some (.int .i64 (bv : Int))) (by kernel_rfl) (HKx.out _ F0) (fun hHeld => ?_)
    refine wpAnyH_take (i := 0) (v := ?_) rfl (by kernel_rfl) (by kernel_rfl) (by kernel_rfl) (fun _ _ _ h => h) (Or.inl ⟨by rfl, ?_⟩) (by assumption) ?_
    rotate_left
    · intro w hSw
      (try dsimp only at hSw)
      go_simp
      (try with_reducible rfl)
    (try simp only [List.getElem_toArray, List.getElem_cons_zero, List.getElem_cons_succ, Act.put, List.setIfInBounds_toArray, List.set_cons_zero, List.set_cons_succ])
    refine wpAnyH_take (i := 1) (v := ?_) rfl (by kernel_rfl) (by kernel_rfl) (by kernel_rfl) (fun _ _ _ h => h) (Or.inl ⟨by rfl, ?_⟩) (by assumption) ?_
    rotate_left
    · intro w hSw
      (try dsimp only at hSw)
      go_simp
      (try with_reducible rfl)
    (try simp only [List.getElem_toArray, List.getElem_cons_zero, List.getElem_cons_succ, Act.put, List.setIfInBounds_toArray, List.set_cons_zero, List.set_cons_succ])
    refine wpAnyH_take (i := 2) (v := ?_) rfl (by kernel_rfl) (by kernel_rfl) (by kernel_rfl) (fun _ _ _ h => h) (Or.inl ⟨by rfl, ?_⟩) (by assumption) ?_
    rotate_left
    · intro w hSw
      (try dsimp only at hSw)
      go_simp
      (try with_reducible rfl)
    (try simp only [List.getElem_toArray, List.getElem_cons_zero, List.getElem_cons_succ, Act.put, List.setIfInBounds_toArray, List.set_cons_zero, List.set_cons_succ])
    refine wpAnyH_take (i := 3) (v := ?_) rfl (by kernel_rfl) (by kernel_rfl) (by kernel_rfl) (fun _ _ _ h => h) (Or.inl ⟨by rfl, ?_⟩) (by assumption) ?_
    rotate_left
    · intro w hSw
      (try dsimp only at hSw)
      go_simp
      (try with_reducible rfl)
    (try simp only [List.getElem_toArray, List.getElem_cons_zero, List.getElem_cons_succ, Act.put, List.setIfInBounds_toArray, List.set_cons_zero, List.set_cons_succ])
    refine wpAnyH_take (i := 4) (v := ?_) rfl (by kernel_rfl) (by kernel_rfl) (by kernel_rfl) (fun _ _ _ h => h) (Or.inl ⟨by rfl, ?_⟩) (by assumption) ?_
    rotate_left
    · intro w hSw
      (try dsimp only at hSw)
      go_simp
      (try with_reducible rfl)
    (try simp only [List.getElem_toArray, List.getElem_cons_zero, List.getElem_cons_succ, Act.put, List.setIfInBounds_toArray, List.set_cons_zero, List.set_cons_succ])
    refine wpAnyH_take (i := 5) (v := ?_) rfl (by kernel_rfl) (by kernel_rfl) (by kernel_rfl) (fun _ _ _ h => h) (Or.inl ⟨by rfl, ?_⟩) (by assumption) ?_
    rotate_left
    · intro w hSw
      (try dsimp only at hSw)
      go_simp
      (try with_reducible rfl)
    (try simp only [List.getElem_toArray, List.getElem_cons_zero, List.getElem_cons_succ, Act.put, List.setIfInBounds_toArray, List.set_cons_zero, List.set_cons_succ])
    refine wpAnyH_take (i := 6) (v := ?_) rfl (by kernel_rfl) (by kernel_rfl) (by kernel_rfl) (fun _ _ _ h => h) (Or.inl ⟨by rfl, ?_⟩) (by assumption) ?_
    rotate_left
    · intro w hSw
      (try dsimp only at hSw)
      go_simp
      (try with_reducible rfl)
    (try simp only [List.getElem_toArray, List.getElem_cons_zero, List.getElem_cons_succ, Act.put, List.setIfInBounds_toArray, List.set_cons_zero, List.set_cons_succ])
    refine wpAnyH_take (i := 7) (v := ?_) rfl (by kernel_rfl) (by kernel_rfl) (by kernel_rfl) (fun _ _ _ h => h) (Or.inl ⟨by rfl, ?_⟩) (by assumption) ?_
    rotate_left
    · intro w hSw
      (try dsimp only at hSw)
      go_simp
      (try with_reducible rfl)
    (try simp only [List.getElem_toArray, List.getElem_cons_zero, List.getElem_cons_succ, Act.put, List.setIfInBounds_toArray, List.set_cons_zero, List.set_cons_succ])
    refine wpAnyH_take (i := 8) (v := ?_) rfl (by kernel_rfl) (by kernel_rfl) (by kernel_rfl) (fun _ _ _ h => h) (Or.inl ⟨by rfl, ?_⟩) (by assumption) ?_
    rotate_left
    · intro w hSw
      (try dsimp only at hSw)
      go_simp
      (try with_reducible rfl)
    (try simp only [List.getElem_toArray, List.getElem_cons_zero, List.getElem_cons_succ, Act.put, List.setIfInBounds_toArray, List.set_cons_zero, List.set_cons_succ])
    refine wpAnyH_take (i := 9) (v := ?_) rfl (by kernel_rfl) (by kernel_rfl) (by kernel_rfl) (fun _ _ _ h => h) (Or.inl ⟨by rfl, ?_⟩) (by assumption) ?_
    rotate_left
    · intro w hSw
      (try dsimp only at hSw)
      go_simp
      (try with_reducible rfl)
    (try simp only [List.getElem_toArray, List.getElem_cons_zero, List.getElem_cons_succ, Act.put, List.setIfInBounds_toArray, List.set_cons_zero, List.set_cons_succ])
    refine wpAnyH_ready (rs := [10]) (by kernel_rfl) (by simp) ?_
    refine AllReadyH.cons (o := _) rfl (fun K hK => ?_) AllReadyH.nil
    go_simp
    refine hK.out _ _ (HKx.out _ F0) (fun hHeld => ?_)
    clear hK K
    (try simp only [List.getElem_toArray, List.getElem_cons_zero, List.getElem_cons_succ, Act.put, List.setIfInBounds_toArray, List.set_cons_zero, List.set_cons_succ])
    refine wpAnyH_take (i := 11) (v := ?_) rfl (by kernel_rfl) (by kernel_rfl) (by kernel_rfl) (fun _ _ _ h => h) (Or.inl ⟨by rfl, ?_⟩) (by assumption) ?_
    rotate_left
    · intro w hSw
      (try dsimp only at hSw)
      go_simp
      (try with_reducible rfl)
    (try simp only [List.getElem_toArray, List.getElem_cons_zero, List.getElem_cons_succ, Act.put, List.setIfInBounds_toArray, List.set_cons_zero, List.set_cons_succ])
    refine wpAnyH_done (by kernel_rfl) ?_ _
    refine NoPanic.normal ?_
    have HOV := hid (own_below HOX.out F0)
    have BWV := BWX.trans (F0.mono (by have := (olt HOX.out (g := gr) rfl).2; omega))
    obtain ⟨p0, p1, cf, ct⟩ := HKx.out _ F0
    clear HKx F0 HOX
    generalize W.drew = V at *
    have hbg : bl ≠ gr := by omega
    have fr := fun j => ofree HOV.out (g := gr) rfl j
    have o1 := oset HOV.out (g := gr) rfl f (by rw [iv_len, HRN.out]; omega) (.int .i64 (mv : Int))
    rw [iv_set] at o1
    have p0' := (cell_set_ne (i := f) (j := 0) (.int .i64 (mv : Int)) rfl rfl hbg).trans p0
    have p1' := (cell_set_ne (i := f) (j := 1) (.int .i64 (mv : Int)) rfl rfl hbg).trans p1
    have fr' := fun j => ofree o1 (g := gr) rfl j
    have ct' := ocell o1 t (by rw [List.length_set, HRN.out]; omega)
    have o2 := oset o1 (g := gr) rfl t (by rw [iv_len, List.length_set, HRN.out]; omega) (.int .i64 (mv : Int))
    rw [iv_set, ← HJ.out] at o2
    have HO2 := hid (show ((V.setCell ⟨gr, f, none⟩ (.int .i64 (mv : Int))).setCell ⟨gr, t, none⟩ (.int .i64 (mv : Int))).ownsRow g0 3 1 (.slice (some ⟨gr, 0, none⟩) k oc) k (iv (rnd (S.take (i + 1)) Rk)) by rw [HRT.out]; exact o2)
    have BN := (BWV.setCell (p := ⟨gr, f, none⟩) hgr0 (.int .i64 (mv : Int))).setCell (p := ⟨gr, t, none⟩) hgr0 (.int .i64 (mv : Int))
    clear o1 o2 HOV BWV BWX
    go_wp2_with fail
    go_roundw
    case rel => exact ⟨i + 1, by omega, by go_num, HO2, BN⟩
    case measure => simp [intOf]; omega
  · have hc' : decide (0 < lcap) = false := decide_eq_false hc
    rw [if_neg hc] at HRT
    have HO2 := hid (show (wr.alloc (Obj.cells #[.int .i64 (f : Int), .int .i64 (t : Int), .int .i64 lcap] 50)).ownsRow g0 3 1 (.slice (some ⟨gr, 0, none⟩) k oc) k (iv (rnd (S.take (i + 1)) Rk)) by rw [HRT.out]; exact HOX.out)
    clear hc HOX bX
    go_wp2_with fail
    go_roundw
    case rel => exact ⟨i + 1, by omega, by go_num, HO2, BWX⟩
    case measure => simp [intOf]; omega
end Go.Proofs.YtmoailbilnkfnaaGreatDoor
