/- grid: strconv.Itoa, and the program's Print. -/
import Derived.Test.YteelnimchlgdmaaDoorT14M
import Derived.Test.YteelnimchlgdmaaDoorShelf
import Derived.Test.YteelnimchlgdmaaDoorShelfItoa
import Derived.Test.YteelnimchlgdmaaDoorLJoin
import Derived.Test.YteelnimchlgdmaaDoorBase
import Derived.Lib.LaidTab
import Derived.Lib.AppendIntMem
namespace Go.Proofs.YteelnimchlgdmaaDoor
open Go.RowKit
set_option linter.unusedVariables false
set_option maxRecDepth 100000
set_option linter.unusedSimpArgs false

theorem tab14_global : Tryd.prog.globalNamed "internal/strconv.uint64pow10" = some 0 := by kernel_rfl
/-- The library's table of powers of ten lies as its text lays it. -/
def TabD (w : World) : Prop := Lib.TabIs Tryd.prog w "internal/strconv.uint64pow10" .u64 Lib.pow10Tab
theorem TabD.below {w w' : World} (h : TabD w) (hb : Below w.heap.size w w') : TabD w' :=
  var?_below hb tab14_global (World.block_lt_of_cell? w _ (h.cell tab14_global 0 (by rw [Lib.pow10Tab_length]; omega))) h
/-- A number of the machine. -/
def I64b (n : Int) : Prop := -9223372036854775808 ≤ n ∧ n ≤ 9223372036854775807
theorem itoa_any (n : Int) (hn : I64b n) (w : World) (ht : TabD w) :
    Calls Tryd.prog 17 #[.int .i64 n] w fun e w' => e = .returned (.string (txtI n)) ∧ Below w.heap.size w w' := by
  refine (Tryd.strconv_Itoa n hn.1 hn.2 w ht).mono ?_
  rintro e w' ⟨rfl, k, os, rfl⟩
  exact ⟨rfl, Lib.below_grow _ w (Nat.le_refl _) k os⟩
theorem itoa_len20 (n : Int) (hn : I64b n) : (txtI n).size ≤ 21 := by
  have h := txt_dec n.natAbs
  have hl : (⟨(Lib.decDigits n.natAbs).toArray⟩ : ByteArray).size = (Lib.decDigits n.natAbs).length := rfl
  have hu : n.natAbs ≤ 9223372036854775808 := by unfold I64b at hn; omega
  have hd : (Lib.decDigits n.natAbs).length ≤ 20 := by
    apply Decidable.byContradiction
    intro hc
    have hz : 20 < (⟨(Lib.decDigits n.natAbs).toArray⟩ : ByteArray).size := by rw [hl]; omega
    have hb := h.1.2.2 0 (by omega)
    have hn := h.1.2.1 (by omega)
    have := dv_ge (s := ⟨(Lib.decDigits n.natAbs).toArray⟩) ((⟨(Lib.decDigits n.natAbs).toArray⟩ : ByteArray).size - 1) (by omega)
    rw [show (⟨(Lib.decDigits n.natAbs).toArray⟩ : ByteArray).size - 1 + 1 = (⟨(Lib.decDigits n.natAbs).toArray⟩ : ByteArray).size by omega] at this
    have h6 : 10 ^ 20 ≤ 10 ^ ((⟨(Lib.decDigits n.natAbs).toArray⟩ : ByteArray).size - 1) := Nat.pow_le_pow_right (by omega) (by omega)
    have h7 := h.2
    unfold num at h7
    omega
  unfold txtI
  show (Lib.itoa n).length ≤ 21
  unfold Lib.itoa
  split
  · rw [List.length_cons]; omega
  · rw [show n.toNat = n.natAbs by omega]; omega
theorem ln3_snoc (S : List Ln) (l : Ln) : ln3 (S ++ [l]) = ln3 S ++ [l.f, l.t, l.c] := by
  induction S with
  | nil => rfl
  | cons a r ih => rw [List.cons_append, ln3, ih, ln3]; rfl
theorem wds_len (L : List Int) : (wds L).length = L.length + 1 := by simp [wds]
theorem wds_snoc (L : List Int) (n : Int) : wds (L ++ [n]) = wds L ++ [txtI n] := by simp [wds]
theorem wds_size {L : List Int} (h : ∀ n ∈ L, I64b n) : ∀ x ∈ wds L, x.size ≤ 21 := by
  intro x hx
  unfold wds at hx
  rcases List.mem_cons.1 hx with e | hx
  · subst e; decide
  · obtain ⟨n, hn, rfl⟩ := List.mem_map.1 hx
    exact itoa_len20 n (h n hn)
theorem prt_few {L : List Int} (h : ∀ n ∈ L, I64b n) : (jn 32 ((wds L).map bl)).length ≤ 22 * (L.length + 1) := by
  have j1 := jn_len5 32 ((wds L).map bl)
  have j2 := sum_le_mul List.length 21 ((wds L).map bl) (fun x hx => by
    obtain ⟨y, hy, rfl⟩ := List.mem_map.1 hx
    rw [bl_len]
    exact wds_size h y hy)
  rw [List.length_map, wds_len] at j1 j2
  omega
theorem three_new (w : World) (a b c : Int) : ∀ j u, ([.int .i64 a, .int .i64 b, .int .i64 c] : List Value)[j]? = some u → (w.alloc (Obj.cells #[.int .i64 a, .int .i64 b, .int .i64 c] 3)).cell? ((⟨w.heap.size, 0, none⟩ : Addr).add j) = some u := by
  intro j u hj
  rw [add_off, Nat.zero_add]
  exact cell_at (L := [.int .i64 a, .int .i64 b, .int .i64 c]) (inew w _) j u hj
theorem three_new' (w : World) (o : Obj) (a b c : Int) : ∀ j u, ([.int .i64 a, .int .i64 b, .int .i64 c] : List Value)[j]? = some u → ((w.alloc o).alloc (Obj.cells #[.int .i64 a, .int .i64 b, .int .i64 c] 3)).cell? ((⟨w.heap.size + 1, 0, none⟩ : Addr).add j) = some u := by
  have h := three_new (w.alloc o) a b c
  rw [World.size_alloc] at h
  exact h
theorem one_new (w : World) (x : Value) (t : TypeId) : ∀ j u, [x][j]? = some u → (w.alloc (Obj.cells #[x] t)).cell? ((⟨w.heap.size, 0, none⟩ : Addr).add j) = some u := by
  intro j u hj
  rw [add_off, Nat.zero_add]
  exact cell_at (L := [x]) (inew w _) j u hj
set_option maxHeartbeats 6400000 in
theorem gprint_any (w : World) (g : Gr) (la : Option Addr) (lc : Nat) (h : Lns w (.slice la g.lines.length lc) g.lines) (hn : g.lines.length ≤ 256) (h64 : ∀ n ∈ nms g, I64b n) (htab : TabD w) :
    Calls Tryd.prog 7 #[.agg #[.int .i64 g.zones, .int .i64 g.hours, .slice la g.lines.length lc, .int .i64 g.low, .int .i64 g.high]] w fun e w' => e = .returned (.string (prt g)) ∧ Below w.heap.size w w' := by
  have HLEN := hid (nms_len g)
  have HTN := hid (show nms g = [g.zones, g.hours, g.low, g.high] ++ ln3 g.lines from rfl)
  have HP := hid (show prt g = joinB (wds (nms g)) from rfl)
  rw [HP.out, HTN.out]
  rw [HTN.out] at h64 HLEN
  clear HP HTN
  obtain ⟨Z, H, lo, hi', S⟩ := g
  simp only at h hn h64 HLEN ⊢
  obtain ⟨N, HN⟩ : ∃ N, Hid (N = [Z, H, lo, hi'] ++ ln3 S) := ⟨_, rfl⟩
  rw [← HN.out] at h64 HLEN ⊢
  obtain ⟨x1, x2, e, hl, hm⟩ := h.slice
  simp only [Value.slice.injEq] at e
  obtain ⟨rfl, -, rfl⟩ := e
  unfold maxLen at hm
  have HB2 := hid (chain2 (ibel w (Obj.cells #[.int .i64 Z, .int .i64 H, .slice la S.length lc, .int .i64 lo, .int .i64 hi'] 24)) (ibel (w.alloc (Obj.cells #[.int .i64 Z, .int .i64 H, .slice la S.length lc, .int .i64 lo, .int .i64 hi'] 24)) (Obj.cells #[.int .i64 Z, .int .i64 H, .int .i64 lo, .int .i64 hi'] 3)))
  have HO1 : Hid (((w.alloc (Obj.cells #[.int .i64 Z, .int .i64 H, .slice la S.length lc, .int .i64 lo, .int .i64 hi'] 24)).alloc (Obj.cells #[.int .i64 Z, .int .i64 H, .int .i64 lo, .int .i64 hi'] 3)).ownsRow w.heap.size 3 1 (.slice (some ⟨(w.alloc (Obj.cells #[.int .i64 Z, .int .i64 H, .slice la S.length lc, .int .i64 lo, .int .i64 hi'] 24)).heap.size, 0, none⟩) 4 4) (4 + 3 * 0) (intV ([Z, H, lo, hi'] ++ ln3 (S.take 0)))) :=
    hid (World.ownsRow_lit (e := 3) (size := 1) (w.alloc (Obj.cells #[.int .i64 Z, .int .i64 H, .slice la S.length lc, .int .i64 lo, .int .i64 hi'] 24)) #[.int .i64 Z, .int .i64 H, .int .i64 lo, .int .i64 hi'] 4 (ibel w (Obj.cells #[.int .i64 Z, .int .i64 H, .slice la S.length lc, .int .i64 lo, .int .i64 hi'] 24)).size (by unfold maxLen; omega) (by simp))
  simp only [World.size_alloc] at HO1
  obtain ⟨i0, hi, hz0, hz1, hz2⟩ := info_parts info_int
  go_enter Tryd.func7, Tryd.ntmps7
  go_wp2_with fail
  generalize ((w.alloc (Obj.cells #[.int .i64 Z, .int .i64 H, .slice la S.length lc, .int .i64 lo, .int .i64 hi'] 24)).alloc (Obj.cells #[.int .i64 Z, .int .i64 H, .int .i64 lo, .int .i64 hi'] 3)) = W2 at *
  go_loopw [3, 21] (fun lv iv wr => ∃ k : Nat, k ≤ S.length ∧ iv = .int .i64 (k : Int) ∧ Hid (wr.ownsRow w.heap.size 3 1 lv (4 + 3 * k) (intV ([Z, H, lo, hi'] ++ ln3 (S.take k)))) ∧ Hid (Below w.heap.size w wr)) (fun _ iv _ => S.length - (intOf iv).toNat)
  case atStart => exact ⟨0, Nat.zero_le _, rfl, HO1, HB2⟩
  case round =>
    clear HO1 HB2
    obtain ⟨k, hk, rfl, HO, HB⟩ := hrel
    obtain ⟨ra, rc, rfl⟩ := own_slice HO.out
    by_cases hlt : k < S.length
    · obtain ⟨sb, so, sc', e, g0, g1, c0, c1, c2⟩ := (h.below HB.out).at k hlt
      simp only [Value.slice.injEq] at e
      obtain ⟨rfl, -, rfl⟩ := e
      have HT := hid (List.take_succ_eq_append_getElem hlt)
      obtain ⟨l, HL⟩ : ∃ l, Hid (S[k] = l) := ⟨_, hid rfl⟩
      rw [HL.out] at c0 c1 c2 HT
      have o2 := (HO.out.alloc (Obj.cells #[.int .i64 l.f, .int .i64 l.t, .int .i64 l.c] 41)).alloc (Obj.cells #[.int .i64 l.f, .int .i64 l.t, .int .i64 l.c] 3)
      have B2 := below_alloc' (below_alloc' HB.out (Nat.le_refl _) (Obj.cells #[.int .i64 l.f, .int .i64 l.t, .int .i64 l.c] 41)) (Nat.le_refl _) (Obj.cells #[.int .i64 l.f, .int .i64 l.t, .int .i64 l.c] 3)
      have n2 := three_new' wr (Obj.cells #[.int .i64 l.f, .int .i64 l.t, .int .i64 l.c] 41) l.f l.t l.c
      have s2 : w.heap.size ≤ ((wr.alloc (Obj.cells #[.int .i64 l.f, .int .i64 l.t, .int .i64 l.c] 41)).alloc (Obj.cells #[.int .i64 l.f, .int .i64 l.t, .int .i64 l.c] 3)).heap.size := B2.size
      have HLT := hid (fun g hg => (HO.out.lt g hg).1)
      have HX := hid o2
      have HY := hid B2
      have HZ := hid n2
      have HS := hid s2
      clear o2 B2 n2 s2
      go_wp2_with (at_builtin; refine wpList_append_own _ rfl _ _ 36 rfl w.heap.size 3 i0 (.int .i64 0) 1 8 Tryd.underlying36 hi hz0 hz1 hz2 rfl (by decide) _ _ _ rfl HX.out ⟨wr.heap.size + 1, 0, none⟩ 3 3 [.int .i64 l.f, .int .i64 l.t, .int .i64 l.c] rfl rfl HZ.out (by intro u hu; simp at hu; rcases hu with rfl | rfl | rfl <;> rfl) (by unfold maxLen; omega) (by omega) HS.out ?_)
      intro v' w3 o3 hgrow _
      have HB3 := hid (HY.out.grown hgrow HS.out HLT.out)
      have HO3 : Hid (w3.ownsRow w.heap.size 3 1 v' (4 + 3 * (k + 1)) (intV ([Z, H, lo, hi'] ++ ln3 (S.take (k + 1))))) := hid (by
        rw [HT.out, ln3_snoc, ← List.append_assoc, intV_app, show 4 + 3 * (k + 1) = 4 + 3 * k + 3 by omega]
        exact o3)
      clear o3 hgrow HX HY HZ HS HLT HO HB
      go_wp2
      go_roundw
      case rel => exact ⟨k + 1, by omega, by go_num, HO3, HB3⟩
      case measure => simp [intOf]; omega
    · obtain rfl : k = S.length := by omega
      rw [List.take_of_length_le (Nat.le_refl _), ← HN.out] at HO
      have HI := hid (show Ints wr (.slice ra (4 + 3 * S.length) rc) N from Row1.of_own (e := 3) (base := w.heap.size) (by rw [intV_len, HLEN.out]; exact HO.out))
      have HNL := hid (show N.length ≤ 772 by rw [HLEN.out]; omega)
      rw [← HLEN.out] at HI
      clear HO
      go_wp2_with fail
      have HOS : Hid ((wr.alloc (Obj.cells #[.string ⟨#[103, 114, 105, 100]⟩] 9)).ownsRow wr.heap.size 9 1 (.slice (some ⟨wr.heap.size, 0, none⟩) 1 1) (0 + 1) (strV (wds (N.take 0)))) :=
        hid (World.ownsRow_lit (e := 9) (size := 1) wr #[.string ⟨#[103, 114, 105, 100]⟩] 1 (Nat.le_refl _) (by unfold maxLen; omega) (by simp))
      have HBS := hid (ibel wr (Obj.cells #[.string ⟨#[103, 114, 105, 100]⟩] 9))
      generalize wr.alloc (Obj.cells #[.string ⟨#[103, 114, 105, 100]⟩] 9) = W6 at *
      clear hi hz0 hz1 hz2
      obtain ⟨i1, hi, hz0, hz1, hz2⟩ := info_parts info_string
      go_loopw [6, 38] (fun lv iv wq => ∃ k : Nat, k ≤ N.length ∧ iv = .int .i64 (k : Int) ∧ Hid (wq.ownsRow wr.heap.size 9 1 lv (k + 1) (strV (wds (N.take k)))) ∧ Hid (Below wr.heap.size wr wq)) (fun _ iv _ => N.length - (intOf iv).toNat)
      case atStart => exact ⟨0, Nat.zero_le _, rfl, HOS, HBS⟩
      case round =>
        clear HOS HBS hk hlt
        obtain ⟨k, hk, rfl, HO, HB2⟩ := hrel
        obtain ⟨qa, qc, rfl⟩ := own_slice HO.out
        have hl2 : 4 + 3 * S.length ≤ N.length := by rw [HLEN.out]; exact Nat.le_refl _
        have hl3 : N.length ≤ 4 + 3 * S.length := by rw [HLEN.out]; exact Nat.le_refl _
        by_cases hlt : k < N.length
        · obtain ⟨sb, so, sc', e, g0, g1, c0⟩ := (HI.out.below HB2.out).at k hlt
          have HT := hid (List.take_succ_eq_append_getElem hlt)
          obtain ⟨l, HL⟩ : ∃ l, Hid (N[k] = l) := ⟨_, hid rfl⟩
          have HBB := hid (HB.out.trans (HB2.out.mono HB.out.size))
          have hc := fun n (hn : I64b n) => itoa_any n hn wr (htab.below HBB.out)
          have h6 := h64 _ (List.getElem_mem hlt)
          rw [HL.out] at c0 HT h6
          have hc := hid (hc l h6)
          simp only [Value.slice.injEq] at e
          obtain ⟨rfl, -, rfl⟩ := e
          go_wp2_with fail
          refine hc.out.mono ?_
          rintro e w5 ⟨rfl, b5⟩
          have HB5 := hid (chain2 HB2.out b5)
          have HO5 := hid (own_below HO.out b5)
          have HS5 := hid HB5.out.size
          have n2 := one_new w5 (.string (txtI l)) 9
          have o2 := HO5.out.alloc (Obj.cells #[.string (txtI l)] 9)
          have B2 := below_alloc' HB5.out (Nat.le_refl _) (Obj.cells #[.string (txtI l)] 9)
          have HX := hid o2
          have HY := hid B2
          have HZ := hid n2
          have HS := hid B2.size
          have HLT := hid (fun g hg => (HO5.out.lt g hg).1)
          have hN := HNL.out
          clear o2 B2 n2 b5 HO5 HB5 hc HO c0
          go_wp2_with (at_builtin; refine wpList_append_own _ rfl _ _ 33 rfl _ 9 i1 (.string ByteArray.empty) 1 16 Tryd.underlying33 hi hz0 hz1 hz2 rfl (by decide) _ _ _ rfl HX.out ⟨w5.heap.size, 0, none⟩ 1 1 [.string (txtI l)] rfl rfl HZ.out (by intro u hu; simp at hu; subst hu; rfl) (by unfold maxLen; omega) (by omega) HS.out ?_)
          intro v' w3 o3 hgrow _
          have HB3 := hid (HY.out.grown hgrow HS.out HLT.out)
          have HO3 := hid o3
          rw [show strV (wds (N.take k)) ++ [.string (txtI l)] = strV (wds (N.take (k + 1))) by rw [HT.out, wds_snoc, strV_app]; rfl] at HO3
          clear o3 hgrow HX HY HZ HS HLT HB2
          go_wp2
          go_roundw
          case rel => exact ⟨k + 1, by omega, by go_num, HO3, HB3⟩
          case measure => simp [intOf]; omega
        · obtain rfl : k = N.length := by omega
          rw [List.take_of_length_le (Nat.le_refl _)] at HO
          have HJ := hid (join_any wr (.slice qa (N.length + 1) qc) (wds N) ⟨Row1.of_own (e := 9) (base := _) (by rw [strV_len, wds_len]; exact HO.out), fun x hx => by have := wds_size h64 x hx; unfold maxLen; omega⟩ (by have := prt_few h64; have := HNL.out; omega))
          have HBB := hid (HB.out.trans (HB2.out.mono HB.out.size))
          go_wp2_with fail
          refine HJ.out.mono ?_
          rintro e w9 ⟨rfl, b9⟩
          go_wp2
          go_ret
          exact ⟨rfl, chain2 HBB.out b9⟩
end Go.Proofs.YteelnimchlgdmaaDoor
