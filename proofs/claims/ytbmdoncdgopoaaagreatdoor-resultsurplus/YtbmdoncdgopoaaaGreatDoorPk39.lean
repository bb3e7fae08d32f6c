/- CLv, CNums, CDot, HNums, S16R, S16S, S16V, S16T, S16P. -/
import Derived.Test.YtbmdoncdgopoaaaGreatDoorZCLev
import Derived.Deep.RegionWith
import Derived.Test.YtbmdoncdgopoaaaGreatDoorPk36
import Derived.Test.YtbmdoncdgopoaaaGreatDoorPk15
import Derived.Deep.RegionHeld3
/- cert: the one denominator of a list. -/
namespace Go.Proofs.YtbmdoncdgopoaaaGreatDoor
open Go.RowKit
set_option linter.unusedVariables false
set_option maxRecDepth 100000
set_option linter.unusedSimpArgs false

theorem lt10_nat {d m : Nat} (hm : m ≠ 0) (h : d < 10 ^ m) : Lt10 m ((d : Nat) : Rat) := ⟨by rw [Rat.num_natCast, Int.natAbs_natCast]; exact h, by rw [Rat.den_natCast]; exact Nat.one_lt_pow hm (by decide)⟩
/-- The denominator of all of them. -/
def lvl (X : List Rat) : Rat := X.foldl (fun m x => m * (((m * x).den : Nat) : Rat)) 1
theorem lvl_succ (X : List Rat) (k : Nat) (h : k < X.length) : lvl (X.take (k + 1)) = lvl (X.take k) * (((lvl (X.take k) * X[k]).den : Nat) : Rat) := by
  unfold lvl
  rw [List.take_succ_eq_append_getElem h, List.foldl_append]; rfl
structure LvOk (n : Nat) (m : Rat) : Prop where
  den : m.den = 1
  pos : 0 < m
  lt : Lt10 (700 * n + 1) m
theorem lvl_ok (X : List Rat) (hX : ∀ x ∈ X, Lt10 700 x) : ∀ k, k ≤ X.length → LvOk k (lvl (X.take k))
  | 0, _ => ⟨rfl, by show (0 : Rat) < 1; decide, Lt10.one⟩
  | k + 1, h => by
    have hk : k < X.length := h
    have ih := lvl_ok X hX k (by omega)
    have hx := hX _ (List.getElem_mem hk)
    rw [lvl_succ X k hk]
    generalize lvl (X.take k) = m at *
    generalize X[k] = x at *
    have hd : (m * x).den ≤ x.den := Nat.le_of_dvd x.den_pos (den_int_mul ih.den)
    have hdp := (m * x).den_pos
    refine ⟨?_, ?_, ?_⟩
    · have := den_int_mul (m := m) (q := (((m * x).den : Nat) : Rat)) ih.den
      rw [Rat.den_natCast] at this
      exact Nat.dvd_one.1 this
    · exact Rat.mul_pos ih.pos (Rat.natCast_pos.2 hdp)
    · have h1 : Lt10 700 (((m * x).den : Nat) : Rat) := lt10_nat (by decide) (Nat.lt_of_le_of_lt hd hx.2)
      exact (ih.lt.mul h1).mono (by omega)
theorem lv_fit {w : World} {v : Value} {m : Rat} {K n : Nat} (h : QIs w v m K) (hm : LvOk n m) (hn : n ≤ 64) : QIs w v m 5100 := (h.fit (hm.lt.mono (show 700 * n + 1 ≤ 44900 by omega))).mono (by decide)
theorem top_fit {w : World} {v : Value} {x m : Rat} {K n : Nat} (h : QIs w v (x * m) K) (hx : Lt10 700 x) (hm : LvOk n m) (hn : n ≤ 64) : QIs w v (x * m) 5100 := (h.fit ((hx.mul hm.lt).mono (show 700 + (700 * n + 1) ≤ 45600 by omega))).mono (by decide)
theorem map_succ (X : List Rat) (m : Rat) (k : Nat) (h : k < X.length) : (X.take (k + 1)).map (fun x => x * m) = (X.take k).map (fun x => x * m) ++ [X[k] * m] := by
  rw [List.take_succ_eq_append_getElem h, List.map_append]; rfl
/-- v is the list X: its numbers times m, and m. -/
def LIs (w : World) (tv p1 p2 p3 p4 : Value) (X : List Rat) : Prop :=
  ∃ m base C, 0 < m ∧ Lt10 44900 m ∧ X.length ≤ 64 ∧ (∀ x ∈ X, Lt10 700 x) ∧ QIs w (.agg #[p1, p2, p3, p4]) m 5100 ∧ QLs w base tv C (X.map (fun x => x * m)) 5100
theorem LIs.below {w w' : World} {tv p1 p2 p3 p4 : Value} {X : List Rat} (h : LIs w tv p1 p2 p3 p4 X) (b : Below w.heap.size w w') : LIs w' tv p1 p2 p3 p4 X := by
  obtain ⟨m, base, C, h1, h4, h5, h6, h2, h3⟩ := h
  exact ⟨m, base, C, h1, h4, h5, h6, h2.below b, Ls.below (fun h b => h.below b) h3 b⟩
end Go.Proofs.YtbmdoncdgopoaaaGreatDoor
/- cert: the numbers of texts; noughts. -/
namespace Go.Proofs.YtbmdoncdgopoaaaGreatDoor
open Go.RowKit
set_option linter.unusedVariables false
set_option maxRecDepth 100000
set_option linter.unusedSimpArgs false

theorem ztx_lt {s : ByteArray} {z : Int} (h : ZTx s z) : z.natAbs < 10 ^ s.size := by
  rcases h with ⟨_, h1, h2⟩ | ⟨_, t, rfl, h1, h2⟩
  · rw [← h2]; exact num_lt h1
  · rw [← h2, minus_size]
    exact Nat.lt_of_lt_of_le (num_lt h1) (Nat.pow_le_pow_right (by decide) (by omega))
theorem canr_lt {s : ByteArray} {q : Rat} (h : CanR s q) : Lt10 (s.size + 1) q := by
  rcases h.tx with ⟨h1, h2⟩ | ⟨h1, a, b, h2, h3, rfl⟩
  · refine ⟨Nat.lt_of_lt_of_le (ztx_lt h2) (Nat.pow_le_pow_right (by decide) (by omega)), ?_⟩
    have : q.den = 1 := by omega
    rw [this]
    exact Nat.one_lt_pow (by omega) (by decide)
  · rw [slash_size]
    refine ⟨Nat.lt_of_lt_of_le (ztx_lt h2) (Nat.pow_le_pow_right (by decide) (by omega)), ?_⟩
    have h4 := ztx_lt h3
    rw [Int.natAbs_natCast] at h4
    exact Nat.lt_of_lt_of_le h4 (Nat.pow_le_pow_right (by decide) (by omega))
/-- The numbers of these texts. -/
structure Nums (S : List ByteArray) (X : List Rat) : Prop where
  len : X.length = S.length
  is_ : ∀ i (h1 : i < S.length) (h2 : i < X.length), CanR S[i] X[i]
theorem Nums.nil : Nums [] [] := ⟨rfl, fun i h => by simp at h⟩
theorem Nums.push {S : List ByteArray} {X : List Rat} {k : Nat} {q : Rat} (h : Nums (S.take k) X) (hk : k < S.length) (hq : CanR S[k] q) : Nums (S.take (k + 1)) (X ++ [q]) := by
  have hl : X.length = k := by rw [h.len, List.length_take]; omega
  refine ⟨by rw [List.length_append, hl, List.length_take]; simp; omega, fun i h1 h2 => ?_⟩
  have hiS : i < S.length := by rw [List.length_take] at h1; omega
  have hik : i < k + 1 := by rw [List.length_take] at h1; omega
  rw [List.getElem_take]
  by_cases hi : i < k
  · rw [List.getElem_append_left (by omega)]
    have := h.is_ i (by rw [List.length_take]; omega) (by omega)
    rwa [List.getElem_take] at this
  · have e : i = k := by omega
    subst e
    rw [List.getElem_append_right (by omega)]
    simpa [hl] using hq
theorem Nums.lt {S : List ByteArray} {X : List Rat} (h : Nums S X) (hS : ∀ s ∈ S, s.size ≤ 600) : ∀ x ∈ X, Lt10 700 x := fun x hx => by
  obtain ⟨i, hi, rfl⟩ := List.getElem_of_mem hx
  have h1 : i < S.length := by rw [← h.len]; exact hi
  exact (canr_lt (h.is_ i h1 hi)).mono (by have := hS _ (List.getElem_mem h1); omega)
theorem Nums.uniq {S : List ByteArray} {X Y : List Rat} (h : Nums S X) (k : Nums S Y) : X = Y := List.ext_getElem (by rw [h.len, k.len]) (fun i h1 h2 => CanR.inj (h.is_ i (by rw [← h.len]; exact h1) h1) (k.is_ i (by rw [← h.len]; exact h1) h2))
theorem results_cell_tmp5 {P : Program} {fn : Func} {p q : Tmp} {ty : TypeId} (h : fn.results = #[.cell p ty, .tmp q]) (tmps : Array Value) (w : World) (g : Nat) (t : TypeId) (cs : Array Value) (fr : Nat × Nat) (d : TypeDesc)
    (hp : tmps.getD p undef = .pointer (some ⟨g, 0, none⟩)) (hg : w.heap[g]? = some (.cells cs t fr))
    (hu : P.underlying ty = some d) (hd : (match d with | .struct _ | .array _ _ => true | _ => false) = true) (hi : (P.info? ty).map (·.size) = some cs.size) :
    (results fn tmps).run P w = .ok (.tuple #[.agg cs, tmps.getD q undef]) w := by
  have hp' : tmps[p]?.getD undef = .pointer (some ⟨g, 0, none⟩) := by simpa using hp
  simp [results, h, hp', asAddr, run_loadVar_row w g t ty cs fr d hg hu hd hi]
end Go.Proofs.YtbmdoncdgopoaaaGreatDoor
/- cert: sums of products, plainly. -/
namespace Go.Proofs.YtbmdoncdgopoaaaGreatDoor
open Go.RowKit
set_option linter.unusedVariables false
set_option maxRecDepth 100000
set_option linter.unusedSimpArgs false

/-- The sum of the numbers, each times its factor. -/
def dot : List Int → List Rat → Rat
  | a :: f, x :: X => (a : Rat) * x + dot f X
  | _, _ => 0
theorem dot_succ : ∀ (f : List Int) (X : List Rat) (k : Nat) (h : k < f.length) (hX : k < X.length), dot (f.take (k + 1)) X = dot (f.take k) X + (f[k] : Rat) * X[k]
  | [], X, k, h, _ => by simp at h
  | a :: f, [], k, _, hX => by simp at hX
  | a :: f, x :: X, 0, _, _ => by simp [dot]; grind
  | a :: f, x :: X, k + 1, h, hX => by
    have ih := dot_succ f X k (by simpa using h) (by simpa using hX)
    simp only [List.take_succ_cons, dot, ih, List.getElem_cons_succ]
    grind
theorem dot_scale (m : Rat) : ∀ (f : List Int) (X : List Rat), dot f (X.map (fun x => x * m)) = m * dot f X
  | [], X => by simp [dot]
  | a :: f, [] => by simp [dot]
  | a :: f, x :: X => by
    rw [List.map_cons, dot, dot, dot_scale m f X]
    grind
def In9 (f : List Int) : Prop := ∀ a ∈ f, -9223372036854775808 ≤ a ∧ a < 9223372036854775808
theorem dot_lt {e : Nat} (f : List Int) (X : List Rat) (hf : In9 f) (hX : ∀ x ∈ X, Lt10 e x) (hl : f.length ≤ X.length) : ∀ k, k ≤ f.length → Lt10 (1 + (e + 20) * k) (dot (f.take k) X)
  | 0, _ => Lt10.zero
  | k + 1, h => by
    have ih := dot_lt f X hf hX hl k (by omega)
    rw [dot_succ f X k h (by omega)]
    have h1 := hf _ (List.getElem_mem (show k < f.length from h))
    have := ih.add ((Lt10.int (z := f[k]) (by omega) (by omega)).mul (hX _ (List.getElem_mem (show k < X.length by omega))))
    exact this.mono (by rw [Nat.mul_succ]; omega)
theorem sum_fit {w : World} {v : Value} {f : List Int} {X : List Rat} {K k : Nat} (h : QIs w v (dot (f.take k) X) K) (hf : In9 f) (hX : ∀ x ∈ X, Lt10 45600 x) (hl : f.length ≤ X.length) (hk : k ≤ f.length) (h64 : k ≤ 64) : QIs w v (dot (f.take k) X) 330000 := by
  have hL := dot_lt f X hf hX hl k hk
  have h1 : 1 + (45600 + 20) * k ≤ 2930000 := by omega
  exact (h.fit (hL.mono h1)).mono (by decide)
theorem tops_lt {X : List Rat} {m : Rat} (hm : Lt10 44900 m) (hX : ∀ x ∈ X, Lt10 700 x) : ∀ y ∈ X.map (fun x => x * m), Lt10 45600 y := fun y hy => by
  obtain ⟨x, hx, rfl⟩ := List.mem_map.1 hy
  exact ((hX x hx).mul hm).mono (by omega)
theorem q_comm {w : World} {v : Value} {p q : Rat} {K : Nat} (h : QIs w v (p * q) K) : QIs w v (q * p) K := by rw [Rat.mul_comm]; exact h
end Go.Proofs.YtbmdoncdgopoaaaGreatDoor
/- cert: the document's Numbers. -/
namespace Go.Proofs.YtbmdoncdgopoaaaGreatDoor
open Go.RowKit
set_option linter.unusedVariables false
set_option maxRecDepth 100000
set_option linter.unusedSimpArgs false

theorem set4g {w : World} {r : Nat} {t : TypeId} {y0 y1 y2 y3 : Value} (h : w.heap[r]? = some (.cells #[y0, y1, y2, y3] t (0, 0))) (x0 x1 x2 x3 : Value) : ((((w.setCell ⟨r, 0, none⟩ x0).setCell ⟨r, 1, none⟩ x1).setCell ⟨r, 2, none⟩ x2).setCell ⟨r, 3, none⟩ x3).heap[r]? = some (.cells #[x0, x1, x2, x3] t (0, 0)) := by
  have hlt := lt_of_block h
  have h' : w.heap[r] = .cells #[y0, y1, y2, y3] t (0, 0) := by simpa [Array.getElem?_eq_getElem hlt] using h
  simp [World.setCell, Array.getElem_modify, hlt, h']
theorem ls_made {I : World → Value → Rat → Nat → Prop} {e : TypeId} {K : Nat} (w : World) (base : Nat) (hb : base ≤ w.heap.size) : Ls I e (w.alloc (.cells #[] e)) base (.slice (some ⟨w.heap.size, 0, none⟩) 0 0) [] [] K :=
  ⟨World.ownsRow_made w #[] 0 hb (Nat.zero_le _) (by simp), rfl, by simp, fun i h1 h2 => by simp at h2⟩
theorem nums_no {S : List ByteArray} {k : Nat} (hk : k < S.length) (h : ∀ q, ¬ CanR S[k] q) : ¬ ∃ X, Nums S X := fun ⟨X, hX⟩ => h _ (hX.is_ k hk (by rw [hX.len]; exact hk))
set_option maxHeartbeats 12800000 in
theorem hNumbers_any (w : World) (sv : Value) (S : List ByteArray) (hs : Strs w sv S) (hsz : ∀ s ∈ S, s.size ≤ 600) (hn : S.length ≤ 1000) :
    Calls Tryz.prog 91 #[sv] w fun e w' =>
      ((∃ X tv C, Nums S X ∧ e = .returned (.tuple #[tv, .int .i64 0]) ∧ TLs w' w.heap.size tv C X 5100) ∨
       ((¬ ∃ X, Nums S X) ∧ e = .returned (.tuple #[.slice none 0 0, .int .i64 10]))) ∧ Below w.heap.size w w' := by
  obtain ⟨i0, hi0, hz0, hz1, hz2⟩ := info_parts info_refRatZ
  obtain ⟨sa, sc, rfl, sl, sm⟩ := hs.slice
  unfold maxLen at sm
  have HS := hid hs
  have HSZ := hid hsz
  clear hs hsz
  have b0 := (Below.refl w.heap.size w).alloc (Nat.le_refl _) (Obj.cells #[] 35)
  have N0 := hid (ls_made (I := TIs) (e := 35) (K := 5100) w w.heap.size (Nat.le_refl _))
  go_enter Tryz.func91, Tryz.ntmps91
  go_wp2
  generalize w.alloc (Obj.cells #[] 35) = W0 at *
  go_loopw [4, 5] (fun l i wr => ∃ (k : Nat) (C : List (List Value)) (X : List Rat), k ≤ S.length ∧ i = .int .i64 (k : Int) ∧ Hid (Nums (S.take k) X) ∧ Hid (TLs wr w.heap.size l C X 5100) ∧ Below w.heap.size w wr) (fun _ i _ => S.length - (intOf i).toNat)
  case atStart => exact ⟨0, [], [], Nat.zero_le _, rfl, Nums.nil, N0, b0⟩
  case round =>
    obtain ⟨k, C, X, hk, rfl, HNU, HL, bw⟩ := hrel
    have hXl : X.length = k := by rw [HNU.out.len, List.length_take]; omega
    obtain ⟨la_, lc, hle, hll, hlm⟩ := HL.out.slice
    subst hle
    have HXL := hid hXl
    have hX64 : X.length ≤ 1000 := by omega
    clear hXl
    by_cases hlt : k < S.length
    · obtain ⟨tb, toff, tcp, te, _, _, hc, _⟩ := (HS.out.below bw).at k hlt
      simp only [Value.slice.injEq] at te
      obtain ⟨rfl, -, rfl⟩ := te
      have hk255 := HSZ.out _ (List.getElem_mem hlt)
      have HPA := hid (t_parse S[k] wr (by omega))
      go_wp2_with fail
      refine HPA.out.mono ?_
      rintro e Y1 ⟨hr, bY1⟩
      clear HPA hc
      rcases hr with ⟨q, v, hcan, rfl, hq⟩ | ⟨hno, rfl⟩
      · obtain ⟨s1, s2, s3, s4, s5, s6, s7, s8, rfl⟩ := hq.form
        have bA := boxed2 (Below.refl Y1.heap.size Y1) (Obj.cells #[.bool s1, .slice s2 s3 s4, .bool s5, .slice s6 s7 s8] 35) (Obj.cells #[.bool s1, .slice s2 s3 s4, .bool s5, .slice s6 s7 s8] 35)
        have n1 := boxed2_first Y1 (Obj.cells #[.bool s1, .slice s2 s3 s4, .bool s5, .slice s6 s7 s8] 35) (Obj.cells #[.bool s1, .slice s2 s3 s4, .bool s5, .slice s6 s7 s8] 35)
        obtain ⟨t0, t1, t2, t3⟩ := four_cell (box_new Y1 (Obj.cells #[.bool s1, .slice s2 s3 s4, .bool s5, .slice s6 s7 s8] 35))
        have bY := chain2 bY1 bA
        have la := Ls.below (fun h b => h.below b) HL.out bY
        have own := la.own
        have hfn : ∀ j u, [Value.bool s1, .slice s2 s3 s4, .bool s5, .slice s6 s7 s8][j]? = some u → ((Y1.alloc (Obj.cells #[.bool s1, .slice s2 s3 s4, .bool s5, .slice s6 s7 s8] 35)).alloc (Obj.cells #[.bool s1, .slice s2 s3 s4, .bool s5, .slice s6 s7 s8] 35)).cell? ((⟨Y1.heap.size + 1, 0, none⟩ : Addr).add j) = some u := by
          have := four_new (Y1.alloc (Obj.cells #[.bool s1, .slice s2 s3 s4, .bool s5, .slice s6 s7 s8] 35)) 35 (.bool s1) (.slice s2 s3 s4) (.bool s5) (.slice s6 s7 s8)
          simpa using this
        have HLA := hid la
        have HQA := hid ((hq.below bA).mono (show S[k].size / 9 + 8 ≤ 5100 by omega))
        have HBY := hid bY
        have hbs : w.heap.size ≤ ((Y1.alloc (Obj.cells #[.bool s1, .slice s2 s3 s4, .bool s5, .slice s6 s7 s8] 35)).alloc (Obj.cells #[.bool s1, .slice s2 s3 s4, .bool s5, .slice s6 s7 s8] 35)).heap.size := Nat.le_trans bw.size bY.size
        have HCN := hid hcan
        clear la bA n1 bY hq hcan bY1
        generalize S[k].size = sz at *
        go_wp2_with (first | (refine wpList_store_fresh rfl 35 _ _ rfl _ _ _ rfl (by simp) rfl 4 info_refRat (by rfl) (by rfl) (by simp [Value.oneCell']) ?_) | (at_builtin; refine wpList_append_own_at _ rfl _ _ 83 rfl w.heap.size 35 i0 (.agg #[.bool false, .slice none 0 0, .bool false, .slice none 0 0]) 4 64 Tryz.underlying83 hi0 hz0 hz1 hz2 rfl (by decide) (.slice la_ X.length lc) X.length C.flatten rfl own ⟨Y1.heap.size + 1, 0, none⟩ 1 1 [.bool s1, .slice s2 s3 s4, .bool s5, .slice s6 s7 s8] rfl rfl hfn (by intro u hu; simp at hu; rcases hu with rfl | rfl | rfl | rfl <;> rfl) (by unfold maxLen; omega) (by omega) hbs ?_))
        intro v' Y5 o5 hg5 _ hat5
        have kg : Kty 35 35 _ Y5 := Kty.of_grown hg5 (fun g hg => own_ty own g hg)
        have hpush := Ls.push HLA.out (w' := Y5) (v' := v') (x0 := .bool s1) (x1 := .slice s2 s3 s4) (x2 := .bool s5) (x3 := .slice s6 s7 s8) (q := q) o5 (fun h => TIs.kty h kg (by decide) (by decide)) HQA.out
        have B5 := (bw.trans (HBY.out.mono bw.size)).grown hg5 hbs (fun g hg => (own.lt g hg).1)
        have HPU := hid hpush
        have HNP := hid (HNU.out.push hlt HCN.out)
        clear hpush kg own hfn o5 hg5 hat5 hbs t0 t1 t2 t3
        go_wp2
        go_roundw
        case rel => exact ⟨k + 1, _, _, by omega, by go_num, HNP, HPU, B5⟩
        case measure => simp [intOf]; omega
      · have bA := (Below.refl Y1.heap.size Y1).alloc (Nat.le_refl _) (Obj.cells #[.bool false, .slice none 0 0, .bool false, .slice none 0 0] 35)
        have bY := chain2 bY1 bA
        have BA := bw.trans (bY.mono bw.size)
        have HNN := hid (nums_no hlt hno)
        clear bA bY bY1 hno
        go_wp2
        go_ret2
        exact ⟨Or.inr ⟨HNN.out, rfl⟩, BA⟩
    · obtain rfl : k = S.length := by omega
      rw [List.take_length] at HNU
      go_wp2
      go_ret2
      exact ⟨Or.inl ⟨X, _, C, HNU.out, rfl, HL.out⟩, bw⟩
end Go.Proofs.YtbmdoncdgopoaaaGreatDoor
/- result: sums of fractions by halves; what an order gains. -/
namespace Go.Proofs.YtbmdoncdgopoaaaGreatDoor
open Go.RowKit
set_option linter.unusedVariables false
set_option maxRecDepth 100000
set_option linter.unusedSimpArgs false

/-- A sum. -/
def smR : List Rat → Rat
  | [] => 0
  | x :: r => x + smR r
theorem smR_app : ∀ X Y : List Rat, smR (X ++ Y) = smR X + smR Y
  | [], Y => by simp [smR, Rat.zero_add]
  | x :: r, Y => by rw [List.cons_append, smR, smR, smR_app r Y, Rat.add_assoc]
theorem smR_lt {m : Nat} : ∀ {X : List Rat}, (∀ x ∈ X, Lt10 m x) → Lt10 (1 + X.length * (m + 1)) (smR X)
  | [], _ => by simpa [smR] using Lt10.zero
  | x :: r, h => by
    have h1 := h x List.mem_cons_self
    have h2 := smR_lt (X := r) (fun y hy => h y (List.mem_cons_of_mem _ hy))
    refine (h1.add h2).mono ?_
    rw [List.length_cons, Nat.succ_mul]
    omega
theorem smR_fit {X : List Rat} (h : ∀ x ∈ X, Lt10 700 x) (hl : X.length ≤ 256) : Lt10 179457 (smR X) := (smR_lt h).mono (by omega)
theorem QIs.sum {w : World} {v : Value} {X : List Rat} {K : Nat} (n : QIs w v (smR X) K) (h : ∀ x ∈ X, Lt10 700 x) (hl : X.length ≤ 256) : QIs w v (smR X) 20000 := (n.fit (smR_fit h hl)).mono (by decide)
/-- A slice of fractions, wherever it lies. -/
def Rrow (w : World) (v : Value) (X : List Rat) (K : Nat) : Prop :=
  ∃ a c, v = .slice a X.length c ∧ X.length ≤ c ∧ c ≤ maxLen ∧ (X = [] ∨ ∃ b off, a = some ⟨b, off, none⟩ ∧ ∀ i (h : i < X.length), ∃ x0 x1 x2 x3, w.cell? ⟨b, off + i * 4, none⟩ = some x0 ∧ w.cell? ⟨b, off + i * 4 + 1, none⟩ = some x1 ∧ w.cell? ⟨b, off + i * 4 + 2, none⟩ = some x2 ∧ w.cell? ⟨b, off + i * 4 + 3, none⟩ = some x3 ∧ QIs w (.agg #[x0, x1, x2, x3]) X[i] K)
theorem Rrow.below {w w' : World} {v : Value} {X : List Rat} {K : Nat} (h : Rrow w v X K) (k : Below w.heap.size w w') : Rrow w' v X K := by
  obtain ⟨a, c, h1, h2, h3, h4⟩ := h
  refine ⟨a, c, h1, h2, h3, ?_⟩
  rcases h4 with h4 | ⟨b, off, h4, h5⟩
  · exact Or.inl h4
  · refine Or.inr ⟨b, off, h4, fun i hi => ?_⟩
    obtain ⟨x0, x1, x2, x3, g0, g1, g2, g3, hq⟩ := h5 i hi
    exact ⟨x0, x1, x2, x3, ikc k g0, ikc k g1, ikc k g2, ikc k g3, hq.below k⟩
theorem Rrow.mono {w : World} {v : Value} {X : List Rat} {K K' : Nat} (h : Rrow w v X K) (hk : K ≤ K') : Rrow w v X K' := by
  obtain ⟨a, c, h1, h2, h3, h4⟩ := h
  refine ⟨a, c, h1, h2, h3, ?_⟩
  rcases h4 with h4 | ⟨b, off, h4, h5⟩
  · exact Or.inl h4
  · refine Or.inr ⟨b, off, h4, fun i hi => ?_⟩
    obtain ⟨x0, x1, x2, x3, g0, g1, g2, g3, hq⟩ := h5 i hi
    exact ⟨x0, x1, x2, x3, g0, g1, g2, g3, hq.mono hk⟩
theorem Rrow.of_ls {w : World} {base : Nat} {v : Value} {C : List (List Value)} {X : List Rat} {K : Nat} (h : QLs w base v C X K) : Rrow w v X K := by
  obtain ⟨a, c, e, h1, h2⟩ := h.slice
  refine ⟨a, c, e, h1, by unfold maxLen; omega, ?_⟩
  by_cases h0 : X = []
  · exact Or.inl h0
  · have hp : 0 < X.length := List.length_pos_iff.2 h0
    obtain ⟨g, c', _, _, _, _, e', _⟩ := Ls.at h 0 hp
    rw [e] at e'
    simp only [Value.slice.injEq] at e'
    obtain ⟨rfl, -, rfl⟩ := e'
    refine Or.inr ⟨g, 0, rfl, fun i hi => ?_⟩
    obtain ⟨g', c'', x0, x1, x2, x3, e'', _, g0, g1, g2, g3, hq⟩ := Ls.at h i hi
    rw [e] at e''
    simp only [Value.slice.injEq, Option.some.injEq, Addr.mk.injEq, and_true] at e''
    obtain ⟨rfl, -, -⟩ := e''
    rw [Nat.zero_add]
    exact ⟨x0, x1, x2, x3, g0, g1, g2, g3, hq⟩
theorem Rrow.take {w : World} {b off c : Nat} {X : List Rat} {K : Nat} (h : Rrow w (.slice (some ⟨b, off, none⟩) X.length c) X K) (n : Nat) (hn : n ≤ X.length) : Rrow w (.slice (some ⟨b, off, none⟩) n c) (X.take n) K := by
  obtain ⟨a, c', h1, h2, h3, h4⟩ := h
  simp only [Value.slice.injEq] at h1
  obtain ⟨rfl, -, rfl⟩ := h1
  have hl : (X.take n).length = n := by rw [List.length_take]; omega
  refine ⟨_, c, by rw [hl], by rw [hl]; omega, h3, ?_⟩
  rcases h4 with h4 | ⟨b', off', h4, h5⟩
  · left; rw [h4]; simp
  · simp only [Option.some.injEq, Addr.mk.injEq, and_true] at h4
    obtain ⟨rfl, rfl⟩ := h4
    refine Or.inr ⟨b, off, rfl, fun i hi => ?_⟩
    rw [hl] at hi
    rw [List.getElem_take]
    exact h5 i (by omega)
theorem Rrow.drop {w : World} {b off c : Nat} {X : List Rat} {K : Nat} (h : Rrow w (.slice (some ⟨b, off, none⟩) X.length c) X K) (n : Nat) (hn : n ≤ X.length) : Rrow w (.slice (some ⟨b, off + n * 4, none⟩) (X.length - n) (c - n)) (X.drop n) K := by
  obtain ⟨a, c', h1, h2, h3, h4⟩ := h
  simp only [Value.slice.injEq] at h1
  obtain ⟨rfl, -, rfl⟩ := h1
  have hl : (X.drop n).length = X.length - n := by rw [List.length_drop]
  refine ⟨_, c - n, by rw [hl], by rw [hl]; omega, by omega, ?_⟩
  rcases h4 with h4 | ⟨b', off', h4, h5⟩
  · left; rw [h4]; simp
  · simp only [Option.some.injEq, Addr.mk.injEq, and_true] at h4
    obtain ⟨rfl, rfl⟩ := h4
    refine Or.inr ⟨b, off + n * 4, rfl, fun i hi => ?_⟩
    rw [hl] at hi
    rw [List.getElem_drop]
    have := h5 (n + i) (by omega)
    rwa [show off + (n + i) * 4 = off + n * 4 + i * 4 by rw [Nat.add_mul]; omega] at this
theorem Rrow.at {w : World} {v : Value} {X : List Rat} {K : Nat} (h : Rrow w v X K) (i : Nat) (hi : i < X.length) : ∃ b off c x0 x1 x2 x3, v = .slice (some ⟨b, off, none⟩) X.length c ∧ X.length ≤ c ∧ c ≤ maxLen ∧ w.cell? ⟨b, off + i * 4, none⟩ = some x0 ∧ w.cell? ⟨b, off + i * 4 + 1, none⟩ = some x1 ∧ w.cell? ⟨b, off + i * 4 + 2, none⟩ = some x2 ∧ w.cell? ⟨b, off + i * 4 + 3, none⟩ = some x3 ∧ QIs w (.agg #[x0, x1, x2, x3]) X[i] K := by
  obtain ⟨a, c, h1, h2, h3, h4⟩ := h
  rcases h4 with rfl | ⟨b, off, rfl, h5⟩
  · simp at hi
  · obtain ⟨x0, x1, x2, x3, g⟩ := h5 i hi
    exact ⟨b, off, c, x0, x1, x2, x3, h1, h2, h3, g⟩
set_option maxHeartbeats 6400000 in
theorem totalOf_any : ∀ (n : Nat) (w : World) (X : List Rat) (v : Value), X.length ≤ n → X.length ≤ 256 → (∀ x ∈ X, Lt10 700 x) → Rrow w v X 20000 →
    Calls Tryz.prog 63 #[v] w fun e w' => ∃ u, e = .returned u ∧ QIs w' u (smR X) 20000 ∧ Below w.heap.size w w' := by
  intro n
  induction n with
  | zero =>
    intro w X v hn hl hX hv
    obtain rfl : X = [] := List.eq_nil_of_length_eq_zero (by omega)
    obtain ⟨a, c, rfl, h2, h3, _⟩ := hv
    simp only [List.length_nil] at *
    unfold maxLen at h3
    have b0 := ibel w (Obj.cells #[.slice none 0 0, .bool false, .slice none 0 0, .bool false] 74)
    have z0 := box_new w (Obj.cells #[.slice none 0 0, .bool false, .slice none 0 0, .bool false] 74)
    clear hn hl hX
    go_enter Tryz.func63, Tryz.ntmps63
    go_wp2_with fail
    generalize w.alloc (Obj.cells #[.slice none 0 0, .bool false, .slice none 0 0, .bool false] 74) = W at *
    refine (q_of W 0 (by omega) (by omega)).mono ?_
    rintro e Y1 ⟨v1, rfl, n1, bb⟩
    have n4 := n1.mono (show 2 ≤ 20000 by omega)
    obtain ⟨a5, l5, c5, b5, a6, l6, c6, b6, rfl⟩ := n4.form
    have zr := box_below bb z0 (lt_of_block z0)
    have HO := hid (four_cell (set4g zr (.slice a5 l5 c5) (.bool b5) (.slice a6 l6 c6) (.bool b6)))
    have NS := hid (QIs.kty n4 (set4_kty (o := 0) (t1 := 74) (t2 := 74) zr (Or.inl rfl) (.slice a5 l5 c5) (.bool b5) (.slice a6 l6 c6) (.bool b6)) (by decide) (by decide))
    have BS := hid (set4_below (o := 0) (b0.trans (bb.mono b0.size)) (show w.heap.size ≤ w.heap.size by omega) (.slice a5 l5 c5) (.bool b5) (.slice a6 l6 c6) (.bool b6))
    obtain ⟨i0, i1, i2, i3⟩ := four_cell zr
    have fr := free_four zr

    clear n4 n1 bb z0 b0 zr
    go_wp2_with fail
    obtain ⟨g0, g1, g2, g3⟩ := HO.out
    exact bodyPost_ret (v := .agg #[.slice a5 l5 c5, .bool b5, .slice a6 l6 c6, .bool b6]) (by simp [results, Tryz.results63, go_sem, g0, g1, g2, g3]) rfl ⟨_, rfl, NS.out, BS.out⟩

  | succ n ih =>
    intro w X v hn hl hX hv
    by_cases h0 : X.length ≤ n
    · exact ih w X v h0 hl hX hv
    obtain ⟨b, off, c, x0, x1, x2, x3, rfl, h2, h3, g0, g1, g2, g3, hq⟩ := hv.at 0 (by omega)
    unfold maxLen at h3
    have b0 := ibel w (Obj.cells #[.slice none 0 0, .bool false, .slice none 0 0, .bool false] 74)
    have z0 := box_new w (Obj.cells #[.slice none 0 0, .bool false, .slice none 0 0, .bool false] 74)
    by_cases h1 : X.length = 1
    · have hsum : smR X = X[0]'(by omega) := by
        match X, h1 with
        | [x], _ => simp [smR, Rat.add_zero]
      obtain ⟨a5, l5, c5, b5, a6, l6, c6, b6, e⟩ := hq.form
      simp only [Value.agg.injEq, Array.mk.injEq, List.cons.injEq, and_true] at e
      obtain ⟨rfl, rfl, rfl, rfl⟩ := e
      have bA := ibel w (Obj.cells #[.slice a5 l5 c5, .bool b5, .slice a6 l6 c6, .bool b6] 74)
      have n4 := (hq.below bA)
      rw [← hsum] at n4
      simp only [Nat.zero_mul, Nat.add_zero] at g0 g1 g2 g3
      have g0 := ikc b0 g0
      have g1 := ikc b0 g1
      have g2 := ikc b0 g2
      have g3 := ikc b0 g3
      have HO := hid (four_cell (inew w (Obj.cells #[.slice a5 l5 c5, .bool b5, .slice a6 l6 c6, .bool b6] 74)))
      have NS := hid n4
      have BS := hid bA
      simp only [h1] at h2 ⊢
      obtain ⟨i0, i1, i2, i3⟩ := four_cell z0
      have fr := free_four z0
      clear n4 hq hX hv ih hn h0 hsum hl b0 z0 h1 bA
      go_enter Tryz.func63, Tryz.ntmps63
      go_wp2_with fail
      obtain ⟨g0, g1, g2, g3⟩ := HO.out
      exact bodyPost_ret (v := .agg #[.slice a5 l5 c5, .bool b5, .slice a6 l6 c6, .bool b6]) (by simp [results, Tryz.results63, go_sem, g0, g1, g2, g3]) rfl ⟨_, rfl, NS.out, BS.out⟩

    have h5 : 2 ≤ X.length := by omega
    obtain ⟨q, hqd⟩ : ∃ q, X.length / 2 = q := ⟨_, rfl⟩
    have hq1 : 1 ≤ q := by omega
    have hq2 : q < X.length := by omega
    have hqc : q ≤ c := by omega
    have hqX : q ≤ X.length := by omega
    have hcq : ¬ c = q := by omega
    have htd : (X.length : Int).tdiv 2 = (q : Int) := by rw [Int.tdiv_eq_ediv_of_nonneg (by omega)]; omega
    have hc0 : ((X.length : Int) == 0) = false := by
      have : ¬ (X.length : Int) = 0 := by omega
      simpa using this
    have hc1 : ((X.length : Int) == 1) = false := by
      have : ¬ (X.length : Int) = 1 := by omega
      simpa using this
    have hwq : wrap64 (q : Int) = (q : Int) := by simp only [wrap64]; omega
    have HSX : Hid (smR (X.take q) + smR (X.drop q) = smR X) := hid (by rw [← smR_app, List.take_append_drop])
    have HV := hid (hv.below b0)
    have HI1 := hid (fun (Y : World) (bY : Below (w.alloc (Obj.cells #[.slice none 0 0, .bool false, .slice none 0 0, .bool false] 74)).heap.size (w.alloc (Obj.cells #[.slice none 0 0, .bool false, .slice none 0 0, .bool false] 74)) Y) => ih Y (X.take q) (.slice (some ⟨b, off, none⟩) q c) (by rw [List.length_take]; omega) (by rw [List.length_take]; omega) (fun x hx => hX x (List.mem_of_mem_take hx)) ((HV.out.take q (by omega)).below bY))
    have HI2 := hid (fun (Y : World) (bY : Below (w.alloc (Obj.cells #[.slice none 0 0, .bool false, .slice none 0 0, .bool false] 74)).heap.size (w.alloc (Obj.cells #[.slice none 0 0, .bool false, .slice none 0 0, .bool false] 74)) Y) => ih Y (X.drop q) (.slice (some ⟨b, off + q * 4, none⟩) (X.length - q) (c - q)) (by rw [List.length_drop]; omega) (by rw [List.length_drop]; omega) (fun x hx => hX x (List.mem_of_mem_drop hx)) ((HV.out.drop q (by omega)).below bY))
    have HFI := hid (fun (Y : World) (u : Value) (K : Nat) (h : QIs Y u (smR (X.take q) + smR (X.drop q)) K) => show QIs Y u (smR X) 20000 from by rw [HSX.out] at h; exact h.sum hX hl)
    have HZ := hid z0
    have HBW := hid b0
    have HLT := hid (lt_of_block z0)
    have HGE := hid (Nat.le_refl w.heap.size)
    clear hq hX hv ih hn h0 h1 hl b0 z0 g0 g1 g2 g3 hqd HV HSX
    go_enter Tryz.func63, Tryz.ntmps63
    go_wp2_with fail
    generalize w.alloc (Obj.cells #[.slice none 0 0, .bool false, .slice none 0 0, .bool false] 74) = W at *
    refine wp_region_noPanic ?_
    refine wp_region_held_drew (S := fun Y => True) (by kernel_rfl) (trivial) (fun hHeld => ?_)
    refine wpAnyH_take (i := 0) (v := ?_) rfl (by kernel_rfl) (by kernel_rfl) (by kernel_rfl) (fun _ _ _ h => h) (Or.inl ⟨by rfl, ?_⟩) (by assumption) ?_
    rotate_left
    · intro w hSw
      (try dsimp only at hSw)
      go_simp
      (try with_reducible rfl)
    (try simp only [List.getElem_toArray, List.getElem_cons_zero, List.getElem_cons_succ, Act.put, List.setIfInBounds_toArray, List.set_cons_zero, List.set_cons_succ])
    refine wpAnyH_take (i := 1) (v := ?_) rfl (by kernel_rfl) (by kernel_rfl) (by kernel_rfl) (fun _ _ _ h => h) (Or.inl ⟨by rfl, ?_⟩) (by assumption) ?_
    rotate_left
    · intro w hSw
      (try dsimp only at hSw)
      go_simp
      (try with_reducible rfl)
    (try simp only [List.getElem_toArray, List.getElem_cons_zero, List.getElem_cons_succ, Act.put, List.setIfInBounds_toArray, List.set_cons_zero, List.set_cons_succ])
    refine wpAnyH_take (i := 2) (v := ?_) rfl (by kernel_rfl) (by kernel_rfl) (by kernel_rfl) (fun _ _ _ h => h) (Or.inl ⟨by rfl, ?_⟩) (by assumption) ?_
    rotate_left
    · intro w hSw
      (try dsimp only at hSw)
      go_simp
      (try with_reducible rfl)
    (try simp only [List.getElem_toArray, List.getElem_cons_zero, List.getElem_cons_succ, Act.put, List.setIfInBounds_toArray, List.set_cons_zero, List.set_cons_succ])
    refine wpAnyH_take (i := 4) (v := ?_) rfl (by kernel_rfl) (by kernel_rfl) (by kernel_rfl) (fun _ _ _ h => h) (Or.inl ⟨by rfl, ?_⟩) (by assumption) ?_
    rotate_left
    · intro w hSw
      (try dsimp only at hSw)
      go_simp
      (try with_reducible rfl)
    (try simp only [List.getElem_toArray, List.getElem_cons_zero, List.getElem_cons_succ, Act.put, List.setIfInBounds_toArray, List.set_cons_zero, List.set_cons_succ])
    refine wpAnyH_take (i := 5) (v := ?_) rfl (by kernel_rfl) (by kernel_rfl) (by kernel_rfl) (fun _ _ _ h => h) (Or.inl ⟨by rfl, ?_⟩) (by assumption) ?_
    rotate_left
    · intro w hSw
      (try dsimp only at hSw)
      go_simp
      (try with_reducible rfl)
    (try simp only [List.getElem_toArray, List.getElem_cons_zero, List.getElem_cons_succ, Act.put, List.setIfInBounds_toArray, List.set_cons_zero, List.set_cons_succ])
    refine wpAnyH_take (i := 6) (v := ?_) rfl (by kernel_rfl) (by kernel_rfl) (by kernel_rfl) (fun _ _ _ h => h) (Or.inl ⟨by rfl, ?_⟩) (by assumption) ?_
    rotate_left
    · intro w hSw
      (try dsimp only at hSw)
      go_simp
      (try with_reducible rfl)
    (try simp only [List.getElem_toArray, List.getElem_cons_zero, List.getElem_cons_succ, Act.put, List.setIfInBounds_toArray, List.set_cons_zero, List.set_cons_succ])
    refine wpAnyH_ready (rs := [3]) (by kernel_rfl) (by simp) ?_
    refine AllReadyH.cons (o := _) rfl (fun Kc hKc => ?_) AllReadyH.nil
    go_simp
    (go_at_call 63; refine (HI1.out _ (by first | exact Below.refl _ _ | exact (Below.refl _ _).drew | exact below_dn (Below.refl _ _) _)).mono ?_; rintro e Y1 ⟨v1, rfl, n1, bb⟩; have F1 : Below W.heap.size W Y1 := (by first | exact bb | exact ⟨bb.os, bb.tape, bb.output, bb.size, bb.block⟩); clear bb)
    dsimp only
    refine hKc.out _ _ (trivial) (fun hHeld => ?_)
    clear hKc Kc
    (try simp only [List.getElem_toArray, List.getElem_cons_zero, List.getElem_cons_succ, Act.put, List.setIfInBounds_toArray, List.set_cons_zero, List.set_cons_succ])
    refine wpAnyH_ready (rs := [7]) (by kernel_rfl) (by simp) ?_
    refine AllReadyH.cons (o := _) rfl (fun Kc hKc => ?_) AllReadyH.nil
    go_simp
    (have gk := F1; go_at_call 63; refine (HI2.out _ F1).mono ?_; rintro e Y2 ⟨v2, rfl, n2, bb⟩; have F2 := chain2 F1 bb; have n1 := n1.below bb; clear bb)
    dsimp only
    refine hKc.out _ _ (trivial) (fun hHeld => ?_)
    clear hKc Kc
    (try simp only [List.getElem_toArray, List.getElem_cons_zero, List.getElem_cons_succ, Act.put, List.setIfInBounds_toArray, List.set_cons_zero, List.set_cons_succ])
    refine wpAnyH_ready (rs := [8]) (by kernel_rfl) (by simp) ?_
    refine AllReadyH.cons (o := _) rfl (fun Kc hKc => ?_) AllReadyH.nil
    go_simp
    (have gk := F2; go_at_call 85; refine (q_add _ _ _ _ _ 20000 (by omega) n1 n2).mono ?_; rintro e Y3 ⟨v3, rfl, n3, bb⟩; have F3 := chain2 F2 bb; clear bb; have n4 := HFI.out _ _ _ n3; obtain ⟨a5, l5, c5, b5, a6, l6, c6, b6, rfl⟩ := n4.form; have zr := box_below F3 HZ.out HLT.out; have HO := hid (four_cell (set4g zr (.slice a5 l5 c5) (.bool b5) (.slice a6 l6 c6) (.bool b6))); have NS := hid (QIs.kty n4 (set4_kty (o := 0) (t1 := 74) (t2 := 74) zr (Or.inl rfl) (.slice a5 l5 c5) (.bool b5) (.slice a6 l6 c6) (.bool b6)) (by decide) (by decide)); have BS := hid (set4_below (o := 0) (HBW.out.trans (F3.mono HBW.out.size)) HGE.out (.slice a5 l5 c5) (.bool b5) (.slice a6 l6 c6) (.bool b6)); obtain ⟨i0, i1, i2, i3⟩ := four_cell zr; have fr := free_four zr)
    dsimp only
    refine hKc.out _ _ (trivial) (fun hHeld => ?_)
    clear hKc Kc
    (try simp only [List.getElem_toArray, List.getElem_cons_zero, List.getElem_cons_succ, Act.put, List.setIfInBounds_toArray, List.set_cons_zero, List.set_cons_succ])
    refine wpAnyH_ready (rs := [9]) (by kernel_rfl) (by simp) ?_
    refine AllReadyH.cons (o := _) rfl (fun Kc hKc => ?_) AllReadyH.nil
    go_simp
    refine hKc.out _ _ (trivial) (fun hHeld => ?_)
    clear hKc Kc
    (try simp only [List.getElem_toArray, List.getElem_cons_zero, List.getElem_cons_succ, Act.put, List.setIfInBounds_toArray, List.set_cons_zero, List.set_cons_succ])
    refine wpAnyH_done (by kernel_rfl) ?_ _
    refine NoPanic.normal ?_

    go_wp2_with fail
    obtain ⟨g0, g1, g2, g3⟩ := HO.out
    exact bodyPost_ret (v := .agg #[.slice a5 l5 c5, .bool b5, .slice a6 l6 c6, .bool b6]) (by simp [results, Tryz.results63, go_sem, g0, g1, g2, g3]) rfl ⟨_, rfl, NS.out, BS.out⟩
end Go.Proofs.YtbmdoncdgopoaaaGreatDoor
/- result: isBetween, isAmong; what an order gains. -/
namespace Go.Proofs.YtbmdoncdgopoaaaGreatDoor
open Go.RowKit
set_option linter.unusedVariables false
set_option maxRecDepth 100000
set_option linter.unusedSimpArgs false

theorem pbetween_any (w : World) (lo n hi : Int) :
    Calls Tryz.prog 100 #[.int .i64 lo, .int .i64 n, .int .i64 hi] w fun e w' => e = .returned (.bool (btw lo n hi)) ∧ w' = w := by
  have hd : btw lo n hi = (decide (lo ≤ n) && decide (n ≤ hi)) := rfl
  rw [hd]
  clear hd
  go_enter Tryz.func100, Tryz.ntmps100
  go_wp2
  all_goals go_ret
  all_goals exact ⟨by first | rfl | (simp_all; done) | (simp_all; omega), rfl⟩
theorem pamong_any (w : World) (n m : Int) (hm : 0 ≤ m) (hm2 : m < 9223372036854775808) :
    Calls Tryz.prog 58 #[.int .i64 n, .int .i64 m] w fun e w' => e = .returned (.bool (btw 0 n (m - 1))) ∧ w' = w := by
  have hw : wrap64 (m - 1) = m - 1 := by simp only [wrap64]; omega
  go_enter Tryz.func58, Tryz.ntmps58
  go_wp2_with (first | (go_at_call 100; refine (pbetween_any _ _ _ _).mono ?_; rintro e Y1 ⟨rfl, rfl⟩) | fail)
  go_ret
  exact ⟨rfl, rfl⟩
/-- What each of an order brings. -/
def gainR (buy : Bool) (own : Int) (p : Rat) : Rat := if buy = true then (own : Rat) - p else p - (own : Rat)
set_option maxHeartbeats 6400000 in
theorem gain_any (w : World) (buy : Bool) (own : Int) (pv : Value) (p : Rat) (K : Nat) (hK : K ≤ 1000000) (hK2 : 2 ≤ K) (h1 : -9223372036854775808 ≤ own) (h2 : own < 9223372036854775808) (hp : QIs w pv p K) :
    Calls Tryz.prog 60 #[.bool buy, .int .i64 own, pv] w fun e w' => ∃ v, e = .returned v ∧ QIs w' v (gainR buy own p) (2 * K + 12) ∧ Below w.heap.size w w' := by
  obtain ⟨p1, p2, p3, p4, p5, p6, p7, p8, rfl⟩ := hp.form
  have b0 := ibel w (Obj.cells #[.slice p1 p2 p3, .bool p4, .slice p5 p6 p7, .bool p8] 74)
  have x0 := inew w (Obj.cells #[.slice p1 p2 p3, .bool p4, .slice p5 p6 p7, .bool p8] 74)
  have b1 := ibel (w.alloc (Obj.cells #[.slice p1 p2 p3, .bool p4, .slice p5 p6 p7, .bool p8] 74)) (Obj.cells #[.slice none 0 0, .bool false, .slice none 0 0, .bool false] 74)
  have z1 := box_new (w.alloc (Obj.cells #[.slice p1 p2 p3, .bool p4, .slice p5 p6 p7, .bool p8] 74)) (Obj.cells #[.slice none 0 0, .bool false, .slice none 0 0, .bool false] 74)
  have x1 := box_below b1 x0 (by simp)
  rw [World.size_alloc] at z1
  have HP := hid (hp.below (chain2 b0 b1))
  have HBW := hid (chain2 b0 b1)
  have HZ := hid z1
  have HLT := hid (lt_of_block z1)
  have HX := hid x1
  clear b0 x0 b1 z1 x1 hp
  cases buy
  · go_enter Tryz.func60, Tryz.ntmps60
    go_wp2_with fail
    generalize (w.alloc (Obj.cells #[.slice p1 p2 p3, .bool p4, .slice p5 p6 p7, .bool p8] 74)).alloc (Obj.cells #[.slice none 0 0, .bool false, .slice none 0 0, .bool false] 74) = W at *
    have HKx := hid (fun (Y : World) (kz : Below W.heap.size W Y) => show Y.cell? ⟨w.heap.size, 0, none⟩ = some (.slice p1 p2 p3) ∧ Y.cell? ⟨w.heap.size, 1, none⟩ = some (.bool p4) ∧ Y.cell? ⟨w.heap.size, 2, none⟩ = some (.slice p5 p6 p7) ∧ Y.cell? ⟨w.heap.size, 3, none⟩ = some (.bool p8) from four_cell (box_below kz HX.out (lt_of_block HX.out)))
    have HKs := hid (fun (Y : World) (kz : Below W.heap.size W Y) => show ∀ (x0 x1 x2 x3 : Value), (fun (Y : World) => Y.cell? ⟨w.heap.size, 0, none⟩ = some (.slice p1 p2 p3) ∧ Y.cell? ⟨w.heap.size, 1, none⟩ = some (.bool p4) ∧ Y.cell? ⟨w.heap.size, 2, none⟩ = some (.slice p5 p6 p7) ∧ Y.cell? ⟨w.heap.size, 3, none⟩ = some (.bool p8)) ((((Y.setCell ⟨w.heap.size + 1, 0, none⟩ x0).setCell ⟨w.heap.size + 1, 1, none⟩ x1).setCell ⟨w.heap.size + 1, 2, none⟩ x2).setCell ⟨w.heap.size + 1, 3, none⟩ x3) from fun x0 x1 x2 x3 => four_cell ((set4_heap (show w.heap.size ≠ w.heap.size + 1 by omega) x0 x1 x2 x3).trans (box_below kz HX.out (lt_of_block HX.out))))
    refine wp_region_noPanic ?_
    refine wp_region_held_drew (S := fun Y => Y.cell? ⟨w.heap.size, 0, none⟩ = some (.slice p1 p2 p3) ∧ Y.cell? ⟨w.heap.size, 1, none⟩ = some (.bool p4) ∧ Y.cell? ⟨w.heap.size, 2, none⟩ = some (.slice p5 p6 p7) ∧ Y.cell? ⟨w.heap.size, 3, none⟩ = some (.bool p8)) (by kernel_rfl) (HKx.out _ (by first | exact Below.refl _ _ | exact (Below.refl _ _).drew | exact below_dn (Below.refl _ _) _)) (fun hHeld => ?_)
    refine wpAnyH_take (i := 0) (v := ?_) rfl (by kernel_rfl) (by kernel_rfl) (by kernel_rfl) (fun _ _ _ h => h) (Or.inl ⟨by rfl, ?_⟩) (by assumption) ?_
    rotate_left
    · intro w hSw
      (try dsimp only at hSw)
      go_simp
      (try with_reducible rfl)
    (try simp only [List.getElem_toArray, List.getElem_cons_zero, List.getElem_cons_succ, Act.put, List.setIfInBounds_toArray, List.set_cons_zero, List.set_cons_succ])
    refine wpAnyH_take (i := 1) (v := ?_) rfl (by kernel_rfl) (by kernel_rfl) (by kernel_rfl) (fun _ _ _ h => h) (Or.inl ⟨by rfl, ?_⟩) (by assumption) ?_
    rotate_left
    · intro w hSw
      (try dsimp only at hSw)
      go_simp
      (try with_reducible rfl)
    (try simp only [List.getElem_toArray, List.getElem_cons_zero, List.getElem_cons_succ, Act.put, List.setIfInBounds_toArray, List.set_cons_zero, List.set_cons_succ])
    refine wpAnyH_ready (rs := [2]) (by kernel_rfl) (by simp) ?_
    refine AllReadyH.cons (o := _) rfl (fun Kc hKc => ?_) AllReadyH.nil
    go_simp
    (go_at_call 62; refine (q_of _ own h1 h2).mono ?_; rintro e Y1 ⟨v1, rfl, n1, bb⟩; have F1 : Below W.heap.size W Y1 := (by first | exact bb | exact ⟨bb.os, bb.tape, bb.output, bb.size, bb.block⟩); clear bb; have n1 := n1.mono (show 2 ≤ K by omega))
    dsimp only
    refine hKc.out _ _ (HKx.out _ F1) (fun hHeld => ?_)
    clear hKc Kc
    (try simp only [List.getElem_toArray, List.getElem_cons_zero, List.getElem_cons_succ, Act.put, List.setIfInBounds_toArray, List.set_cons_zero, List.set_cons_succ])
    refine wpAnyH_ready (rs := [3]) (by kernel_rfl) (by simp) ?_
    refine AllReadyH.cons (o := _) rfl (fun Kc hKc => ?_) AllReadyH.nil
    go_simp
    (have gk := F1; go_at_call 87; refine (q_sub _ _ _ _ _ K hK (HP.out.below F1) n1).mono ?_; rintro e Y2 ⟨v2, rfl, n4, bb⟩; have F2 := chain2 F1 bb; clear bb; obtain ⟨a5, l5, c5, b5, a6, l6, c6, b6, rfl⟩ := n4.form; have zr := box_below F2 HZ.out HLT.out; have HO := hid (four_cell (set4g zr (.slice a5 l5 c5) (.bool b5) (.slice a6 l6 c6) (.bool b6))); have NS := hid (QIs.kty n4 (set4_kty (o := 0) (t1 := 74) (t2 := 74) zr (Or.inl rfl) (.slice a5 l5 c5) (.bool b5) (.slice a6 l6 c6) (.bool b6)) (by decide) (by decide)); have BS := hid (set4_below (o := 0) (HBW.out.trans (F2.mono HBW.out.size)) (show w.heap.size ≤ w.heap.size + 1 by omega) (.slice a5 l5 c5) (.bool b5) (.slice a6 l6 c6) (.bool b6)); obtain ⟨i0, i1, i2, i3⟩ := four_cell zr; have fr := free_four zr)
    dsimp only
    refine hKc.out _ _ (HKx.out _ F2) (fun hHeld => ?_)
    clear hKc Kc
    (try simp only [List.getElem_toArray, List.getElem_cons_zero, List.getElem_cons_succ, Act.put, List.setIfInBounds_toArray, List.set_cons_zero, List.set_cons_succ])
    refine wpAnyH_ready (rs := [4]) (by kernel_rfl) (by simp) ?_
    refine AllReadyH.cons (o := _) rfl (fun Kc hKc => ?_) AllReadyH.nil
    go_simp
    refine hKc.out _ _ (HKs.out _ F2 _ _ _ _) (fun hHeld => ?_)
    clear hKc Kc
    (try simp only [List.getElem_toArray, List.getElem_cons_zero, List.getElem_cons_succ, Act.put, List.setIfInBounds_toArray, List.set_cons_zero, List.set_cons_succ])
    refine wpAnyH_done (by kernel_rfl) ?_ _
    refine NoPanic.normal ?_

    go_wp2_with fail
    obtain ⟨g0, g1, g2, g3⟩ := HO.out
    exact bodyPost_ret (v := .agg #[.slice a5 l5 c5, .bool b5, .slice a6 l6 c6, .bool b6]) (by simp [results, Tryz.results60, go_sem, g0, g1, g2, g3]) rfl ⟨_, rfl, by have := NS.out; simpa [gainR] using this, BS.out⟩
  · go_enter Tryz.func60, Tryz.ntmps60
    go_wp2_with fail
    generalize (w.alloc (Obj.cells #[.slice p1 p2 p3, .bool p4, .slice p5 p6 p7, .bool p8] 74)).alloc (Obj.cells #[.slice none 0 0, .bool false, .slice none 0 0, .bool false] 74) = W at *
    have HKx := hid (fun (Y : World) (kz : Below W.heap.size W Y) => show Y.cell? ⟨w.heap.size, 0, none⟩ = some (.slice p1 p2 p3) ∧ Y.cell? ⟨w.heap.size, 1, none⟩ = some (.bool p4) ∧ Y.cell? ⟨w.heap.size, 2, none⟩ = some (.slice p5 p6 p7) ∧ Y.cell? ⟨w.heap.size, 3, none⟩ = some (.bool p8) from four_cell (box_below kz HX.out (lt_of_block HX.out)))
    have HKs := hid (fun (Y : World) (kz : Below W.heap.size W Y) => show ∀ (x0 x1 x2 x3 : Value), (fun (Y : World) => Y.cell? ⟨w.heap.size, 0, none⟩ = some (.slice p1 p2 p3) ∧ Y.cell? ⟨w.heap.size, 1, none⟩ = some (.bool p4) ∧ Y.cell? ⟨w.heap.size, 2, none⟩ = some (.slice p5 p6 p7) ∧ Y.cell? ⟨w.heap.size, 3, none⟩ = some (.bool p8)) ((((Y.setCell ⟨w.heap.size + 1, 0, none⟩ x0).setCell ⟨w.heap.size + 1, 1, none⟩ x1).setCell ⟨w.heap.size + 1, 2, none⟩ x2).setCell ⟨w.heap.size + 1, 3, none⟩ x3) from fun x0 x1 x2 x3 => four_cell ((set4_heap (show w.heap.size ≠ w.heap.size + 1 by omega) x0 x1 x2 x3).trans (box_below kz HX.out (lt_of_block HX.out))))
    refine wp_region_noPanic ?_
    refine wp_region_held_drew (S := fun Y => Y.cell? ⟨w.heap.size, 0, none⟩ = some (.slice p1 p2 p3) ∧ Y.cell? ⟨w.heap.size, 1, none⟩ = some (.bool p4) ∧ Y.cell? ⟨w.heap.size, 2, none⟩ = some (.slice p5 p6 p7) ∧ Y.cell? ⟨w.heap.size, 3, none⟩ = some (.bool p8)) (by kernel_rfl) (HKx.out _ (by first | exact Below.refl _ _ | exact (Below.refl _ _).drew | exact below_dn (Below.refl _ _) _)) (fun hHeld => ?_)
    refine wpAnyH_take (i := 0) (v := ?_) rfl (by kernel_rfl) (by kernel_rfl) (by kernel_rfl) (fun _ _ _ h => h) (Or.inl ⟨by rfl, ?_⟩) (by assumption) ?_
    rotate_left
    · intro w hSw
      (try dsimp only at hSw)
      go_simp
      (try with_reducible rfl)
    (try simp only [List.getElem_toArray, List.getElem_cons_zero, List.getElem_cons_succ, Act.put, List.setIfInBounds_toArray, List.set_cons_zero, List.set_cons_succ])
    refine wpAnyH_take (i := 2) (v := ?_) rfl (by kernel_rfl) (by kernel_rfl) (by kernel_rfl) (fun _ _ _ h => h) (Or.inl ⟨by rfl, ?_⟩) (by assumption) ?_
    rotate_left
    · intro w hSw
      (try dsimp only at hSw)
      go_simp
      (try with_reducible rfl)
    (try simp only [List.getElem_toArray, List.getElem_cons_zero, List.getElem_cons_succ, Act.put, List.setIfInBounds_toArray, List.set_cons_zero, List.set_cons_succ])
    refine wpAnyH_ready (rs := [1]) (by kernel_rfl) (by simp) ?_
    refine AllReadyH.cons (o := _) rfl (fun Kc hKc => ?_) AllReadyH.nil
    go_simp
    (go_at_call 62; refine (q_of _ own h1 h2).mono ?_; rintro e Y1 ⟨v1, rfl, n1, bb⟩; have F1 : Below W.heap.size W Y1 := (by first | exact bb | exact ⟨bb.os, bb.tape, bb.output, bb.size, bb.block⟩); clear bb; have n1 := n1.mono (show 2 ≤ K by omega))
    dsimp only
    refine hKc.out _ _ (HKx.out _ F1) (fun hHeld => ?_)
    clear hKc Kc
    (try simp only [List.getElem_toArray, List.getElem_cons_zero, List.getElem_cons_succ, Act.put, List.setIfInBounds_toArray, List.set_cons_zero, List.set_cons_succ])
    refine wpAnyH_ready (rs := [3]) (by kernel_rfl) (by simp) ?_
    refine AllReadyH.cons (o := _) rfl (fun Kc hKc => ?_) AllReadyH.nil
    go_simp
    (have gk := F1; go_at_call 87; refine (q_sub _ _ _ _ _ K hK n1 (HP.out.below F1)).mono ?_; rintro e Y2 ⟨v2, rfl, n4, bb⟩; have F2 := chain2 F1 bb; clear bb; obtain ⟨a5, l5, c5, b5, a6, l6, c6, b6, rfl⟩ := n4.form; have zr := box_below F2 HZ.out HLT.out; have HO := hid (four_cell (set4g zr (.slice a5 l5 c5) (.bool b5) (.slice a6 l6 c6) (.bool b6))); have NS := hid (QIs.kty n4 (set4_kty (o := 0) (t1 := 74) (t2 := 74) zr (Or.inl rfl) (.slice a5 l5 c5) (.bool b5) (.slice a6 l6 c6) (.bool b6)) (by decide) (by decide)); have BS := hid (set4_below (o := 0) (HBW.out.trans (F2.mono HBW.out.size)) (show w.heap.size ≤ w.heap.size + 1 by omega) (.slice a5 l5 c5) (.bool b5) (.slice a6 l6 c6) (.bool b6)); obtain ⟨i0, i1, i2, i3⟩ := four_cell zr; have fr := free_four zr)
    dsimp only
    refine hKc.out _ _ (HKx.out _ F2) (fun hHeld => ?_)
    clear hKc Kc
    (try simp only [List.getElem_toArray, List.getElem_cons_zero, List.getElem_cons_succ, Act.put, List.setIfInBounds_toArray, List.set_cons_zero, List.set_cons_succ])
    refine wpAnyH_ready (rs := [4]) (by kernel_rfl) (by simp) ?_
    refine AllReadyH.cons (o := _) rfl (fun Kc hKc => ?_) AllReadyH.nil
    go_simp
    refine hKc.out _ _ (HKs.out _ F2 _ _ _ _) (fun hHeld => ?_)
    clear hKc Kc
    (try simp only [List.getElem_toArray, List.getElem_cons_zero, List.getElem_cons_succ, Act.put, List.setIfInBounds_toArray, List.set_cons_zero, List.set_cons_succ])
    refine wpAnyH_done (by kernel_rfl) ?_ _
    refine NoPanic.normal ?_

    go_wp2_with fail
    obtain ⟨g0, g1, g2, g3⟩ := HO.out
    exact bodyPost_ret (v := .agg #[.slice a5 l5 c5, .bool b5, .slice a6 l6 c6, .bool b6]) (by simp [results, Tryz.results60, go_sem, g0, g1, g2, g3]) rfl ⟨_, rfl, by have := NS.out; simpa [gainR] using this, BS.out⟩
end Go.Proofs.YtbmdoncdgopoaaaGreatDoor
/- result: prices in memory; what Surplus tells. -/
namespace Go.Proofs.YtbmdoncdgopoaaaGreatDoor
open Go.RowKit
set_option linter.unusedVariables false
set_option maxRecDepth 100000
set_option linter.unusedSimpArgs false

/-- A slice of slices of texts. -/
def Sss (w : World) (v : Value) (P : List (List ByteArray)) : Prop :=
  ∃ a c, v = .slice a P.length c ∧ P.length ≤ c ∧ c ≤ maxLen ∧ (P = [] ∨ ∃ b off, a = some ⟨b, off, none⟩ ∧ ∀ i (h : i < P.length), ∃ u, w.cell? ⟨b, off + i, none⟩ = some u ∧ Strs w u P[i])
theorem Sss.below {w w' : World} {v : Value} {P : List (List ByteArray)} (h : Sss w v P) (k : Below w.heap.size w w') : Sss w' v P := by
  obtain ⟨a, c, h1, h2, h3, h4⟩ := h
  refine ⟨a, c, h1, h2, h3, ?_⟩
  rcases h4 with h4 | ⟨b, off, h4, h5⟩
  · exact Or.inl h4
  · refine Or.inr ⟨b, off, h4, fun i hi => ?_⟩
    obtain ⟨u, g, hu⟩ := h5 i hi
    exact ⟨u, ikc k g, hu.below k⟩
theorem Sss.slice {w : World} {v : Value} {P : List (List ByteArray)} (h : Sss w v P) : ∃ a c, v = .slice a P.length c ∧ P.length ≤ c ∧ c ≤ maxLen := by
  obtain ⟨a, c, h1, h2, h3, _⟩ := h
  exact ⟨a, c, h1, h2, h3⟩
theorem Sss.at {w : World} {v : Value} {P : List (List ByteArray)} (h : Sss w v P) (i : Nat) (hi : i < P.length) : ∃ b off c ua uc, v = .slice (some ⟨b, off, none⟩) P.length c ∧ w.cell? ⟨b, off + i, none⟩ = some (.slice ua P[i].length uc) ∧ Strs w (.slice ua P[i].length uc) P[i] ∧ P[i].length ≤ uc ∧ uc ≤ maxLen := by
  obtain ⟨a, c, h1, h2, h3, h4⟩ := h
  rcases h4 with rfl | ⟨b, off, rfl, h5⟩
  · simp at hi
  · obtain ⟨u, g, hu⟩ := h5 i hi
    obtain ⟨ua, uc, rfl, q1, q2⟩ := hu.slice
    exact ⟨b, off, c, ua, uc, h1, g, hu, q1, q2⟩
/-- The texts of a zone's prices. -/
def col (P : List (List ByteArray)) (z : Int) : List ByteArray := P.map (fun r => r.getD z.toNat ByteArray.empty)
theorem col_len (P : List (List ByteArray)) (z : Int) : (col P z).length = P.length := by simp [col]
def Shp (z : Int) (n : Nat) (P : List (List ByteArray)) : Prop := P.length = n ∧ ∀ i (h : i < P.length), 0 ≤ z ∧ z < (P[i].length : Int)
theorem col_at {P : List (List ByteArray)} {z i : Nat} (h : i < P.length) (hz : z < P[i].length) : (col P (z : Int))[i]'(by rw [col_len]; exact h) = P[i][z] := by
  simp [col, hz]
/-- What each hour brings. -/
def gns (buy : Bool) (own : Int) (X : List Rat) (Q : List Int) : List Rat := List.zipWith (fun p (q : Int) => gainR buy own p * (q : Rat)) X Q
theorem gns_len {buy : Bool} {own : Int} {X : List Rat} {Q : List Int} (h : X.length = Q.length) : (gns buy own X Q).length = X.length := by simp [gns, h]
theorem gns_push {buy : Bool} {own : Int} {X : List Rat} {Q : List Int} {k : Nat} (hX : X.length = k) (hk : k < Q.length) (p : Rat) : gns buy own (X ++ [p]) (Q.take (k + 1)) = gns buy own X (Q.take k) ++ [gainR buy own p * ((Q[k] : Int) : Rat)] := by
  unfold gns
  rw [List.take_succ_eq_append_getElem hk, List.zipWith_append (by rw [hX, List.length_take]; omega)]
  rfl
theorem gain_lt {buy : Bool} {own : Int} {p : Rat} (h1 : -9223372036854775808 ≤ own) (h2 : own < 9223372036854775808) (hp : Lt10 300 p) : Lt10 320 (gainR buy own p) := by
  have hi : Lt10 19 (own : Rat) := Lt10.int (by omega) (by omega)
  unfold gainR
  split
  · exact hi.sub hp
  · exact hp.sub hi
theorem gain2_lt {buy : Bool} {own q : Int} {p : Rat} (h1 : -9223372036854775808 ≤ own) (h2 : own < 9223372036854775808) (h3 : -9223372036854775808 ≤ q) (h4 : q < 9223372036854775808) (hp : Lt10 300 p) : Lt10 700 (gainR buy own p * (q : Rat)) :=
  ((gain_lt h1 h2 hp).mul (Lt10.int (by omega) (by omega))).mono (by omega)
theorem gns_lt {buy : Bool} {own : Int} {X : List Rat} {Q : List Int} (h1 : -9223372036854775808 ≤ own) (h2 : own < 9223372036854775808) (hX : ∀ x ∈ X, Lt10 300 x) (hQ : ∀ q ∈ Q, In64 q) : ∀ y ∈ gns buy own X Q, Lt10 700 y := by
  intro y hy
  unfold gns at hy
  obtain ⟨i, hi, rfl⟩ := List.getElem_of_mem hy
  rw [List.getElem_zipWith]
  simp only [List.length_zipWith] at hi
  have hq := hQ _ (List.getElem_mem (show i < Q.length by omega))
  exact gain2_lt h1 h2 hq.1 hq.2 (hX _ (List.getElem_mem _))
/-- What Surplus tells. -/
def SurS (buy : Bool) (own z : Int) (Q : List Int) (P : List (List ByteArray)) (s : ByteArray) (e : Int) : Prop :=
  (¬ Shp z Q.length P ∧ s = ⟨#[]⟩ ∧ e = 120) ∨ (Shp z Q.length P ∧ (¬ ∃ X, Nums (col P z) X) ∧ s = ⟨#[]⟩ ∧ e = 10) ∨ (Shp z Q.length P ∧ ∃ X, Nums (col P z) X ∧ TxR s (smR (gns buy own X Q)) ∧ e = 0)
theorem SurS.uniq {buy : Bool} {own z : Int} {Q : List Int} {P : List (List ByteArray)} {s t : ByteArray} {e f : Int} (h : SurS buy own z Q P s e) (k : SurS buy own z Q P t f) : s = t ∧ e = f := by
  rcases h with ⟨h1, h2, h3⟩ | ⟨h1, h2, h3, h4⟩ | ⟨h1, X, h2, h3, h4⟩ <;> rcases k with ⟨k1, k2, k3⟩ | ⟨k1, k2, k3, k4⟩ | ⟨k1, Y, k2, k3, k4⟩
  · exact ⟨h2.trans k2.symm, h3.trans k3.symm⟩
  · exact absurd k1 h1
  · exact absurd k1 h1
  · exact absurd h1 k1
  · exact ⟨h3.trans k3.symm, h4.trans k4.symm⟩
  · exact absurd ⟨_, k2⟩ h2
  · exact absurd h1 k1
  · exact absurd ⟨_, h2⟩ k2
  · obtain rfl := h2.uniq k2
    exact ⟨h3.inj k3, h4.trans k4.symm⟩
theorem gain_not (buy : Bool) (own : Int) (p : Rat) : gainR (!buy) own p = -gainR buy own p := by
  cases buy <;> simp [gainR, Rat.sub_eq_add_neg, Rat.neg_add, Rat.neg_neg, Rat.add_comm]
theorem smR_not (buy : Bool) (own : Int) : ∀ (X : List Rat) (Q : List Int), smR (gns (!buy) own X Q) = -smR (gns buy own X Q)
  | [], Q => by simp [gns, smR]
  | x :: X, [] => by simp [gns, smR]
  | x :: X, q :: Q => by
    have ih := smR_not buy own X Q
    unfold gns at ih ⊢
    rw [List.zipWith_cons_cons, List.zipWith_cons_cons, smR, smR, ih, gain_not, Rat.neg_mul, Rat.neg_add]
end Go.Proofs.YtbmdoncdgopoaaaGreatDoor
/- result: how long the input is; a number's text and its negative's. -/
namespace Go.Proofs.YtbmdoncdgopoaaaGreatDoor
open Go.RowKit
set_option linter.unusedVariables false
set_option maxRecDepth 100000
set_option linter.unusedSimpArgs false

set_option maxHeartbeats 3200000 in
theorem long16_any (w : World) (fv : Value) (F : List ByteArray) (hf : Strs w fv F) :
    Calls Tryz.prog 18 #[fv] w fun e w' => (∃ m : Nat, e = .returned (.int .i64 (m : Int)) ∧ m ≤ 2200000 ∧ (m ≤ 256 → F.length ≤ 256 ∧ ∀ s ∈ F, s.size ≤ 256)) ∧ w' = w := by
  have HF := hid hf
  obtain ⟨fa, fc, rfl, fl, fm⟩ := hf.slice
  unfold maxLen at fm
  clear hf
  obtain ⟨d0, HD⟩ : ∃ d : Nat, Hid (min F.length 1048576 = d) := ⟨_, hid rfl⟩
  have hd1 : (if (1048576 : Int) < (F.length : Int) then (1048576 : Int) else (F.length : Int)) = (d0 : Int) := by rw [← HD.out]; split <;> omega
  have hd2 : (if 1048576 < F.length then (1048576 : Int) else (F.length : Int)) = (d0 : Int) := by rw [← HD.out]; split <;> omega
  have hd3 : min (F.length : Int) 1048576 = (d0 : Int) := by rw [← HD.out]; omega
  have hd4 : d0 ≤ 1048576 := by rw [← HD.out]; omega
  have HD5 := hid (show d0 ≤ 256 → F.length ≤ 256 by rw [← HD.out]; omega)
  clear HD
  go_enter Tryz.func18, Tryz.ntmps18
  go_wp2_with fail
  clear hd1 hd2 hd3
  go_loopw [3, 4] (fun n i wr => ∃ (k m : Nat), k ≤ F.length ∧ n = .int .i64 (m : Int) ∧ i = .int .i64 (k : Int) ∧ d0 ≤ m ∧ m ≤ 1048576 + 1048576 ∧ Hid (m ≤ 256 → ∀ j, j < k → ∀ hj : j < F.length, F[j].size ≤ 256) ∧ wr = w) (fun n i _ => F.length - (intOf i).toNat)
  case atStart => exact ⟨0, d0, Nat.zero_le _, rfl, rfl, Nat.le_refl _, by omega, hid (fun _ j hj => absurd hj (Nat.not_lt_zero _)), rfl⟩
  case round =>
    obtain ⟨k, m, hk, rfl, rfl, hFm, hmm, HK, hw⟩ := hrel
    rw [hw]
    clear hw
    by_cases hlt : k < F.length
    · have hltI : decide ((k : Int) < (F.length : Int)) = true := decide_eq_true (by omega)
      by_cases h256 : m ≤ 256
      · have h2' : decide ((m : Int) ≤ 256) = true := decide_eq_true (by omega)
        obtain ⟨b, off, c', e, _, _, q0, q1⟩ := HF.out.at k hlt
        simp only [Value.slice.injEq] at e
        obtain ⟨rfl, -, rfl⟩ := e
        unfold maxLen at q1
        have hli : (0 : Int) ≤ (k : Int) ∧ (k : Int) < (F.length : Int) := by omega
        have HS1 := hid (show m + min F[k].size 1048576 ≤ 256 → ∀ j, j < k + 1 → ∀ hj : j < F.length, F[j].size ≤ 256 from fun hh j hj hjl => by
          rcases Nat.lt_or_ge j k with q | q
          · exact HK.out (by omega) j q hjl
          · obtain rfl : j = k := by omega
            omega)
        generalize F[k] = s at *
        obtain ⟨d, HD⟩ : ∃ d : Nat, Hid (min s.size 1048576 = d) := ⟨_, hid rfl⟩
        have hd1 : (if (1048576 : Int) < (s.size : Int) then (1048576 : Int) else (s.size : Int)) = (d : Int) := by rw [← HD.out]; split <;> omega
        have hd2 : (if 1048576 < s.size then (1048576 : Int) else (s.size : Int)) = (d : Int) := by rw [← HD.out]; split <;> omega
        have hd3 : min (s.size : Int) 1048576 = (d : Int) := by rw [← HD.out]; omega
        have hdl : d ≤ 1048576 := by rw [← HD.out]; omega
        rw [HD.out] at HS1
        clear HK HD
        go_wp2_with fail
        go_roundw
        case rel => exact ⟨k + 1, m + d, by omega, by go_num, by go_num, by omega, by omega, HS1, by first | rfl | trivial⟩
        case measure => simp [intOf]; omega
      · have h2' : decide ((m : Int) ≤ 256) = false := decide_eq_false (by omega)
        clear HK
        have HM := hid h256
        clear h256
        go_wp2_with fail
        go_ret
        exact ⟨⟨m, rfl, by omega, fun h => absurd h HM.out⟩, rfl⟩
    · have hltI : decide ((k : Int) < (F.length : Int)) = false := decide_eq_false (by omega)
      have HA := hid (show m ≤ 256 → F.length ≤ 256 ∧ ∀ s ∈ F, s.size ≤ 256 from fun h => ⟨HD5.out (by omega), fun s hs => by
        obtain ⟨j, hj, rfl⟩ := List.mem_iff_getElem.1 hs
        exact HK.out h j (by omega) hj⟩)
      clear HK
      go_wp2_with fail
      go_ret
      exact ⟨⟨m, rfl, by omega, HA.out⟩, rfl⟩
/-- The text of a number and of its negative. -/
theorem ztx_neg {s u : ByteArray} {z : Int} (h : ZTx s z) (k : ZTx u (-z)) : (z = 0 ∧ s = u) ∨ (0 < z ∧ u = minus s) ∨ (z < 0 ∧ s = minus u) := by
  rcases h with ⟨h1, h2, h3⟩ | ⟨h1, s', rfl, h2, h3⟩ <;> rcases k with ⟨k1, k2, k3⟩ | ⟨k1, u', rfl, k2, k3⟩
  · have hz : z = 0 := by omega
    subst hz
    exact Or.inl ⟨rfl, num_inj h2 k2 (by rw [h3, k3]; rfl)⟩
  · exact Or.inr (Or.inl ⟨by omega, by rw [num_inj k2 h2 (by rw [h3, k3, Int.natAbs_neg])]⟩)
  · exact Or.inr (Or.inr ⟨h1, by rw [num_inj h2 k2 (by rw [h3, k3, Int.natAbs_neg])]⟩)
  · omega
theorem minus_slash (a b : ByteArray) : minus (slash a b) = slash (minus a) b := by
  unfold minus slash
  rw [ByteArray.append_assoc, ByteArray.append_assoc, ByteArray.append_assoc]
theorem txr_neg {s u : ByteArray} {q : Rat} (h : TxR s q) (k : TxR u (-q)) : (q = 0 ∧ s = u) ∨ u = minus s ∨ s = minus u := by
  unfold TxR at h k
  rw [Rat.neg_num, Rat.neg_den] at k
  rcases h with ⟨h1, h2⟩ | ⟨h1, a, b, h2, h3, rfl⟩ <;> rcases k with ⟨k1, k2⟩ | ⟨k1, c, d, k2, k3, rfl⟩
  · rcases ztx_neg h2 k2 with ⟨e1, e2⟩ | ⟨_, e⟩ | ⟨_, e⟩
    · exact Or.inl ⟨Rat.num_eq_zero.1 e1, e2⟩
    · exact Or.inr (Or.inl e)
    · exact Or.inr (Or.inr e)
  · exact absurd h1 k1
  · exact absurd k1 h1
  · obtain rfl := h3.inj k3
    rcases ztx_neg h2 k2 with ⟨e1, e2⟩ | ⟨_, e⟩ | ⟨_, e⟩
    · have hq : q = 0 := Rat.num_eq_zero.1 e1
      rw [hq] at h1
      exact absurd rfl h1
    · rw [e]
      exact Or.inr (Or.inl (minus_slash a b).symm)
    · rw [e]
      exact Or.inr (Or.inr (minus_slash c b).symm)
theorem zero_text5 {s : ByteArray} (h : Txt s) (e : num s = 0) : s = ⟨#[48]⟩ := by
  have ht : Txt ⟨#[48]⟩ := by
    refine ⟨by decide, by decide, fun k hk => ?_⟩
    obtain rfl : k = 0 := by have : (⟨#[48]⟩ : ByteArray).size = 1 := rfl; omega
    decide
  exact num_inj h ht (by rw [e]; decide)
theorem txr_zero {s : ByteArray} (h : TxR s 0) : s = ⟨#[48]⟩ := by
  rcases h with ⟨h1, h2⟩ | ⟨h1, _⟩
  · rcases h2 with ⟨_, h3, h4⟩ | ⟨h3, _⟩
    · exact zero_text5 h3 (by rw [h4]; rfl)
    · exact absurd h3 (by decide)
  · exact absurd rfl h1
theorem txt_len5 {s : ByteArray} {m : Nat} (h : Txt s) (k : num s < 10 ^ m) (hm : 1 ≤ m) : s.size ≤ m := by
  apply Decidable.byContradiction
  intro hn
  obtain ⟨h0, h1, h2⟩ := h
  have h3 := dv_ge (s := s) (s.size - 1) (by have := h1 (by omega); have := h2 0 (by omega); omega)
  rw [show s.size - 1 + 1 = s.size by omega] at h3
  have h4 : 10 ^ m ≤ 10 ^ (s.size - 1) := Nat.pow_le_pow_right (by decide) (by omega)
  unfold num at k
  omega
theorem ztx_len5 {s : ByteArray} {z : Int} {m : Nat} (h : ZTx s z) (k : z.natAbs < 10 ^ m) (hm : 1 ≤ m) : s.size ≤ m + 1 := by
  rcases h with ⟨_, h1, h2⟩ | ⟨_, t, rfl, h1, h2⟩
  · have := txt_len5 h1 (by rw [h2]; exact k) hm; omega
  · have := txt_len5 h1 (by rw [h2]; exact k) hm
    rw [minus_size]; omega
theorem txr_len5 {s : ByteArray} {q : Rat} {m : Nat} (h : TxR s q) (k : Lt10 m q) (hm : 1 ≤ m) : s.size ≤ 2 * m + 3 := by
  rcases h with ⟨_, h1⟩ | ⟨_, a, b, h1, h2, rfl⟩
  · have := ztx_len5 h1 k.1 hm; omega
  · have e1 := ztx_len5 h1 k.1 hm
    have e2 := ztx_len5 h2 (by rw [Int.natAbs_natCast]; exact k.2) hm
    rw [slash_size]; omega
theorem SurS.size {buy : Bool} {own z : Int} {Q : List Int} {P : List (List ByteArray)} {s : ByteArray} {e : Int} (h : SurS buy own z Q P s e) (hpr : In64 own) (hQ : ∀ q ∈ Q, In64 q) (hsz : ∀ r ∈ P, ∀ s ∈ r, s.size ≤ 256) (hQl : Q.length ≤ 256) : s.size ≤ 400000 := by
  rcases h with ⟨_, rfl, _⟩ | ⟨_, _, rfl, _⟩ | ⟨h1, X, h2, h3, _⟩
  · decide
  · decide
  · have hX : ∀ x ∈ X, Lt10 300 x := fun x hx => by
      obtain ⟨i, hi, rfl⟩ := List.getElem_of_mem hx
      have hiC : i < (col P z).length := by rw [← h2.len]; exact hi
      refine (canr_lt (h2.is_ i hiC hi)).mono ?_
      have hiP : i < P.length := by rw [col_len] at hiC; exact hiC
      obtain ⟨n, hn⟩ : ∃ n : Nat, z = (n : Int) := Int.eq_ofNat_of_zero_le (h1.2 i hiP).1
      subst hn
      have hzl : n < P[i].length := by have := (h1.2 i hiP).2; omega
      rw [col_at (z := n) hiP hzl]
      have := hsz _ (List.getElem_mem hiP) _ (List.getElem_mem hzl)
      omega
    have hl : X.length = Q.length := by rw [h2.len, col_len]; exact h1.1
    have := txr_len5 h3 (smR_fit (gns_lt (buy := buy) hpr.1 hpr.2 hX hQ) (by rw [gns_len hl, hl]; exact hQl)) (by omega)
    omega
/-- What is told with the other side. -/
theorem SurS.turn {buy : Bool} {own z : Int} {Q : List Int} {P : List (List ByteArray)} {s u : ByteArray} {e g : Int} (h : SurS buy own z Q P s e) (k : SurS (!buy) own z Q P u g) : e = g ∧ (e ≠ 0 ∨ (s = ⟨#[48]⟩ ∧ u = ⟨#[48]⟩) ∨ u = minus s ∨ s = minus u) := by
  rcases h with ⟨h1, h2, h3⟩ | ⟨h1, h2, h3, h4⟩ | ⟨h1, X, h2, h3, h4⟩ <;> rcases k with ⟨k1, k2, k3⟩ | ⟨k1, k2, k3, k4⟩ | ⟨k1, Y, k2, k3, k4⟩
  · exact ⟨h3.trans k3.symm, Or.inl (by rw [h3]; decide)⟩
  · exact absurd k1 h1
  · exact absurd k1 h1
  · exact absurd h1 k1
  · exact ⟨h4.trans k4.symm, Or.inl (by rw [h4]; decide)⟩
  · exact absurd ⟨_, k2⟩ h2
  · exact absurd h1 k1
  · exact absurd ⟨_, h2⟩ k2
  · obtain rfl := h2.uniq k2
    rw [smR_not] at k3
    refine ⟨h4.trans k4.symm, Or.inr ?_⟩
    rcases txr_neg h3 k3 with ⟨e1, e2⟩ | e1 | e1
    · rw [e1] at h3
      have := txr_zero h3
      exact Or.inl ⟨this, e2 ▸ this⟩
    · exact Or.inr (Or.inl e1)
    · exact Or.inr (Or.inr e1)
end Go.Proofs.YtbmdoncdgopoaaaGreatDoor
/- result: the program's Surplus. -/
namespace Go.Proofs.YtbmdoncdgopoaaaGreatDoor
open Go.RowKit
set_option linter.unusedVariables false
set_option maxRecDepth 100000
set_option linter.unusedSimpArgs false

/-- What Parse answers. -/
def PR (w : World) (s : ByteArray) (v : Value) (en : Int) (K : Nat) : Prop := (en = 0 ∧ ∃ q, CanR s q ∧ QIs w v q K) ∨ (en = 10 ∧ ∀ q, ¬ CanR s q)
theorem q_parse2 (s : ByteArray) (w : World) (hs : s.size ≤ 256) (hm : Mx w) (htab : Tab w) :
    Calls Tryz.prog 59 #[.string s] w fun e w' => ∃ a1 l1 c1 d1 a2 l2 c2 d2 en, e = .returned (.tuple #[.agg #[.slice a1 l1 c1, .bool d1, .slice a2 l2 c2, .bool d2], .int .i64 en]) ∧ PR w' s (.agg #[.slice a1 l1 c1, .bool d1, .slice a2 l2 c2, .bool d2]) en 100 ∧ Below w.heap.size w w' := by
  refine (q_parse s w (by omega) hm htab).mono ?_
  rintro e w' ⟨⟨q, v, h1, rfl, h3⟩ | ⟨h1, rfl⟩, b⟩
  · obtain ⟨a1, l1, c1, d1, a2, l2, c2, d2, rfl⟩ := h3.form
    exact ⟨a1, l1, c1, d1, a2, l2, c2, d2, 0, rfl, Or.inl ⟨rfl, q, h1, h3.mono (by omega)⟩, b⟩
  · exact ⟨_, _, _, _, _, _, _, _, 10, rfl, Or.inr ⟨rfl, h1⟩, b⟩
theorem PR.below {w w' : World} {s : ByteArray} {v : Value} {en : Int} {K : Nat} (h : PR w s v en K) (b : Below w.heap.size w w') : PR w' s v en K := by
  rcases h with ⟨h1, q, h2, h3⟩ | h
  · exact Or.inl ⟨h1, q, h2, h3.below b⟩
  · exact Or.inr h
theorem PR.kty {w w' : World} {s : ByteArray} {v : Value} {en : Int} {K : Nat} (h : PR w s v en K) (k : Kty 74 74 w w') : PR w' s v en K := by
  rcases h with ⟨h1, q, h2, h3⟩ | h
  · exact Or.inl ⟨h1, q, h2, h3.kty k (by decide) (by decide)⟩
  · exact Or.inr h
theorem four_new5 (X : World) (t : TypeId) (v0 v1 v2 v3 : Value) : ∀ j u, [v0, v1, v2, v3][j]? = some u → (X.alloc (.cells #[v0, v1, v2, v3] t)).cell? ((⟨X.heap.size, 0, none⟩ : Addr).add j) = some u := by
  intro j u hj
  rw [add_off, Nat.zero_add]
  exact cell_at (L := [v0, v1, v2, v3]) (inew X _) j u hj
set_option maxHeartbeats 12800000 in
theorem surplus_any (w : World) (bwho : ByteArray) (bseq bzone : Int) (bbuy : Bool) (bprice : Int) (bqa : Option Addr) (bqc : Nat) (Q : List Int) (bparent bgroup : Int) (pv : Value) (P : List (List ByteArray)) (hq : Ints w (.slice bqa Q.length bqc) Q) (hp : Sss w pv P)
    (hpr : In64 bprice) (hQ : ∀ q ∈ Q, In64 q) (hsz : ∀ r ∈ P, ∀ s ∈ r, s.size ≤ 256) (hQl : Q.length ≤ 256) (hmx : Mx w) (htab : Tab w) :
    Calls Tryz.prog 19 #[.agg #[.string bwho, .int .i64 bseq, .int .i64 bzone, .bool bbuy, .int .i64 bprice, .slice bqa Q.length bqc, .int .i64 bparent, .int .i64 bgroup], pv] w fun e w' => (∃ s en, e = .returned (.tuple #[.string s, .int .i64 en]) ∧ SurS bbuy bprice bzone Q P s en) ∧ Below w.heap.size w w' := by
  obtain ⟨pa, pc, rfl, pl, pm⟩ := hp.slice
  obtain ⟨qa', qc', e, ql, qm⟩ := hq.slice
  simp only [Value.slice.injEq] at e
  obtain ⟨rfl, -, rfl⟩ := e
  unfold maxLen at pm qm
  have bA := ibel w (Obj.cells #[.string bwho, .int .i64 bseq, .int .i64 bzone, .bool bbuy, .int .i64 bprice, .slice bqa Q.length bqc, .int .i64 bparent, .int .i64 bgroup] 54)
  have xA := inew w (Obj.cells #[.string bwho, .int .i64 bseq, .int .i64 bzone, .bool bbuy, .int .i64 bprice, .slice bqa Q.length bqc, .int .i64 bparent, .int .i64 bgroup] 54)
  have z2 := ibx xA 2 _ rfl
  have z3 := ibx xA 3 _ rfl
  have z4 := ibx xA 4 _ rfl
  have z5 := ibx xA 5 _ rfl
  have HQ := hid (hq.below bA)
  have HP := hid (hp.below bA)
  have HMX := hid (hmx.below bA)
  have HTAB := hid (htab.below bA)
  have HB0 := hid bA
  have HPR := hid hpr
  have HQQ := hid hQ
  have HSZ := hid hsz
  have hbx : w.heap.size < (w.alloc (Obj.cells #[.string bwho, .int .i64 bseq, .int .i64 bzone, .bool bbuy, .int .i64 bprice, .slice bqa Q.length bqc, .int .i64 bparent, .int .i64 bgroup] 54)).heap.size := by simp
  clear hq hp hmx htab hpr hQ hsz xA bA
  by_cases hl : P.length = Q.length
  case neg =>
    have hl2 : ((P.length : Int) == (Q.length : Int)) = false := by
      have : ¬ (P.length : Int) = (Q.length : Int) := by omega
      simpa using this
    have HS := hid (show SurS bbuy bprice bzone Q P ⟨#[]⟩ 120 from Or.inl ⟨fun h => hl h.1, rfl, rfl⟩)
    clear hl
    go_enter Tryz.func19, Tryz.ntmps19
    go_wp2_with fail
    go_ret2
    exact ⟨⟨_, _, rfl, HS.out⟩, HB0.out⟩
  have HL := hid hl
  have hl2 : ((P.length : Int) == (Q.length : Int)) = true := by rw [hl]; simp
  have hl3 : ((P.length : Int) != (Q.length : Int)) = false := by rw [bne, hl2]; rfl
  clear hl
  go_enter Tryz.func19, Tryz.ntmps19
  go_wp2_with fail
  clear hl2 hl3
  generalize w.alloc (Obj.cells #[.string bwho, .int .i64 bseq, .int .i64 bzone, .bool bbuy, .int .i64 bprice, .slice bqa Q.length bqc, .int .i64 bparent, .int .i64 bgroup] 54) = W0 at *
  go_loopw [21] (fun i wr => ∃ k : Nat, k ≤ P.length ∧ i = .int .i64 (k : Int) ∧ Hid ((∀ j (h : j < P.length), j < k → 0 ≤ bzone ∧ bzone < (P[j].length : Int)) ∧ Below W0.heap.size W0 wr)) (fun i _ => P.length - (intOf i).toNat)
  case atStart => exact ⟨0, Nat.zero_le _, rfl, hid ⟨fun j _ h => absurd h (Nat.not_lt_zero _), Below.refl _ _⟩⟩
  case round =>
    obtain ⟨k, hk, rfl, HI⟩ := hrel
    have BW := HB0.out.trans (HI.out.2.mono HB0.out.size)
    have z2 := ikc HI.out.2 z2
    have z3 := ikc HI.out.2 z3
    have z4 := ikc HI.out.2 z4
    have z5 := ikc HI.out.2 z5
    by_cases hlt : k < P.length
    · obtain ⟨pb, po, _, ua, uc, e, gk, hu, ul, um⟩ := (HP.out.below HI.out.2).at k hlt
      simp only [Value.slice.injEq] at e
      obtain ⟨rfl, -, rfl⟩ := e
      unfold maxLen at um
      have HYE := hid (fun (h : 0 ≤ bzone ∧ bzone < (P[k].length : Int)) => show ∀ j (hj : j < P.length), j < k + 1 → 0 ≤ bzone ∧ bzone < (P[j].length : Int) from fun j hj hjk => by
        by_cases hjj : j < k
        · exact HI.out.1 j hj hjj
        · obtain rfl : j = k := by omega
          exact h)
      have HNO := hid (fun (h : ¬ (0 ≤ bzone ∧ bzone < (P[k].length : Int))) => show SurS bbuy bprice bzone Q P ⟨#[]⟩ 120 from Or.inl ⟨fun q => h (q.2 k hlt), rfl, rfl⟩)
      have HBI := hid HI.out.2
      have HBW := hid BW
      clear hu HI BW
      generalize P[k].length = un at *
      by_cases hz : 0 ≤ bzone ∧ bzone < (un : Int)
      · have hb : btw 0 bzone ((un : Int) - 1) = true := by simp [btw]; omega
        have HQ1 := hid (HYE.out hz)
        clear HYE HNO hz
        go_wp2_with (first | (go_at_call 58; refine (pamong_any _ _ _ (by omega) (by omega)).mono ?_; rintro e Y1 ⟨rfl, rfl⟩; rw [hb]) | fail)
        go_roundw
        case rel => exact ⟨k + 1, by omega, by go_num, hid ⟨HQ1.out, HBI.out⟩⟩
        case measure => simp [intOf]; omega
      · have hb : btw 0 bzone ((un : Int) - 1) = false := by simp [btw]; omega
        have HQ1 := hid (HNO.out hz)
        clear HYE HNO hz
        go_wp2_with (first | (go_at_call 58; refine (pamong_any _ _ _ (by omega) (by omega)).mono ?_; rintro e Y1 ⟨rfl, rfl⟩; rw [hb]) | fail)
        go_ret2
        exact ⟨⟨_, _, rfl, HQ1.out⟩, HBW.out⟩
    · obtain rfl : k = P.length := by omega
      have HSH : Hid (Shp bzone Q.length P) := hid ⟨HL.out, fun j hj => HI.out.1 j hj hj⟩
      have HBI := hid HI.out.2
      have HBW := hid BW
      clear HI BW
      generalize hW1 : wr = W1 at *
      clear hW1
      have hQP : Q.length = P.length := HL.out.symm
      have HQP := hid hQP
      clear hQP
      go_wp2_with fail
      have hbx1 : w.heap.size < W1.heap.size := by have := HBI.out.size; omega
      go_loopw [8, 35] (fun lv iv wr => ∃ (k : Nat) (X : List Rat) (C : List (List Value)), k ≤ Q.length ∧ iv = .int .i64 (k : Int) ∧ Hid (Nums ((col P bzone).take k) X) ∧ Hid (QLs wr W1.heap.size lv C (gns bbuy bprice X (Q.take k)) 20000) ∧ Hid (Below W1.heap.size W1 wr)) (fun _ iv _ => Q.length - (intOf iv).toNat)
      case atStart => exact ⟨0, [], [], Nat.zero_le _, rfl, hid Nums.nil, hid ⟨⟨by simp [gns], .inl ⟨rfl, by simp [gns]⟩⟩, by simp [gns], by simp, by simp⟩, hid (Below.refl _ _)⟩
      case round =>
        obtain ⟨k, X, C, hk, rfl, HN, HQL, HBX⟩ := hrel
        obtain ⟨la, lc, rfl, hll, hlm⟩ := HQL.out.slice
        have hXk : X.length = k := by rw [HN.out.len, List.length_take, col_len, ← HQP.out]; omega
        have hgl : (gns bbuy bprice X (Q.take k)).length = k := by rw [gns_len (by rw [List.length_take]; omega), hXk]
        have HXK := hid hXk
        have HGL := hid hgl
        rw [hgl] at hll
        simp only [hgl]
        clear hgl hXk
        have z2 := ikc HBX.out z2
        have z3 := ikc HBX.out z3
        have z4 := ikc HBX.out z4
        have z5 := ikc HBX.out z5
        have BIX := HBI.out.trans (HBX.out.mono HBI.out.size)
        have BWX := HBW.out.trans (HBX.out.mono HBW.out.size)
        by_cases hlt : k < Q.length
        · have hltP : k < P.length := by rw [← HQP.out]; exact hlt
          obtain ⟨z, hz⟩ : ∃ z : Nat, bzone = (z : Int) := Int.eq_ofNat_of_zero_le (HSH.out.2 k hltP).1
          subst hz
          have hzl : z < P[k].length := by have := (HSH.out.2 k hltP).2; omega
          obtain ⟨pb, po, _, ua, uc, e, gk, hu, ul, um⟩ := (HP.out.below BIX).at k hltP
          simp only [Value.slice.injEq] at e
          obtain ⟨rfl, -, rfl⟩ := e
          obtain ⟨ub, uo, _, e, _, _, gz, hss⟩ := hu.at z hzl
          simp only [Value.slice.injEq] at e
          obtain ⟨rfl, -, rfl⟩ := e
          obtain ⟨qb, qo, _, e, _, _, gq⟩ := (HQ.out.below BIX).at k hlt
          simp only [Value.slice.injEq] at e
          obtain ⟨rfl, -, rfl⟩ := e
          unfold maxLen at um
          have hqk := HQQ.out _ (List.getElem_mem hlt)
          have hs256 := HSZ.out _ (List.getElem_mem hltP) _ (List.getElem_mem hzl)
          have hcol : k < (col P (z : Int)).length := by rw [col_len]; exact hltP
          have hct := col_at (z := z) hltP hzl
          have HPU := hid (fun q (hq : CanR P[k][z] q) => HN.out.push (q := q) hcol (by rw [hct]; exact hq))
          have HNO := hid (fun (hq : ∀ q, ¬ CanR P[k][z] q) => show SurS bbuy bprice (z : Int) Q P ⟨#[]⟩ 10 from Or.inr (Or.inl ⟨HSH.out, fun ⟨Y, hY⟩ => hq _ (by have := hY.is_ k hcol (by rw [hY.len]; exact hcol); rwa [hct] at this), rfl, rfl⟩))
          have HGP := hid (fun (p : Rat) => gns_push (buy := bbuy) (own := bprice) HXK.out hlt p)
          have HCL := hid (fun (q : Rat) (hq : CanR P[k][z] q) => show Lt10 300 q from (canr_lt hq).mono (by omega))
          have hzi : (0 : Int) ≤ (z : Int) ∧ (z : Int) < (P[k].length : Int) := by omega
          have hki : (0 : Int) ≤ (k : Int) ∧ (k : Int) < (P.length : Int) := by omega
          clear hu hct hcol
          generalize P[k][z] = s at *
          clear hzl
          generalize P[k].length = un at *
          generalize Q[k] = qk at *
          go_wp2_with fail
          have HKF : Hid (Below wr.heap.size wr wr.drew) := hid (Below.refl _ _).drew
          have HKx := hid (fun (Y : World) (kz : Below wr.heap.size wr Y) => show Y.cell? ⟨pb, po + k, none⟩ = some (.slice (some ⟨ub, uo, none⟩) un uc) ∧ Y.cell? ⟨ub, uo + z, none⟩ = some (.string s) ∧ Y.cell? ⟨w.heap.size, 2, none⟩ = some (.int .i64 (z : Int)) from ⟨ikc kz gk, ikc kz gz, ikc kz z2⟩)
          have HPA := hid (fun (Y : World) (kz : Below wr.heap.size wr Y) => q_parse2 s Y hs256 (HMX.out.below (BIX.trans (kz.mono BIX.size))) (HTAB.out.below (BIX.trans (kz.mono BIX.size))))
          have HWB := hid BWX
          have HIX := hid BIX
          generalize hWr : wr = W at *
          clear hWr
          refine wp_region_noPanic ?_
          refine wp_region_held_drew (S := fun Y => Y.cell? ⟨pb, po + k, none⟩ = some (.slice (some ⟨ub, uo, none⟩) un uc) ∧ Y.cell? ⟨ub, uo + z, none⟩ = some (.string s) ∧ Y.cell? ⟨w.heap.size, 2, none⟩ = some (.int .i64 (z : Int))) (by kernel_rfl) (HKx.out _ HKF.out) (fun hHeld => ?_)
          refine wpAnyH_take (i := 0) (v := ?_) rfl (by kernel_rfl) (by kernel_rfl) (by kernel_rfl) (fun _ _ _ h => h) (Or.inl ⟨by rfl, ?_⟩) (by assumption) ?_
          rotate_left
          · intro w hSw
            (try dsimp only at hSw)
            go_simp
            (try with_reducible rfl)
          (try simp only [List.getElem_toArray, List.getElem_cons_zero, List.getElem_cons_succ, Act.put, List.setIfInBounds_toArray, List.set_cons_zero, List.set_cons_succ])
          refine wpAnyH_take (i := 1) (v := ?_) rfl (by kernel_rfl) (by kernel_rfl) (by kernel_rfl) (fun _ _ _ h => h) (Or.inl ⟨by rfl, ?_⟩) (by assumption) ?_
          rotate_left
          · intro w hSw
            (try dsimp only at hSw)
            go_simp
            (try with_reducible rfl)
          (try simp only [List.getElem_toArray, List.getElem_cons_zero, List.getElem_cons_succ, Act.put, List.setIfInBounds_toArray, List.set_cons_zero, List.set_cons_succ])
          refine wpAnyH_take (i := 2) (v := ?_) rfl (by kernel_rfl) (by kernel_rfl) (by kernel_rfl) (fun _ _ _ h => h) (Or.inl ⟨by rfl, ?_⟩) (by assumption) ?_
          rotate_left
          · intro w hSw
            (try dsimp only at hSw)
            go_simp
            (try with_reducible rfl)
          (try simp only [List.getElem_toArray, List.getElem_cons_zero, List.getElem_cons_succ, Act.put, List.setIfInBounds_toArray, List.set_cons_zero, List.set_cons_succ])
          refine wpAnyH_take (i := 3) (v := ?_) rfl (by kernel_rfl) (by kernel_rfl) (by kernel_rfl) (fun _ _ _ h => h) (Or.inl ⟨by rfl, ?_⟩) (by assumption) ?_
          rotate_left
          · intro w hSw
            (try dsimp only at hSw)
            go_simp
            (try with_reducible rfl)
          (try simp only [List.getElem_toArray, List.getElem_cons_zero, List.getElem_cons_succ, Act.put, List.setIfInBounds_toArray, List.set_cons_zero, List.set_cons_succ])
          refine wpAnyH_take (i := 4) (v := ?_) rfl (by kernel_rfl) (by kernel_rfl) (by kernel_rfl) (fun _ _ _ h => h) (Or.inl ⟨by rfl, ?_⟩) (by assumption) ?_
          rotate_left
          · intro w hSw
            (try dsimp only at hSw)
            go_simp
            (try with_reducible rfl)
          (try simp only [List.getElem_toArray, List.getElem_cons_zero, List.getElem_cons_succ, Act.put, List.setIfInBounds_toArray, List.set_cons_zero, List.set_cons_succ])
          refine wpAnyH_take (i := 5) (v := ?_) rfl (by kernel_rfl) (by kernel_rfl) (by kernel_rfl) (fun _ _ _ h => h) (Or.inl ⟨by rfl, ?_⟩) (by assumption) ?_
          rotate_left
          · intro w hSw
            (try dsimp only at hSw)
            go_simp
            (try with_reducible rfl)
          (try simp only [List.getElem_toArray, List.getElem_cons_zero, List.getElem_cons_succ, Act.put, List.setIfInBounds_toArray, List.set_cons_zero, List.set_cons_succ])
          refine wpAnyH_take (i := 6) (v := ?_) rfl (by kernel_rfl) (by kernel_rfl) (by kernel_rfl) (fun _ _ _ h => h) (Or.inl ⟨by rfl, ?_⟩) (by assumption) ?_
          rotate_left
          · intro w hSw
            (try dsimp only at hSw)
            go_simp
            (try with_reducible rfl)
          (try simp only [List.getElem_toArray, List.getElem_cons_zero, List.getElem_cons_succ, Act.put, List.setIfInBounds_toArray, List.set_cons_zero, List.set_cons_succ])
          refine wpAnyH_take (i := 7) (v := ?_) rfl (by kernel_rfl) (by kernel_rfl) (by kernel_rfl) (fun _ _ _ h => h) (Or.inl ⟨by rfl, ?_⟩) (by assumption) ?_
          rotate_left
          · intro w hSw
            (try dsimp only at hSw)
            go_simp
            (try with_reducible rfl)
          (try simp only [List.getElem_toArray, List.getElem_cons_zero, List.getElem_cons_succ, Act.put, List.setIfInBounds_toArray, List.set_cons_zero, List.set_cons_succ])
          refine wpAnyH_ready (rs := [8, 12]) (by kernel_rfl) (by simp) ?_
          refine AllReadyH.cons (o := _) rfl (fun Kc hKc => ?_) (AllReadyH.cons (o := _) rfl (fun Kc hKc => ?_) (AllReadyH.nil))
          · go_simp
            (go_at_call 59; refine (HPA.out _ HKF.out).mono ?_; rintro e Y1 ⟨a1, l1, c1, d1, a2, l2, c2, d2, en, rfl, hpr, bb⟩; have F1 : Below W.heap.size W Y1 := (by first | exact bb | exact ⟨bb.os, bb.tape, bb.output, bb.size, bb.block⟩))
            dsimp only
            refine hKc.out _ _ (HKx.out _ F1) (fun hHeld => ?_)
            clear hKc Kc
            (try simp only [List.getElem_toArray, List.getElem_cons_zero, List.getElem_cons_succ, Act.put, List.setIfInBounds_toArray, List.set_cons_zero, List.set_cons_succ])
            refine wpAnyH_take (i := 9) (v := ?_) rfl (by kernel_rfl) (by kernel_rfl) (by kernel_rfl) (fun _ _ _ h => h) (Or.inl ⟨by rfl, ?_⟩) (by assumption) ?_
            rotate_left
            · intro w hSw
              (try dsimp only at hSw)
              go_simp
              (try with_reducible rfl)
            (try simp only [List.getElem_toArray, List.getElem_cons_zero, List.getElem_cons_succ, Act.put, List.setIfInBounds_toArray, List.set_cons_zero, List.set_cons_succ])
            refine wpAnyH_take (i := 10) (v := ?_) rfl (by kernel_rfl) (by kernel_rfl) (by kernel_rfl) (fun _ _ _ h => h) (Or.inl ⟨by rfl, ?_⟩) (by assumption) ?_
            rotate_left
            · intro w hSw
              (try dsimp only at hSw)
              go_simp
              (try with_reducible rfl)
            (try simp only [List.getElem_toArray, List.getElem_cons_zero, List.getElem_cons_succ, Act.put, List.setIfInBounds_toArray, List.set_cons_zero, List.set_cons_succ])
            refine wpAnyH_take (i := 11) (v := ?_) rfl (by kernel_rfl) (by kernel_rfl) (by kernel_rfl) (fun _ _ _ h => h) (Or.inl ⟨by rfl, ?_⟩) (by assumption) ?_
            rotate_left
            · intro w hSw
              (try dsimp only at hSw)
              go_simp
              (try with_reducible rfl)
            (try simp only [List.getElem_toArray, List.getElem_cons_zero, List.getElem_cons_succ, Act.put, List.setIfInBounds_toArray, List.set_cons_zero, List.set_cons_succ])
            refine wpAnyH_ready (rs := [12]) (by kernel_rfl) (by simp) ?_
            refine AllReadyH.cons (o := _) rfl (fun Kc hKc => ?_) AllReadyH.nil
            go_simp
            refine hKc.out _ _ (HKx.out _ (F1.trans ((ibel Y1 (Obj.cells #[.slice none 0 0, .bool false, .slice none 0 0, .bool false] 74)).mono F1.size))) (fun hHeld => ?_)
            clear hKc Kc
            (try simp only [List.getElem_toArray, List.getElem_cons_zero, List.getElem_cons_succ, Act.put, List.setIfInBounds_toArray, List.set_cons_zero, List.set_cons_succ])
            have F2 := F1.trans ((ibel Y1 (Obj.cells #[.slice none 0 0, .bool false, .slice none 0 0, .bool false] 74)).mono F1.size)
            have zr := box_new Y1 (Obj.cells #[.slice none 0 0, .bool false, .slice none 0 0, .bool false] 74)
            obtain ⟨i0, i1, i2, i3⟩ := four_cell zr
            have fr := free_four zr
            refine wpAnyH_ready (rs := [13]) (by kernel_rfl) (by simp) ?_
            refine AllReadyH.cons (o := _) rfl (fun Kc hKc => ?_) AllReadyH.nil
            go_simp
            refine hKc.out _ _ (HKx.out _ (F1.trans ((ibel Y1 (Obj.cells #[.slice a1 l1 c1, .bool d1, .slice a2 l2 c2, .bool d2] 74)).mono F1.size))) (fun hHeld => ?_)
            clear hKc Kc
            (try simp only [List.getElem_toArray, List.getElem_cons_zero, List.getElem_cons_succ, Act.put, List.setIfInBounds_toArray, List.set_cons_zero, List.set_cons_succ])
            refine wpAnyH_take (i := 14) (v := ?_) rfl (by kernel_rfl) (by kernel_rfl) (by kernel_rfl) (fun _ _ _ h => h) (Or.inl ⟨by rfl, ?_⟩) (by assumption) ?_
            rotate_left
            · intro w hSw
              (try dsimp only at hSw)
              go_simp
              (try with_reducible rfl)
            (try simp only [List.getElem_toArray, List.getElem_cons_zero, List.getElem_cons_succ, Act.put, List.setIfInBounds_toArray, List.set_cons_zero, List.set_cons_succ])
            refine wpAnyH_done (by kernel_rfl) ?_ _
            refine NoPanic.normal ?_
            have HBOX := hid (box_new Y1 (Obj.cells #[.slice a1 l1 c1, .bool d1, .slice a2 l2 c2, .bool d2] 74))
            have HPRE := hid (hpr.below (ibel Y1 (Obj.cells #[.slice a1 l1 c1, .bool d1, .slice a2 l2 c2, .bool d2] 74)))
            have HB2 := hid (F1.trans ((ibel Y1 (Obj.cells #[.slice a1 l1 c1, .bool d1, .slice a2 l2 c2, .bool d2] 74)).mono F1.size))
            have HGE := hid F1.size
            clear zr i0 i1 i2 i3 fr hpr F1 F2 bb
            generalize Y1.alloc (Obj.cells #[.slice a1 l1 c1, .bool d1, .slice a2 l2 c2, .bool d2] 74) = X2 at *
            generalize Y1.heap.size = gb at *
            rcases HPRE.out with ⟨hen, q, hcq, hqv⟩ | ⟨hen, hnc⟩
            · subst hen
              have HNX := hid (HPU.out q hcq)
              have HG1 := hid (HGP.out q)
              have HLT := hid (gain2_lt (buy := bbuy) HPR.out.1 HPR.out.2 hqk.1 hqk.2 (HCL.out q hcq))
              obtain ⟨y0, y1, y2, y3⟩ := four_cell HBOX.out
              have z3 := ikc HB2.out z3
              have z4 := ikc HB2.out z4
              clear HPU HNO HGP HCL hcq HPA HKF HKx HPRE
              go_wp2_with fail
              refine (gain_any X2 bbuy bprice _ q 100 (by omega) (by omega) HPR.out.1 HPR.out.2 hqv).mono ?_
              rintro e Y3 ⟨v3, rfl, n3, b3⟩
              have B3 := HB2.out.trans (b3.mono HB2.out.size)
              clear hqv
              go_wp2_with fail
              refine (q_of Y3 qk hqk.1 hqk.2).mono ?_
              rintro e Y4 ⟨v4, rfl, n4, b4⟩
              have B4 := B3.trans (b4.mono B3.size)
              have n3 := n3.below b4
              go_wp2_with fail
              refine (q_mul Y4 _ _ _ _ 212 (by omega) n3 (n4.mono (by omega))).mono ?_
              rintro e Y5 ⟨v5, rfl, n5, b5⟩
              have B5 := B4.trans (b5.mono B4.size)
              have n6 := (n5.fit HLT.out).mono (show 700 / 9 + 1 ≤ 20000 by omega)
              obtain ⟨a5, l5, c5, d5, a6, l6, c6, d6, rfl⟩ := n6.form
              have bN := ibel Y5 (Obj.cells #[.slice a5 l5 c5, .bool d5, .slice a6 l6 c6, .bool d6] 74)
              have B6 := B5.trans (bN.mono B5.size)
              have la6 := Ls.below (fun h b => h.below b) HQL.out B6
              have own := la6.own
              rw [HGL.out] at own
              have hfn := four_new5 Y5 74 (.slice a5 l5 c5) (.bool d5) (.slice a6 l6 c6) (.bool d6)
              have HLA := hid la6
              have HQA := hid (n6.below bN)
              have HBY2 := hid B6
              have hbs : W1.heap.size ≤ (Y5.alloc (Obj.cells #[.slice a5 l5 c5, .bool d5, .slice a6 l6 c6, .bool d6] 74)).heap.size := Nat.le_trans HBX.out.size B6.size
              obtain ⟨i0, hi0, hz0, hz1, hz2⟩ := info_parts info_RatZ
              clear la6 bN B6 n3 n4 n5 n6 b3 b4 b5 B3 B4 B5 y0 y1 y2 y3
              go_wp2_with (at_builtin; refine wpList_append_own_at _ rfl _ _ 66 rfl W1.heap.size 74 i0 (.agg #[.slice none 0 0, .bool false, .slice none 0 0, .bool false]) 4 64 Tryz.underlying66 hi0 hz0 hz1 hz2 rfl (by decide) (.slice la k lc) k C.flatten rfl own ⟨Y5.heap.size, 0, none⟩ 1 1 [.slice a5 l5 c5, .bool d5, .slice a6 l6 c6, .bool d6] rfl rfl hfn (by intro u hu; simp at hu; rcases hu with rfl | rfl | rfl | rfl <;> rfl) (by unfold maxLen; omega) (by omega) hbs ?_)
              intro v' Y7 o7 hg7 _ hat7
              have kg : Kty 74 74 _ Y7 := Kty.of_grown hg7 (fun g hg => own_ty own g hg)
              have hpush := Ls.push HLA.out (w' := Y7) (v' := v') (x0 := .slice a5 l5 c5) (x1 := .bool d5) (x2 := .slice a6 l6 c6) (x3 := .bool d6) (q := gainR bbuy bprice q * (qk : Rat)) (by rw [HGL.out]; exact o7) (fun h => QIs.kty h kg (by decide) (by decide)) HQA.out
              rw [← HG1.out] at hpush
              have B7 := (HBX.out.trans (HBY2.out.mono HBX.out.size)).grown hg7 hbs (fun g hg => (own.lt g hg).1)
              have HPS := hid hpush
              have HB7 := hid B7
              clear hpush kg own hfn o7 hg7 hat7 hbs B7
              go_wp2_with fail
              go_roundw
              case rel => exact ⟨k + 1, X ++ [q], _, by omega, by go_num, HNX, HPS, HB7⟩
              case measure => simp [intOf]; omega
            · subst hen
              have HS := hid (HNO.out hnc)
              have HBF := hid (HWB.out.trans (HB2.out.mono HWB.out.size))
              clear HPU HNO HGP HCL HPA HKF HKx HPRE HQL
              go_wp2_with fail
              go_ret2
              exact ⟨⟨_, _, rfl, HS.out⟩, HBF.out⟩
          · go_simp
            have FA : Below W.heap.size W (W.drew.alloc (Obj.cells #[.slice none 0 0, .bool false, .slice none 0 0, .bool false] 74)) := HKF.out.alloc HKF.out.size (Obj.cells #[.slice none 0 0, .bool false, .slice none 0 0, .bool false] 74)
            have zb : (W.drew.alloc (Obj.cells #[.slice none 0 0, .bool false, .slice none 0 0, .bool false] 74)).heap[W.heap.size]? = some (Obj.cells #[.slice none 0 0, .bool false, .slice none 0 0, .bool false] 74) := box_new W.drew (Obj.cells #[.slice none 0 0, .bool false, .slice none 0 0, .bool false] 74)
            refine hKc.out _ _ (HKx.out _ FA) (fun hHeld => ?_)
            clear hKc Kc
            (try simp only [List.getElem_toArray, List.getElem_cons_zero, List.getElem_cons_succ, Act.put, List.setIfInBounds_toArray, List.set_cons_zero, List.set_cons_succ])
            refine wpAnyH_ready (rs := [8]) (by kernel_rfl) (by simp) ?_
            refine AllReadyH.cons (o := _) rfl (fun Kc hKc => ?_) AllReadyH.nil
            go_simp
            (go_at_call 59; refine (HPA.out _ FA).mono ?_; rintro e Y1 ⟨a1, l1, c1, d1, a2, l2, c2, d2, en, rfl, hpr, bb⟩; have F1 : Below W.heap.size W Y1 := FA.trans (bb.mono FA.size))
            dsimp only
            refine hKc.out _ _ (HKx.out _ F1) (fun hHeld => ?_)
            clear hKc Kc
            (try simp only [List.getElem_toArray, List.getElem_cons_zero, List.getElem_cons_succ, Act.put, List.setIfInBounds_toArray, List.set_cons_zero, List.set_cons_succ])
            refine wpAnyH_take (i := 9) (v := ?_) rfl (by kernel_rfl) (by kernel_rfl) (by kernel_rfl) (fun _ _ _ h => h) (Or.inl ⟨by rfl, ?_⟩) (by assumption) ?_
            rotate_left
            · intro w hSw
              (try dsimp only at hSw)
              go_simp
              (try with_reducible rfl)
            (try simp only [List.getElem_toArray, List.getElem_cons_zero, List.getElem_cons_succ, Act.put, List.setIfInBounds_toArray, List.set_cons_zero, List.set_cons_succ])
            refine wpAnyH_take (i := 10) (v := ?_) rfl (by kernel_rfl) (by kernel_rfl) (by kernel_rfl) (fun _ _ _ h => h) (Or.inl ⟨by rfl, ?_⟩) (by assumption) ?_
            rotate_left
            · intro w hSw
              (try dsimp only at hSw)
              go_simp
              (try with_reducible rfl)
            (try simp only [List.getElem_toArray, List.getElem_cons_zero, List.getElem_cons_succ, Act.put, List.setIfInBounds_toArray, List.set_cons_zero, List.set_cons_succ])
            refine wpAnyH_take (i := 11) (v := ?_) rfl (by kernel_rfl) (by kernel_rfl) (by kernel_rfl) (fun _ _ _ h => h) (Or.inl ⟨by rfl, ?_⟩) (by assumption) ?_
            rotate_left
            · intro w hSw
              (try dsimp only at hSw)
              go_simp
              (try with_reducible rfl)
            (try simp only [List.getElem_toArray, List.getElem_cons_zero, List.getElem_cons_succ, Act.put, List.setIfInBounds_toArray, List.set_cons_zero, List.set_cons_succ])
            have zr := box_below bb zb (lt_of_block zb)
            obtain ⟨i0, i1, i2, i3⟩ := four_cell zr
            have fr := free_four zr
            refine wpAnyH_ready (rs := [13]) (by kernel_rfl) (by simp) ?_
            refine AllReadyH.cons (o := _) rfl (fun Kc hKc => ?_) AllReadyH.nil
            go_simp
            refine hKc.out _ _ (HKx.out _ (set4_below (o := 0) F1 (Nat.le_refl _) (.slice a1 l1 c1) (.bool d1) (.slice a2 l2 c2) (.bool d2))) (fun hHeld => ?_)
            clear hKc Kc
            (try simp only [List.getElem_toArray, List.getElem_cons_zero, List.getElem_cons_succ, Act.put, List.setIfInBounds_toArray, List.set_cons_zero, List.set_cons_succ])
            refine wpAnyH_take (i := 14) (v := ?_) rfl (by kernel_rfl) (by kernel_rfl) (by kernel_rfl) (fun _ _ _ h => h) (Or.inl ⟨by rfl, ?_⟩) (by assumption) ?_
            rotate_left
            · intro w hSw
              (try dsimp only at hSw)
              go_simp
              (try with_reducible rfl)
            (try simp only [List.getElem_toArray, List.getElem_cons_zero, List.getElem_cons_succ, Act.put, List.setIfInBounds_toArray, List.set_cons_zero, List.set_cons_succ])
            refine wpAnyH_done (by kernel_rfl) ?_ _
            refine NoPanic.normal ?_
            have HBOX := hid (set4g zr (.slice a1 l1 c1) (.bool d1) (.slice a2 l2 c2) (.bool d2))
            have HPRE := hid (PR.kty hpr (set4_kty (o := 0) (t1 := 74) (t2 := 74) zr (Or.inl rfl) (.slice a1 l1 c1) (.bool d1) (.slice a2 l2 c2) (.bool d2)))
            have HB2 := hid (set4_below (o := 0) F1 (Nat.le_refl _) (.slice a1 l1 c1) (.bool d1) (.slice a2 l2 c2) (.bool d2))
            have HGE := hid (Nat.le_refl W.heap.size)
            clear zr zb i0 i1 i2 i3 fr hpr F1 FA bb
            simp only [Nat.zero_add] at HPRE HB2
            generalize (((Y1.setCell ⟨W.heap.size, 0, none⟩ (.slice a1 l1 c1)).setCell ⟨W.heap.size, 1, none⟩ (.bool d1)).setCell ⟨W.heap.size, 2, none⟩ (.slice a2 l2 c2)).setCell ⟨W.heap.size, 3, none⟩ (.bool d2) = X2 at *
            rcases HPRE.out with ⟨hen, q, hcq, hqv⟩ | ⟨hen, hnc⟩
            · subst hen
              have HNX := hid (HPU.out q hcq)
              have HG1 := hid (HGP.out q)
              have HLT := hid (gain2_lt (buy := bbuy) HPR.out.1 HPR.out.2 hqk.1 hqk.2 (HCL.out q hcq))
              obtain ⟨y0, y1, y2, y3⟩ := four_cell HBOX.out
              have z3 := ikc HB2.out z3
              have z4 := ikc HB2.out z4
              clear HPU HNO HGP HCL hcq HPA HKF HKx HPRE
              go_wp2_with fail
              refine (gain_any X2 bbuy bprice _ q 100 (by omega) (by omega) HPR.out.1 HPR.out.2 hqv).mono ?_
              rintro e Y3 ⟨v3, rfl, n3, b3⟩
              have B3 := HB2.out.trans (b3.mono HB2.out.size)
              clear hqv
              go_wp2_with fail
              refine (q_of Y3 qk hqk.1 hqk.2).mono ?_
              rintro e Y4 ⟨v4, rfl, n4, b4⟩
              have B4 := B3.trans (b4.mono B3.size)
              have n3 := n3.below b4
              go_wp2_with fail
              refine (q_mul Y4 _ _ _ _ 212 (by omega) n3 (n4.mono (by omega))).mono ?_
              rintro e Y5 ⟨v5, rfl, n5, b5⟩
              have B5 := B4.trans (b5.mono B4.size)
              have n6 := (n5.fit HLT.out).mono (show 700 / 9 + 1 ≤ 20000 by omega)
              obtain ⟨a5, l5, c5, d5, a6, l6, c6, d6, rfl⟩ := n6.form
              have bN := ibel Y5 (Obj.cells #[.slice a5 l5 c5, .bool d5, .slice a6 l6 c6, .bool d6] 74)
              have B6 := B5.trans (bN.mono B5.size)
              have la6 := Ls.below (fun h b => h.below b) HQL.out B6
              have own := la6.own
              rw [HGL.out] at own
              have hfn := four_new5 Y5 74 (.slice a5 l5 c5) (.bool d5) (.slice a6 l6 c6) (.bool d6)
              have HLA := hid la6
              have HQA := hid (n6.below bN)
              have HBY2 := hid B6
              have hbs : W1.heap.size ≤ (Y5.alloc (Obj.cells #[.slice a5 l5 c5, .bool d5, .slice a6 l6 c6, .bool d6] 74)).heap.size := Nat.le_trans HBX.out.size B6.size
              obtain ⟨i0, hi0, hz0, hz1, hz2⟩ := info_parts info_RatZ
              clear la6 bN B6 n3 n4 n5 n6 b3 b4 b5 B3 B4 B5 y0 y1 y2 y3
              go_wp2_with (at_builtin; refine wpList_append_own_at _ rfl _ _ 66 rfl W1.heap.size 74 i0 (.agg #[.slice none 0 0, .bool false, .slice none 0 0, .bool false]) 4 64 Tryz.underlying66 hi0 hz0 hz1 hz2 rfl (by decide) (.slice la k lc) k C.flatten rfl own ⟨Y5.heap.size, 0, none⟩ 1 1 [.slice a5 l5 c5, .bool d5, .slice a6 l6 c6, .bool d6] rfl rfl hfn (by intro u hu; simp at hu; rcases hu with rfl | rfl | rfl | rfl <;> rfl) (by unfold maxLen; omega) (by omega) hbs ?_)
              intro v' Y7 o7 hg7 _ hat7
              have kg : Kty 74 74 _ Y7 := Kty.of_grown hg7 (fun g hg => own_ty own g hg)
              have hpush := Ls.push HLA.out (w' := Y7) (v' := v') (x0 := .slice a5 l5 c5) (x1 := .bool d5) (x2 := .slice a6 l6 c6) (x3 := .bool d6) (q := gainR bbuy bprice q * (qk : Rat)) (by rw [HGL.out]; exact o7) (fun h => QIs.kty h kg (by decide) (by decide)) HQA.out
              rw [← HG1.out] at hpush
              have B7 := (HBX.out.trans (HBY2.out.mono HBX.out.size)).grown hg7 hbs (fun g hg => (own.lt g hg).1)
              have HPS := hid hpush
              have HB7 := hid B7
              clear hpush kg own hfn o7 hg7 hat7 hbs B7
              go_wp2_with fail
              go_roundw
              case rel => exact ⟨k + 1, X ++ [q], _, by omega, by go_num, HNX, HPS, HB7⟩
              case measure => simp [intOf]; omega
            · subst hen
              have HS := hid (HNO.out hnc)
              have HBF := hid (HWB.out.trans (HB2.out.mono HWB.out.size))
              clear HPU HNO HGP HCL HPA HKF HKx HPRE HQL
              go_wp2_with fail
              go_ret2
              exact ⟨⟨_, _, rfl, HS.out⟩, HBF.out⟩

        · obtain rfl : k = Q.length := by omega
          have HNX : Hid (Nums (col P bzone) X) := hid (by have := HN.out; rwa [show Q.length = (col P bzone).length by rw [col_len]; exact HQP.out, List.take_length] at this)
          have HQF := hid (show QLs wr W1.heap.size (.slice la Q.length lc) C (gns bbuy bprice X Q) 20000 by
            have := HQL.out
            rw [HGL.out, List.take_length] at this
            exact this)
          have hgl2 : (gns bbuy bprice X Q).length = Q.length := by have := HGL.out; rwa [List.take_length] at this
          have hXlt : ∀ x ∈ X, Lt10 300 x := fun x hx => by
            obtain ⟨i, hi, rfl⟩ := List.getElem_of_mem hx
            have hiC : i < (col P bzone).length := by rw [← HNX.out.len]; exact hi
            have h0 := HNX.out.is_ i hiC hi
            refine (canr_lt h0).mono ?_
            have hiP : i < P.length := by rw [col_len] at hiC; exact hiC
            obtain ⟨z, hz⟩ : ∃ z : Nat, bzone = (z : Int) := Int.eq_ofNat_of_zero_le (HSH.out.2 i hiP).1
            subst hz
            have hzl : z < P[i].length := by have := (HSH.out.2 i hiP).2; omega
            rw [col_at (z := z) hiP hzl]
            have := HSZ.out _ (List.getElem_mem hiP) _ (List.getElem_mem hzl)
            omega
          have hglt := gns_lt (buy := bbuy) HPR.out.1 HPR.out.2 hXlt HQQ.out
          have HTO := hid (totalOf_any 256 wr (gns bbuy bprice X Q) (.slice la Q.length lc) (by omega) (by omega) hglt (Rrow.of_ls HQF.out))
          have HBF := hid BWX
          have HTB := hid (HTAB.out.below BIX)
          clear hXlt hglt hgl2 HQL HN HQF BWX BIX HGL HXK
          go_wp2_with fail
          refine HTO.out.mono ?_
          rintro e Y3 ⟨v3, rfl, n3, b3⟩
          have HTB3 := HTB.out.below b3
          have B3 := HBF.out.trans (b3.mono HBF.out.size)
          clear HTO
          go_wp2_with fail
          refine (q_text Y3 v3 _ 20000 (by omega) n3 HTB3).mono ?_
          rintro e Y4 ⟨⟨s, rfl, hs⟩, b4⟩
          have HS : Hid (SurS bbuy bprice bzone Q P s 0) := hid (Or.inr (Or.inr ⟨HSH.out, X, HNX.out, hs, rfl⟩))
          have HB4 := hid (B3.trans (b4.mono B3.size))
          clear hs n3 b3 b4 B3
          go_wp2_with fail
          go_ret2
          exact ⟨⟨_, _, rfl, HS.out⟩, HB4.out⟩
end Go.Proofs.YtbmdoncdgopoaaaGreatDoor
