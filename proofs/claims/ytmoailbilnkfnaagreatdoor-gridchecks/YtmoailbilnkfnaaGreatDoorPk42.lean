/- CLv, CNums, CDot, HNums, HNumsW. -/
import Derived.Test.YtmoailbilnkfnaaGreatDoorZCLev
import Derived.Deep.RegionWith
/- cert: the one denominator of a list. -/
namespace Go.Proofs.YtmoailbilnkfnaaGreatDoor
open Go.RowKit
set_option linter.unusedVariables false
set_option maxRecDepth 100000
set_option linter.unusedSimpArgs false

theorem lt10_nat {d m : Nat} (hm : m ≠ 0) (h : d < 10 ^ m) : Lt10 m ((d : Nat) : Rat) := ⟨by rw [Rat.num_natCast, Int.natAbs_natCast]; exact h, by rw [Rat.den_natCast]; exact Nat.one_lt_pow hm (by decide)⟩
/-- The denominator of all of them. -/
def lvl (X : List Rat) : Rat := X.foldl (fun m x => m * (((m * x).den : Nat) : Rat)) 1
theorem lvl_succ (X : List Rat) (k : Nat) (h : k < X.length) : lvl (X.take (k + 1)) = lvl (X.take k) * (((lvl (X.take k) * X[k]).den : Nat) : Rat) := by
  unfold lvl
  rw [List.take_succ_eq_append_getElem h, List.foldl_append]; rfl
structure LvOk (n : Nat) (m : Rat) : Prop where
  den : m.den = 1
  pos : 0 < m
  lt : Lt10 (700 * n + 1) m
theorem lvl_ok (X : List Rat) (hX : ∀ x ∈ X, Lt10 700 x) : ∀ k, k ≤ X.length → LvOk k (lvl (X.take k))
  | 0, _ => ⟨rfl, by show (0 : Rat) < 1; decide, Lt10.one⟩
  | k + 1, h => by
    have hk : k < X.length := h
    have ih := lvl_ok X hX k (by omega)
    have hx := hX _ (List.getElem_mem hk)
    rw [lvl_succ X k hk]
    generalize lvl (X.take k) = m at *
    generalize X[k] = x at *
    have hd : (m * x).den ≤ x.den := Nat.le_of_dvd x.den_pos (den_int_mul ih.den)
    have hdp := (m * x).den_pos
    refine ⟨?_, ?_, ?_⟩
    · have := den_int_mul (m := m) (q := (((m * x).den : Nat) : Rat)) ih.den
      rw [Rat.den_natCast] at this
      exact Nat.dvd_one.1 this
    · exact Rat.mul_pos ih.pos (Rat.natCast_pos.2 hdp)
    · have h1 : Lt10 700 (((m * x).den : Nat) : Rat) := lt10_nat (by decide) (Nat.lt_of_le_of_lt hd hx.2)
      exact (ih.lt.mul h1).mono (by omega)
theorem lv_fit {w : World} {v : Value} {m : Rat} {K n : Nat} (h : QIs w v m K) (hm : LvOk n m) (hn : n ≤ 64) : QIs w v m 5100 := (h.fit (hm.lt.mono (show 700 * n + 1 ≤ 44900 by omega))).mono (by decide)
theorem top_fit {w : World} {v : Value} {x m : Rat} {K n : Nat} (h : QIs w v (x * m) K) (hx : Lt10 700 x) (hm : LvOk n m) (hn : n ≤ 64) : QIs w v (x * m) 5100 := (h.fit ((hx.mul hm.lt).mono (show 700 + (700 * n + 1) ≤ 45600 by omega))).mono (by decide)
theorem map_succ (X : List Rat) (m : Rat) (k : Nat) (h : k < X.length) : (X.take (k + 1)).map (fun x => x * m) = (X.take k).map (fun x => x * m) ++ [X[k] * m] := by
  rw [List.take_succ_eq_append_getElem h, List.map_append]; rfl
/-- v is the list X: its numbers times m, and m. -/
def LIs (w : World) (tv p1 p2 p3 p4 : Value) (X : List Rat) : Prop :=
  ∃ m base C, 0 < m ∧ Lt10 44900 m ∧ X.length ≤ 64 ∧ (∀ x ∈ X, Lt10 700 x) ∧ QIs w (.agg #[p1, p2, p3, p4]) m 5100 ∧ QLs w base tv C (X.map (fun x => x * m)) 5100
theorem LIs.below {w w' : World} {tv p1 p2 p3 p4 : Value} {X : List Rat} (h : LIs w tv p1 p2 p3 p4 X) (b : Below w.heap.size w w') : LIs w' tv p1 p2 p3 p4 X := by
  obtain ⟨m, base, C, h1, h4, h5, h6, h2, h3⟩ := h
  exact ⟨m, base, C, h1, h4, h5, h6, h2.below b, Ls.below (fun h b => h.below b) h3 b⟩
end Go.Proofs.YtmoailbilnkfnaaGreatDoor
/- cert: the numbers of texts; noughts. -/
namespace Go.Proofs.YtmoailbilnkfnaaGreatDoor
open Go.RowKit
set_option linter.unusedVariables false
set_option maxRecDepth 100000
set_option linter.unusedSimpArgs false

theorem ztx_lt {s : ByteArray} {z : Int} (h : ZTx s z) : z.natAbs < 10 ^ s.size := by
  rcases h with ⟨_, h1, h2⟩ | ⟨_, t, rfl, h1, h2⟩
  · rw [← h2]; exact num_lt h1
  · rw [← h2, minus_size]
    exact Nat.lt_of_lt_of_le (num_lt h1) (Nat.pow_le_pow_right (by decide) (by omega))
theorem canr_lt {s : ByteArray} {q : Rat} (h : CanR s q) : Lt10 (s.size + 1) q := by
  rcases h.tx with ⟨h1, h2⟩ | ⟨h1, a, b, h2, h3, rfl⟩
  · refine ⟨Nat.lt_of_lt_of_le (ztx_lt h2) (Nat.pow_le_pow_right (by decide) (by omega)), ?_⟩
    have : q.den = 1 := by omega
    rw [this]
    exact Nat.one_lt_pow (by omega) (by decide)
  · rw [slash_size]
    refine ⟨Nat.lt_of_lt_of_le (ztx_lt h2) (Nat.pow_le_pow_right (by decide) (by omega)), ?_⟩
    have h4 := ztx_lt h3
    rw [Int.natAbs_natCast] at h4
    exact Nat.lt_of_lt_of_le h4 (Nat.pow_le_pow_right (by decide) (by omega))
/-- The numbers of these texts. -/
structure Nums (S : List ByteArray) (X : List Rat) : Prop where
  len : X.length = S.length
  is_ : ∀ i (h1 : i < S.length) (h2 : i < X.length), CanR S[i] X[i]
theorem Nums.nil : Nums [] [] := ⟨rfl, fun i h => by simp at h⟩
theorem Nums.push {S : List ByteArray} {X : List Rat} {k : Nat} {q : Rat} (h : Nums (S.take k) X) (hk : k < S.length) (hq : CanR S[k] q) : Nums (S.take (k + 1)) (X ++ [q]) := by
  have hl : X.length = k := by rw [h.len, List.length_take]; omega
  refine ⟨by rw [List.length_append, hl, List.length_take]; simp; omega, fun i h1 h2 => ?_⟩
  have hiS : i < S.length := by rw [List.length_take] at h1; omega
  have hik : i < k + 1 := by rw [List.length_take] at h1; omega
  rw [List.getElem_take]
  by_cases hi : i < k
  · rw [List.getElem_append_left (by omega)]
    have := h.is_ i (by rw [List.length_take]; omega) (by omega)
    rwa [List.getElem_take] at this
  · have e : i = k := by omega
    subst e
    rw [List.getElem_append_right (by omega)]
    simpa [hl] using hq
theorem Nums.lt {S : List ByteArray} {X : List Rat} (h : Nums S X) (hS : ∀ s ∈ S, s.size ≤ 600) : ∀ x ∈ X, Lt10 700 x := fun x hx => by
  obtain ⟨i, hi, rfl⟩ := List.getElem_of_mem hx
  have h1 : i < S.length := by rw [← h.len]; exact hi
  exact (canr_lt (h.is_ i h1 hi)).mono (by have := hS _ (List.getElem_mem h1); omega)
theorem Nums.uniq {S : List ByteArray} {X Y : List Rat} (h : Nums S X) (k : Nums S Y) : X = Y := List.ext_getElem (by rw [h.len, k.len]) (fun i h1 h2 => CanR.inj (h.is_ i (by rw [← h.len]; exact h1) h1) (k.is_ i (by rw [← h.len]; exact h1) h2))
theorem results_cell_tmp5 {P : Program} {fn : Func} {p q : Tmp} {ty : TypeId} (h : fn.results = #[.cell p ty, .tmp q]) (tmps : Array Value) (w : World) (g : Nat) (t : TypeId) (cs : Array Value) (fr : Nat × Nat) (d : TypeDesc)
    (hp : tmps.getD p undef = .pointer (some ⟨g, 0, none⟩)) (hg : w.heap[g]? = some (.cells cs t fr))
    (hu : P.underlying ty = some d) (hd : (match d with | .struct _ | .array _ _ => true | _ => false) = true) (hi : (P.info? ty).map (·.size) = some cs.size) :
    (results fn tmps).run P w = .ok (.tuple #[.agg cs, tmps.getD q undef]) w := by
  have hp' : tmps[p]?.getD undef = .pointer (some ⟨g, 0, none⟩) := by simpa using hp
  simp [results, h, hp', asAddr, run_loadVar_row w g t ty cs fr d hg hu hd hi]
end Go.Proofs.YtmoailbilnkfnaaGreatDoor
/- cert: sums of products, plainly. -/
namespace Go.Proofs.YtmoailbilnkfnaaGreatDoor
open Go.RowKit
set_option linter.unusedVariables false
set_option maxRecDepth 100000
set_option linter.unusedSimpArgs false

/-- The sum of the numbers, each times its factor. -/
def dot : List Int → List Rat → Rat
  | a :: f, x :: X => (a : Rat) * x + dot f X
  | _, _ => 0
theorem dot_succ : ∀ (f : List Int) (X : List Rat) (k : Nat) (h : k < f.length) (hX : k < X.length), dot (f.take (k + 1)) X = dot (f.take k) X + (f[k] : Rat) * X[k]
  | [], X, k, h, _ => by simp at h
  | a :: f, [], k, _, hX => by simp at hX
  | a :: f, x :: X, 0, _, _ => by simp [dot]; grind
  | a :: f, x :: X, k + 1, h, hX => by
    have ih := dot_succ f X k (by simpa using h) (by simpa using hX)
    simp only [List.take_succ_cons, dot, ih, List.getElem_cons_succ]
    grind
theorem dot_scale (m : Rat) : ∀ (f : List Int) (X : List Rat), dot f (X.map (fun x => x * m)) = m * dot f X
  | [], X => by simp [dot]
  | a :: f, [] => by simp [dot]
  | a :: f, x :: X => by
    rw [List.map_cons, dot, dot, dot_scale m f X]
    grind
def In9 (f : List Int) : Prop := ∀ a ∈ f, -9223372036854775808 ≤ a ∧ a < 9223372036854775808
theorem dot_lt {e : Nat} (f : List Int) (X : List Rat) (hf : In9 f) (hX : ∀ x ∈ X, Lt10 e x) (hl : f.length ≤ X.length) : ∀ k, k ≤ f.length → Lt10 (1 + (e + 20) * k) (dot (f.take k) X)
  | 0, _ => Lt10.zero
  | k + 1, h => by
    have ih := dot_lt f X hf hX hl k (by omega)
    rw [dot_succ f X k h (by omega)]
    have h1 := hf _ (List.getElem_mem (show k < f.length from h))
    have := ih.add ((Lt10.int (z := f[k]) (by omega) (by omega)).mul (hX _ (List.getElem_mem (show k < X.length by omega))))
    exact this.mono (by rw [Nat.mul_succ]; omega)
theorem sum_fit {w : World} {v : Value} {f : List Int} {X : List Rat} {K k : Nat} (h : QIs w v (dot (f.take k) X) K) (hf : In9 f) (hX : ∀ x ∈ X, Lt10 45600 x) (hl : f.length ≤ X.length) (hk : k ≤ f.length) (h64 : k ≤ 64) : QIs w v (dot (f.take k) X) 330000 := by
  have hL := dot_lt f X hf hX hl k hk
  have h1 : 1 + (45600 + 20) * k ≤ 2930000 := by omega
  exact (h.fit (hL.mono h1)).mono (by decide)
theorem tops_lt {X : List Rat} {m : Rat} (hm : Lt10 44900 m) (hX : ∀ x ∈ X, Lt10 700 x) : ∀ y ∈ X.map (fun x => x * m), Lt10 45600 y := fun y hy => by
  obtain ⟨x, hx, rfl⟩ := List.mem_map.1 hy
  exact ((hX x hx).mul hm).mono (by omega)
theorem q_comm {w : World} {v : Value} {p q : Rat} {K : Nat} (h : QIs w v (p * q) K) : QIs w v (q * p) K := by rw [Rat.mul_comm]; exact h
end Go.Proofs.YtmoailbilnkfnaaGreatDoor
/- cert: the document's Numbers. -/
namespace Go.Proofs.YtmoailbilnkfnaaGreatDoor
open Go.RowKit
set_option linter.unusedVariables false
set_option maxRecDepth 100000
set_option linter.unusedSimpArgs false

theorem set4g {w : World} {r : Nat} {t : TypeId} {y0 y1 y2 y3 : Value} (h : w.heap[r]? = some (.cells #[y0, y1, y2, y3] t (0, 0))) (x0 x1 x2 x3 : Value) : ((((w.setCell ⟨r, 0, none⟩ x0).setCell ⟨r, 1, none⟩ x1).setCell ⟨r, 2, none⟩ x2).setCell ⟨r, 3, none⟩ x3).heap[r]? = some (.cells #[x0, x1, x2, x3] t (0, 0)) := by
  have hlt := lt_of_block h
  have h' : w.heap[r] = .cells #[y0, y1, y2, y3] t (0, 0) := by simpa [Array.getElem?_eq_getElem hlt] using h
  simp [World.setCell, Array.getElem_modify, hlt, h']
theorem ls_made {I : World → Value → Rat → Nat → Prop} {e : TypeId} {K : Nat} (w : World) (base : Nat) (hb : base ≤ w.heap.size) : Ls I e (w.alloc (.cells #[] e)) base (.slice (some ⟨w.heap.size, 0, none⟩) 0 0) [] [] K :=
  ⟨World.ownsRow_made w #[] 0 hb (Nat.zero_le _) (by simp), rfl, by simp, fun i h1 h2 => by simp at h2⟩
theorem nums_no {S : List ByteArray} {k : Nat} (hk : k < S.length) (h : ∀ q, ¬ CanR S[k] q) : ¬ ∃ X, Nums S X := fun ⟨X, hX⟩ => h _ (hX.is_ k hk (by rw [hX.len]; exact hk))
set_option maxHeartbeats 12800000 in
theorem hNumbers_any (w : World) (sv : Value) (S : List ByteArray) (hs : Strs w sv S) (hsz : ∀ s ∈ S, s.size ≤ 600) (hn : S.length ≤ 1000) :
    Calls Tryz.prog 9 #[sv] w fun e w' =>
      ((∃ X tv C, Nums S X ∧ e = .returned (.tuple #[tv, .int .i64 0]) ∧ TLs w' w.heap.size tv C X 5100) ∨
       ((¬ ∃ X, Nums S X) ∧ e = .returned (.tuple #[.slice none 0 0, .int .i64 10]))) ∧ Below w.heap.size w w' := by
  obtain ⟨i0, hi0, hz0, hz1, hz2⟩ := info_parts info_refRatZ
  obtain ⟨sa, sc, rfl, sl, sm⟩ := hs.slice
  unfold maxLen at sm
  have HS := hid hs
  have HSZ := hid hsz
  clear hs hsz
  have b0 := (Below.refl w.heap.size w).alloc (Nat.le_refl _) (Obj.cells #[] 38)
  have N0 := hid (ls_made (I := TIs) (e := 38) (K := 5100) w w.heap.size (Nat.le_refl _))
  go_enter Tryz.func9, Tryz.ntmps9
  go_wp2
  generalize w.alloc (Obj.cells #[] 38) = W0 at *
  go_loopw [4, 5] (fun l i wr => ∃ (k : Nat) (C : List (List Value)) (X : List Rat), k ≤ S.length ∧ i = .int .i64 (k : Int) ∧ Hid (Nums (S.take k) X) ∧ Hid (TLs wr w.heap.size l C X 5100) ∧ Below w.heap.size w wr) (fun _ i _ => S.length - (intOf i).toNat)
  case atStart => exact ⟨0, [], [], Nat.zero_le _, rfl, Nums.nil, N0, b0⟩
  case round =>
    obtain ⟨k, C, X, hk, rfl, HNU, HL, bw⟩ := hrel
    have hXl : X.length = k := by rw [HNU.out.len, List.length_take]; omega
    obtain ⟨la_, lc, hle, hll, hlm⟩ := HL.out.slice
    subst hle
    have HXL := hid hXl
    have hX64 : X.length ≤ 1000 := by omega
    clear hXl
    by_cases hlt : k < S.length
    · obtain ⟨tb, toff, tcp, te, _, _, hc, _⟩ := (HS.out.below bw).at k hlt
      simp only [Value.slice.injEq] at te
      obtain ⟨rfl, -, rfl⟩ := te
      have hk255 := HSZ.out _ (List.getElem_mem hlt)
      have HPA := hid (t_parse S[k] wr (by omega))
      go_wp2_with fail
      refine HPA.out.mono ?_
      rintro e Y1 ⟨hr, bY1⟩
      clear HPA hc
      rcases hr with ⟨q, v, hcan, rfl, hq⟩ | ⟨hno, rfl⟩
      · obtain ⟨s1, s2, s3, s4, s5, s6, s7, s8, rfl⟩ := hq.form
        have bA := boxed2 (Below.refl Y1.heap.size Y1) (Obj.cells #[.bool s1, .slice s2 s3 s4, .bool s5, .slice s6 s7 s8] 38) (Obj.cells #[.bool s1, .slice s2 s3 s4, .bool s5, .slice s6 s7 s8] 38)
        have n1 := boxed2_first Y1 (Obj.cells #[.bool s1, .slice s2 s3 s4, .bool s5, .slice s6 s7 s8] 38) (Obj.cells #[.bool s1, .slice s2 s3 s4, .bool s5, .slice s6 s7 s8] 38)
        obtain ⟨t0, t1, t2, t3⟩ := four_cell (box_new Y1 (Obj.cells #[.bool s1, .slice s2 s3 s4, .bool s5, .slice s6 s7 s8] 38))
        have bY := chain2 bY1 bA
        have la := Ls.below (fun h b => h.below b) HL.out bY
        have own := la.own
        have hfn : ∀ j u, [Value.bool s1, .slice s2 s3 s4, .bool s5, .slice s6 s7 s8][j]? = some u → ((Y1.alloc (Obj.cells #[.bool s1, .slice s2 s3 s4, .bool s5, .slice s6 s7 s8] 38)).alloc (Obj.cells #[.bool s1, .slice s2 s3 s4, .bool s5, .slice s6 s7 s8] 38)).cell? ((⟨Y1.heap.size + 1, 0, none⟩ : Addr).add j) = some u := by
          have := four_new (Y1.alloc (Obj.cells #[.bool s1, .slice s2 s3 s4, .bool s5, .slice s6 s7 s8] 38)) 38 (.bool s1) (.slice s2 s3 s4) (.bool s5) (.slice s6 s7 s8)
          simpa using this
        have HLA := hid la
        have HQA := hid ((hq.below bA).mono (show S[k].size / 9 + 8 ≤ 5100 by omega))
        have HBY := hid bY
        have hbs : w.heap.size ≤ ((Y1.alloc (Obj.cells #[.bool s1, .slice s2 s3 s4, .bool s5, .slice s6 s7 s8] 38)).alloc (Obj.cells #[.bool s1, .slice s2 s3 s4, .bool s5, .slice s6 s7 s8] 38)).heap.size := Nat.le_trans bw.size bY.size
        have HCN := hid hcan
        clear la bA n1 bY hq hcan bY1
        generalize S[k].size = sz at *
        go_wp2_with (first | (refine wpList_store_fresh rfl 38 _ _ rfl _ _ _ rfl (by simp) rfl 4 info_refRat (by rfl) (by rfl) (by simp [Value.oneCell']) ?_) | (at_builtin; refine wpList_append_own_at _ rfl _ _ 29 rfl w.heap.size 38 i0 (.agg #[.bool false, .slice none 0 0, .bool false, .slice none 0 0]) 4 64 Tryz.underlying29 hi0 hz0 hz1 hz2 rfl (by decide) (.slice la_ X.length lc) X.length C.flatten rfl own ⟨Y1.heap.size + 1, 0, none⟩ 1 1 [.bool s1, .slice s2 s3 s4, .bool s5, .slice s6 s7 s8] rfl rfl hfn (by intro u hu; simp at hu; rcases hu with rfl | rfl | rfl | rfl <;> rfl) (by unfold maxLen; omega) (by omega) hbs ?_))
        intro v' Y5 o5 hg5 _ hat5
        have kg : Kty 38 38 _ Y5 := Kty.of_grown hg5 (fun g hg => own_ty own g hg)
        have hpush := Ls.push HLA.out (w' := Y5) (v' := v') (x0 := .bool s1) (x1 := .slice s2 s3 s4) (x2 := .bool s5) (x3 := .slice s6 s7 s8) (q := q) o5 (fun h => TIs.kty h kg (by decide) (by decide)) HQA.out
        have B5 := (bw.trans (HBY.out.mono bw.size)).grown hg5 hbs (fun g hg => (own.lt g hg).1)
        have HPU := hid hpush
        have HNP := hid (HNU.out.push hlt HCN.out)
        clear hpush kg own hfn o5 hg5 hat5 hbs t0 t1 t2 t3
        go_wp2
        go_roundw
        case rel => exact ⟨k + 1, _, _, by omega, by go_num, HNP, HPU, B5⟩
        case measure => simp [intOf]; omega
      · have bA := (Below.refl Y1.heap.size Y1).alloc (Nat.le_refl _) (Obj.cells #[.bool false, .slice none 0 0, .bool false, .slice none 0 0] 38)
        have bY := chain2 bY1 bA
        have BA := bw.trans (bY.mono bw.size)
        have HNN := hid (nums_no hlt hno)
        clear bA bY bY1 hno
        go_wp2
        go_ret2
        exact ⟨Or.inr ⟨HNN.out, rfl⟩, BA⟩
    · obtain rfl : k = S.length := by omega
      rw [List.take_length] at HNU
      go_wp2
      go_ret2
      exact ⟨Or.inl ⟨X, _, C, HNU.out, rfl, HL.out⟩, bw⟩
end Go.Proofs.YtmoailbilnkfnaaGreatDoor
/- the document's Numbers, of texts of any size. -/
namespace Go.Proofs.YtmoailbilnkfnaaGreatDoor
open Go.RowKit
set_option linter.unusedVariables false
set_option maxRecDepth 100000
set_option linter.unusedSimpArgs false

set_option maxHeartbeats 12800000 in
theorem hNumbersW_any (w : World) (sv : Value) (S : List ByteArray) (hs : Strs w sv S) (m K : Nat) (hm100 : m ≤ 100000) (hmK : m / 9 + 8 ≤ K) (hsz : ∀ s ∈ S, s.size ≤ m) (hn : S.length ≤ 1000) :
    Calls Tryz.prog 9 #[sv] w fun e w' =>
      ((∃ X tv C, Nums S X ∧ e = .returned (.tuple #[tv, .int .i64 0]) ∧ TLs w' w.heap.size tv C X K) ∨
       ((¬ ∃ X, Nums S X) ∧ e = .returned (.tuple #[.slice none 0 0, .int .i64 10]))) ∧ Below w.heap.size w w' := by
  obtain ⟨i0, hi0, hz0, hz1, hz2⟩ := info_parts info_refRatZ
  obtain ⟨sa, sc, rfl, sl, sm⟩ := hs.slice
  unfold maxLen at sm
  have HS := hid hs
  have HSZ := hid (fun (s : ByteArray) (hs : s ∈ S) => show s.size ≤ 100000 ∧ s.size / 9 + 8 ≤ K by have := hsz s hs; omega)
  clear hs hsz hm100 hmK
  have b0 := (Below.refl w.heap.size w).alloc (Nat.le_refl _) (Obj.cells #[] 38)
  have N0 := hid (ls_made (I := TIs) (e := 38) (K := K) w w.heap.size (Nat.le_refl _))
  go_enter Tryz.func9, Tryz.ntmps9
  go_wp2
  generalize w.alloc (Obj.cells #[] 38) = W0 at *
  go_loopw [4, 5] (fun l i wr => ∃ (k : Nat) (C : List (List Value)) (X : List Rat), k ≤ S.length ∧ i = .int .i64 (k : Int) ∧ Hid (Nums (S.take k) X) ∧ Hid (TLs wr w.heap.size l C X K) ∧ Below w.heap.size w wr) (fun _ i _ => S.length - (intOf i).toNat)
  case atStart => exact ⟨0, [], [], Nat.zero_le _, rfl, Nums.nil, N0, b0⟩
  case round =>
    obtain ⟨k, C, X, hk, rfl, HNU, HL, bw⟩ := hrel
    have hXl : X.length = k := by rw [HNU.out.len, List.length_take]; omega
    obtain ⟨la_, lc, hle, hll, hlm⟩ := HL.out.slice
    subst hle
    have HXL := hid hXl
    have hX64 : X.length ≤ 1000 := by omega
    clear hXl
    by_cases hlt : k < S.length
    · obtain ⟨tb, toff, tcp, te, _, _, hc, _⟩ := (HS.out.below bw).at k hlt
      simp only [Value.slice.injEq] at te
      obtain ⟨rfl, -, rfl⟩ := te
      have hk255 := HSZ.out _ (List.getElem_mem hlt)
      have HPA := hid (t_parse S[k] wr hk255.1)
      have hk9 := hid hk255.2
      clear hk255
      go_wp2_with fail
      refine HPA.out.mono ?_
      rintro e Y1 ⟨hr, bY1⟩
      clear HPA hc
      rcases hr with ⟨q, v, hcan, rfl, hq⟩ | ⟨hno, rfl⟩
      · obtain ⟨s1, s2, s3, s4, s5, s6, s7, s8, rfl⟩ := hq.form
        have bA := boxed2 (Below.refl Y1.heap.size Y1) (Obj.cells #[.bool s1, .slice s2 s3 s4, .bool s5, .slice s6 s7 s8] 38) (Obj.cells #[.bool s1, .slice s2 s3 s4, .bool s5, .slice s6 s7 s8] 38)
        have n1 := boxed2_first Y1 (Obj.cells #[.bool s1, .slice s2 s3 s4, .bool s5, .slice s6 s7 s8] 38) (Obj.cells #[.bool s1, .slice s2 s3 s4, .bool s5, .slice s6 s7 s8] 38)
        obtain ⟨t0, t1, t2, t3⟩ := four_cell (box_new Y1 (Obj.cells #[.bool s1, .slice s2 s3 s4, .bool s5, .slice s6 s7 s8] 38))
        have bY := chain2 bY1 bA
        have la := Ls.below (fun h b => h.below b) HL.out bY
        have own := la.own
        have hfn : ∀ j u, [Value.bool s1, .slice s2 s3 s4, .bool s5, .slice s6 s7 s8][j]? = some u → ((Y1.alloc (Obj.cells #[.bool s1, .slice s2 s3 s4, .bool s5, .slice s6 s7 s8] 38)).alloc (Obj.cells #[.bool s1, .slice s2 s3 s4, .bool s5, .slice s6 s7 s8] 38)).cell? ((⟨Y1.heap.size + 1, 0, none⟩ : Addr).add j) = some u := by
          have := four_new (Y1.alloc (Obj.cells #[.bool s1, .slice s2 s3 s4, .bool s5, .slice s6 s7 s8] 38)) 38 (.bool s1) (.slice s2 s3 s4) (.bool s5) (.slice s6 s7 s8)
          simpa using this
        have HLA := hid la
        have HQA := hid ((hq.below bA).mono hk9.out)
        have HBY := hid bY
        have hbs : w.heap.size ≤ ((Y1.alloc (Obj.cells #[.bool s1, .slice s2 s3 s4, .bool s5, .slice s6 s7 s8] 38)).alloc (Obj.cells #[.bool s1, .slice s2 s3 s4, .bool s5, .slice s6 s7 s8] 38)).heap.size := Nat.le_trans bw.size bY.size
        have HCN := hid hcan
        clear la bA n1 bY hq hcan bY1
        generalize S[k].size = sz at *
        go_wp2_with (first | (refine wpList_store_fresh rfl 38 _ _ rfl _ _ _ rfl (by simp) rfl 4 info_refRat (by rfl) (by rfl) (by simp [Value.oneCell']) ?_) | (at_builtin; refine wpList_append_own_at _ rfl _ _ 29 rfl w.heap.size 38 i0 (.agg #[.bool false, .slice none 0 0, .bool false, .slice none 0 0]) 4 64 Tryz.underlying29 hi0 hz0 hz1 hz2 rfl (by decide) (.slice la_ X.length lc) X.length C.flatten rfl own ⟨Y1.heap.size + 1, 0, none⟩ 1 1 [.bool s1, .slice s2 s3 s4, .bool s5, .slice s6 s7 s8] rfl rfl hfn (by intro u hu; simp at hu; rcases hu with rfl | rfl | rfl | rfl <;> rfl) (by unfold maxLen; omega) (by omega) hbs ?_))
        intro v' Y5 o5 hg5 _ hat5
        have kg : Kty 38 38 _ Y5 := Kty.of_grown hg5 (fun g hg => own_ty own g hg)
        have hpush := Ls.push HLA.out (w' := Y5) (v' := v') (x0 := .bool s1) (x1 := .slice s2 s3 s4) (x2 := .bool s5) (x3 := .slice s6 s7 s8) (q := q) o5 (fun h => TIs.kty h kg (by decide) (by decide)) HQA.out
        have B5 := (bw.trans (HBY.out.mono bw.size)).grown hg5 hbs (fun g hg => (own.lt g hg).1)
        have HPU := hid hpush
        have HNP := hid (HNU.out.push hlt HCN.out)
        clear hpush kg own hfn o5 hg5 hat5 hbs t0 t1 t2 t3
        go_wp2
        go_roundw
        case rel => exact ⟨k + 1, _, _, by omega, by go_num, HNP, HPU, B5⟩
        case measure => simp [intOf]; omega
      · have bA := (Below.refl Y1.heap.size Y1).alloc (Nat.le_refl _) (Obj.cells #[.bool false, .slice none 0 0, .bool false, .slice none 0 0] 38)
        have bY := chain2 bY1 bA
        have BA := bw.trans (bY.mono bw.size)
        have HNN := hid (nums_no hlt hno)
        clear bA bY bY1 hno
        go_wp2
        go_ret2
        exact ⟨Or.inr ⟨HNN.out, rfl⟩, BA⟩
    · obtain rfl : k = S.length := by omega
      rw [List.take_length] at HNU
      go_wp2
      go_ret2
      exact ⟨Or.inl ⟨X, _, C, HNU.out, rfl, HL.out⟩, bw⟩
end Go.Proofs.YtmoailbilnkfnaaGreatDoor
