/- The law LexLetters. -/
import Derived.Test.YtpjajpgphdnglaaLLetM
import Derived.Test.YtpjajpgphdnglaaLBase
namespace Go.Proofs.Ytpjajpgphdnglaa
open Go.RowKit
set_option linter.unusedVariables false
set_option maxRecDepth 100000
set_option linter.unusedSimpArgs false

def runV (L : List Int) : List Value := L.map fun x => Value.int .i32 x
theorem runV_len (L : List Int) : (runV L).length = L.length := by simp [runV]
theorem runV_app (L M : List Int) : runV (L ++ M) = runV L ++ runV M := by simp [runV]
theorem runV_one (L : List Int) : ∀ u ∈ runV L, u.oneCell' = true := by
  intro u hu
  obtain ⟨x, _, rfl⟩ := List.mem_map.1 hu
  rfl
theorem own_cells {w : World} {base g cap : Nat} {e : TypeId} {L : List Int} (h : w.ownsRow base e 1 (.slice (some ⟨g, 0, none⟩) L.length cap) L.length (runV L)) (j : Nat) (hj : j < L.length) : w.cell? ⟨g, j, none⟩ = some (.int .i32 L[j]) := by
  have := h.cells (g := g) rfl j (.int .i32 L[j]) (by simp [runV, hj])
  rwa [add_off, Nat.zero_add] at this
theorem own_form {w : World} {base : Nat} {e : TypeId} {v : Value} {n : Nat} {xs : List Value} (h : w.ownsRow base e 1 v n xs) (hn : n ≠ 0) : ∃ g cap, v = .slice (some ⟨g, 0, none⟩) n cap := by
  rcases h.2 with ⟨_, h2⟩ | ⟨g, cap, cur, hv, _⟩
  · exact absurd h2 hn
  · exact ⟨g, cap, hv⟩
theorem own_room {w : World} {base g cap n : Nat} {e : TypeId} {xs : List Value} (h : w.ownsRow base e 1 (.slice (some ⟨g, 0, none⟩) n cap) n xs) : n ≤ cap ∧ cap ≤ maxLen ∧ g < w.heap.size := by
  rcases h.2 with ⟨h1, _⟩ | ⟨g', cap', cur, hv, _, hh, r1, r2, _⟩
  · simp at h1
  · simp only [Value.slice.injEq, Option.some.injEq, Addr.mk.injEq, and_true, true_and] at hv
    obtain ⟨rfl, rfl⟩ := hv
    exact ⟨r1, r2, lt_of_block hh⟩
theorem runes_conv {w : World} {base g cap : Nat} {L : List Int} (h : w.ownsRow base 21 1 (.slice (some ⟨g, 0, none⟩) L.length cap) L.length (runV L)) :
    (convert 23 9 (.slice (some ⟨g, 0, none⟩) L.length cap)).run Try.prog w = .ok (.string (runesBytes L)) w := by
  have := run_convert_runes (P := Try.prog) w 23 9 21 ⟨g, 0, none⟩ L.length cap L (Nat.le_refl _) Try.underlying23 Try.underlying21 Try.underlying9 (fun j hj => by
    rw [add_off, Nat.zero_add, own_cells h j hj]
    simp [List.getD, List.getElem?_eq_getElem hj])
  rwa [List.take_of_length_le (Nat.le_refl _)] at this
/-- A slice of bytes that came in. -/
def Bys (w : World) (v : Value) (L : List Int) : Prop := Row1 w v (L.map fun x => Value.int .u8 x) ∧ ∀ x ∈ L, 0 ≤ x ∧ x < 256
theorem bys_of {w : World} {x : Addr} {len cap : Nat} {zs : List Int} (h1 : len ≤ cap) (h2 : cap ≤ maxLen) (h3 : len ≤ zs.length) (h4 : ∀ i, i < zs.length → w.cell? (x.add i) = some (.int .u8 (zs.getD i 0))) (h5 : ∀ n ∈ zs, (Lit.int IntKind.u8 n).wf = true) : ∃ L, Bys w (.slice (some x) len cap) L := by
  have hl : (zs.take len).length = len := by rw [List.length_take]; omega
  refine ⟨zs.take len, ⟨some x, cap, by rw [List.length_map, hl], by rw [List.length_map, hl]; exact h1, h2, ?_⟩, fun n hn => ?_⟩
  · by_cases h0 : len = 0
    · left; subst h0; rfl
    · right
      obtain ⟨b, off, q⟩ := x
      cases q with
      | none =>
        refine ⟨b, off, rfl, fun i hi => ?_⟩
        rw [List.length_map, hl] at hi
        have hx := h4 i (by omega)
        rw [add_off] at hx
        rw [hx, List.getElem_map]
        simp [List.getD_eq_getElem?_getD, show i < zs.length by omega]
      | some q =>
        have h0' := h4 0 (by omega)
        unfold World.cell? at h0'
        simp [Addr.add] at h0'
        split at h0' <;> simp_all
  · have := h5 n (List.mem_of_mem_take hn)
    simp only [Lit.wf, IntKind.min, IntKind.max, IntKind.signed, IntKind.bits] at this
    simp at this
    omega
set_option maxHeartbeats 12800000 in
theorem lexLetters_any (v : Value) (L : List Int) (at0 odd : Int) (w : World) (hv : Bys w v L) (hat0 : (Lit.int IntKind.u8 at0).wf = true) (hodd : (Lit.int IntKind.i32 odd).wf = true) :
    Calls Try.prog 3 #[v, .int .u8 at0, .int .i32 odd] w fun e w' => e = .returned (.bool true) ∧ Below w.heap.size w w' := by
  have hat : 0 ≤ at0 ∧ at0 < 256 := by
    simp only [Lit.wf, IntKind.min, IntKind.max, IntKind.signed, IntKind.bits] at hat0
    simp at hat0
    omega
  clear hat0 hodd
  obtain ⟨i0, hi, hz0, hz1, hz2⟩ := info_parts info_i32
  obtain ⟨a, c, hvv, hlc, hcm⟩ := hv.1.slice
  rw [List.length_map] at hvv hlc
  subst hvv
  unfold maxLen at hcm
  by_cases hbig : 256 < L.length
  · go_enter Try.func3, Try.ntmps3
    go_wp2
    go_ret
    exact ⟨rfl, Below.refl _ _⟩
  have B0 : (w.alloc (Obj.cells #[] 21)).ownsRow w.heap.size 21 1 (.slice (some ⟨w.heap.size, 0, none⟩) 0 0) 0 [] := World.ownsRow_made w #[] 0 (Nat.le_refl _) (Nat.zero_le _) (by simp)
  have b0 := (Below.refl w.heap.size w).alloc (Nat.le_refl _) (Obj.cells #[] 21)
  have F0 : ∃ g cap, (.slice (some ⟨w.heap.size, 0, none⟩) 0 0 : Value) = .slice (some ⟨g, 0, none⟩) ((L.take 0).map rl).length cap := ⟨_, _, rfl⟩
  go_enter Try.func3, Try.ntmps3
  go_wp2
  generalize w.alloc (Obj.cells #[] 21) = W at *
  go_loopw [7, 8] (fun l i wr => ∃ k : Nat, k ≤ L.length ∧ i = .int .i64 (k : Int) ∧ (∃ g cap, l = .slice (some ⟨g, 0, none⟩) k cap) ∧ wr.ownsRow w.heap.size 21 1 l k (runV ((L.take k).map rl)) ∧ Below w.heap.size w wr) (fun _ i _ => L.length - (intOf i).toNat)
  case atStart => exact ⟨0, Nat.zero_le _, rfl, ⟨_, _, rfl⟩, B0, b0⟩
  case round =>
    obtain ⟨k, hk, rfl, ⟨g, cp, rfl⟩, o, hbel⟩ := hrel
    clear B0 b0 F0
    have hsw := hbel.size
    by_cases hlt : k < L.length
    · obtain ⟨b1, o1, d1, e1, l1, m1, f0⟩ := hv.1.at k (by rw [List.length_map]; exact hlt)
      rw [List.length_map] at e1 l1
      simp only [Value.slice.injEq] at e1
      obtain ⟨rfl, _, rfl⟩ := e1
      have hb1 : b1 < w.heap.size := World.block_lt_of_cell? w _ f0
      have f1 := (hbel.cell (p := ⟨b1, o1 + k, none⟩) hb1).trans f0
      rw [List.getElem_map] at f1
      have hx := hv.2 L[k] (List.getElem_mem hlt)
      have HT := hid (List.take_succ_eq_append_getElem hlt)
      clear f0
      generalize L[k] = x at *
      by_cases h128 : 128 ≤ x
      case' pos => have HR := hid (show rl x = 945 + x % 25 by unfold rl; rw [if_pos h128])
      case' neg => have HR := hid (show rl x = 97 + x % 26 by unfold rl; rw [if_neg h128])
      case pos =>
        go_wp2_with (at_builtin; refine wpList_append_own _ rfl _ _ 23 rfl w.heap.size 21 i0 (.int .i32 0) 1 4 Try.underlying23 hi hz0 hz1 hz2 rfl (by decide) _ _ _ rfl (o.alloc _) ⟨wr.heap.size, 0, none⟩ 1 1 [.int .i32 (945 + x % 25)] rfl rfl (by intro j u hu; match j, hu with | 0, hu => simp at hu; subst hu; simp [Addr.add]) (by intro u hu; simp at hu; subst hu; rfl) (by unfold maxLen; omega) (by omega) (by simp; omega) ?_)
        intro v' w3 o3 hgrow _
        have b3 : Below w.heap.size w w3 := (hbel.alloc hsw _).grown hgrow (by simp; omega) (fun g hg => (o.lt g hg).1)
        have o4 : w3.ownsRow w.heap.size 21 1 v' (k + 1) (runV ((L.take (k + 1)).map rl)) := by
          rw [HT.out, List.map_append, runV_app, List.map_singleton, HR.out]
          (try rw [← List.map_take] at o3)
          exact o3
        have f4 := own_form o4 (by omega)
        clear o3 hgrow o
        go_wp2
        go_roundw
        case rel => exact ⟨k + 1, by omega, by go_num, f4, o4, b3⟩
        case measure => simp [intOf]; omega
      case neg =>
        go_wp2_with (at_builtin; refine wpList_append_own _ rfl _ _ 23 rfl w.heap.size 21 i0 (.int .i32 0) 1 4 Try.underlying23 hi hz0 hz1 hz2 rfl (by decide) _ _ _ rfl (o.alloc _) ⟨wr.heap.size, 0, none⟩ 1 1 [.int .i32 (97 + x % 26)] rfl rfl (by intro j u hu; match j, hu with | 0, hu => simp at hu; subst hu; simp [Addr.add]) (by intro u hu; simp at hu; subst hu; rfl) (by unfold maxLen; omega) (by omega) (by simp; omega) ?_)
        intro v' w3 o3 hgrow _
        have b3 : Below w.heap.size w w3 := (hbel.alloc hsw _).grown hgrow (by simp; omega) (fun g hg => (o.lt g hg).1)
        have o4 : w3.ownsRow w.heap.size 21 1 v' (k + 1) (runV ((L.take (k + 1)).map rl)) := by
          rw [HT.out, List.map_append, runV_app, List.map_singleton, HR.out]
          (try rw [← List.map_take] at o3)
          exact o3
        have f4 := own_form o4 (by omega)
        clear o3 hgrow o
        go_wp2
        go_roundw
        case rel => exact ⟨k + 1, by omega, by go_num, f4, o4, b3⟩
        case measure => simp [intOf]; omega
    · obtain rfl : k = L.length := by omega
      rw [List.take_of_length_le (Nat.le_refl _)] at o
      obtain ⟨R, HR⟩ : ∃ R, Hid (R = L.map rl) := ⟨_, rfl⟩
      rw [← HR.out] at o
      have hRl : R.length = L.length := by rw [HR.out, List.length_map]
      have HL := hid (show ∀ n ∈ R, isLetZ n = true from fun n hn => by
        rw [HR.out] at hn
        obtain ⟨x, hx, rfl⟩ := List.mem_map.1 hn
        exact rl_let x (hv.2 x hx))
      clear hv
      have hm256 : R.length ≤ 256 := by omega
      rw [← hRl] at o ⊢
      have HRl := hid hRl
      clear hRl hk hlc hbig hlt HR
      have hcv := runes_conv o
      obtain ⟨r1, r2, r3⟩ := own_room o
      unfold maxLen at r2
      have hSz := runesBytes_size_le R
      have HNm := hid (name_letters R HL.out)
      have hN1 := fun v => name_any (runesBytes R) v (by omega)
      obtain ⟨n, hn⟩ : ∃ n : Nat, at0 % ((R.length : Int) + 1) = (n : Int) := ⟨(at0 % ((R.length : Int) + 1)).toNat, by have := Int.emod_nonneg at0 (show ((R.length : Int) + 1) ≠ 0 by omega); omega⟩
      have hnle : n ≤ R.length := by have := Int.emod_lt_of_pos at0 (show 0 < ((R.length : Int) + 1) by omega); omega
      have hc1 := fun j (hj : j < R.length) => own_cells o j hj
      have HC1 := hid hc1
      have oH := hid o
      clear hc1
      obtain ⟨b, hbE⟩ : ∃ b, b = nameB (runesBytes R) := ⟨_, rfl⟩
      rw [← hbE] at hN1 HNm
      clear hbE
      generalize runesBytes R = S at *
      rcases (show R.length = 0 ∨ (1 ≤ R.length ∧ R.length ≤ 8) ∨ 8 < R.length by omega) with h | ⟨h, h'⟩ | h
      case' inl =>
        have t1 : decide ((1 : Int) ≤ (R.length : Int)) = false := decide_eq_false (by omega)
        obtain rfl : b = false := HNm.out.trans (decide_eq_false (by omega))
        clear h
      case' inr.inl =>
        have t1 : decide ((1 : Int) ≤ (R.length : Int)) = true := decide_eq_true (by omega)
        have t2 : decide ((R.length : Int) ≤ (8 : Int)) = true := decide_eq_true (by omega)
        obtain rfl : b = true := HNm.out.trans (decide_eq_true ⟨h, h'⟩)
        clear h h'
      case' inr.inr =>
        have t1 : decide ((1 : Int) ≤ (R.length : Int)) = true := decide_eq_true (by omega)
        have t2 : decide ((R.length : Int) ≤ (8 : Int)) = false := decide_eq_false (by omega)
        obtain rfl : b = false := HNm.out.trans (decide_eq_false (by omega))
        clear h
      all_goals
        go_wp2_with fail
        refine (hN1 _).mono ?_
        rintro e w2 ⟨rfl, b2'⟩
        clear hN1 hcv
        have b2 := chain2 hbel b2'
        have HC2 := hid (show ∀ j (hj : j < R.length), w2.cell? ⟨g, j, none⟩ = some (.int .i32 R[j]) from fun j hj => (b2'.cell (p := ⟨g, j, none⟩) (by show g < wr.heap.size; omega)).trans (HC1.out j hj))
        have hg2 : g < w2.heap.size := Nat.lt_of_lt_of_le r3 b2'.size
        clear HC1 oH b2' o hbel hsw
        have B1 : (w2.alloc (Obj.cells #[] 21)).ownsRow w2.heap.size 21 1 (.slice (some ⟨w2.heap.size, 0, none⟩) 0 0) 0 [] := World.ownsRow_made w2 #[] 0 (Nat.le_refl _) (Nat.zero_le _) (by simp)
        have c1 := (Below.refl w2.heap.size w2).alloc (Nat.le_refl _) (Obj.cells #[] 21)
        go_wp2_with (at_builtin; refine wpList_append_own _ rfl _ _ 23 rfl w2.heap.size 21 i0 (.int .i32 0) 1 4 Try.underlying23 hi hz0 hz1 hz2 rfl (by decide) _ _ _ rfl B1 ⟨g, 0, none⟩ n cp (runV (R.take n)) rfl (by rw [runV_len, List.length_take]; omega) (by
          intro j u hu
          have hj : j < n := by
            rcases Nat.lt_or_ge j n with h' | h'
            · exact h'
            · rw [List.getElem?_eq_none (by rw [runV_len, List.length_take]; omega)] at hu; cases hu
          rw [add_off, Nat.zero_add, c1.cell (p := ⟨g, j, none⟩) hg2, HC2.out j (by omega), ← hu]
          simp [runV, hj, show j < R.length by omega]) (runV_one _) (by unfold maxLen; omega) (by omega) (by simp) ?_)
        intro v3 w3 o3 g3 _
        have b3 : Below w2.heap.size w2 w3 := c1.grown g3 (by simp) (fun q hq => (B1.lt q hq).1)
        have hs3 := b3.size
        have o3' : w3.ownsRow w2.heap.size 21 1 v3 n (runV (R.take n)) := by simpa using o3
        clear o3 g3 B1 c1
        obtain ⟨sa, sc, rfl⟩ := own_slice o3'
        go_wp2_with (at_builtin; refine wpList_append_own _ rfl _ _ 23 rfl w2.heap.size 21 i0 (.int .i32 0) 1 4 Try.underlying23 hi hz0 hz1 hz2 rfl (by decide) _ _ _ rfl (o3'.alloc _) ⟨w3.heap.size, 0, none⟩ 1 1 [.int .i32 odd] rfl rfl (by intro j u hu; match j, hu with | 0, hu => simp at hu; subst hu; simp [Addr.add]) (by intro u hu; simp at hu; subst hu; rfl) (by unfold maxLen; omega) (by omega) (by simp; omega) ?_)
        intro v4 w4 o4 g4 _
        have b4 : Below w2.heap.size w2 w4 := (b3.alloc hs3 _).grown g4 (by simp; omega) (fun q hq => (o3'.lt q hq).1)
        have hs4 := b4.size
        have o4' : w4.ownsRow w2.heap.size 21 1 v4 (n + 1) (runV (R.take n ++ [odd])) := by rw [runV_app]; exact o4
        clear o4 g4 o3' b3
        obtain ⟨sa4, sc4, rfl⟩ := own_slice o4'
        by_cases hcp : n = cp
        case' pos =>
          have hnR : R.length = n := by omega
          have HnR := hid hnR
          subst hcp
          clear hnR
          go_wp2_with (at_builtin; refine wpList_append_own _ rfl _ _ 23 rfl w2.heap.size 21 i0 (.int .i32 0) 1 4 Try.underlying23 hi hz0 hz1 hz2 rfl (by decide) _ _ _ rfl o4' ⟨g, 0, none⟩ _ _ (runV (R.drop n)) rfl (by rw [runV_len, List.length_drop]; omega) (by
            intro j u hu
            have hj : j < R.length - n := by
              rcases Nat.lt_or_ge j (R.length - n) with h' | h'
              · exact h'
              · rw [List.getElem?_eq_none (by rw [runV_len, List.length_drop]; omega)] at hu; cases hu
            exact absurd hj (by have := HnR.out; omega)) (runV_one _) (by unfold maxLen; omega) (by omega) (by omega) ?_)
        case' neg =>
          have hcp' : ¬ cp = n := fun e => hcp e.symm
          go_wp2_with (at_builtin; refine wpList_append_own _ rfl _ _ 23 rfl w2.heap.size 21 i0 (.int .i32 0) 1 4 Try.underlying23 hi hz0 hz1 hz2 rfl (by decide) _ _ _ rfl o4' ⟨g, n, none⟩ (R.length - n) (cp - n) (runV (R.drop n)) rfl (by rw [runV_len, List.length_drop]; omega) (by
            intro j u hu
            have hj : j < R.length - n := by
              rcases Nat.lt_or_ge j (R.length - n) with h' | h'
              · exact h'
              · rw [List.getElem?_eq_none (by rw [runV_len, List.length_drop]; omega)] at hu; cases hu
            rw [add_off, b4.cell (p := ⟨g, n + j, none⟩) hg2, HC2.out (n + j) (by omega), ← hu]
            simp [runV, show n + j < R.length by omega]) (runV_one _) (by unfold maxLen; omega) (by omega) (by omega) ?_)
        all_goals
          intro v5 w5 o5 g5 _
          have b5 : Below w2.heap.size w2 w5 := b4.grown g5 (by omega) (fun q hq => (o4'.lt q hq).1)
          have b6 := chain2 b2 b5
          have hl5 : (R.take n ++ odd :: R.drop n).length = R.length + 1 := by
            rw [List.length_append, List.length_cons, List.length_take, List.length_drop]; omega
          have o5' : w5.ownsRow w2.heap.size 21 1 v5 (R.take n ++ odd :: R.drop n).length (runV (R.take n ++ odd :: R.drop n)) := by
            rw [hl5, show R.take n ++ odd :: R.drop n = (R.take n ++ [odd]) ++ R.drop n by simp, runV_app _ (R.drop n)]
            have e : n + 1 + (R.length - n) = R.length + 1 := by omega
            rw [← e]
            first | exact o5 | (rw [show n + 1 + (R.length - n) = n + 1 by (have := HnR.out; omega)]; exact o5)
          have HYes := hid (show isLetZ odd = true → nameB (runesBytes (R.take n ++ odd :: R.drop n)) = decide (R.length + 1 ≤ 8) from fun ho => by
            rw [name_letters _ (fun z hz => by
              rcases List.mem_append.1 hz with hz | hz
              · exact HL.out z (List.mem_of_mem_take hz)
              · rcases List.mem_cons.1 hz with rfl | hz
                · exact ho
                · exact HL.out z (List.mem_of_mem_drop hz)), hl5]
            simp)
          have HNo := hid (show isLetZ odd = false → nameB (runesBytes (R.take n ++ odd :: R.drop n)) = false from fun ho => name_other _ _ _ (fun z hz => HL.out z (List.mem_of_mem_take hz)) ho)
          have hSz2 := runesBytes_size_le (R.take n ++ odd :: R.drop n)
          rw [hl5] at hSz2
          have hP := fun v => name_any (runesBytes (R.take n ++ odd :: R.drop n)) v (by omega)
          have hQ := fun v => zname_any (runesBytes (R.take n ++ odd :: R.drop n)) v (by omega)
          obtain ⟨g6, cp6, hv6⟩ := own_form o5' (by omega)
          rw [hv6] at o5' ⊢
          have hcv2 := runes_conv o5'
          rw [hl5] at hcv2 hv6 ⊢
          generalize runesBytes (R.take n ++ odd :: R.drop n) = S2 at *
          clear o5 g5 o4' b4 o5' HC2 b5 b2 HL HNm
          have tm : decide ((R.length : Int) + 1 ≤ (8 : Int)) = decide (R.length + 1 ≤ 8) := by
            by_cases h8 : R.length + 1 ≤ 8
            · rw [decide_eq_true h8, decide_eq_true (by omega)]
            · rw [decide_eq_false h8, decide_eq_false (by omega)]
          have fin : ∀ (W6 : World), Below w.heap.size w W6 → True := fun _ _ => trivial
          clear fin
          rcases isLetZ_ways odd with ⟨q1, qe⟩ | ⟨q1, q2, qe⟩ | ⟨q1, q2, qe⟩ | ⟨q1, q2, qe⟩ | ⟨q1, qe⟩
          case' inl =>
            have u1 : decide ((97 : Int) ≤ odd) = false := decide_eq_false (by omega)
            have u2 : decide ((945 : Int) ≤ odd) = false := decide_eq_false (by omega)
            rw [HNo.out qe] at hP hQ
          case' inr.inl =>
            have u1 : decide ((97 : Int) ≤ odd) = true := decide_eq_true (by omega)
            have u2 : decide (odd ≤ (122 : Int)) = true := decide_eq_true (by omega)
            rw [HYes.out qe] at hP hQ
          case' inr.inr.inl =>
            have u1 : decide ((97 : Int) ≤ odd) = true := decide_eq_true (by omega)
            have u2 : decide (odd ≤ (122 : Int)) = false := decide_eq_false (by omega)
            have u3 : decide ((945 : Int) ≤ odd) = false := decide_eq_false (by omega)
            rw [HNo.out qe] at hP hQ
          case' inr.inr.inr.inl =>
            have u1 : decide ((97 : Int) ≤ odd) = true := decide_eq_true (by omega)
            have u2 : decide (odd ≤ (122 : Int)) = false := decide_eq_false (by omega)
            have u3 : decide ((945 : Int) ≤ odd) = true := decide_eq_true (by omega)
            have u4 : decide (odd ≤ (969 : Int)) = true := decide_eq_true (by omega)
            rw [HYes.out qe] at hP hQ
          case' inr.inr.inr.inr =>
            have u1 : decide ((97 : Int) ≤ odd) = true := decide_eq_true (by omega)
            have u2 : decide (odd ≤ (122 : Int)) = false := decide_eq_false (by omega)
            have u3 : decide ((945 : Int) ≤ odd) = true := decide_eq_true (by omega)
            have u4 : decide (odd ≤ (969 : Int)) = false := decide_eq_false (by omega)
            rw [HNo.out qe] at hP hQ
          all_goals
            by_cases h8 : R.length + 1 ≤ 8
            case' pos =>
              rw [decide_eq_true h8] at tm
              (try rw [decide_eq_true h8] at hP hQ)
            case' neg =>
              rw [decide_eq_false h8] at tm
              (try rw [decide_eq_false h8] at hP hQ)
            all_goals
              (try clear q1); (try clear q2); (try clear qe)
              clear HYes HNo h8
              go_wp2_with fail
              refine (hP _).mono ?_
              rintro e w7 ⟨rfl, b7'⟩
              have b7 := chain2 b6 b7'
              clear hcv2
              go_wp2_with fail
              refine (hP _).mono ?_
              rintro e w8 ⟨rfl, b8'⟩
              have b8 := chain2 b7 b8'
              go_wp2_with fail
              refine (hQ _).mono ?_
              rintro e w9 ⟨rfl, b9'⟩
              have b9 := chain2 b8 b9'
              go_wp2
              go_ret
              exact ⟨rfl, b9⟩
end Go.Proofs.Ytpjajpgphdnglaa
