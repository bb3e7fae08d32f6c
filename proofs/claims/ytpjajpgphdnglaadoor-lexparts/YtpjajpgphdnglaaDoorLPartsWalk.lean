/- The law LexParts. -/
import Derived.Test.YtpjajpgphdnglaaDoorLHelp
import Derived.Test.YtpjajpgphdnglaaDoorLZWords
import Derived.Test.YtpjajpgphdnglaaDoorLPartM
import Derived.Test.YtpjajpgphdnglaaDoorLStr
import Derived.Deep.RegionHeld3
namespace Go.Proofs.YtpjajpgphdnglaaDoor
open Go.RowKit
set_option linter.unusedVariables false
set_option maxRecDepth 100000
set_option linter.unusedSimpArgs false

theorem strs_take {w : World} {b off m c : Nat} {L : List ByteArray} (h : Strs w (.slice (some ⟨b, off, none⟩) m c) L) (n : Nat) (hn : n ≤ L.length) (hc : L.length ≤ c) (hcm : c ≤ maxLen) : Strs w (.slice (some ⟨b, off, none⟩) n c) (L.take n) := by
  have hl : (L.take n).length = n := by rw [List.length_take]; omega
  refine ⟨⟨_, c, by rw [strV_len, hl], by rw [strV_len, hl]; omega, hcm, Or.inr ⟨b, off, rfl, fun i hi => ?_⟩⟩, fun x hx => h.2 x (List.mem_of_mem_take hx)⟩
  rw [strV_len, hl] at hi
  obtain ⟨b', off', c', e1, _, _, f, _⟩ := h.at i (by omega)
  simp only [Value.slice.injEq, Option.some.injEq, Addr.mk.injEq, and_true] at e1
  obtain ⟨⟨rfl, rfl⟩, _, _⟩ := e1
  rw [f, strV_at _ i (by rw [hl]; exact hi), List.getElem_take]
theorem strs_drop {w : World} {b off m c : Nat} {L : List ByteArray} (h : Strs w (.slice (some ⟨b, off, none⟩) m c) L) (n : Nat) (hn : n ≤ L.length) (hc : L.length ≤ c) (hcm : c ≤ maxLen) : Strs w (.slice (some ⟨b, off + n, none⟩) (L.length - n) (c - n)) (L.drop n) := by
  have hl : (L.drop n).length = L.length - n := by rw [List.length_drop]
  refine ⟨⟨_, c - n, by rw [strV_len, hl], by rw [strV_len, hl]; omega, by omega, Or.inr ⟨b, off + n, rfl, fun i hi => ?_⟩⟩, fun x hx => h.2 x (List.mem_of_mem_drop hx)⟩
  rw [strV_len, hl] at hi
  obtain ⟨b', off', c', e1, _, _, f, _⟩ := h.at (n + i) (by omega)
  simp only [Value.slice.injEq, Option.some.injEq, Addr.mk.injEq, and_true] at e1
  obtain ⟨⟨rfl, rfl⟩, _, _⟩ := e1
  rw [Nat.add_assoc, f, strV_at _ i (by rw [hl]; exact hi), List.getElem_drop]
theorem jn_take_few (L : List ByteArray) (n : Nat) (hn : n ≤ L.length) (N : Nat) (h : (jn 32 (L.map bl)).length ≤ N) : (jn 32 ((L.take n).map bl)).length ≤ N ∧ (jn 32 ((L.drop n).map bl)).length ≤ N := by
  refine ⟨jk_few h n hn, ?_⟩
  by_cases hz : n = 0
  · subst hz; simpa using h
  by_cases hl : n = L.length
  · rw [List.drop_eq_nil_of_le (by omega)]; simp [jn]
  have ht : (L.take n).map bl ≠ [] := by
    intro h
    have := congrArg List.length h
    rw [List.length_map, List.length_take, List.length_nil] at this
    omega
  have hd : (L.drop n).map bl ≠ [] := by
    intro h
    have := congrArg List.length h
    rw [List.length_map, List.length_drop, List.length_nil] at this
    omega
  have hj : jn 32 (L.map bl) = jn 32 ((L.take n).map bl) ++ 32 :: jn 32 ((L.drop n).map bl) := by
    rw [← jn_split 32 _ _ ht hd, ← List.map_append, List.take_append_drop]
  rw [hj, List.length_append, List.length_cons] at h
  omega
theorem add_str (a b : ByteArray) (h : a.size + b.size ≤ 1000000000) : ∀ w, (Op.stringOp .add a b).run Tryd.prog w = .ok (.string (a ++ b)) w := fun w => run_string_add_sum w _ _ (by omega)
/-- Words of a text that is refused. -/
theorem words_no (s : ByteArray) (w : World) (hs : s.size ≤ 1000000000) (hm : Mx w) (h : wordsE s = 81) :
    Calls Tryd.prog 10 #[.string s] w fun e w' => (∃ a c, e = .returned (.tuple #[.slice a 0 c, .int .i64 81])) ∧ Below w.heap.size w w' := by
  refine (words_any s w hs hm).mono ?_
  rintro e w' ⟨⟨v, rfl, S⟩, b⟩
  rw [wordsL_no (by rw [h]; decide)] at S
  obtain ⟨a, c, rfl, _, _⟩ := S.slice
  rw [h]
  exact ⟨⟨a, c, rfl⟩, b⟩
set_option maxHeartbeats 6400000 in
theorem lexParts_any (v : Value) (L : List ByteArray) (at0 : Int) (w : World) (hv : Strs w v L) (hin : InSlice v L.length) (hat0 : (Lit.int IntKind.u8 at0).wf = true) (hm : Mx w) :
    Calls Tryd.prog 3 #[v, .int .u8 at0] w fun e w' => e = .returned (.bool true) ∧ Below w.heap.size w w' := by
  have hat : 0 ≤ at0 ∧ at0 < 256 := by
    simp only [Lit.wf, IntKind.min, IntKind.max, IntKind.signed, IntKind.bits] at hat0
    simp at hat0
    omega
  clear hat0
  have hH := heavy_any w v L ((jn 32 (L.map bl)).length ≤ 16384 ∧ L.length ≤ 16384) (hid fun h => join_few h) hv
  obtain ⟨a, c, hvv, hlc, hcm⟩ := hv.slice
  subst hvv
  have HCM := hid hcm
  unfold maxLen at hcm
  go_enter Tryd.func3, Tryd.ntmps3
  go_wp2_with fail
  refine hH.mono ?_
  clear hH
  rintro e w1 ⟨rfl | ⟨rfl, hj, hl⟩, b1⟩
  · go_wp2
    go_ret
    exact ⟨rfl, b1⟩
  have hv1 := hv.below b1
  have hm1 := hm.below b1
  clear hv hm
  rcases (show L.length = 0 ∨ 15 < L.length ∨ (1 ≤ L.length ∧ L.length ≤ 15) by omega) with h0 | h0 | ⟨h0, h15⟩
  · have t1 : ((L.length : Int) == 0) = true := beq_iff_eq.2 (by omega)
    clear h0
    go_wp2
    go_ret
    exact ⟨rfl, b1⟩
  · have t1 : ((L.length : Int) == 0) = false := beq_eq_false_iff_ne.2 (by omega)
    go_wp2
    go_ret
    exact ⟨rfl, b1⟩
  have t1 : ((L.length : Int) == 0) = false := beq_eq_false_iff_ne.2 (by omega)
  have hne : L ≠ [] := by intro e; rw [e] at h0; simp at h0
  obtain ⟨s, Hs⟩ : ∃ s, Hid (s = joinB L) := ⟨_, rfl⟩
  have hsz : s.size ≤ 16384 := by rw [Hs.out, show (joinB L).size = _ from ofL_size _]; exact hj
  have hZ := zjoin_any w1 _ L hv1 (by omega)
  rw [← Hs.out] at hZ
  have hZW := fun v => zwords_any s v (by omega)
  go_wp2_with fail
  refine hZ.mono ?_
  rintro e w2 ⟨rfl, b2'⟩
  have b2 := chain2 b1 b2'
  have hv2 := hv1.below b2'
  have hm2 := hm1.below b2'
  clear hZ b1 b2' hv1 hm1
  go_wp2_with fail
  refine (hZW _).mono ?_
  rintro e w3 ⟨⟨v3, rfl, S3⟩, b3'⟩
  have b3 := chain2 b2 b3'
  have hv3 := hv2.below b3'
  have hm3 := hm2.below b3'
  clear hZW b2 b3' hv2 hm2
  obtain ⟨a3, c3, hv3e, _, hc3⟩ := S3.slice
  rw [hv3e] at S3 ⊢
  unfold maxLen at hc3
  by_cases hE : wordsE s = 0
  case neg =>
    have HE := hid hE
    have tE : (wordsE s == 0) = false := beq_eq_false_iff_ne.2 hE
    generalize wordsE s = E at *
    clear hE
    go_wp2
    go_ret
    exact ⟨rfl, b3⟩
  have HE := hid hE
  have HP := hid (wordsL_ok hE)
  rw [hE]
  rw [HP.out] at S3 ⊢
  clear hE hv3e
  by_cases hlen : (parts 32 s).length = L.length
  case neg =>
    have tl : (((parts 32 s).length : Int) == (L.length : Int)) = false := beq_eq_false_iff_ne.2 (by omega)
    generalize (parts 32 s).length = pl at *
    have tp : ¬ ((pl : Int) = (L.length : Int)) := by omega
    clear hlen
    go_wp2
    go_ret
    exact ⟨rfl, b3⟩
  have HSame := hid (show parts 32 s = L ∧ _ from by rw [Hs.out] at hlen ⊢; exact same_words hne hlen)
  rw [HSame.out.1] at S3 ⊢
  clear hlen
  have tl : ((L.length : Int) == (L.length : Int)) = true := by simp
  by_cases h198 : 198 < s.size
  · go_wp2
    go_ret
    exact ⟨rfl, b3⟩
  obtain ⟨z1, z2, z3, z4⟩ := wordsE_zero HE.out
  have HZ2 := hid z2
  clear z1 z2 z3 z4 S3
  have hW1 := fun v hm => words_any s v (by omega) hm
  rw [HE.out, HP.out, HSame.out.1] at hW1
  obtain ⟨sa, hsa⟩ : ∃ a : ByteArray, ⟨#[32]⟩ ++ s = a := ⟨_, rfl⟩
  obtain ⟨sb, hsb⟩ : ∃ a : ByteArray, s ++ ⟨#[32]⟩ = a := ⟨_, rfl⟩
  have za : sa.size = 1 + s.size := by rw [← hsa, ByteArray.size_append]; rfl
  have zb : sb.size = s.size + 1 := by rw [← hsb, ByteArray.size_append]; rfl
  have hW2 := fun v hm => words_no sa v (by omega) hm (by rw [← hsa]; exact blank_ahead (by omega) HZ2.out)
  have hW3 := fun v hm => words_no sb v (by omega) hm (by rw [← hsb]; exact blank_behind (by omega) HZ2.out)
  go_wp2_with fail
  refine (hW1 _ hm3).mono ?_
  rintro e w4 ⟨⟨v4, rfl, S4⟩, b4'⟩
  have b4 := chain2 b3 b4'
  have hv4 := hv3.below b4'
  have hm4 := hm3.below b4'
  clear hW1 b3 b4' hv3 hm3
  obtain ⟨a4, c4, hv4e, _, hc4⟩ := S4.slice
  rw [hv4e] at S4 ⊢
  clear hv4e
  go_wp2_with fail
  refine (hW2 _ hm4).mono ?_
  rintro e w5 ⟨⟨x5, y5, rfl⟩, b5'⟩
  have b5 := chain2 b4 b5'
  have hv5 := hv4.below b5'
  have hm5 := hm4.below b5'
  have S5 := S4.below b5'
  clear hW2 b4 b5' hv4 hm4 S4 hsa
  go_wp2_with fail
  refine (hW3 _ hm5).mono ?_
  rintro e w6 ⟨⟨x6, y6, rfl⟩, b6'⟩
  have b6 := chain2 b5 b6'
  have hv6 := hv5.below b6'
  have hm6 := hm5.below b6'
  have S6 := S5.below b6'
  clear hW3 b5 b6' hv5 hm5 S5 hsb za zb
  -- where the words are parted
  obtain ⟨n, hn⟩ : ∃ n : Nat, at0 % (L.length : Int) = (n : Int) := ⟨(at0 % (L.length : Int)).toNat, by have := Int.emod_nonneg at0 (show (L.length : Int) ≠ 0 by omega); omega⟩
  have hnl : n < L.length := by have := Int.emod_lt_of_pos at0 (show 0 < (L.length : Int) by omega); omega
  obtain ⟨gb, go, gc, hve, _, _, _, _⟩ := hv6.at 0 (by omega)
  simp only [Value.slice.injEq] at hve
  obtain ⟨rfl, _, rfl⟩ := hve
  have Sa := strs_take hv6 n (by omega) hlc HCM.out
  have Sb := strs_drop hv6 n (by omega) hlc HCM.out
  have hjs := jn_take_few L n (by omega) 16384 hj
  obtain ⟨JA, HJA⟩ : ∃ s, Hid (s = joinB (L.take n)) := ⟨_, rfl⟩
  obtain ⟨JB, HJB⟩ : ∃ s, Hid (s = joinB (L.drop n)) := ⟨_, rfl⟩
  have zA : JA.size ≤ 16384 := by rw [HJA.out, show (joinB _).size = _ from ofL_size _]; exact hjs.1
  have zB : JB.size ≤ 16384 := by rw [HJB.out, show (joinB _).size = _ from ofL_size _]; exact hjs.2
  have hJA := fun (v : World) (X : Value) (h : Strs v X (L.take n)) => zjoin_any v X (L.take n) h (by omega)
  have hJB := fun (v : World) (X : Value) (h : Strs v X (L.drop n)) => zjoin_any v X (L.drop n) h (by omega)
  rw [← HJA.out] at hJA
  rw [← HJB.out] at hJB
  have y1 : (JA ++ ⟨#[32]⟩ : ByteArray).size = JA.size + 1 := by rw [ByteArray.size_append]; rfl
  have y2 : (JA ++ ⟨#[32]⟩ ++ ⟨#[32]⟩ : ByteArray).size = JA.size + 2 := by rw [ByteArray.size_append, y1]; rfl
  have y3 : (JA ++ ⟨#[32]⟩ ++ ⟨#[32]⟩ ++ JB : ByteArray).size = JA.size + 2 + JB.size := by rw [ByteArray.size_append, y2]
  have hW4 := fun v hm => words_no (JA ++ ⟨#[32]⟩ ++ ⟨#[32]⟩ ++ JB) v (by omega) hm (by rw [HJA.out, HJB.out]; exact blank_between hne (by rw [← Hs.out]; omega) (by rw [← Hs.out]; exact HZ2.out) n hnl)
  have g1 := add_str JA ⟨#[32]⟩ (by show JA.size + 1 ≤ _; omega)
  have g2 := add_str (JA ++ ⟨#[32]⟩) ⟨#[32]⟩ (by rw [y1]; show JA.size + 1 + 1 ≤ _; omega)
  have g3 := add_str (JA ++ ⟨#[32]⟩ ++ ⟨#[32]⟩) JB (by rw [y2]; omega)
  have HY := hid (And.intro y1 (And.intro y2 y3))
  clear y1 y2 y3
  have hcn : ¬ c = n := by omega
  have i1 : (0 : Int) ≤ (n : Int) := by omega
  have i2 : (n : Int) ≤ (c : Int) := by omega
  have i3 : (n : Int) ≤ (L.length : Int) := by omega
  have i4 : (L.length : Int) ≤ (c : Int) := by omega
  have B0 : Below w6.heap.size w6 w6.drew := (Below.refl _ _).drew
  go_wp2_with fail
  go_region_held3 (fun w' => True) ((exact True.intro)) (first
    | (have gk := B2; go_at_call 10; refine (hW4 _ (hm6.below B2)).mono ?_; rintro e w9 ⟨⟨x9, y9, rfl⟩, b9'⟩; have B3 := chain2 B2 b9')
    | (have gk := B1; go_at_call 8; refine (hJB _ _ (Sb.below B1)).mono ?_; rintro e w8 ⟨rfl, b8'⟩; have B2 := chain2 B1 b8')
    | (go_at_call 8; refine (hJA _ _ (Sa.below B0)).mono ?_; rintro e w7 ⟨rfl, b7'⟩; have B1 := chain2 B0 b7'))
  all_goals
    have bF := chain2 b6 B3
    have hvF := hv6.below B3
    have SF := S6.below B3
    clear hJA hJB hW4 g1 g2 g3 Sa Sb hm6 hv6 S6
    go_wp2_with fail
    refine (same_true _ _ _ L SF hvF).mono ?_
    rintro e wG ⟨rfl, bG⟩
    have bG' := chain2 bF bG
    go_wp2
    go_ret
    exact ⟨rfl, bG'⟩
end Go.Proofs.YtpjajpgphdnglaaDoor
