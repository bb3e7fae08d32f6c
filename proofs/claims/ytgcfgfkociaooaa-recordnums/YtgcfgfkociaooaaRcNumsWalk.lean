/- The law RecordNums. -/
import Derived.Test.YtgcfgfkociaooaaRcDec
import Derived.Test.YtgcfgfkociaooaaRcSame
import Derived.Test.YtgcfgfkociaooaaRcOpen
namespace Go.Proofs.Ytgcfgfkociaooaa
open Go.RowKit
set_option linter.unusedVariables false
set_option maxRecDepth 100000
set_option linter.unusedSimpArgs false

theorem str_nil : Bs.of ⟨#[]⟩ = [] := rfl
/-- One record, laid by itself. -/
theorem one_row (X : World) (r : Rec) (u : Value) (hf : RecFits r) (hI : IsInts X u r.nums) : IsRecs (X.alloc (Obj.cells #[.int .i64 r.kind, .string r.who, u, .string r.text] 24)) (.slice (some ⟨X.heap.size, 0, none⟩) 1 1) [r] := by
  refine ⟨some ⟨X.heap.size, 0, none⟩, 1, rfl, Nat.le_refl _, by unfold maxLen; omega, Or.inr ⟨X.heap.size, 0, rfl, fun i hi => ?_⟩⟩
  have hi' : i = 0 := by simp at hi; exact hi
  subst hi'
  have q := Box4.new X 24 (.int .i64 r.kind) (.string r.who) u (.string r.text)
  exact ⟨hf, u, q.c0, q.c1, q.c2, q.c3, hI.below ((Below.refl _ _).alloc (Nat.le_refl _) _)⟩
set_option maxHeartbeats 8000000 in
theorem rnums_any (v : Value) (L : List Int) (w : World) (h : IsInts w v L) :
    Calls Try.prog 3 #[v] w fun e w' => e = .returned (.bool true) ∧ Below w.heap.size w w' := by
  obtain ⟨a, c, rfl, hl⟩ := h.slice
  by_cases hbig : 64 < L.length
  · go_enter Try.func3, Try.ntmps3
    go_wp2
    go_ret
    exact ⟨rfl, Below.refl _ _⟩
  · have hL : L.length ≤ 64 := by omega
    have q0 := Box4.new w 24 (.int .i64 7) (.string ⟨#[]⟩) (.slice a L.length c) (.string ⟨#[]⟩)
    have B0 := (Below.refl w.heap.size w).alloc (Nat.le_refl _) (Obj.cells #[.int .i64 7, .string ⟨#[]⟩, .slice a L.length c, .string ⟨#[]⟩] 24)
    obtain ⟨r, hr⟩ : ∃ r : Rec, r = ⟨7, ⟨#[]⟩, L, ⟨#[]⟩⟩ := ⟨_, rfl⟩
    have hg : Good r := by rw [hr]; exact ⟨by show (1 : Int) ≤ 7 ∧ (7 : Int) ≤ 255; omega, by show (0 : Nat) ≤ 64; omega, hL, by show (0 : Nat) ≤ 16384; omega, h.1⟩
    have HS : Hid ((enc r).length = 5 + (gs L).length) := by
      show _ = _
      rw [hr]
      simp only [enc, tx, cnt_len, List.length_cons, List.length_append, str_nil, List.length_nil]
      omega
    have he := encode_good (w.alloc (Obj.cells #[.int .i64 7, .string ⟨#[]⟩, .slice a L.length c, .string ⟨#[]⟩] 24)) r (.slice a L.length c) hg.fits (by rw [hr]; exact h.below B0) hg
    rw [show rv r (.slice a L.length c) = .agg #[.int .i64 7, .string ⟨#[]⟩, .slice a L.length c, .string ⟨#[]⟩] by rw [hr]; rfl] at he
    have HR := hid hr
    clear hr
    go_enter Try.func3, Try.ntmps3
    go_wp2_with fail
    refine he.mono ?_
    rintro e w1 ⟨rfl, b1'⟩
    have b1 := chain2 B0 b1'
    have HQ := hid (q0.below b1' (by simp))
    have HI := hid (h.below b1)
    clear he b1' q0 B0 h
    obtain ⟨T, HT⟩ : ∃ T, Hid (Bs.str (enc r) = T) := ⟨_, rfl⟩
    rw [HT.out]
    have hT : T.size = 5 + (gs L).length := by rw [← HT.out, str_size, HS.out]
    have hgl := gs_len L 64 HI.out.1 hL
    have HTs := hid hT
    clear hT
    go_wp2
    go_loop [6, 7] (fun z i => ∃ k x : Nat, k ≤ L.length ∧ i = .int .i64 k ∧ z = .int .i64 (x : Int) ∧ Hid (x = 5 + (gs (L.take k)).length)) (fun z i => L.length - (intOf i).toNat)
    case atStart => exact ⟨0, 5, Nat.zero_le _, rfl, rfl, rfl⟩
    case round =>
      obtain ⟨k, x, hk, rfl, rfl, HX⟩ := hrel
      by_cases hlt : k < L.length
      · have hx : x ≤ 1000 := by
          have h1 := gs_len (L.take k) 64 (fun n hn => HI.out.1 n (List.mem_of_mem_take hn)) (by simp; omega)
          rw [HX.out]; omega
        obtain ⟨b, off, c', e1, hc⟩ := HI.out.at k hlt
        simp only [Value.slice.injEq] at e1
        obtain ⟨rfl, _, rfl⟩ := e1
        have hn := HI.out.1 L[k] (List.getElem_mem hlt)
        have HTk := hid (show L.take (k + 1) = L.take k ++ [L[k]] by rw [List.take_add_one]; simp [List.getElem?_eq_getElem hlt])
        generalize L[k] = n at *
        have hz := zz_lt hn
        have hgz := grp_len hz
        obtain ⟨n1, n2⟩ := hn
        have tail : ∀ (z0 : Nat), z0 = zz n → True := fun _ _ => trivial
        rcases (show (0 ≤ n ∧ ∃ u : Nat, n = u ∧ zz n = u * 2) ∨ (n < 0 ∧ ∃ u : Nat, -(n + 1) = (u : Int) ∧ zz n = u * 2 + 1) from by
          by_cases h0 : 0 ≤ n
          · exact Or.inl ⟨h0, n.toNat, by omega, by unfold zz; rw [if_pos h0]; omega⟩
          · exact Or.inr ⟨by omega, (-(n + 1)).toNat, by omega, by unfold zz; rw [if_neg h0]; omega⟩) with ⟨h0, u, rfl, hu⟩ | ⟨h0, u, hu0, hu⟩
        · rw [hu] at hz hgz
          have HU := hid hu
          have HG := hid hgz
          clear hu tail h0 n1 hgz
          have hneg : ¬ (u : Int) < 0 := by omega
          go_wp2
          clear hneg n2 hc
          go_loop [6, 8] (fun z v => ∃ y m : Nat, v = .int .u64 (y : Int) ∧ z = .int .i64 (m : Int) ∧ y < 18446744073709551616 ∧ Hid (m + (grp y).length = x + 1 + (grp (u * 2)).length) ∧ m ≤ 2000) (fun z v => (intOf v).toNat)
          case atStart => exact ⟨u * 2, x + 1, by simp, by simp, by omega, rfl, by omega⟩
          case round =>
            obtain ⟨y, m, rfl, rfl, hy, HM, hm⟩ := hrel
            by_cases hge : 128 ≤ y
            · have HM2 := hid (show m + 1 + (grp (y / 128)).length = x + 1 + (grp (u * 2)).length by
                have h1 := HM.out
                rw [grp_ge hge, List.length_cons] at h1
                omega)
              have hm2 : m + 1 ≤ 2000 := by
                have h1 := HM2.out
                have := grp_pos (y / 128)
                have := HG.out
                omega
              go_wp2
              go_round
              case rel => exact ⟨y / 128, m + 1, by go_num, by go_num, by omega, HM2.out, hm2⟩
              case measure => simp [intOf]; omega
            · have HM2 := hid (show m = 5 + (gs (L.take (k + 1))).length by
                have h1 := HM.out
                rw [grp_lt (show y < 128 by omega)] at h1
                rw [HTk.out, gs_snoc, List.length_append, HU.out]
                have := HX.out
                simp at h1
                omega)
              go_wp2
              go_round
              case rel => exact ⟨k + 1, m, by omega, by go_num, rfl, HM2.out⟩
              case measure => simp [intOf]; omega
        · rw [hu] at hz hgz
          have HU := hid hu
          clear hu tail
          go_wp2
          go_loop [6, 8] (fun z v => ∃ y m : Nat, v = .int .u64 (y : Int) ∧ z = .int .i64 (m : Int) ∧ y < 18446744073709551616 ∧ Hid (m + (grp y).length = x + 1 + (grp (u * 2 + 1)).length) ∧ m ≤ 2000) (fun z v => (intOf v).toNat)
          case atStart => exact ⟨u * 2 + 1, x + 1, by simp, by simp, by omega, rfl, by omega⟩
          case round =>
            obtain ⟨y, m, rfl, rfl, hy, HM, hm⟩ := hrel
            by_cases hge : 128 ≤ y
            · have HM2 := hid (show m + 1 + (grp (y / 128)).length = x + 1 + (grp (u * 2 + 1)).length by
                have h1 := HM.out
                rw [grp_ge hge, List.length_cons] at h1
                omega)
              have hm2 : m + 1 ≤ 2000 := by
                have h1 := HM2.out
                have := grp_pos (y / 128)
                have := hgz
                omega
              go_wp2
              go_round
              case rel => exact ⟨y / 128, m + 1, by go_num, by go_num, by omega, HM2.out, hm2⟩
              case measure => simp [intOf]; omega
            · have HM2 := hid (show m = 5 + (gs (L.take (k + 1))).length by
                have h1 := HM.out
                rw [grp_lt (show y < 128 by omega)] at h1
                rw [HTk.out, gs_snoc, List.length_append, HU.out]
                have := HX.out
                simp at h1
                omega)
              go_wp2
              go_round
              case rel => exact ⟨k + 1, m, by omega, by go_num, rfl, HM2.out⟩
              case measure => simp [intOf]; omega
      · obtain rfl : k = L.length := by omega
        have HX2 := hid (show x = T.size by rw [HX.out, HTs.out, List.take_length])
        have hTs : T.size ≤ 1000 := by rw [HTs.out]; omega
        clear HX hlt hk
        go_wp2_with fail
        refine (decode_any w1 T (by omega)).mono ?_
        rintro e w2 ⟨l, M, n, rfl, hD, hR, b2'⟩
        have hDD : Dec (Bs.of T) [r] (enc r).length := by
          rw [← HT.out, of_str]
          have := Dec.all (L := [r]) (by simpa using hg)
          simpa [encs] using this
        obtain ⟨rfl, rfl⟩ := hD.uniq hDD
        have hE : (enc r).length = T.size := by rw [← HT.out, str_size]
        rw [hE, ← HX2.out]
        have b2 := chain2 b1 b2'
        have q2 := HQ.out.below b2' (World.block_lt_of_cell? w1 _ HQ.out.c0)
        have HRow := hid hR.recs
        have HI2 := hid (HI.out.below b2')
        have hx2 : x ≤ 1000 := by rw [HX2.out]; omega
        obtain ⟨la, lc, rfl, _⟩ := hR.recs.slice
        have hT2 : (T.size : Int) = x := by rw [HX2.out]
        clear hD hDD hE hR b2'
        obtain ⟨_, c0, c1, c2, c3, _⟩ := q2
        go_wp2_with fail
        have hone := one_row w2 r (.slice a L.length c) hg.fits (by rw [HR.out]; exact HI2.out)
        rw [HR.out] at hone HRow
        refine (same_true _ _ _ _ (HRow.out.below ((Below.refl _ _).alloc (Nat.le_refl _) _)) hone).mono ?_
        rintro e w3 ⟨rfl, b3'⟩
        have b3 := chain2 (chain2 b2 ((Below.refl _ _).alloc (Nat.le_refl _) _)) b3'
        go_wp2
        go_ret
        exact ⟨rfl, b3⟩
end Go.Proofs.Ytgcfgfkociaooaa
