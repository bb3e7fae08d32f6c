/- record: takeNums. -/
import Derived.Test.YtfpifjejooineaaRcGroups
namespace Go.Proofs.Ytfpifjejooineaa.Rc
open Go.RowKit
set_option linter.unusedVariables false
set_option maxRecDepth 100000
set_option linter.unusedSimpArgs false

set_option maxHeartbeats 4000000 in
theorem takeNums_any (w : World) (p q : Nat) (s : ByteArray) (k : Nat) (h : Tk w p q s k) :
    Calls Try.prog 68 #[.func (.func 48) #[] #[.pointer (some ⟨p, 0, none⟩), .pointer (some ⟨q, 0, none⟩)]] w fun e w' => Fr p w w' ∧ ∃ k', Tk w' p q s k' ∧
      ((∃ (M : List Int) (v : Value), M.length ≤ 64 ∧ (∀ n ∈ M, I64 n) ∧ (Bs.of s).drop k = cnt 1 M.length ++ (gs M ++ (Bs.of s).drop k') ∧ w'.ownsRow w.heap.size 3 1 v M.length (i64s M) ∧ e = .returned (.tuple #[v, .bool true])) ∨ ((∀ (M : List Int) (a : Bs), M.length ≤ 64 → (∀ n ∈ M, I64 n) → (Bs.of s).drop k ≠ cnt 1 M.length ++ (gs M ++ a)) ∧ e = .returned (.tuple #[.slice none 0 0, .bool false]))) := by
  have hsz := h.sz
  have hkl := h.le
  have hpl := h.pl
  obtain ⟨i0, hi, hz0, hz1, hz2⟩ := info_parts info_int
  go_enter Try.func68, Try.ntmps68
  go_wp2_with fail
  refine (takeCount_any w p q s k 1 64 (by omega) (by omega) h).mono ?_
  rintro e w1 ⟨F1, ⟨hl, rfl, T1⟩ | ⟨hl, rfl, T1⟩⟩
  · by_cases hn : bev s k 1 ≤ 64
    · have e1 : decide (bev s k 1 ≤ 64) = true := decide_eq_true hn
      have HN := hid (cnt_bev s k 1 (by omega) hl)
      rw [e1]
      have s1 := F1.size
      have HK := hid (show ∀ (M : List Int) (a : Bs), M.length ≤ 64 → (Bs.of s).drop k = cnt 1 M.length ++ (gs M ++ a) → M.length = bev s k 1 ∧ (Bs.of s).drop (k + 1) = gs M ++ a from fun M a ht e => by
        obtain ⟨_, h1, h2⟩ := cnt_ahead (by omega) (by omega) e hkl
        exact ⟨h1.symm, h2⟩)
      clear e1
      generalize bev s k 1 = n at *
      go_wp2
      go_loopw [6, 17] (fun v c wr => ∃ (j kj : Nat) (M : List Int), j ≤ n ∧ c = .int .i64 j ∧ Hid ((Bs.of s).drop (k + 1) = gs M ++ (Bs.of s).drop kj) ∧ Hid (M.length = j) ∧ Hid (∀ x ∈ M, I64 x) ∧ wr.ownsRow w.heap.size 3 1 v j (i64s M) ∧ Tk wr p q s kj ∧ Fr p w wr) (fun _ c _ => n - (intOf c).toNat)
      case atStart => exact ⟨0, k + 1, [], Nat.zero_le _, rfl, rfl, rfl, (by show ∀ x ∈ [], I64 x; simp), World.ownsRow_nil _ _ _ _, T1, F1⟩
      case round =>
        obtain ⟨j, kj, M, hj, rfl, HM, HMj, HI, o, T, F⟩ := hrel
        clear T1 F1
        have s2 := F.size
        by_cases hlt : j < n
        · go_wp2_with fail
          refine (takeGroups_any wr p q s kj T).mono ?_
          rintro e w2 ⟨F2', k2, T2, ⟨z, hz, hd, rfl⟩ | ⟨hno, y, rfl⟩⟩
          · have F2 := F.trans F2'
            have o2 := F2'.own o (by omega)
            have s3 := F2.size
            have HD := hid (show (Bs.of s).drop (k + 1) = gs (M ++ [unz z]) ++ (Bs.of s).drop k2 by rw [HM.out, hd, gs_snoc, zz_unz, List.append_assoc])
            clear T F F2' o hd
            go_wp2_with fail
            refine (unzigzag_any w2 z hz).mono ?_
            rintro e w' ⟨rfl, rfl⟩
            have hx := unz_i64 hz
            have HX := hid hx
            obtain ⟨x, hxe⟩ : ∃ x, x = unz z := ⟨_, rfl⟩
            rw [← hxe] at HD HX ⊢
            clear hx hxe
            go_wp2_with (at_builtin; refine wpList_append_own _ rfl _ _ 27 rfl w.heap.size 3 i0 (.int .i64 0) 1 8 Try.underlying27 hi hz0 hz1 hz2 rfl (by decide) _ _ _ rfl (o2.alloc _) ⟨w'.heap.size, 0, none⟩ 1 1 [.int .i64 x] rfl rfl (by intro j u hu; match j, hu with | 0, hu => simp at hu; subst hu; simp [Addr.add]) (by intro u hu; simp at hu; subst hu; rfl) (by unfold maxLen; omega) (by omega) (by simp; omega) ?_)
            intro v' w3 o3 hgrow _
            have F3 : Fr p w w3 := (F2.alloc (by omega) _).grown hgrow hpl (fun g hg => (o2.lt g hg).1)
            have T3 : Tk w3 p q s k2 := (T2.keep ((Below.refl _ _).alloc (Nat.le_refl _) _)).grown hgrow hpl (fun g hg => (o2.lt g hg).1)
            have o4 : w3.ownsRow w.heap.size 3 1 v' (j + 1) (i64s (M ++ [x])) := by
              rw [i64s_app]
              exact o3
            clear o3 hgrow o2 T2 F2
            go_wp2
            go_roundw
            case rel => exact ⟨j + 1, k2, M ++ [x], by omega, by go_num, HD.out, (by show _ = _; rw [List.length_append, HMj.out]; rfl), (by
              show ∀ y ∈ M ++ [x], I64 y
              intro y hy
              rcases List.mem_append.1 hy with hy | hy
              · exact HI.out y hy
              · simp at hy; subst hy; exact HX.out), o4, T3, F3⟩
            case measure => simp [intOf]; omega
          · have F2 := F.trans F2'
            have HNo := hid (show ∀ (M : List Int) (a : Bs), M.length ≤ 64 → (∀ n ∈ M, I64 n) → (Bs.of s).drop k ≠ cnt 1 M.length ++ (gs M ++ a) from fun N a hN hf e => by
              obtain ⟨h1, h2⟩ := HK.out N a hN e
              have hjN : j < N.length := by omega
              have e3 : gs N = gs (N.take j) ++ (grp (zz N[j]) ++ gs (N.drop (j + 1))) := by
                rw [← gs, ← List.drop_eq_getElem_cons hjN, ← gs_app, List.take_append_drop]
              rw [HM.out, e3, List.append_assoc] at h2
              obtain ⟨_, h4⟩ := gs_pre _ _ _ _ (by rw [HMj.out, List.length_take]; omega) h2
              rw [List.append_assoc] at h4
              exact hno _ _ (zz_lt (hf _ (List.getElem_mem hjN))) h4)
            clear hno HK
            go_wp2
            exact bodyPost_ret (v := .tuple #[.slice none 0 0, .bool false]) (by simp [results, Try.results68, go_sem]) rfl ⟨F2, _, T2, Or.inr ⟨HNo.out, rfl⟩⟩
        · obtain rfl : j = n := by omega
          have HR := hid (show (Bs.of s).drop k = cnt 1 M.length ++ (gs M ++ (Bs.of s).drop kj) by rw [HN.out, HM.out, HMj.out])
          have HO := hid (show wr.ownsRow w.heap.size 3 1 u6 M.length (i64s M) by rw [HMj.out]; exact o)
          clear o
          go_wp2
          exact bodyPost_ret (v := .tuple #[u6, .bool true]) (by simp [results, Try.results68, go_sem]) rfl ⟨F, _, T, Or.inl ⟨M, u6, by rw [HMj.out]; exact hn, HI.out, HR.out, HO.out, rfl⟩⟩
    · have e1 : decide (bev s k 1 ≤ 64) = false := decide_eq_false hn
      rw [e1]
      have HNo := hid (show ∀ (M : List Int) (a : Bs), M.length ≤ 64 → (∀ n ∈ M, I64 n) → (Bs.of s).drop k ≠ cnt 1 M.length ++ (gs M ++ a) from fun M a ht _ e => by
        obtain ⟨_, h1, h2⟩ := cnt_ahead (by omega) (by omega) e hkl
        omega)
      have hB := bev_lt s k 1
      have hB2 : bev s k 1 < 65536 := by omega
      clear e1 hB
      generalize bev s k 1 = n at *
      go_wp2
      exact bodyPost_ret (v := .tuple #[.slice none 0 0, .bool false]) (by simp [results, Try.results68, go_sem]) rfl ⟨F1, _, T1, Or.inr ⟨HNo.out, rfl⟩⟩
  · have HNo := hid (show ∀ (M : List Int) (a : Bs), M.length ≤ 64 → (∀ n ∈ M, I64 n) → (Bs.of s).drop k ≠ cnt 1 M.length ++ (gs M ++ a) from fun M a ht _ e => by
      obtain ⟨h0, h1, h2⟩ := cnt_ahead (by omega) (by omega) e hkl
      omega)
    go_wp2
    exact bodyPost_ret (v := .tuple #[.slice none 0 0, .bool false]) (by simp [results, Try.results68, go_sem]) rfl ⟨F1, _, T1, Or.inr ⟨HNo.out, rfl⟩⟩
end Go.Proofs.Ytfpifjejooineaa.Rc
