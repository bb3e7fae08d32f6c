/- record: takeText, takeGroups, unzigzag, takeNums. -/
import Derived.Test.YtfpifjejooineaaRcTake
import Derived.Test.YtfpifjejooineaaRcEnc
namespace Go.Proofs.Ytfpifjejooineaa.Rc
open Go.RowKit
set_option linter.unusedVariables false
set_option maxRecDepth 100000
set_option linter.unusedSimpArgs false

theorem cnt_bev (s : ByteArray) (k K : Nat) (hK : 1 ≤ K ∧ K ≤ 2) (h : k + K ≤ s.size) : (Bs.of s).drop k = cnt K (bev s k K) ++ (Bs.of s).drop (k + K) := by
  rcases (show K = 1 ∨ K = 2 by omega) with rfl | rfl
  · obtain ⟨x, hx, e⟩ := drop_at s k (by omega)
    rw [e, cnt1]
    simp only [bev, Nat.zero_mul, Nat.zero_add, Nat.add_zero]
    rw [← hx, u8_of]; rfl
  · obtain ⟨x, hx, e⟩ := drop_at s k (by omega)
    obtain ⟨y, hy, e'⟩ := drop_at s (k + 1) (by omega)
    have h1 := UInt8.toNat_lt x
    have h2 := UInt8.toNat_lt y
    rw [e, e', cnt2]
    simp only [bev, Nat.zero_mul, Nat.zero_add, Nat.add_zero]
    rw [← hx, ← hy, show (x.toNat * 256 + y.toNat) / 256 = x.toNat by omega, u8_of]
    rw [show UInt8.ofNat (x.toNat * 256 + y.toNat) = y from by
      apply UInt8.toNat.inj
      rw [UInt8.toNat_ofNat']; omega]
    rfl
theorem cnt_inj {K a b : Nat} (hK : 1 ≤ K ∧ K ≤ 2) (ha : a < 256 ^ K) (hb : b < 256 ^ K) (h : cnt K a = cnt K b) : a = b := by
  rcases (show K = 1 ∨ K = 2 by omega) with rfl | rfl
  · rw [cnt1, cnt1] at h
    simp only [List.cons.injEq, and_true] at h
    exact u8_inj (by simpa using ha) (by simpa using hb) h
  · rw [cnt2, cnt2] at h
    simp only [List.cons.injEq, and_true] at h
    have e1 := u8_inj (by simp at ha; omega) (by simp at hb; omega) h.1
    have e2 : a % 256 = b % 256 := by
      have := congrArg UInt8.toNat h.2
      simpa [UInt8.toNat_ofNat'] using this
    omega
/-- What stands ahead is a count. -/
theorem cnt_ahead {s : ByteArray} {k K n : Nat} {a : Bs} (hK : 1 ≤ K ∧ K ≤ 2) (hn : n < 256 ^ K) (h : (Bs.of s).drop k = cnt K n ++ a) (hk : k ≤ s.size) : k + K ≤ s.size ∧ bev s k K = n ∧ (Bs.of s).drop (k + K) = a := by
  have hl := congrArg List.length h
  rw [List.length_drop, of_len, List.length_append, cnt_len] at hl
  have hkk : k + K ≤ s.size := by omega
  have e := cnt_bev s k K hK hkk
  rw [h] at e
  obtain ⟨e1, e2⟩ := List.append_inj e (by rw [cnt_len, cnt_len])
  exact ⟨hkk, (cnt_inj hK hn (bev_lt s k K) e1).symm, e2.symm⟩
theorem conv_nil (w : World) : (convert 46 9 (.slice none 0 0)).run Try.prog w = .ok (.string ⟨#[]⟩) w := by
  simp [convert, Try.underlying46, Try.underlying5, Try.underlying9, go_sem]
  rfl
set_option maxHeartbeats 4000000 in
theorem takeText_any (w : World) (p q : Nat) (s : ByteArray) (k K most : Nat) (hK : 1 ≤ K ∧ K ≤ 2) (hm : most ≤ 100000) (hmK : most < 256 ^ K) (h : Tk w p q s k) :
    Calls Try.prog 67 #[.func (.func 48) #[] #[.pointer (some ⟨p, 0, none⟩), .pointer (some ⟨q, 0, none⟩)], .int .i64 (K : Int), .int .i64 (most : Int)] w fun e w' => Fr p w w' ∧ ∃ k', Tk w' p q s k' ∧
      ((∃ t : ByteArray, t.size ≤ most ∧ (Bs.of s).drop k = tx K (Bs.of t) ++ (Bs.of s).drop k' ∧ e = .returned (.tuple #[.string t, .bool true])) ∨ ((∀ (t a : Bs), t.length ≤ most → (Bs.of s).drop k ≠ tx K t ++ a) ∧ e = .returned (.tuple #[.string ⟨#[]⟩, .bool false]))) := by
  have hsz := h.sz
  have hkl := h.le
  obtain ⟨i0, hi, hz0, hz1, hz2⟩ := info_parts info_u8
  have hpl := h.pl
  go_enter Try.func67, Try.ntmps67
  go_wp2_with fail
  refine (takeCount_any w p q s k K most hK.2 (by omega) h).mono ?_
  rintro e w1 ⟨F1, ⟨hl, rfl, T1⟩ | ⟨hl, rfl, T1⟩⟩
  · by_cases hn : bev s k K ≤ most
    · have e1 : decide (bev s k K ≤ most) = true := decide_eq_true hn
      have HN := hid (cnt_bev s k K hK hl)
      rw [e1]
      have s1 := F1.size
      have hB : bev s k K ≤ 100000 := by omega
      have HK := hid (show ∀ (t a : Bs), t.length ≤ most → (Bs.of s).drop k = tx K t ++ a → t.length = bev s k K ∧ (Bs.of s).drop (k + K) = t ++ a from fun t a ht e => by
        rw [tx, List.append_assoc] at e
        obtain ⟨_, h1, h2⟩ := cnt_ahead hK (by omega) e hkl
        exact ⟨h1.symm, h2⟩)
      clear e1
      generalize bev s k K = n at *
      go_wp2
      go_loopw [10, 23] (fun v c wr => ∃ (j : Nat) (L : Bs), j ≤ n ∧ c = .int .i64 j ∧ Hid ((Bs.of s).drop (k + K) = L ++ (Bs.of s).drop (k + K + j)) ∧ L.length = j ∧ (L = [] → v = .slice none 0 0) ∧ wr.ownsRow w.heap.size 5 1 v L.length (Lib.byteCells L) ∧ Tk wr p q s (k + K + j) ∧ Fr p w wr) (fun _ c _ => n - (intOf c).toNat)
      case atStart => exact ⟨0, [], Nat.zero_le _, rfl, rfl, rfl, fun _ => rfl, World.ownsRow_nil _ _ _ _, T1, F1⟩
      case round =>
        obtain ⟨j, L, hj, rfl, HL, hLj, hnil, o, T, F⟩ := hrel
        clear T1 F1
        have s2 := F.size
        have HNil := hid hnil
        have HLj := hid hLj
        clear hnil
        by_cases hlt : j < n
        · by_cases hk : k + K + j < s.size
          · obtain ⟨x, hx, ed⟩ := drop_at s (k + K + j) hk
            have HD := hid (show (Bs.of s).drop (k + K) = (L ++ [x]) ++ (Bs.of s).drop (k + K + (j + 1)) by rw [HL.out, ed, List.append_assoc]; rfl)
            have ht := take_next wr p q s (k + K + j) hk T
            rw [← hx] at ht
            have hxl := UInt8.toNat_lt x
            clear hx ed
            rw [hLj] at o
            clear hLj
            go_wp2_with fail
            refine ht.mono ?_
            rintro e w2 ⟨rfl, T2, F2'⟩
            have F2 := F.trans F2'
            have o2 := F2'.own o (by omega)
            have s3 := F2.size
            clear T F ht F2' o
            go_wp2_with (at_builtin; refine wpList_append_own _ rfl _ _ 46 rfl w.heap.size 5 i0 (.int .u8 0) 1 1 Try.underlying46 hi hz0 hz1 hz2 rfl (by decide) _ _ _ rfl (o2.alloc _) ⟨w2.heap.size, 0, none⟩ 1 1 [.int .u8 (x.toNat : Int)] rfl rfl (by intro j u hu; match j, hu with | 0, hu => simp at hu; subst hu; simp [Addr.add]) (by intro u hu; simp at hu; subst hu; rfl) (by unfold maxLen; omega) (by omega) (by simp; omega) ?_)
            intro v' w3 o3 hgrow _
            have F3 : Fr p w w3 := (F2.alloc (by omega) _).grown hgrow hpl (fun g hg => (o2.lt g hg).1)
            have T3 : Tk w3 p q s (k + K + j + 1) := (T2.keep ((Below.refl _ _).alloc (Nat.le_refl _) _)).grown hgrow hpl (fun g hg => (o2.lt g hg).1)
            have o4 : w3.ownsRow w.heap.size 5 1 v' (L ++ [x]).length (Lib.byteCells (L ++ [x])) := by
              rw [List.length_append, HLj.out, Lib.byteCells_append]
              exact o3
            clear o3 hgrow o2 T2 F2
            go_wp2
            go_roundw
            case rel => exact ⟨j + 1, L ++ [x], by omega, by go_num, HD.out, by rw [List.length_append, HLj.out]; rfl, fun h => by simp at h, o4, T3, F3⟩
            case measure => simp [intOf]; omega
          · have hk' : k + K + j = s.size := by have := T.le; omega
            have HNo := hid (show ∀ (t a : Bs), t.length ≤ most → (Bs.of s).drop k ≠ tx K t ++ a from fun t a ht e => by
              obtain ⟨h1, h2⟩ := HK.out t a ht e
              have h3 := congrArg List.length h2
              rw [HL.out, List.length_append, List.length_append, List.length_drop, of_len, HLj.out] at h3
              omega)
            rw [hk'] at T
            have ht := take_end wr p q s T
            clear hk' hk HK
            go_wp2_with fail
            refine ht.mono ?_
            rintro e w2 ⟨rfl, rfl⟩
            go_wp2
            exact bodyPost_ret (v := .tuple #[.string ⟨#[]⟩, .bool false]) (by simp [results, Try.results67, go_sem]) rfl ⟨F, _, T, Or.inr ⟨HNo.out, rfl⟩⟩
        · obtain rfl : j = n := by omega
          have HR := hid (show (Bs.str L).size ≤ most ∧ (Bs.of s).drop k = tx K (Bs.of (Bs.str L)) ++ (Bs.of s).drop (k + K + j) from by
            rw [str_size, HLj.out]
            refine ⟨hn, ?_⟩
            rw [HN.out, HL.out, of_str, tx, HLj.out, List.append_assoc])
          have hcv : (convert 46 9 u10).run Try.prog wr = .ok (.string (Bs.str L)) wr := by
            by_cases h0 : L = []
            · rw [HNil.out h0, h0]; exact conv_nil wr
            · obtain ⟨g4, c4, e4, _⟩ := bytes_form o h0
              rw [e4] at o ⊢
              exact bytes_conv o
          clear HK HN HL HNil o
          generalize Bs.str L = t at *
          go_wp2
          exact bodyPost_ret (v := .tuple #[.string t, .bool true]) (by simp [results, Try.results67, go_sem]) rfl ⟨F, _, T, Or.inl ⟨t, HR.out.1, HR.out.2, rfl⟩⟩
    · have e1 : decide (bev s k K ≤ most) = false := decide_eq_false hn
      rw [e1]
      have HNo := hid (show ∀ (t a : Bs), t.length ≤ most → (Bs.of s).drop k ≠ tx K t ++ a from fun t a ht e => by
        rw [tx, List.append_assoc] at e
        obtain ⟨_, h1, h2⟩ := cnt_ahead hK (by omega) e hkl
        omega)
      have hB := bev_lt s k K
      have hB2 : bev s k K < 65536 := Nat.lt_of_lt_of_le hB (Nat.pow_le_pow_right (n := 256) (by omega) hK.2)
      clear e1 hB
      generalize bev s k K = n at *
      go_wp2
      exact bodyPost_ret (v := .tuple #[.string ⟨#[]⟩, .bool false]) (by simp [results, Try.results67, go_sem]) rfl ⟨F1, _, T1, Or.inr ⟨HNo.out, rfl⟩⟩
  · have HNo := hid (show ∀ (t a : Bs), t.length ≤ most → (Bs.of s).drop k ≠ tx K t ++ a from fun t a ht e => by
      rw [tx, List.append_assoc] at e
      obtain ⟨h0, h1, h2⟩ := cnt_ahead hK (by omega) e hkl
      omega)
    go_wp2
    exact bodyPost_ret (v := .tuple #[.string ⟨#[]⟩, .bool false]) (by simp [results, Try.results67, go_sem]) rfl ⟨F1, _, T1, Or.inr ⟨HNo.out, rfl⟩⟩
end Go.Proofs.Ytfpifjejooineaa.Rc
