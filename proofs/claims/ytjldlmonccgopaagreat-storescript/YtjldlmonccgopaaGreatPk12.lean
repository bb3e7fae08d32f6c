/- RcNums, RcRec, RcDec, RcNumber, RcXmath. -/
import Derived.Test.YtjldlmonccgopaaGreatPk11
/- record: takeNums. -/
namespace Go.Proofs.YtjldlmonccgopaaGreat.Rc
open Go.RowKit
set_option linter.unusedVariables false
set_option maxRecDepth 100000
set_option linter.unusedSimpArgs false

set_option maxHeartbeats 4000000 in
theorem takeNums_any (w : World) (p q : Nat) (s : ByteArray) (k : Nat) (h : Tk w p q s k) :
    Calls Tryz.prog 68 #[.func (.func 52) #[] #[.pointer (some ⟨p, 0, none⟩), .pointer (some ⟨q, 0, none⟩)]] w fun e w' => Fr p w w' ∧ ∃ k', Tk w' p q s k' ∧
      ((∃ (M : List Int) (v : Value), M.length ≤ 64 ∧ (∀ n ∈ M, I64 n) ∧ (Bs.of s).drop k = cnt 1 M.length ++ (gs M ++ (Bs.of s).drop k') ∧ w'.ownsRow w.heap.size 3 1 v M.length (i64s M) ∧ e = .returned (.tuple #[v, .bool true])) ∨ ((∀ (M : List Int) (a : Bs), M.length ≤ 64 → (∀ n ∈ M, I64 n) → (Bs.of s).drop k ≠ cnt 1 M.length ++ (gs M ++ a)) ∧ e = .returned (.tuple #[.slice none 0 0, .bool false]))) := by
  have hsz := h.sz
  have hkl := h.le
  have hpl := h.pl
  obtain ⟨i0, hi, hz0, hz1, hz2⟩ := info_parts info_int
  go_enter Tryz.func68, Tryz.ntmps68
  go_wp2_with fail
  refine (takeCount_any w p q s k 1 64 (by omega) (by omega) h).mono ?_
  rintro e w1 ⟨F1, ⟨hl, rfl, T1⟩ | ⟨hl, rfl, T1⟩⟩
  · by_cases hn : bev s k 1 ≤ 64
    · have e1 : decide (bev s k 1 ≤ 64) = true := decide_eq_true hn
      have HN := hid (cnt_bev s k 1 (by omega) hl)
      rw [e1]
      have s1 := F1.size
      have HK := hid (show ∀ (M : List Int) (a : Bs), M.length ≤ 64 → (Bs.of s).drop k = cnt 1 M.length ++ (gs M ++ a) → M.length = bev s k 1 ∧ (Bs.of s).drop (k + 1) = gs M ++ a from fun M a ht e => by
        obtain ⟨_, h1, h2⟩ := cnt_ahead (by omega) (by omega) e hkl
        exact ⟨h1.symm, h2⟩)
      clear e1
      generalize bev s k 1 = n at *
      go_wp2
      go_loopw [6, 17] (fun v c wr => ∃ (j kj : Nat) (M : List Int), j ≤ n ∧ c = .int .i64 j ∧ Hid ((Bs.of s).drop (k + 1) = gs M ++ (Bs.of s).drop kj) ∧ Hid (M.length = j) ∧ Hid (∀ x ∈ M, I64 x) ∧ wr.ownsRow w.heap.size 3 1 v j (i64s M) ∧ Tk wr p q s kj ∧ Fr p w wr) (fun _ c _ => n - (intOf c).toNat)
      case atStart => exact ⟨0, k + 1, [], Nat.zero_le _, rfl, rfl, rfl, (by show ∀ x ∈ [], I64 x; simp), World.ownsRow_nil _ _ _ _, T1, F1⟩
      case round =>
        obtain ⟨j, kj, M, hj, rfl, HM, HMj, HI, o, T, F⟩ := hrel
        clear T1 F1
        have s2 := F.size
        by_cases hlt : j < n
        · go_wp2_with fail
          refine (takeGroups_any wr p q s kj T).mono ?_
          rintro e w2 ⟨F2', k2, T2, ⟨z, hz, hd, rfl⟩ | ⟨hno, y, rfl⟩⟩
          · have F2 := F.trans F2'
            have o2 := F2'.own o (by omega)
            have s3 := F2.size
            have HD := hid (show (Bs.of s).drop (k + 1) = gs (M ++ [unz z]) ++ (Bs.of s).drop k2 by rw [HM.out, hd, gs_snoc, zz_unz, List.append_assoc])
            clear T F F2' o hd
            go_wp2_with fail
            refine (unzigzag_any w2 z hz).mono ?_
            rintro e w' ⟨rfl, rfl⟩
            have hx := unz_i64 hz
            have HX := hid hx
            obtain ⟨x, hxe⟩ : ∃ x, x = unz z := ⟨_, rfl⟩
            rw [← hxe] at HD HX ⊢
            clear hx hxe
            go_wp2_with (at_builtin; refine wpList_append_own _ rfl _ _ 53 rfl w.heap.size 3 i0 (.int .i64 0) 1 8 Tryz.underlying53 hi hz0 hz1 hz2 rfl (by decide) _ _ _ rfl (o2.alloc _) ⟨w'.heap.size, 0, none⟩ 1 1 [.int .i64 x] rfl rfl (by intro j u hu; match j, hu with | 0, hu => simp at hu; subst hu; simp [Addr.add]) (by intro u hu; simp at hu; subst hu; rfl) (by unfold maxLen; omega) (by omega) (by simp; omega) ?_)
            intro v' w3 o3 hgrow _
            have F3 : Fr p w w3 := (F2.alloc (by omega) _).grown hgrow hpl (fun g hg => (o2.lt g hg).1)
            have T3 : Tk w3 p q s k2 := (T2.keep ((Below.refl _ _).alloc (Nat.le_refl _) _)).grown hgrow hpl (fun g hg => (o2.lt g hg).1)
            have o4 : w3.ownsRow w.heap.size 3 1 v' (j + 1) (i64s (M ++ [x])) := by
              rw [i64s_app]
              exact o3
            clear o3 hgrow o2 T2 F2
            go_wp2
            go_roundw
            case rel => exact ⟨j + 1, k2, M ++ [x], by omega, by go_num, HD.out, (by show _ = _; rw [List.length_append, HMj.out]; rfl), (by
              show ∀ y ∈ M ++ [x], I64 y
              intro y hy
              rcases List.mem_append.1 hy with hy | hy
              · exact HI.out y hy
              · simp at hy; subst hy; exact HX.out), o4, T3, F3⟩
            case measure => simp [intOf]; omega
          · have F2 := F.trans F2'
            have HNo := hid (show ∀ (M : List Int) (a : Bs), M.length ≤ 64 → (∀ n ∈ M, I64 n) → (Bs.of s).drop k ≠ cnt 1 M.length ++ (gs M ++ a) from fun N a hN hf e => by
              obtain ⟨h1, h2⟩ := HK.out N a hN e
              have hjN : j < N.length := by omega
              have e3 : gs N = gs (N.take j) ++ (grp (zz N[j]) ++ gs (N.drop (j + 1))) := by
                rw [← gs, ← List.drop_eq_getElem_cons hjN, ← gs_app, List.take_append_drop]
              rw [HM.out, e3, List.append_assoc] at h2
              obtain ⟨_, h4⟩ := gs_pre _ _ _ _ (by rw [HMj.out, List.length_take]; omega) h2
              rw [List.append_assoc] at h4
              exact hno _ _ (zz_lt (hf _ (List.getElem_mem hjN))) h4)
            clear hno HK
            go_wp2
            exact bodyPost_ret (v := .tuple #[.slice none 0 0, .bool false]) (by simp [results, Tryz.results68, go_sem]) rfl ⟨F2, _, T2, Or.inr ⟨HNo.out, rfl⟩⟩
        · obtain rfl : j = n := by omega
          have HR := hid (show (Bs.of s).drop k = cnt 1 M.length ++ (gs M ++ (Bs.of s).drop kj) by rw [HN.out, HM.out, HMj.out])
          have HO := hid (show wr.ownsRow w.heap.size 3 1 u6 M.length (i64s M) by rw [HMj.out]; exact o)
          clear o
          go_wp2
          exact bodyPost_ret (v := .tuple #[u6, .bool true]) (by simp [results, Tryz.results68, go_sem]) rfl ⟨F, _, T, Or.inl ⟨M, u6, by rw [HMj.out]; exact hn, HI.out, HR.out, HO.out, rfl⟩⟩
    · have e1 : decide (bev s k 1 ≤ 64) = false := decide_eq_false hn
      rw [e1]
      have HNo := hid (show ∀ (M : List Int) (a : Bs), M.length ≤ 64 → (∀ n ∈ M, I64 n) → (Bs.of s).drop k ≠ cnt 1 M.length ++ (gs M ++ a) from fun M a ht _ e => by
        obtain ⟨_, h1, h2⟩ := cnt_ahead (by omega) (by omega) e hkl
        omega)
      have hB := bev_lt s k 1
      have hB2 : bev s k 1 < 65536 := by omega
      clear e1 hB
      generalize bev s k 1 = n at *
      go_wp2
      exact bodyPost_ret (v := .tuple #[.slice none 0 0, .bool false]) (by simp [results, Tryz.results68, go_sem]) rfl ⟨F1, _, T1, Or.inr ⟨HNo.out, rfl⟩⟩
  · have HNo := hid (show ∀ (M : List Int) (a : Bs), M.length ≤ 64 → (∀ n ∈ M, I64 n) → (Bs.of s).drop k ≠ cnt 1 M.length ++ (gs M ++ a) from fun M a ht _ e => by
      obtain ⟨h0, h1, h2⟩ := cnt_ahead (by omega) (by omega) e hkl
      omega)
    go_wp2
    exact bodyPost_ret (v := .tuple #[.slice none 0 0, .bool false]) (by simp [results, Tryz.results68, go_sem]) rfl ⟨F1, _, T1, Or.inr ⟨HNo.out, rfl⟩⟩
end Go.Proofs.YtjldlmonccgopaaGreat.Rc
/- record: takeRecord. -/
namespace Go.Proofs.YtjldlmonccgopaaGreat.Rc
open Go.RowKit
set_option linter.unusedVariables false
set_option maxRecDepth 100000
set_option linter.unusedSimpArgs false

theorem Fr.box {p b : Nat} {X Y : World} {t : TypeId} {v0 v1 v2 v3 : Value} (k : Fr p X Y) (h : Box4 X b t v0 v1 v2 v3) (hb : p < b) : Box4 Y b t v0 v1 v2 v3 := Box4.of ((k.oth b (lt_of_block h.blk) (by omega)).trans h.blk)
theorem Fr.new {p b k : Nat} {u w : World} (h : Fr p u w) (hb : u.heap.size ≤ b) (hp : p < u.heap.size) (v : Value) : Fr p u (w.setCell ⟨b, k, none⟩ v) :=
  ⟨h.bel.setCell (p := ⟨b, k, none⟩) (by show p ≤ b; omega) v, fun i hi hs => (Below.heap_setCell w ⟨b, k, none⟩ v i (by show i ≠ b; omega)).trans (h.oth i hi hs)⟩
theorem fr4 {p b : Nat} {u X : World} (h : Fr p u X) (hb : u.heap.size ≤ b) (hp : p < u.heap.size) (v0 v1 v2 v3 : Value) : Fr p u ((((X.setCell ⟨b, 0, none⟩ v0).setCell ⟨b, 1, none⟩ v1).setCell ⟨b, 2, none⟩ v2).setCell ⟨b, 3, none⟩ v3) :=
  (((h.new hb hp _).new hb hp _).new hb hp _).new hb hp _
theorem Tk.set {w : World} {p q b k : Nat} {s : ByteArray} {n : Nat} (h : Tk w p q s n) (hb : p < b) (v : Value) : Tk (w.setCell ⟨b, k, none⟩ v) p q s n :=
  ⟨(Below.heap_setCell w ⟨b, k, none⟩ v p (by show p ≠ b; omega)).trans h.pb, (Below.heap_setCell w ⟨b, k, none⟩ v q (by have := h.lt; show q ≠ b; omega)).trans h.qb, h.lt, h.le, h.sz⟩
theorem Tk.set4 {X : World} {p q b : Nat} {s : ByteArray} {n : Nat} (h : Tk X p q s n) (hb : p < b) (v0 v1 v2 v3 : Value) : Tk ((((X.setCell ⟨b, 0, none⟩ v0).setCell ⟨b, 1, none⟩ v1).setCell ⟨b, 2, none⟩ v2).setCell ⟨b, 3, none⟩ v3) p q s n :=
  (((h.set hb _).set hb _).set hb _).set hb _
theorem own_set4 {X : World} {b base size : Nat} {e : TypeId} {v : Value} {n : Nat} {xs : List Value} (h : X.ownsRow base e size v n xs) (hb : b < base) (v0 v1 v2 v3 : Value) : ((((X.setCell ⟨b, 0, none⟩ v0).setCell ⟨b, 1, none⟩ v1).setCell ⟨b, 2, none⟩ v2).setCell ⟨b, 3, none⟩ v3).ownsRow base e size v n xs :=
  ownsRow_setCell_below (ownsRow_setCell_below (ownsRow_setCell_below (ownsRow_setCell_below h (a := ⟨b, 0, none⟩) hb v0) (a := ⟨b, 1, none⟩) hb v1) (a := ⟨b, 2, none⟩) hb v2) (a := ⟨b, 3, none⟩) hb v3
theorem enc_ahead {r : Rec} {a D : Bs} {x : UInt8} (h : x :: D = enc r ++ a) : x = UInt8.ofNat r.kind.toNat ∧ D = tx 1 (Bs.of r.who) ++ (cnt 1 r.nums.length ++ (gs r.nums ++ (tx 2 (Bs.of r.text) ++ a))) := by
  simp only [enc, List.cons_append, List.append_assoc, List.cons.injEq] at h
  exact h
set_option maxHeartbeats 8000000 in
theorem takeRecord_any (w : World) (p q : Nat) (s : ByteArray) (k : Nat) (h : Tk w p q s k) :
    Calls Tryz.prog 53 #[.func (.func 52) #[] #[.pointer (some ⟨p, 0, none⟩), .pointer (some ⟨q, 0, none⟩)]] w fun e w' => Fr p w w' ∧ ∃ k', Tk w' p q s k' ∧
      ((∃ (r : Rec) (v : Value), Good r ∧ (Bs.of s).drop k = enc r ++ (Bs.of s).drop k' ∧ w'.ownsRow w.heap.size 3 1 v r.nums.length (i64s r.nums) ∧ e = .returned (.tuple #[rv r v, .bool true])) ∨ (No ((Bs.of s).drop k) ∧ e = .returned (.tuple #[.agg #[.int .i64 0, .string ⟨#[]⟩, .slice none 0 0, .string ⟨#[]⟩], .bool false]))) := by
  have hsz := h.sz
  have hkl := h.le
  have hpl := h.pl
  have b0 := Box4.new w 81 (.int .i64 0) (.string ⟨#[]⟩) (.slice none 0 0) (.string ⟨#[]⟩)
  have F0 := (Fr.refl p w).alloc (by omega) (Obj.cells #[.int .i64 0, .string ⟨#[]⟩, .slice none 0 0, .string ⟨#[]⟩] 81)
  have T0 := h.keep ((Below.refl _ _).alloc (Nat.le_refl _) (Obj.cells #[.int .i64 0, .string ⟨#[]⟩, .slice none 0 0, .string ⟨#[]⟩] 81))
  go_enter Tryz.func53, Tryz.ntmps53
  go_wp2_with fail
  have hs0 : w.heap.size < (w.alloc (Obj.cells #[.int .i64 0, .string ⟨#[]⟩, .slice none 0 0, .string ⟨#[]⟩] 81)).heap.size := by simp
  generalize w.alloc (Obj.cells #[Value.int .i64 0, .string ⟨#[]⟩, .slice none 0 0, .string ⟨#[]⟩] 81) = W0 at *
  clear h
  by_cases hk : k < s.size
  · obtain ⟨x, hx, ed⟩ := drop_at s k hk
    have ht := take_next W0 p q s k hk T0
    rw [← hx] at ht
    have hxl := UInt8.toNat_lt x
    have HX := hid ed
    obtain ⟨c, HC⟩ : ∃ c, Hid (x.toNat = c) := ⟨_, rfl⟩
    rw [HC.out] at ht hxl
    clear hx ed
    refine ht.mono ?_
    rintro e W1 ⟨rfl, T1, F1'⟩
    have F1 := F0.trans F1'
    have b1 := F1'.box b0 hpl
    have hs1 : w.heap.size < W1.heap.size := Nat.lt_of_lt_of_le hs0 F1'.size
    clear F0 T0 F1' b0 ht
    by_cases h0 : c = 0
    · have HNo := hid (show No ((Bs.of s).drop k) from fun r a g e => by
        rw [HX.out] at e
        have h1 := (enc_ahead e).1
        have h2 := g.kind
        have h3 := HC.out
        rw [h1, u8n (by omega)] at h3
        omega)
      have hc1 : ((c : Int) == 0) = true := by rw [h0]; rfl
      clear h0
      have q9 := b1.set (.int .i64 0) (.string ⟨#[]⟩) (.slice none 0 0) (.string ⟨#[]⟩)
      have HF := hid (fr4 F1 (Nat.le_refl _) hpl (.int .i64 0) (.string ⟨#[]⟩) (.slice none 0 0) (.string ⟨#[]⟩))
      have HT := hid (T1.set4 (b := w.heap.size) (by omega) (.int .i64 0) (.string ⟨#[]⟩) (.slice none 0 0) (.string ⟨#[]⟩))
      obtain ⟨_, c0, c1, c2, c3, fr⟩ := b1
      clear F1 T1
      go_wp2
      obtain ⟨_, g0, g1, g2, g3, _⟩ := q9
      exact bodyPost_ret (v := .tuple #[.agg #[.int .i64 0, .string ⟨#[]⟩, .slice none 0 0, .string ⟨#[]⟩], .bool false]) (by simp [results, Tryz.results53, go_sem, g0, g1, g2, g3]) rfl ⟨HF.out, _, HT.out, Or.inr ⟨HNo.out, rfl⟩⟩
    · have hc1 : ((c : Int) == 0) = false := beq_eq_false_iff_ne.2 (by omega)
      go_wp2_with fail
      refine (takeText_any W1 p q s (k + 1) 1 64 (by omega) (by omega) (by omega) T1).mono ?_
      rintro e W2 ⟨F2', k2, T2, ⟨who, hwho, d2, rfl⟩ | ⟨hno, rfl⟩⟩
      · have F2 := F1.trans F2'
        have b2 := F2'.box b1 hpl
        have hs2 : w.heap.size < W2.heap.size := Nat.lt_of_lt_of_le hs1 F2'.size
        have HD2 := hid d2
        clear d2 F1 T1 F2' b1
        go_wp2_with fail
        refine (takeNums_any W2 p q s k2 T2).mono ?_
        rintro e W3 ⟨F3', k3, T3, ⟨M, v, hM, hf, d3, o3, rfl⟩ | ⟨hno, rfl⟩⟩
        · have F3 := F2.trans F3'
          have b3 := F3'.box b2 hpl
          have hs3 : w.heap.size < W3.heap.size := Nat.lt_of_lt_of_le hs2 F3'.size
          have HD3 := hid d3
          have HF3 := hid hf
          clear d3 F2 T2 F3' b2 hf
          obtain ⟨va, vc, rfl⟩ := own_slice o3
          go_wp2_with fail
          refine (takeText_any W3 p q s k3 2 16384 (by omega) (by omega) (by omega) T3).mono ?_
          rintro e W4 ⟨F4', k4, T4, ⟨text, htext, d4, rfl⟩ | ⟨hno, rfl⟩⟩
          · have F4 := F3.trans F4'
            have b4 := F4'.box b3 hpl
            have o4 := F4'.own o3 (by omega)
            have HR := hid (show Good ⟨(c : Int), who, M, text⟩ ∧ (Bs.of s).drop k = enc ⟨(c : Int), who, M, text⟩ ++ (Bs.of s).drop k4 from by
              refine ⟨⟨by show 1 ≤ (c : Int) ∧ (c : Int) ≤ 255; omega, hwho, hM, htext, HF3.out⟩, ?_⟩
              rw [HX.out, HD2.out, HD3.out, d4]
              simp only [enc, List.cons_append, List.append_assoc]
              congr 1
              rw [show ((c : Int)).toNat = c by omega, ← HC.out, u8_of])
            clear d4 F3 T3 F4' b3 o3
            have q9 := b4.set (.int .i64 (c : Int)) (.string who) (.slice va M.length vc) (.string text)
            have HF := hid (fr4 F4 (Nat.le_refl _) hpl (.int .i64 (c : Int)) (.string who) (.slice va M.length vc) (.string text))
            have HT := hid (T4.set4 (b := w.heap.size) (by omega) (.int .i64 (c : Int)) (.string who) (.slice va M.length vc) (.string text))
            have HO := hid (own_mono (own_set4 o4 hs2 (.int .i64 (c : Int)) (.string who) (.slice va M.length vc) (.string text)) (Nat.le_of_lt hs2))
            obtain ⟨_, c0, c1, c2, c3, fr⟩ := b4
            clear F4 T4 o4
            go_wp2
            obtain ⟨_, g0, g1, g2, g3, _⟩ := q9
            exact bodyPost_ret (v := .tuple #[.agg #[.int .i64 (c : Int), .string who, .slice va M.length vc, .string text], .bool true]) (by simp [results, Tryz.results53, go_sem, g0, g1, g2, g3]) rfl ⟨HF.out, _, HT.out, Or.inl ⟨⟨(c : Int), who, M, text⟩, _, HR.out.1, HR.out.2, HO.out, rfl⟩⟩
          · have F4 := F3.trans F4'
            have b4 := F4'.box b3 hpl
            have HNo := hid (show No ((Bs.of s).drop k) from fun r a g e => by
              rw [HX.out] at e
              have e1 := (enc_ahead e).2
              rw [HD2.out] at e1
              obtain ⟨_, e2⟩ := tx_pre1 (by rw [of_len]; omega) (by rw [of_len]; have := g.who; omega) e1
              rw [HD3.out] at e2
              simp only [cnt1, List.cons_append, List.nil_append, List.cons.injEq] at e2
              have e3 := u8_inj (by omega) (by have := g.nums; omega) e2.1
              obtain ⟨_, e4⟩ := gs_pre _ _ _ _ e3 e2.2
              exact hno _ _ (by rw [of_len]; exact g.text) e4)
            clear hno F3 T3 F4' b3 o3
            have q9 := b4.set (.int .i64 0) (.string ⟨#[]⟩) (.slice none 0 0) (.string ⟨#[]⟩)
            have HF := hid (fr4 F4 (Nat.le_refl _) hpl (.int .i64 0) (.string ⟨#[]⟩) (.slice none 0 0) (.string ⟨#[]⟩))
            have HT := hid (T4.set4 (b := w.heap.size) (by omega) (.int .i64 0) (.string ⟨#[]⟩) (.slice none 0 0) (.string ⟨#[]⟩))
            obtain ⟨_, c0, c1, c2, c3, fr⟩ := b4
            clear F4 T4
            go_wp2
            obtain ⟨_, g0, g1, g2, g3, _⟩ := q9
            exact bodyPost_ret (v := .tuple #[.agg #[.int .i64 0, .string ⟨#[]⟩, .slice none 0 0, .string ⟨#[]⟩], .bool false]) (by simp [results, Tryz.results53, go_sem, g0, g1, g2, g3]) rfl ⟨HF.out, _, HT.out, Or.inr ⟨HNo.out, rfl⟩⟩
        · have F3 := F2.trans F3'
          have b3 := F3'.box b2 hpl
          have HNo := hid (show No ((Bs.of s).drop k) from fun r a g e => by
            rw [HX.out] at e
            have e1 := (enc_ahead e).2
            rw [HD2.out] at e1
            obtain ⟨_, e2⟩ := tx_pre1 (by rw [of_len]; omega) (by rw [of_len]; have := g.who; omega) e1
            exact hno _ _ g.nums g.fit e2)
          clear hno F2 T2 F3' b2
          have q9 := b3.set (.int .i64 0) (.string ⟨#[]⟩) (.slice none 0 0) (.string ⟨#[]⟩)
          have HF := hid (fr4 F3 (Nat.le_refl _) hpl (.int .i64 0) (.string ⟨#[]⟩) (.slice none 0 0) (.string ⟨#[]⟩))
          have HT := hid (T3.set4 (b := w.heap.size) (by omega) (.int .i64 0) (.string ⟨#[]⟩) (.slice none 0 0) (.string ⟨#[]⟩))
          obtain ⟨_, c0, c1, c2, c3, fr⟩ := b3
          clear F3 T3
          go_wp2
          obtain ⟨_, g0, g1, g2, g3, _⟩ := q9
          exact bodyPost_ret (v := .tuple #[.agg #[.int .i64 0, .string ⟨#[]⟩, .slice none 0 0, .string ⟨#[]⟩], .bool false]) (by simp [results, Tryz.results53, go_sem, g0, g1, g2, g3]) rfl ⟨HF.out, _, HT.out, Or.inr ⟨HNo.out, rfl⟩⟩
      · have F2 := F1.trans F2'
        have b2 := F2'.box b1 hpl
        have HNo := hid (show No ((Bs.of s).drop k) from fun r a g e => by
          rw [HX.out] at e
          exact hno _ _ (by rw [of_len]; exact g.who) (enc_ahead e).2)
        clear hno F1 T1 F2' b1
        have q9 := b2.set (.int .i64 0) (.string ⟨#[]⟩) (.slice none 0 0) (.string ⟨#[]⟩)
        have HF := hid (fr4 F2 (Nat.le_refl _) hpl (.int .i64 0) (.string ⟨#[]⟩) (.slice none 0 0) (.string ⟨#[]⟩))
        have HT := hid (T2.set4 (b := w.heap.size) (by omega) (.int .i64 0) (.string ⟨#[]⟩) (.slice none 0 0) (.string ⟨#[]⟩))
        obtain ⟨_, c0, c1, c2, c3, fr⟩ := b2
        clear F2 T2
        go_wp2
        obtain ⟨_, g0, g1, g2, g3, _⟩ := q9
        exact bodyPost_ret (v := .tuple #[.agg #[.int .i64 0, .string ⟨#[]⟩, .slice none 0 0, .string ⟨#[]⟩], .bool false]) (by simp [results, Tryz.results53, go_sem, g0, g1, g2, g3]) rfl ⟨HF.out, _, HT.out, Or.inr ⟨HNo.out, rfl⟩⟩
  · have hk' : k = s.size := by omega
    have HNo := hid (show No ((Bs.of s).drop k) by rw [drop_end s k (by omega)]; exact no_short (by simp))
    rw [hk'] at T0
    have ht := take_end W0 p q s T0
    clear hk' hk
    refine ht.mono ?_
    rintro e W1 ⟨rfl, rfl⟩
    have q9 := b0.set (.int .i64 0) (.string ⟨#[]⟩) (.slice none 0 0) (.string ⟨#[]⟩)
    have HF := hid (fr4 F0 (Nat.le_refl _) hpl (.int .i64 0) (.string ⟨#[]⟩) (.slice none 0 0) (.string ⟨#[]⟩))
    have HT := hid (T0.set4 (b := w.heap.size) (by omega) (.int .i64 0) (.string ⟨#[]⟩) (.slice none 0 0) (.string ⟨#[]⟩))
    obtain ⟨_, c0, c1, c2, c3, fr⟩ := b0
    clear F0 T0
    go_wp2
    obtain ⟨_, g0, g1, g2, g3, _⟩ := q9
    exact bodyPost_ret (v := .tuple #[.agg #[.int .i64 0, .string ⟨#[]⟩, .slice none 0 0, .string ⟨#[]⟩], .bool false]) (by simp [results, Tryz.results53, go_sem, g0, g1, g2, g3]) rfl ⟨HF.out, _, HT.out, Or.inr ⟨HNo.out, rfl⟩⟩
end Go.Proofs.YtjldlmonccgopaaGreat.Rc
/- record: Decode. -/
namespace Go.Proofs.YtjldlmonccgopaaGreat.Rc
open Go.RowKit
set_option linter.unusedVariables false
set_option maxRecDepth 100000
set_option linter.unusedSimpArgs false

theorem Good.fits {r : Rec} (g : Good r) : RecFits r := by
  have h1 := g.kind; have h2 := g.who; have h3 := g.text
  exact ⟨by unfold I64; omega, by unfold maxLen; omega, by unfold maxLen; omega⟩
/-- Records that were decoded: their numbers are the call's own too. -/
def DRow (w : World) (base : Nat) (l : Value) (L : List Rec) : Prop :=
  (∀ r ∈ L, Good r) ∧ ∃ vs : List Value, vs.length = L.length ∧ w.ownsRow base 81 4 l L.length (flat L vs) ∧ ∀ i (h : i < L.length) (h' : i < vs.length), w.ownsRow base 3 1 vs[i] L[i].nums.length (i64s L[i].nums)
theorem own_kind {w : World} {base size : Nat} {e : TypeId} {v : Value} {n : Nat} {xs : List Value} (h : w.ownsRow base e size v n xs) (g : Nat) (hg : v.ownBlock = some g) : ∃ c fz, w.heap[g]? = some (.cells c e fz) := by
  rcases h.2 with ⟨rfl, _⟩ | ⟨g', cap, cur, rfl, _, hh, _⟩
  · simp [Value.ownBlock] at hg
  · simp [Value.ownBlock] at hg; subst hg; exact ⟨_, _, hh⟩
theorem own_apart {w : World} {base base' size size' : Nat} {e e' : TypeId} {v v' : Value} {n n' : Nat} {xs xs' : List Value} (h : w.ownsRow base e size v n xs) (h' : w.ownsRow base' e' size' v' n' xs') (hne : e ≠ e') : v.ownBlock = none ∨ v.ownBlock ≠ v'.ownBlock := by
  cases hv : v.ownBlock with
  | none => exact Or.inl rfl
  | some g =>
    refine Or.inr fun e2 => ?_
    obtain ⟨c, fz, h1⟩ := own_kind h g hv
    obtain ⟨c', fz', h2⟩ := own_kind h' g e2.symm
    rw [h1] at h2
    simp only [Option.some.injEq, Obj.cells.injEq] at h2
    exact hne h2.2.1
theorem DRow.row {w : World} {base : Nat} {l : Value} {L : List Rec} (h : DRow w base l L) : Row w base l L := by
  obtain ⟨hf, vs, h1, h2, h3⟩ := h
  refine ⟨fun r hr => (hf r hr).fits, vs, h1, h2, fun i hi hi' => ⟨IsInts.of_own (h3 i hi hi') (hf _ (List.getElem_mem hi)).fit, fun hn => ?_⟩⟩
  rcases own_apart (h3 i hi hi') h2 (by decide) with h | h
  · obtain ⟨b, hb, _⟩ := (IsInts.of_own (h3 i hi hi') (hf _ (List.getElem_mem hi)).fit).lt hn
    rw [h] at hb; cases hb
  · exact h
theorem DRow.fr {p : Nat} {w w' : World} {base : Nat} {l : Value} {L : List Rec} (h : DRow w base l L) (k : Fr p w w') (hp : p < base) : DRow w' base l L := by
  obtain ⟨hf, vs, h1, h2, h3⟩ := h
  exact ⟨hf, vs, h1, k.own h2 hp, fun i hi hi' => k.own (h3 i hi hi') hp⟩
theorem DRow.below {w w' : World} {base : Nat} {l : Value} {L : List Rec} (h : DRow w base l L) (k : Below w.heap.size w w') : DRow w' base l L := by
  obtain ⟨hf, vs, h1, h2, h3⟩ := h
  exact ⟨hf, vs, h1, own_below h2 k, fun i hi hi' => own_below (h3 i hi hi') k⟩
theorem DRow.nil (w : World) (base : Nat) : DRow w base (.slice none 0 0) [] := ⟨by simp, [], rfl, World.ownsRow_nil _ _ _ _, fun i hi => by simp at hi⟩
theorem DRow.snoc {w w' : World} {base : Nat} {l l' v : Value} {L : List Rec} {r : Rec} {vs : List Value} (hf : ∀ q ∈ L, Good q) (h1 : vs.length = L.length) (h2 : w.ownsRow base 81 4 l L.length (flat L vs)) (h3 : ∀ i (h : i < L.length) (h' : i < vs.length), w.ownsRow base 3 1 vs[i] L[i].nums.length (i64s L[i].nums))
    (hr : Good r) (hv : w.ownsRow base 3 1 v r.nums.length (i64s r.nums))
    (ho : w'.ownsRow base 81 4 l' (L.length + 1) (flat L vs ++ [.int .i64 r.kind, .string r.who, v, .string r.text])) (hg : w.grownBy w' l.ownBlock) : DRow w' base l' (L ++ [r]) := by
  refine ⟨fun q hq => ?_, vs ++ [v], by simp [h1], by rw [flat_snoc L vs r v h1]; simpa using ho, fun i hi hi' => ?_⟩
  · rcases List.mem_append.1 hq with hq | hq
    · exact hf q hq
    · simp at hq; subst hq; exact hr
  · by_cases hlt : i < L.length
    · simp only [List.getElem_append_left hlt, List.getElem_append_left (show i < vs.length by omega)]
      exact (h3 i hlt (by omega)).kept hg (own_apart (h3 i hlt (by omega)) h2 (by decide))
    · obtain rfl : i = L.length := by simp at hi; omega
      simp only [List.getElem_append_right (Nat.le_refl _), List.getElem_append_right (show vs.length ≤ L.length by omega), Nat.sub_self, h1, List.getElem_cons_zero]
      exact hv.kept hg (own_apart hv h2 (by decide))
theorem four_cells (X : World) (t : TypeId) (v0 v1 v2 v3 : Value) : ∀ j u, [v0, v1, v2, v3][j]? = some u → (X.alloc (.cells #[v0, v1, v2, v3] t)).cell? ((⟨X.heap.size, 0, none⟩ : Addr).add j) = some u := by
  intro j u hj
  rw [add_off, Nat.zero_add]
  exact cell_at (L := [v0, v1, v2, v3]) (heap_alloc_last X _) j u hj
set_option maxHeartbeats 8000000 in
theorem decode_any (w : World) (s : ByteArray) (hs : s.size ≤ 1000000) :
    Calls Tryz.prog 30 #[.string s] w fun e w' => ∃ (l : Value) (L : List Rec) (n : Nat), e = .returned (.tuple #[l, .int .i64 (n : Int)]) ∧ Dec (Bs.of s) L n ∧ Row w' w.heap.size l L ∧ Below w.heap.size w w' := by
  have B0 := ((Below.refl w.heap.size w).alloc (Nat.le_refl _) (Obj.cells #[.string s] 9)).alloc (by simp) (Obj.cells #[.int .i64 0] 3)
  have T0 : Tk ((w.alloc (Obj.cells #[.string s] 9)).alloc (Obj.cells #[.int .i64 0] 3)) (w.heap.size + 1) w.heap.size s 0 :=
    ⟨by have := heap_alloc_last (w.alloc (Obj.cells #[.string s] 9)) (Obj.cells #[.int .i64 0] 3); rwa [World.size_alloc] at this, (Below.heap_alloc _ _ _ (by simp)).trans (heap_alloc_last w _), by omega, by omega, hs⟩
  obtain ⟨i0, hi, hz0, hz1, hz2⟩ := info_parts info_rec
  go_enter Tryz.func30, Tryz.ntmps30
  go_wp2
  have hs0 : w.heap.size + 2 ≤ ((w.alloc (Obj.cells #[.string s] 9)).alloc (Obj.cells #[.int .i64 0] 3)).heap.size := by simp
  generalize ((w.alloc (Obj.cells #[Value.string s] 9)).alloc (Obj.cells #[.int .i64 0] 3)) = W0 at *
  go_loopw [6, 7] (fun l c wr => ∃ (L : List Rec) (k : Nat), c = .int .i64 (k : Int) ∧ Hid (k = (encs L).length ∧ Bs.of s = encs L ++ (Bs.of s).drop k) ∧ L.length ≤ k ∧ DRow wr (w.heap.size + 2) l L ∧ Tk wr (w.heap.size + 1) w.heap.size s k ∧ Below (w.heap.size + 1) W0 wr) (fun _ c _ => s.size - (intOf c).toNat)
  case atStart => exact ⟨[], 0, rfl, ⟨rfl, rfl⟩, Nat.le_refl _, DRow.nil _ _, T0, Below.refl _ _⟩
  case round =>
    obtain ⟨L, k, rfl, HK, hLk, D, T, b⟩ := hrel
    have HB := hid B0
    clear T0 B0
    have hkl := T.le
    have sz := b.size
    go_wp2_with fail
    refine (takeRecord_any wr _ _ s k T).mono ?_
    rintro e w1 ⟨F, k', T1, ⟨r, v, g, hd, o, rfl⟩ | ⟨hno, rfl⟩⟩
    · have D1 := D.fr F (by omega)
      have b1 := b.trans F.bel
      have o1 := own_mono o (show w.heap.size + 2 ≤ wr.heap.size by omega)
      have s1 := F.size
      have hk' := T1.le
      have HK' := hid (show k' = (encs (L ++ [r])).length ∧ Bs.of s = encs (L ++ [r]) ++ (Bs.of s).drop k' from by
        have h1 := congrArg List.length hd
        rw [List.length_drop, List.length_append, List.length_drop, of_len] at h1
        refine ⟨by rw [encs_snoc, List.length_append, ← HK.out.1]; omega, ?_⟩
        rw [encs_snoc, List.append_assoc, ← hd]
        exact HK.out.2)
      have hk2 : k + 5 ≤ k' := by
        have h1 := HK'.out.1
        rw [encs_snoc, List.length_append, ← HK.out.1] at h1
        have := enc_len r
        omega
      have HG := hid g
      clear D T b F hd o g
      unfold rv
      obtain ⟨va, vc, rfl⟩ := own_slice o1
      obtain ⟨hf, vs, q1, q2, q3⟩ := D1
      have HF := hid hf
      have HQ1 := hid q1
      have HQ3 := hid q3
      clear hf q1 q3
      have X1 := (Below.refl w1.heap.size w1).alloc (Nat.le_refl _) (Obj.cells #[.int .i64 r.kind, .string r.who, .slice va r.nums.length vc, .string r.text] 81)
      have q2' := (q2.alloc (Obj.cells #[.int .i64 r.kind, .string r.who, .slice va r.nums.length vc, .string r.text] 81)).alloc (Obj.cells #[.int .i64 r.kind, .string r.who, .slice va r.nums.length vc, .string r.text] 81)
      have o2 := (o1.alloc (Obj.cells #[.int .i64 r.kind, .string r.who, .slice va r.nums.length vc, .string r.text] 81)).alloc (Obj.cells #[.int .i64 r.kind, .string r.who, .slice va r.nums.length vc, .string r.text] 81)
      have hb2 : Below w1.heap.size w1 ((w1.alloc (Obj.cells #[.int .i64 r.kind, .string r.who, .slice va r.nums.length vc, .string r.text] 81)).alloc (Obj.cells #[.int .i64 r.kind, .string r.who, .slice va r.nums.length vc, .string r.text] 81)) := X1.alloc (by simp) _
      have T2 := T1.keep hb2
      have b2 := b1.trans (hb2.mono (by omega))
      go_wp2_with (at_builtin; refine wpList_append_own _ rfl _ _ 29 rfl (w.heap.size + 2) 81 i0 (.agg #[.int .i64 0, .string ⟨#[]⟩, .slice none 0 0, .string ⟨#[]⟩]) 4 64 Tryz.underlying29 hi hz0 hz1 hz2 rfl (by decide) _ _ _ rfl q2' ⟨w1.heap.size + 1, 0, none⟩ 1 1 [.int .i64 r.kind, .string r.who, .slice va r.nums.length vc, .string r.text] rfl rfl (fun j u hj => by have h4 := four_cells (w1.alloc (Obj.cells #[.int .i64 r.kind, .string r.who, .slice va r.nums.length vc, .string r.text] 81)) 81 _ _ _ _ j u hj; rw [World.size_alloc] at h4; exact h4) (by intro u hu; simp at hu; rcases hu with rfl | rfl | rfl | rfl <;> rfl) (by unfold maxLen; omega) (by omega) (by simp; omega) ?_)
      intro v' w3 o3 hgrow _
      have D3 : DRow w3 (w.heap.size + 2) v' (L ++ [r]) := DRow.snoc HF.out HQ1.out q2' (fun i hi hi' => ((HQ3.out i hi hi').alloc _).alloc _) HG.out o2 o3 hgrow
      have T3 : Tk w3 (w.heap.size + 1) w.heap.size s k' := T2.grown hgrow (B := w.heap.size + 2) (by omega) (fun g hg => (q2'.lt g hg).1)
      have b3 : Below (w.heap.size + 1) W0 w3 := b2.grown hgrow (by simp; omega) (fun g hg => by have := (q2'.lt g hg).1; omega)
      clear o3 hgrow q2' o2 T2 b2 hb2 X1 q2 T1 b1 o1
      have c0 := cell_at (L := [_]) T3.pb 0 _ rfl
      go_wp2
      go_roundw
      case rel => exact ⟨L ++ [r], k', rfl, HK'.out, by simp; omega, D3, T3, b3⟩
      case measure => simp [intOf]; omega
    · have D1 := D.fr F (by omega)
      have b1 := b.trans F.bel
      have s1 := F.size
      have HD := hid (show Dec (Bs.of s) L k from ⟨D.1, HK.out.1, _, HK.out.2, hno⟩)
      have X1 := (Below.refl w1.heap.size w1).alloc (Nat.le_refl _) (Obj.cells #[.int .i64 0, .string ⟨#[]⟩, .slice none 0 0, .string ⟨#[]⟩] 81)
      have HR := hid ((D1.below X1).row.mono (show w.heap.size ≤ w.heap.size + 2 by omega))
      have HBB := hid (HB.out.trans ((b1.trans (X1.mono (by omega))).mono (by omega)))
      clear D T b F hno D1 b1 X1 T1
      go_wp2
      exact bodyPost_ret (v := .tuple #[u6, .int .i64 (k : Int)]) (by simp [results, Tryz.results30, go_sem]) rfl ⟨_, _, _, rfl, HD.out, HR.out, HBB.out⟩
end Go.Proofs.YtjldlmonccgopaaGreat.Rc
/- The document's number. -/
namespace Go.Proofs.YtjldlmonccgopaaGreat.Rc
open Go.RowKit
set_option linter.unusedVariables false
set_option maxRecDepth 100000
set_option linter.unusedSimpArgs false

/-- A group shifted to its place, as far as it fits. -/
theorem shl_part (c j : Nat) (hj : j ≤ 9) : IntKind.u64.wrap ((c : Int) % 128 * 2 ^ (7 * j)) = (((c % 128 % 2 ^ (64 - 7 * j)) * 2 ^ (7 * j) : Nat) : Int) := by
  have e : (c : Int) % 128 = ((c % 128 : Nat) : Int) := by simp
  rw [e, pow_int, wrap_nat, show (18446744073709551616 : Nat) = 2 ^ (64 - 7 * j) * 2 ^ (7 * j) by rw [← Nat.pow_add, show 64 - 7 * j + 7 * j = 64 by omega], Nat.mul_mod_mul_right]
theorem part_lt (g j : Nat) (hj : j ≤ 9) : g % 2 ^ (64 - 7 * j) * 2 ^ (7 * j) < 18446744073709551616 := by
  rw [show (18446744073709551616 : Nat) = 2 ^ (64 - 7 * j) * 2 ^ (7 * j) by rw [← Nat.pow_add, show 64 - 7 * j + 7 * j = 64 by omega]]
  exact Nat.mul_lt_mul_of_pos_right (Nat.mod_lt _ (Nat.pow_pos (by omega))) (Nat.pow_pos (by omega))
theorem part_fit (g j : Nat) (hj : j ≤ 9) (h : g * 2 ^ (7 * j) < 18446744073709551616) : g % 2 ^ (64 - 7 * j) = g := by
  rw [show (18446744073709551616 : Nat) = 2 ^ (64 - 7 * j) * 2 ^ (7 * j) by rw [← Nat.pow_add, show 64 - 7 * j + 7 * j = 64 by omega]] at h
  exact Nat.mod_eq_of_lt (Nat.lt_of_mul_lt_mul_right h)
/-- What number says of the groups ahead. -/
def NumOf (s : ByteArray) (v : Int) (k : Nat) : Prop := I64 v ∧ k ≤ s.size ∧ ∀ (n : Int) (a : Bs), I64 n → Bs.of s = grp (zz n) ++ a → k = (grp (zz n)).length ∧ v = n
theorem num_none {s : ByteArray} (h : ∀ (z : Nat) (a : Bs), z < 18446744073709551616 → Bs.of s ≠ grp z ++ a) : NumOf s 0 0 := ⟨by unfold I64; omega, by omega, fun n a hn e => absurd e (h _ _ (zz_lt hn))⟩
set_option maxHeartbeats 4000000 in
theorem xnumber_any (w : World) (s : ByteArray) (hs : s.size ≤ 1000000) :
    Calls Tryz.prog 73 #[.string s] w fun e w' => (∃ (v : Int) (k : Nat), e = .returned (.tuple #[.int .i64 v, .int .i64 (k : Int)]) ∧ NumOf s v k) ∧ w' = w := by
  go_enter Tryz.func73, Tryz.ntmps73
  go_wp2
  go_loop [4, 5] (fun z c => ∃ (j y : Nat) (B : Bs), c = .int .i64 (j : Int) ∧ j ≤ 10 ∧ j ≤ s.size ∧ z = .int .u64 (y : Int) ∧ y < 18446744073709551616 ∧ Hid ((j ≤ 9 → y = val B) ∧ Big B ∧ B.length = j ∧ Bs.of s = B ++ (Bs.of s).drop j)) (fun _ c => s.size - (intOf c).toNat)
  case atStart => exact ⟨0, 0, [], rfl, by omega, by omega, rfl, by omega, ⟨fun _ => rfl, by simp [Big], rfl, rfl⟩⟩
  case round =>
    obtain ⟨j, y, B, rfl, hj, hjs, rfl, hy, HB⟩ := hrel
    by_cases hk : j < s.size
    · by_cases h10 : j < 10
      · obtain ⟨x, hx, ed⟩ := drop_at s j hk
        have ek := bt_at s j hk
        rw [← hx] at ek
        have HX := hid ed
        have hxl := UInt8.toNat_lt x
        obtain ⟨c, HC⟩ : ∃ c, Hid (x.toNat = c) := ⟨_, rfl⟩
        rw [HC.out] at ek hxl
        clear hx ed
        obtain ⟨sh, hsh⟩ : ∃ sh : Nat, (7 : Int) * (j : Int) = (sh : Int) := ⟨7 * j, by simp⟩
        have HSH := hid (show sh = 7 * j by omega)
        have hsh64 : sh < 64 := by omega
        have g1 := shl_part c j (by omega)
        rw [← HSH.out] at g1
        have hyj : y < 128 ^ j := by rw [HB.out.1 (by omega), ← HB.out.2.2.1]; exact val_lt B
        have g3 := or_sum y (c % 128 % 2 ^ (64 - 7 * j)) j hyj hy (part_lt _ j (by omega))
        obtain ⟨g3, g4⟩ := g3
        have HP := hid (show ∀ (z : Nat) (a : Bs), z < 18446744073709551616 → Bs.of s = grp z ++ a → c < 128 → (y + c % 128 % 2 ^ (64 - 7 * j) * 2 ^ (7 * j)) = z ∧ (grp z).length = j + 1 from fun z a hz e hc => by
          rw [HB.out.2.2.2, HX.out] at e
          obtain ⟨e1, e2⟩ := grp_next HB.out.2.1 e
          obtain ⟨e3, _, e4⟩ := e2 (by rw [HC.out]; exact hc)
          have e5 := grp_of HB.out.2.1 (by rw [HC.out]; exact hc) e4
          rw [← e3] at e5
          rw [HC.out, HB.out.2.2.1, show (128 : Nat) ^ j = 2 ^ (7 * j) by rw [Nat.pow_mul]] at e1
          have hfit : c % 128 * 2 ^ (7 * j) < 18446744073709551616 := by omega
          rw [part_fit _ j (by omega) hfit]
          refine ⟨?_, by rw [e5, List.length_append, HB.out.2.2.1]; rfl⟩
          rw [e3, val_snoc, HC.out, HB.out.2.2.1, ← HB.out.1 (by omega), Nat.pow_mul])
        rw [← HSH.out] at g3 g4 HP
        generalize hGG : c % 128 % 2 ^ (64 - sh) * 2 ^ sh = G at *
        have HGG := hid hGG
        clear hGG
        obtain ⟨Y, HY⟩ : ∃ Y, Hid (Y = y + G) := ⟨_, rfl⟩
        rw [← HY.out] at g3 g4 HP
        have HV : Hid (j + 1 ≤ 9 → Y = val (B ++ [x])) := by
          intro h9
          have hfit : c % 128 * 2 ^ (7 * j) < 18446744073709551616 := by
            have h1 : 2 ^ (7 * j) ≤ 2 ^ 56 := Nat.pow_le_pow_right (by omega) (by omega)
            have h2 : c % 128 * 2 ^ (7 * j) ≤ 127 * 2 ^ 56 := Nat.mul_le_mul (by omega) h1
            omega
          have h3 := part_fit _ j (by omega) hfit
          rw [← HSH.out] at h3
          rw [HY.out, ← HGG.out, h3, val_snoc, HC.out, HB.out.2.2.1, ← HB.out.1 (by omega), HSH.out, Nat.pow_mul]
        by_cases hbig : 128 ≤ c
        · have HN := hid (show Big (B ++ [x]) ∧ (B ++ [x]).length = j + 1 ∧ Bs.of s = (B ++ [x]) ++ (Bs.of s).drop (j + 1) from ⟨fun u hu => by
            rcases List.mem_append.1 hu with hu | hu
            · exact HB.out.2.1 u hu
            · simp at hu; subst hu; rw [HC.out]; exact hbig, by rw [List.length_append, HB.out.2.2.1]; rfl, by
            rw [List.append_assoc]
            have e1 := HB.out.2.2.2
            rw [HX.out] at e1
            exact e1⟩)
          go_wp2
          go_round
          case rel => exact ⟨j + 1, Y, B ++ [x], by go_num, by omega, by omega, rfl, g4, ⟨HV.out, HN.out.1, HN.out.2.1, HN.out.2.2⟩⟩
          case measure => simp [intOf]; omega
        · have hlt : c < 128 := by omega
          have hu := unz_i64 g4
          have HU : Hid (NumOf s (unz Y) (j + 1)) := ⟨hu, by omega, fun n a hn e => by
            obtain ⟨e1, e2⟩ := HP.out (zz n) a (zz_lt hn) e hlt
            exact ⟨e2.symm, by rw [e1, unz_zz]⟩⟩
          clear HP HV hu
          rcases (show Y % 2 = 0 ∨ Y % 2 = 1 by omega) with hp | hp
          · have hE : ((Y : Int) / 2) = unz Y := by unfold unz; rw [if_pos hp]; simp
            have HE := hid hE
            clear hE
            go_wp2
            exact bodyPost_ret (v := .tuple #[.int .i64 ((Y : Int) / 2), .int .i64 ((j : Int) + 1)]) (by simp [results, Tryz.results73, go_sem]) rfl ⟨⟨unz Y, j + 1, by rw [HE.out]; simp, HU.out⟩, rfl⟩
          · have hE : (-((Y : Int) / 2) - 1) = unz Y := by unfold unz; rw [if_neg (by omega)]; simp
            have HE := hid hE
            clear hE
            go_wp2
            exact bodyPost_ret (v := .tuple #[.int .i64 (-((Y : Int) / 2) - 1), .int .i64 ((j : Int) + 1)]) (by simp [results, Tryz.results73, go_sem]) rfl ⟨⟨unz Y, j + 1, by rw [HE.out]; simp, HU.out⟩, rfl⟩
      · have HU := hid (num_none (s := s) (fun z a hz e => by
          obtain ⟨l, x, h1, h2, h3, h4, h5⟩ := grp_form z
          rw [HB.out.2.2.2, h1, List.append_assoc] at e
          obtain ⟨l2, e1, _⟩ := big_pre HB.out.2.1 h3 e
          have h6 := grp_len hz
          have h7 := HB.out.2.2.1
          rw [h1, e1, List.length_append, List.length_append, List.length_singleton] at h6
          omega))
        go_wp2
        exact bodyPost_ret (v := .tuple #[.int .i64 0, .int .i64 0]) (by simp [results, Tryz.results73, go_sem]) rfl ⟨⟨0, 0, rfl, HU.out⟩, rfl⟩
    · have HU := hid (num_none (s := s) (fun z a hz e => by
        rw [HB.out.2.2.2, drop_end s j (by omega), List.append_nil] at e
        exact grp_more HB.out.2.1 e))
      go_wp2
      exact bodyPost_ret (v := .tuple #[.int .i64 0, .int .i64 0]) (by simp [results, Tryz.results73, go_sem]) rfl ⟨⟨0, 0, rfl, HU.out⟩, rfl⟩
end Go.Proofs.YtjldlmonccgopaaGreat.Rc
/- What the document's one has read so far, in plain bytes. -/
namespace Go.Proofs.YtjldlmonccgopaaGreat.Rc
set_option linter.unusedVariables false
set_option linter.unusedSimpArgs false

theorem of_get (s : ByteArray) (k : Nat) (h : k < s.size) : (Bs.of s)[k]? = some (UInt8.ofNat (bt s k)) := by
  rw [List.getElem?_eq_getElem (by rw [of_len]; exact h), ← of_at s k h, u8_of]
theorem of_extract (s : ByteArray) (a b : Nat) : Bs.of (s.extract a b) = ((Bs.of s).drop a).take (b - a) := by
  simp [Bs.of, ByteArray.data_extract, List.extract_eq_take_drop]
theorem of_extract_end (s : ByteArray) (a : Nat) : Bs.of (s.extract a s.size) = (Bs.of s).drop a := by
  rw [of_extract, List.take_of_length_le (by rw [List.length_drop, of_len]; exact Nat.le_refl _)]
theorem of_extract_head (s : ByteArray) (b : Nat) : Bs.of (s.extract 0 b) = (Bs.of s).take b := by
  rw [of_extract, List.drop_zero, Nat.sub_zero]
/-- Every record that is ahead has this kind, this name, n numbers, of which the first j are M; behind place k there stand the others, and the text. -/
def Ah (s : ByteArray) (kd : Int) (who : ByteArray) (n j : Nat) (M : List Int) (k : Nat) : Prop :=
  ∀ r a, Good r → Bs.of s = enc r ++ a → r.kind = kd ∧ r.who = who ∧ r.nums.length = n ∧ r.nums.take j = M ∧ (Bs.of s).drop k = gs (r.nums.drop j) ++ (tx 2 (Bs.of r.text) ++ a)
theorem enc_flat (r : Rec) (a : Bs) : enc r ++ a = UInt8.ofNat r.kind.toNat :: UInt8.ofNat r.who.size :: (Bs.of r.who ++ (UInt8.ofNat r.nums.length :: (gs r.nums ++ (tx 2 (Bs.of r.text) ++ a)))) := by
  simp [enc, tx, cnt1, of_len]
theorem no_small {s : ByteArray} (h : s.size < 3) : No (Bs.of s) := no_short (by rw [of_len]; omega)
theorem who_ahead {s : ByteArray} {r : Rec} {a : Bs} (g : Good r) (h3 : 3 ≤ s.size) (e : Bs.of s = enc r ++ a) : r.kind = (bt s 0 : Int) ∧ r.who.size = bt s 1 := by
  rw [enc_flat] at e
  have h0 := of_get s 0 (by omega)
  have h1 := of_get s 1 (by omega)
  rw [e] at h0 h1
  simp only [List.getElem?_cons_zero, List.getElem?_cons_succ, Option.some.injEq] at h0 h1
  have k0 := g.kind
  have k1 := g.who
  have e0 := u8_inj (by omega) (bt_lt s 0) h0
  have e1 := u8_inj (by omega) (bt_lt s 1) h1
  exact ⟨by omega, e1⟩
theorem no_who {s : ByteArray} (h3 : 3 ≤ s.size) (h : s.size < 3 + bt s 1) : No (Bs.of s) := by
  intro r a g e
  have h1 := (who_ahead g h3 e).2
  rw [enc_flat] at e
  have := congrArg List.length e
  simp only [of_len, List.length_cons, List.length_append] at this
  omega
theorem ah_first {s : ByteArray} (h3 : 3 ≤ s.size) (h : 3 + bt s 1 ≤ s.size) : Ah s (bt s 0 : Int) (s.extract 2 (2 + bt s 1)) (bt s (2 + bt s 1)) 0 [] (2 + bt s 1 + 1) := by
  intro r a g e
  obtain ⟨e0, e1⟩ := who_ahead g h3 e
  rw [enc_flat] at e
  have hw : Bs.of (s.extract 2 (2 + bt s 1)) = Bs.of r.who := by
    rw [of_extract, e]
    simp only [List.drop_succ_cons, List.drop_zero]
    rw [show 2 + bt s 1 - 2 = (Bs.of r.who).length by rw [of_len]; omega, List.take_left]
  have h2 := of_get s (2 + bt s 1) (by omega)
  have hd : (Bs.of s).drop (2 + bt s 1) = UInt8.ofNat r.nums.length :: (gs r.nums ++ (tx 2 (Bs.of r.text) ++ a)) := by
    rw [e, show 2 + bt s 1 = (Bs.of r.who).length + 1 + 1 by rw [of_len]; omega]
    simp only [List.drop_succ_cons]
    rw [List.drop_left]
  have h2' : ((Bs.of s).drop (2 + bt s 1))[0]? = some (UInt8.ofNat (bt s (2 + bt s 1))) := by rw [List.getElem?_drop]; simpa using h2
  rw [hd] at h2'
  simp only [List.getElem?_cons_zero, Option.some.injEq] at h2'
  have e2 := u8_inj (by have := g.nums; omega) (bt_lt s _) h2'
  refine ⟨e0, (of_inj hw).symm, e2, by simp, ?_⟩
  rw [← List.drop_drop, hd]
  simp
theorem Ah.step {s : ByteArray} {kd v : Int} {who : ByteArray} {n j k m : Nat} {M : List Int} (h : Ah s kd who n j M k) (hj : j < n) (hN : NumOf (s.extract k s.size) v m) : Ah s kd who n (j + 1) (M ++ [v]) (k + m) := by
  intro r a g e
  obtain ⟨h1, h2, h3, h4, h5⟩ := h r a g e
  have hlt : j < r.nums.length := by omega
  rw [List.drop_eq_getElem_cons hlt, gs, List.append_assoc] at h5
  obtain ⟨e1, e2⟩ := hN.2.2 r.nums[j] _ (g.fit _ (List.getElem_mem hlt)) ((of_extract_end s k).trans h5)
  refine ⟨h1, h2, h3, ?_, ?_⟩
  · rw [List.take_add_one, h4, e2]; simp [List.getElem?_eq_getElem hlt]
  · rw [← List.drop_drop, h5, e1, List.drop_left]
theorem Ah.stop {s : ByteArray} {kd v : Int} {who : ByteArray} {n j k : Nat} {M : List Int} (h : Ah s kd who n j M k) (hj : j < n) (hN : NumOf (s.extract k s.size) v 0) : No (Bs.of s) := by
  intro r a g e
  obtain ⟨h1, h2, h3, h4, h5⟩ := h r a g e
  have hlt : j < r.nums.length := by omega
  rw [List.drop_eq_getElem_cons hlt, gs, List.append_assoc] at h5
  obtain ⟨e1, _⟩ := hN.2.2 r.nums[j] _ (g.fit _ (List.getElem_mem hlt)) ((of_extract_end s k).trans h5)
  have := grp_pos (zz r.nums[j])
  omega
theorem Ah.last {s : ByteArray} {kd : Int} {who : ByteArray} {n k : Nat} {M : List Int} (h : Ah s kd who n n M k) {r : Rec} {a : Bs} (g : Good r) (e : Bs.of s = enc r ++ a) : r.kind = kd ∧ r.who = who ∧ r.nums = M ∧ (Bs.of s).drop k = tx 2 (Bs.of r.text) ++ a := by
  obtain ⟨h1, h2, h3, h4, h5⟩ := h r a g e
  rw [show r.nums.drop n = [] from List.drop_eq_nil_of_le (by omega)] at h5
  rw [List.take_of_length_le (by omega)] at h4
  exact ⟨h1, h2, h4, by simpa [gs] using h5⟩
theorem Ah.noend {s : ByteArray} {kd : Int} {who : ByteArray} {n k : Nat} {M : List Int} (h : Ah s kd who n n M k) (hk : k ≤ s.size) (hs : s.size < k + 2) : No (Bs.of s) := by
  intro r a g e
  obtain ⟨_, _, _, h4⟩ := h.last g e
  have := congrArg List.length h4
  rw [List.length_drop, of_len, List.length_append, tx, List.length_append, cnt_len] at this
  omega
theorem Ah.text {s : ByteArray} {kd : Int} {who : ByteArray} {n k : Nat} {M : List Int} (h : Ah s kd who n n M k) (hk : k + 2 ≤ s.size) {r : Rec} {a : Bs} (g : Good r) (e : Bs.of s = enc r ++ a) : r.text.size = bt s k * 256 + bt s (k + 1) ∧ (Bs.of s).drop (k + 2) = Bs.of r.text ++ a := by
  obtain ⟨_, _, _, h4⟩ := h.last g e
  rw [tx, List.append_assoc] at h4
  have ht := g.text
  obtain ⟨_, e2, e3⟩ := cnt_ahead (s := s) (k := k) (K := 2) (by omega) (by rw [of_len]; omega) h4 (by omega)
  rw [of_len] at e2
  simp only [bev, Nat.zero_mul, Nat.zero_add, Nat.add_zero] at e2
  exact ⟨e2.symm, e3⟩
theorem Ah.notext {s : ByteArray} {kd : Int} {who : ByteArray} {n k : Nat} {M : List Int} (h : Ah s kd who n n M k) (hk : k + 2 ≤ s.size) (hs : s.size < k + 2 + (bt s k * 256 + bt s (k + 1))) : No (Bs.of s) := by
  intro r a g e
  obtain ⟨h1, h2⟩ := h.text hk g e
  have := congrArg List.length h2
  rw [List.length_drop, of_len, List.length_append, of_len] at this
  omega
/-- The record that is ahead is what was read. -/
theorem Ah.all {s : ByteArray} {kd : Int} {who : ByteArray} {n k z : Nat} {M : List Int} (h : Ah s kd who n n M k) (hz : z = bt s k * 256 + bt s (k + 1)) (hk : k + 2 + z ≤ s.size) {r : Rec} {a : Bs} (g : Good r) (e : Bs.of s = enc r ++ a) : r = ⟨kd, who, M, s.extract (k + 2) (k + 2 + z)⟩ ∧ (enc r).length = k + 2 + z := by
  obtain ⟨h1, h2, h3, _⟩ := h.last g e
  obtain ⟨h4, h5⟩ := h.text (by omega) g e
  have ht : s.extract (k + 2) (k + 2 + z) = r.text := by
    apply of_inj
    rw [of_extract, h5, show k + 2 + z - (k + 2) = (Bs.of r.text).length by rw [of_len]; omega, List.take_left]
  obtain ⟨r1, r2, r3, r4⟩ := r
  simp only at h1 h2 h3 ht h4 h5
  refine ⟨by rw [h1, h2, h3, ht], ?_⟩
  have l1 := congrArg List.length e
  have l2 := congrArg List.length h5
  rw [List.length_append, of_len] at l1
  rw [List.length_drop, List.length_append, of_len, of_len] at l2
  omega
/-- What Encode says of it, told against the bytes. -/
theorem Ah.no {s : ByteArray} {kd : Int} {who : ByteArray} {n k z : Nat} {M : List Int} (h : Ah s kd who n n M k) (hz : z = bt s k * 256 + bt s (k + 1)) (hk : k + 2 + z ≤ s.size) (hf : ∀ x ∈ M, I64 x) (hE : encE ⟨kd, who, M, s.extract (k + 2) (k + 2 + z)⟩ ≠ 0 ∨ encT ⟨kd, who, M, s.extract (k + 2) (k + 2 + z)⟩ ≠ s.extract 0 (k + 2 + z)) : No (Bs.of s) := by
  intro r a g e
  obtain ⟨h1, h2⟩ := h.all hz hk g e
  rw [← h1] at hE
  have h3 : encE r = 0 := (encE_good g.fit).2 g
  rcases hE with hE | hE
  · exact hE h3
  · apply hE
    unfold encT
    rw [if_pos h3]
    apply of_inj
    rw [of_str, of_extract_head, e, ← h2, List.take_left]
theorem one_good {s : ByteArray} {r : Rec} {m : Nat} (hf : ∀ x ∈ r.nums, I64 x) (h1 : encE r = 0) (h2 : encT r = s.extract 0 m) (hm : m ≤ s.size) : Good r ∧ Bs.of s = enc r ++ (Bs.of s).drop m ∧ m = (enc r).length := by
  unfold encT at h2
  rw [if_pos h1] at h2
  have h3 := congrArg Bs.of h2
  rw [of_str, of_extract_head] at h3
  refine ⟨(encE_good hf).1 h1, by rw [h3, List.take_append_drop], ?_⟩
  rw [h3, List.length_take, of_len]; omega
end Go.Proofs.YtjldlmonccgopaaGreat.Rc
