/- record: takeRecord. -/
import Derived.Test.YtfpifjejooineaaRcNums
namespace Go.Proofs.Ytfpifjejooineaa.Rc
open Go.RowKit
set_option linter.unusedVariables false
set_option maxRecDepth 100000
set_option linter.unusedSimpArgs false

theorem Fr.box {p b : Nat} {X Y : World} {t : TypeId} {v0 v1 v2 v3 : Value} (k : Fr p X Y) (h : Box4 X b t v0 v1 v2 v3) (hb : p < b) : Box4 Y b t v0 v1 v2 v3 := Box4.of ((k.oth b (lt_of_block h.blk) (by omega)).trans h.blk)
theorem Fr.new {p b k : Nat} {u w : World} (h : Fr p u w) (hb : u.heap.size ≤ b) (hp : p < u.heap.size) (v : Value) : Fr p u (w.setCell ⟨b, k, none⟩ v) :=
  ⟨h.bel.setCell (p := ⟨b, k, none⟩) (by show p ≤ b; omega) v, fun i hi hs => (Below.heap_setCell w ⟨b, k, none⟩ v i (by show i ≠ b; omega)).trans (h.oth i hi hs)⟩
theorem fr4 {p b : Nat} {u X : World} (h : Fr p u X) (hb : u.heap.size ≤ b) (hp : p < u.heap.size) (v0 v1 v2 v3 : Value) : Fr p u ((((X.setCell ⟨b, 0, none⟩ v0).setCell ⟨b, 1, none⟩ v1).setCell ⟨b, 2, none⟩ v2).setCell ⟨b, 3, none⟩ v3) :=
  (((h.new hb hp _).new hb hp _).new hb hp _).new hb hp _
theorem Tk.set {w : World} {p q b k : Nat} {s : ByteArray} {n : Nat} (h : Tk w p q s n) (hb : p < b) (v : Value) : Tk (w.setCell ⟨b, k, none⟩ v) p q s n :=
  ⟨(Below.heap_setCell w ⟨b, k, none⟩ v p (by show p ≠ b; omega)).trans h.pb, (Below.heap_setCell w ⟨b, k, none⟩ v q (by have := h.lt; show q ≠ b; omega)).trans h.qb, h.lt, h.le, h.sz⟩
theorem Tk.set4 {X : World} {p q b : Nat} {s : ByteArray} {n : Nat} (h : Tk X p q s n) (hb : p < b) (v0 v1 v2 v3 : Value) : Tk ((((X.setCell ⟨b, 0, none⟩ v0).setCell ⟨b, 1, none⟩ v1).setCell ⟨b, 2, none⟩ v2).setCell ⟨b, 3, none⟩ v3) p q s n :=
  (((h.set hb _).set hb _).set hb _).set hb _
theorem own_set4 {X : World} {b base size : Nat} {e : TypeId} {v : Value} {n : Nat} {xs : List Value} (h : X.ownsRow base e size v n xs) (hb : b < base) (v0 v1 v2 v3 : Value) : ((((X.setCell ⟨b, 0, none⟩ v0).setCell ⟨b, 1, none⟩ v1).setCell ⟨b, 2, none⟩ v2).setCell ⟨b, 3, none⟩ v3).ownsRow base e size v n xs :=
  ownsRow_setCell_below (ownsRow_setCell_below (ownsRow_setCell_below (ownsRow_setCell_below h (a := ⟨b, 0, none⟩) hb v0) (a := ⟨b, 1, none⟩) hb v1) (a := ⟨b, 2, none⟩) hb v2) (a := ⟨b, 3, none⟩) hb v3
theorem enc_ahead {r : Rec} {a D : Bs} {x : UInt8} (h : x :: D = enc r ++ a) : x = UInt8.ofNat r.kind.toNat ∧ D = tx 1 (Bs.of r.who) ++ (cnt 1 r.nums.length ++ (gs r.nums ++ (tx 2 (Bs.of r.text) ++ a))) := by
  simp only [enc, List.cons_append, List.append_assoc, List.cons.injEq] at h
  exact h
set_option maxHeartbeats 8000000 in
theorem takeRecord_any (w : World) (p q : Nat) (s : ByteArray) (k : Nat) (h : Tk w p q s k) :
    Calls Try.prog 49 #[.func (.func 48) #[] #[.pointer (some ⟨p, 0, none⟩), .pointer (some ⟨q, 0, none⟩)]] w fun e w' => Fr p w w' ∧ ∃ k', Tk w' p q s k' ∧
      ((∃ (r : Rec) (v : Value), Good r ∧ (Bs.of s).drop k = enc r ++ (Bs.of s).drop k' ∧ w'.ownsRow w.heap.size 3 1 v r.nums.length (i64s r.nums) ∧ e = .returned (.tuple #[rv r v, .bool true])) ∨ (No ((Bs.of s).drop k) ∧ e = .returned (.tuple #[.agg #[.int .i64 0, .string ⟨#[]⟩, .slice none 0 0, .string ⟨#[]⟩], .bool false]))) := by
  have hsz := h.sz
  have hkl := h.le
  have hpl := h.pl
  have b0 := Box4.new w 29 (.int .i64 0) (.string ⟨#[]⟩) (.slice none 0 0) (.string ⟨#[]⟩)
  have F0 := (Fr.refl p w).alloc (by omega) (Obj.cells #[.int .i64 0, .string ⟨#[]⟩, .slice none 0 0, .string ⟨#[]⟩] 29)
  have T0 := h.keep ((Below.refl _ _).alloc (Nat.le_refl _) (Obj.cells #[.int .i64 0, .string ⟨#[]⟩, .slice none 0 0, .string ⟨#[]⟩] 29))
  go_enter Try.func49, Try.ntmps49
  go_wp2_with fail
  have hs0 : w.heap.size < (w.alloc (Obj.cells #[.int .i64 0, .string ⟨#[]⟩, .slice none 0 0, .string ⟨#[]⟩] 29)).heap.size := by simp
  generalize w.alloc (Obj.cells #[Value.int .i64 0, .string ⟨#[]⟩, .slice none 0 0, .string ⟨#[]⟩] 29) = W0 at *
  clear h
  by_cases hk : k < s.size
  · obtain ⟨x, hx, ed⟩ := drop_at s k hk
    have ht := take_next W0 p q s k hk T0
    rw [← hx] at ht
    have hxl := UInt8.toNat_lt x
    have HX := hid ed
    obtain ⟨c, HC⟩ : ∃ c, Hid (x.toNat = c) := ⟨_, rfl⟩
    rw [HC.out] at ht hxl
    clear hx ed
    refine ht.mono ?_
    rintro e W1 ⟨rfl, T1, F1'⟩
    have F1 := F0.trans F1'
    have b1 := F1'.box b0 hpl
    have hs1 : w.heap.size < W1.heap.size := Nat.lt_of_lt_of_le hs0 F1'.size
    clear F0 T0 F1' b0 ht
    by_cases h0 : c = 0
    · have HNo := hid (show No ((Bs.of s).drop k) from fun r a g e => by
        rw [HX.out] at e
        have h1 := (enc_ahead e).1
        have h2 := g.kind
        have h3 := HC.out
        rw [h1, u8n (by omega)] at h3
        omega)
      have hc1 : ((c : Int) == 0) = true := by rw [h0]; rfl
      clear h0
      have q9 := b1.set (.int .i64 0) (.string ⟨#[]⟩) (.slice none 0 0) (.string ⟨#[]⟩)
      have HF := hid (fr4 F1 (Nat.le_refl _) hpl (.int .i64 0) (.string ⟨#[]⟩) (.slice none 0 0) (.string ⟨#[]⟩))
      have HT := hid (T1.set4 (b := w.heap.size) (by omega) (.int .i64 0) (.string ⟨#[]⟩) (.slice none 0 0) (.string ⟨#[]⟩))
      obtain ⟨_, c0, c1, c2, c3, fr⟩ := b1
      clear F1 T1
      go_wp2
      obtain ⟨_, g0, g1, g2, g3, _⟩ := q9
      exact bodyPost_ret (v := .tuple #[.agg #[.int .i64 0, .string ⟨#[]⟩, .slice none 0 0, .string ⟨#[]⟩], .bool false]) (by simp [results, Try.results49, go_sem, g0, g1, g2, g3]) rfl ⟨HF.out, _, HT.out, Or.inr ⟨HNo.out, rfl⟩⟩
    · have hc1 : ((c : Int) == 0) = false := beq_eq_false_iff_ne.2 (by omega)
      go_wp2_with fail
      refine (takeText_any W1 p q s (k + 1) 1 64 (by omega) (by omega) (by omega) T1).mono ?_
      rintro e W2 ⟨F2', k2, T2, ⟨who, hwho, d2, rfl⟩ | ⟨hno, rfl⟩⟩
      · have F2 := F1.trans F2'
        have b2 := F2'.box b1 hpl
        have hs2 : w.heap.size < W2.heap.size := Nat.lt_of_lt_of_le hs1 F2'.size
        have HD2 := hid d2
        clear d2 F1 T1 F2' b1
        go_wp2_with fail
        refine (takeNums_any W2 p q s k2 T2).mono ?_
        rintro e W3 ⟨F3', k3, T3, ⟨M, v, hM, hf, d3, o3, rfl⟩ | ⟨hno, rfl⟩⟩
        · have F3 := F2.trans F3'
          have b3 := F3'.box b2 hpl
          have hs3 : w.heap.size < W3.heap.size := Nat.lt_of_lt_of_le hs2 F3'.size
          have HD3 := hid d3
          have HF3 := hid hf
          clear d3 F2 T2 F3' b2 hf
          obtain ⟨va, vc, rfl⟩ := own_slice o3
          go_wp2_with fail
          refine (takeText_any W3 p q s k3 2 16384 (by omega) (by omega) (by omega) T3).mono ?_
          rintro e W4 ⟨F4', k4, T4, ⟨text, htext, d4, rfl⟩ | ⟨hno, rfl⟩⟩
          · have F4 := F3.trans F4'
            have b4 := F4'.box b3 hpl
            have o4 := F4'.own o3 (by omega)
            have HR := hid (show Good ⟨(c : Int), who, M, text⟩ ∧ (Bs.of s).drop k = enc ⟨(c : Int), who, M, text⟩ ++ (Bs.of s).drop k4 from by
              refine ⟨⟨by show 1 ≤ (c : Int) ∧ (c : Int) ≤ 255; omega, hwho, hM, htext, HF3.out⟩, ?_⟩
              rw [HX.out, HD2.out, HD3.out, d4]
              simp only [enc, List.cons_append, List.append_assoc]
              congr 1
              rw [show ((c : Int)).toNat = c by omega, ← HC.out, u8_of])
            clear d4 F3 T3 F4' b3 o3
            have q9 := b4.set (.int .i64 (c : Int)) (.string who) (.slice va M.length vc) (.string text)
            have HF := hid (fr4 F4 (Nat.le_refl _) hpl (.int .i64 (c : Int)) (.string who) (.slice va M.length vc) (.string text))
            have HT := hid (T4.set4 (b := w.heap.size) (by omega) (.int .i64 (c : Int)) (.string who) (.slice va M.length vc) (.string text))
            have HO := hid (own_mono (own_set4 o4 hs2 (.int .i64 (c : Int)) (.string who) (.slice va M.length vc) (.string text)) (Nat.le_of_lt hs2))
            obtain ⟨_, c0, c1, c2, c3, fr⟩ := b4
            clear F4 T4 o4
            go_wp2
            obtain ⟨_, g0, g1, g2, g3, _⟩ := q9
            exact bodyPost_ret (v := .tuple #[.agg #[.int .i64 (c : Int), .string who, .slice va M.length vc, .string text], .bool true]) (by simp [results, Try.results49, go_sem, g0, g1, g2, g3]) rfl ⟨HF.out, _, HT.out, Or.inl ⟨⟨(c : Int), who, M, text⟩, _, HR.out.1, HR.out.2, HO.out, rfl⟩⟩
          · have F4 := F3.trans F4'
            have b4 := F4'.box b3 hpl
            have HNo := hid (show No ((Bs.of s).drop k) from fun r a g e => by
              rw [HX.out] at e
              have e1 := (enc_ahead e).2
              rw [HD2.out] at e1
              obtain ⟨_, e2⟩ := tx_pre1 (by rw [of_len]; omega) (by rw [of_len]; have := g.who; omega) e1
              rw [HD3.out] at e2
              simp only [cnt1, List.cons_append, List.nil_append, List.cons.injEq] at e2
              have e3 := u8_inj (by omega) (by have := g.nums; omega) e2.1
              obtain ⟨_, e4⟩ := gs_pre _ _ _ _ e3 e2.2
              exact hno _ _ (by rw [of_len]; exact g.text) e4)
            clear hno F3 T3 F4' b3 o3
            have q9 := b4.set (.int .i64 0) (.string ⟨#[]⟩) (.slice none 0 0) (.string ⟨#[]⟩)
            have HF := hid (fr4 F4 (Nat.le_refl _) hpl (.int .i64 0) (.string ⟨#[]⟩) (.slice none 0 0) (.string ⟨#[]⟩))
            have HT := hid (T4.set4 (b := w.heap.size) (by omega) (.int .i64 0) (.string ⟨#[]⟩) (.slice none 0 0) (.string ⟨#[]⟩))
            obtain ⟨_, c0, c1, c2, c3, fr⟩ := b4
            clear F4 T4
            go_wp2
            obtain ⟨_, g0, g1, g2, g3, _⟩ := q9
            exact bodyPost_ret (v := .tuple #[.agg #[.int .i64 0, .string ⟨#[]⟩, .slice none 0 0, .string ⟨#[]⟩], .bool false]) (by simp [results, Try.results49, go_sem, g0, g1, g2, g3]) rfl ⟨HF.out, _, HT.out, Or.inr ⟨HNo.out, rfl⟩⟩
        · have F3 := F2.trans F3'
          have b3 := F3'.box b2 hpl
          have HNo := hid (show No ((Bs.of s).drop k) from fun r a g e => by
            rw [HX.out] at e
            have e1 := (enc_ahead e).2
            rw [HD2.out] at e1
            obtain ⟨_, e2⟩ := tx_pre1 (by rw [of_len]; omega) (by rw [of_len]; have := g.who; omega) e1
            exact hno _ _ g.nums g.fit e2)
          clear hno F2 T2 F3' b2
          have q9 := b3.set (.int .i64 0) (.string ⟨#[]⟩) (.slice none 0 0) (.string ⟨#[]⟩)
          have HF := hid (fr4 F3 (Nat.le_refl _) hpl (.int .i64 0) (.string ⟨#[]⟩) (.slice none 0 0) (.string ⟨#[]⟩))
          have HT := hid (T3.set4 (b := w.heap.size) (by omega) (.int .i64 0) (.string ⟨#[]⟩) (.slice none 0 0) (.string ⟨#[]⟩))
          obtain ⟨_, c0, c1, c2, c3, fr⟩ := b3
          clear F3 T3
          go_wp2
          obtain ⟨_, g0, g1, g2, g3, _⟩ := q9
          exact bodyPost_ret (v := .tuple #[.agg #[.int .i64 0, .string ⟨#[]⟩, .slice none 0 0, .string ⟨#[]⟩], .bool false]) (by simp [results, Try.results49, go_sem, g0, g1, g2, g3]) rfl ⟨HF.out, _, HT.out, Or.inr ⟨HNo.out, rfl⟩⟩
      · have F2 := F1.trans F2'
        have b2 := F2'.box b1 hpl
        have HNo := hid (show No ((Bs.of s).drop k) from fun r a g e => by
          rw [HX.out] at e
          exact hno _ _ (by rw [of_len]; exact g.who) (enc_ahead e).2)
        clear hno F1 T1 F2' b1
        have q9 := b2.set (.int .i64 0) (.string ⟨#[]⟩) (.slice none 0 0) (.string ⟨#[]⟩)
        have HF := hid (fr4 F2 (Nat.le_refl _) hpl (.int .i64 0) (.string ⟨#[]⟩) (.slice none 0 0) (.string ⟨#[]⟩))
        have HT := hid (T2.set4 (b := w.heap.size) (by omega) (.int .i64 0) (.string ⟨#[]⟩) (.slice none 0 0) (.string ⟨#[]⟩))
        obtain ⟨_, c0, c1, c2, c3, fr⟩ := b2
        clear F2 T2
        go_wp2
        obtain ⟨_, g0, g1, g2, g3, _⟩ := q9
        exact bodyPost_ret (v := .tuple #[.agg #[.int .i64 0, .string ⟨#[]⟩, .slice none 0 0, .string ⟨#[]⟩], .bool false]) (by simp [results, Try.results49, go_sem, g0, g1, g2, g3]) rfl ⟨HF.out, _, HT.out, Or.inr ⟨HNo.out, rfl⟩⟩
  · have hk' : k = s.size := by omega
    have HNo := hid (show No ((Bs.of s).drop k) by rw [drop_end s k (by omega)]; exact no_short (by simp))
    rw [hk'] at T0
    have ht := take_end W0 p q s T0
    clear hk' hk
    refine ht.mono ?_
    rintro e W1 ⟨rfl, rfl⟩
    have q9 := b0.set (.int .i64 0) (.string ⟨#[]⟩) (.slice none 0 0) (.string ⟨#[]⟩)
    have HF := hid (fr4 F0 (Nat.le_refl _) hpl (.int .i64 0) (.string ⟨#[]⟩) (.slice none 0 0) (.string ⟨#[]⟩))
    have HT := hid (T0.set4 (b := w.heap.size) (by omega) (.int .i64 0) (.string ⟨#[]⟩) (.slice none 0 0) (.string ⟨#[]⟩))
    obtain ⟨_, c0, c1, c2, c3, fr⟩ := b0
    clear F0 T0
    go_wp2
    obtain ⟨_, g0, g1, g2, g3, _⟩ := q9
    exact bodyPost_ret (v := .tuple #[.agg #[.int .i64 0, .string ⟨#[]⟩, .slice none 0 0, .string ⟨#[]⟩], .bool false]) (by simp [results, Try.results49, go_sem, g0, g1, g2, g3]) rfl ⟨HF.out, _, HT.out, Or.inr ⟨HNo.out, rfl⟩⟩
end Go.Proofs.Ytfpifjejooineaa.Rc
