/- lex: Number, the program's and the document's. -/
import Derived.Test.YteelnimchlgdmaaDoorLRune
import Derived.Test.YteelnimchlgdmaaDoorShelf
namespace Go.Proofs.YteelnimchlgdmaaDoor
open Go.RowKit
set_option linter.unusedVariables false
set_option maxRecDepth 100000
set_option linter.unusedSimpArgs false

theorem tl_len (s : ByteArray) : s.toList.length = s.size := by rw [ByteArray.toList_eq]; rfl
theorem tl_emptyN {s : ByteArray} (h : s.size ≠ 0) : s.toList.isEmpty = false := by
  have := tl_len s
  cases hl : s.toList with
  | nil => rw [hl] at this; simp at this; omega
  | cons a r => rfl
theorem tl_noneN {s : ByteArray} (h : s.size = 0) : s.toList.isEmpty = true := by
  have := tl_len s
  cases hl : s.toList with
  | nil => rfl
  | cons a r => rw [hl] at this; simp at this; omega
theorem tl_longN {s : ByteArray} (h : s.size ≠ 1) : (s.toList == [48]) = false := by
  rw [beq_eq_false_iff_ne]; intro e
  have := tl_len s
  rw [e] at this; simp at this; omega
theorem tl_noughtN {s : ByteArray} (h : s.size = 1) (h0 : bt s 0 = 48) : (s.toList == [48]) = true := by
  have e : s = ⟨#[48]⟩ := by
    refine ext_bt h ?_
    intro k hk
    obtain rfl : k = 0 := by omega
    rw [h0]; rfl
  rw [e, ByteArray.toList_eq]; rfl
theorem tl_other {s : ByteArray} (h0 : bt s 0 ≠ 48) : (s.toList == [48]) = false := by
  by_cases h : s.size = 1
  · rw [beq_eq_false_iff_ne]; intro e
    rw [ByteArray.toList_eq] at e
    apply h0
    have : s = ⟨#[48]⟩ := ByteArray.ext (Array.toList_inj.1 e)
    rw [this]; rfl
  · exact tl_longN h
theorem tl_cons (s : ByteArray) (h : 0 < s.size) : ∃ l, s.data.toList = s[0] :: l ∧ (s.extract 1 s.size).data.toList = l := by
  obtain ⟨⟨l⟩⟩ := s
  match l, h with
  | x :: l, _ => exact ⟨l, rfl, by rw [ByteArray.data_extract, Array.toList_extract]; show List.take _ (List.drop 1 (x :: l)) = l; rw [List.drop_one, List.tail_cons]; exact List.take_of_length_le (by show l.length ≤ (x :: l).length - 1; simp)⟩
theorem cut_any (s : ByteArray) (w : World) :
    Calls Tryd.prog 25 #[.string s, .string ⟨#[45]⟩] w fun e w' => e = .returned (.tuple #[.string (body s), .bool (isNeg s)]) ∧ w' = w := by
  by_cases hn : isNeg s = true
  · have hb : body s = s.extract 1 s.size := by unfold body; rw [if_pos hn]
    rw [hb, hn]
    simp only [isNeg, Bool.and_eq_true, bne_iff_ne, ne_eq, beq_iff_eq] at hn
    have hs : 0 < s.size := by omega
    obtain ⟨l, h1, h2⟩ := tl_cons s hs
    have h3 : s[0] = 45 := by
      have h := hn.2
      rw [← bt_at s 0 hs] at h
      exact UInt8.toNat_inj.1 h
    have hp : Lib.hasPrefix s.data.toList (⟨#[45]⟩ : ByteArray).data.toList = true := by
      rw [h1, h3]; simp [Lib.hasPrefix, List.isPrefixOf]
    refine (Tryd.strings_CutPrefix s ⟨#[45]⟩ w).mono ?_
    rintro e w' ⟨rfl, rfl⟩
    rw [Lib.trimPrefix, hp]
    refine ⟨?_, rfl⟩
    congr 3
    have e1 : (if true = true then List.drop (⟨#[45]⟩ : ByteArray).data.toList.length s.data.toList else s.data.toList) = l := by
      rw [if_pos rfl, h1]; rfl
    rw [e1, ← h2]
  · have hb : body s = s := by unfold body; rw [if_neg hn]
    have hn' : isNeg s = false := by simpa using hn
    rw [hb, hn']
    have hp : Lib.hasPrefix s.data.toList (⟨#[45]⟩ : ByteArray).data.toList = false := by
      rcases Nat.eq_zero_or_pos s.size with e | e
      · have : s.data.toList = [] := List.eq_nil_of_length_eq_zero (by rw [Array.length_toList]; exact e)
        rw [this]; rfl
      · obtain ⟨l, h1, _⟩ := tl_cons s e
        rw [h1]
        have : s[0] ≠ 45 := by
          intro e1
          apply hn
          unfold isNeg
          rw [← bt_at s 0 e, e1]
          simp only [Bool.and_eq_true, bne_iff_ne, ne_eq]
          exact ⟨by omega, rfl⟩
        simp [Lib.hasPrefix, List.isPrefixOf]
        exact fun e1 => this e1.symm
    refine (Tryd.strings_CutPrefix s ⟨#[45]⟩ w).mono ?_
    rintro e w' ⟨rfl, rfl⟩
    rw [Lib.trimPrefix, hp]
    exact ⟨rfl, rfl⟩
def numB (s : ByteArray) : Bool := decide ((body s).size ≠ 0) && (!(decide (1 < (body s).size) && bt (body s) 0 == 48)) && (List.range (body s).size).all (fun k => decide (48 ≤ bt (body s) k) && decide (bt (body s) k ≤ 57)) && decide (num (body s) ≤ 1000000000) && !(isNeg s && bt (body s) 0 == 48)
theorem numB_iff (s : ByteArray) : numB s = true ↔ NumT s := by
  unfold numB NumT Txt
  simp only [Bool.and_eq_true, Bool.not_eq_true', Bool.and_eq_false_iff, decide_eq_true_eq, decide_eq_false_iff_not, beq_eq_false_iff_ne, List.all_eq_true, List.mem_range, ne_eq]
  constructor
  · rintro ⟨⟨⟨⟨h1, h2⟩, h3⟩, h4⟩, h5⟩
    refine ⟨⟨h1, fun h => ?_, h3⟩, h4, fun h => ?_⟩
    · rcases h2 with h2 | h2
      · exact absurd h h2
      · exact h2
    · rcases h5 with h5 | h5
      · rw [h] at h5; cases h5
      · exact h5
  · rintro ⟨⟨h1, h2, h3⟩, h4, h5⟩
    refine ⟨⟨⟨⟨h1, ?_⟩, h3⟩, h4⟩, ?_⟩
    · by_cases h : 1 < (body s).size
      · exact Or.inr (h2 h)
      · exact Or.inl h
    · by_cases h : isNeg s = true
      · exact Or.inr (h5 h)
      · exact Or.inl (by simpa using h)
/-- What Number answers. -/
def numE (s : ByteArray) : Int := if numB s = true then 0 else 81
def numR (s : ByteArray) : Int := if numB s = true then numV s else 0
theorem num_yes {s : ByteArray} (h : NumT s) : numE s = 0 ∧ numR s = numV s := by unfold numE numR; rw [if_pos ((numB_iff s).2 h), if_pos ((numB_iff s).2 h)]; exact ⟨rfl, rfl⟩
theorem num_no {s : ByteArray} (h : ¬ NumT s) : numE s = 81 ∧ numR s = 0 := by unfold numE numR; rw [if_neg (fun e => h ((numB_iff s).1 e)), if_neg (fun e => h ((numB_iff s).1 e))]; exact ⟨rfl, rfl⟩
theorem numR_le (s : ByteArray) : -1000000000 ≤ numR s ∧ numR s ≤ 1000000000 := by
  by_cases h : NumT s
  · rw [(num_yes h).2]
    have := h.2.1
    unfold numV; split <;> omega
  · rw [(num_no h).2]; omega
theorem ret_pair {a b c d : Int} (h : a = c) (h' : b = d) : Ending.returned (.tuple #[.int .i64 a, .int .i64 b]) = .returned (.tuple #[.int .i64 c, .int .i64 d]) := by rw [h, h']
theorem body_size (s : ByteArray) : (body s).size ≤ s.size := by
  unfold body; split
  · rw [ByteArray.size_extract]; omega
  · exact Nat.le_refl _
theorem dv_ge' {s : ByteArray} {j k : Nat} (h : j ≤ k) : dv s j ≤ dv s k := by
  induction k with
  | zero => obtain rfl : j = 0 := by omega
            exact Nat.le_refl _
  | succ k ih =>
    by_cases e : j = k + 1
    · rw [e]; exact Nat.le_refl _
    · have := ih (by omega)
      simp only [dv]; omega
/-- A rune of a digit is its byte. -/
theorem rune_ways (t : ByteArray) (k : Nat) (h : k < t.size) : ((bt t k < 48 ∨ 57 < bt t k) ∧ isDig (Utf8.decode t k).1 = false) ∨ (48 ≤ bt t k ∧ bt t k ≤ 57 ∧ isDig (bt t k) = true ∧ Utf8.decode t k = (bt t k, 1)) := by
  by_cases ha : bt t k < 128
  · have e : Utf8.decode t k = (bt t k, 1) := by rw [decode_one h (by rw [bt_at t k h]; exact ha), bt_at t k h]
    rcases dig_ways (bt t k) with ⟨h1, h2⟩ | ⟨h1, h2, h3⟩ | ⟨h1, h2⟩
    · exact Or.inl ⟨Or.inl h1, by rw [e]; exact h2⟩
    · exact Or.inr ⟨h1, h2, h3, e⟩
    · exact Or.inl ⟨Or.inr h1, by rw [e]; exact h2⟩
  · refine Or.inl ⟨Or.inr (by omega), ?_⟩
    have := (decode_high t k h (by rw [bt_at t k h]; omega)).1
    rcases dig_ways (Utf8.decode t k).1 with ⟨h1, h2⟩ | ⟨h1, h2, h3⟩ | ⟨h1, h2⟩
    · exact h2
    · omega
    · exact h2
theorem no_digit {s : ByteArray} {k : Nat} (hk : k < (body s).size) (h : bt (body s) k < 48 ∨ 57 < bt (body s) k) : ¬ NumT s := by
  intro hn
  have := hn.1.2.2 k hk
  omega
theorem too_great {s : ByteArray} {k : Nat} (hk : k < (body s).size) (h : 1000000000 < dv (body s) k * 10 + (bt (body s) k - 48)) : ¬ NumT s := by
  intro hn
  have h1 := hn.2.1
  have h2 : dv (body s) (k + 1) ≤ num (body s) := dv_ge' (by omega)
  simp only [dv] at h2
  omega
theorem too_long {s : ByteArray} (h : 10 < (body s).size) : ¬ NumT s := by
  intro hn
  have h0 := hn.1.2.1 (by omega)
  have h3 := dv_ge (s := body s) ((body s).size - 1) (by have := hn.1.2.2 0 (by omega); omega)
  rw [show (body s).size - 1 + 1 = (body s).size by omega] at h3
  have h4 : 10 ^ 10 ≤ 10 ^ ((body s).size - 1) := Nat.pow_le_pow_right (by omega) (by omega)
  have h5 := hn.2.1
  unfold num at h5
  omega
/-- What the head of a text must be. -/
def Head (s : ByteArray) : Prop := (body s).size ≠ 0 ∧ (bt (body s) 0 = 48 → (body s).size = 1 ∧ isNeg s = false)
theorem no_head {s : ByteArray} (h : ¬ Head s) : ¬ NumT s := by
  intro hn
  apply h
  refine ⟨hn.1.1, fun h0 => ⟨?_, ?_⟩⟩
  · by_cases h1 : 1 < (body s).size
    · exact absurd h0 (hn.1.2.1 h1)
    · have := hn.1.1; omega
  · by_cases h1 : isNeg s = true
    · exact absurd h0 (hn.2.2 h1)
    · simpa using h1
theorem head_num {s : ByteArray} (h : Head s) (hd : ∀ j, j < (body s).size → 48 ≤ bt (body s) j ∧ bt (body s) j ≤ 57) (hm : dv (body s) (body s).size ≤ 1000000000) : NumT s :=
  ⟨⟨h.1, fun h1 h0 => by have := (h.2 h0).1; omega, hd⟩, hm, fun hn h0 => by rw [(h.2 h0).2] at hn; cases hn⟩
/-- The program's text is "0" just where it may have a nought ahead. -/
theorem head_ways (s : ByteArray) : ((body s).size = 0 ∧ ¬ Head s) ∨ ((body s).size ≠ 0 ∧ bt (body s) 0 = 48 ∧ (s.toList == [48]) = false ∧ ¬ Head s) ∨ ((body s).size ≠ 0 ∧ bt (body s) 0 = 48 ∧ (s.toList == [48]) = true ∧ Head s) ∨ ((body s).size ≠ 0 ∧ bt (body s) 0 ≠ 48 ∧ Head s) := by
  by_cases h0 : (body s).size = 0
  · exact Or.inl ⟨h0, fun h => h.1 h0⟩
  by_cases h1 : bt (body s) 0 = 48
  · by_cases h2 : isNeg s = true
    · refine Or.inr (Or.inl ⟨h0, h1, tl_other ?_, fun h => ?_⟩)
      · simp only [isNeg, Bool.and_eq_true, bne_iff_ne, ne_eq, beq_iff_eq] at h2
        omega
      · rw [(h.2 h1).2] at h2; cases h2
    · have h2' : isNeg s = false := by simpa using h2
      have hb : body s = s := by unfold body; rw [if_neg h2]
      by_cases h3 : (body s).size = 1
      · exact Or.inr (Or.inr (Or.inl ⟨h0, h1, by rw [hb] at h3 h1; exact tl_noughtN h3 h1, h0, fun _ => ⟨h3, h2'⟩⟩))
      · exact Or.inr (Or.inl ⟨h0, h1, by rw [hb] at h3; exact tl_longN h3, fun h => h3 (h.2 h1).1⟩)
  · exact Or.inr (Or.inr (Or.inr ⟨h0, h1, h0, fun e => absurd e h1⟩))
theorem iter_below' (w : World) (s : ByteArray) (k : Nat) : Below w.heap.size w (w.iter s k) := (Below.refl _ _).alloc (Nat.le_refl _) _
set_option maxHeartbeats 3200000 in
theorem number_any (s : ByteArray) (w : World) (hs : s.size ≤ 1000000000) :
    Calls Tryd.prog 12 #[.string s] w fun e w' => e = .returned (.tuple #[.int .i64 (numR s), .int .i64 (numE s)]) ∧ Below w.heap.size w w' := by
  have hc := cut_any s
  have hbs := body_size s
  have hw := head_ways s
  obtain ⟨t, ht⟩ : ∃ t, t = body s := ⟨_, rfl⟩
  obtain ⟨b, hb⟩ : ∃ b, b = isNeg s := ⟨_, rfl⟩
  have HT := hid (And.intro ht hb)
  rw [← ht, ← hb] at hc
  rw [← ht] at hbs hw
  clear ht hb
  obtain ⟨X, hX⟩ : ∃ X, Hid (X = numR s) := ⟨_, rfl⟩
  obtain ⟨Y, hY⟩ : ∃ X, Hid (X = numE s) := ⟨_, rfl⟩
  rw [← hX.out, ← hY.out]
  rcases hw with ⟨h0, hh⟩ | ⟨h0, h1, h2, hh⟩ | ⟨h0, h1, h2, hh⟩ | ⟨h0, h1, hh⟩
  · have e1 := tl_noneN h0
    have HN := hid (no_head hh)
    clear h0 hh
    go_enter Tryd.func12, Tryd.ntmps12
    go_wp2_with (go_at_call 25; refine (hc _).mono ?_; rintro e w' ⟨rfl, hw'⟩; rw [hw']; clear hw')
    go_ret2
    exact ⟨ret_pair ((num_no HN.out).2.symm.trans hX.out.symm) ((num_no HN.out).1.symm.trans hY.out.symm), Below.refl _ _⟩
  · have hp : 0 < t.size := by omega
    have e0 : (t[0]'hp).toNat = 48 := by rw [bt_at t 0 hp]; exact h1
    have e1 := tl_emptyN h0
    have HN := hid (no_head hh)
    clear h0 h1 hh
    go_enter Tryd.func12, Tryd.ntmps12
    go_wp2_with (go_at_call 25; refine (hc _).mono ?_; rintro e w' ⟨rfl, hw'⟩; rw [hw']; clear hw')
    go_ret2
    exact ⟨ret_pair ((num_no HN.out).2.symm.trans hX.out.symm) ((num_no HN.out).1.symm.trans hY.out.symm), Below.refl _ _⟩
  · have hp : 0 < t.size := by omega
    have e0 : (t[0]'hp).toNat = 48 := by rw [bt_at t 0 hp]; exact h1
    have e1 := tl_emptyN h0
    have HH := hid hh
    clear h0 h1 hh
    go_enter Tryd.func12, Tryd.ntmps12
    go_wp2_with (go_at_call 25; refine (hc _).mono ?_; rintro e w' ⟨rfl, hw'⟩; rw [hw']; clear hw')
    go_loopw [6] (fun n wr => ∃ k : Nat, k ≤ t.size ∧ wr = w.iter t k ∧ n = .int .i64 (dv t k : Int) ∧ dv t k ≤ 1000000000 ∧ Hid (∀ j, j < k → 48 ≤ bt t j ∧ bt t j ≤ 57)) (fun _ wr => t.size - wr.iterPos w.heap.size)
    case atStart => exact ⟨0, Nat.zero_le _, rfl, rfl, by simp [dv], fun j hj => by omega⟩
    case round =>
      obtain ⟨k, hk, rfl, rfl, hv, HD⟩ := hrel
      by_cases hlt : k < t.size
      · have hnx : ∀ ty, (Instr.next (.pointer (some ⟨w.heap.size, 0, none⟩)) true ty).run Tryd.prog (w.iter t k) = _ := fun ty => run_next_any w t k ty hlt
        rcases rune_ways t k hlt with ⟨hx, hd⟩ | ⟨x1, x2, hd, he⟩
        · have hL := fun v => isDigit_any (Utf8.decode t k).1 v
          rw [hd] at hL
          have HN := hid (show ¬ NumT s from no_digit (by rw [← HT.out.1]; exact hlt) (by rw [← HT.out.1]; exact hx))
          clear hx hd
          generalize Utf8.decode t k = d at *
          go_wp2_with (go_at_call 26; refine (hL _).mono ?_; rintro e w' ⟨rfl, rfl⟩)
          go_ret2
          exact ⟨ret_pair ((num_no HN.out).2.symm.trans hX.out.symm) ((num_no HN.out).1.symm.trans hY.out.symm), iter_below' w t _⟩
        · have hL := fun v => isDigit_any (bt t k) v
          rw [hd] at hL
          rw [he] at hnx
          clear hd he
          by_cases hq : dv t k * 10 + (bt t k - 48) ≤ 1000000000
          · have HV := hid (show dv t (k + 1) = dv t k * 10 + (bt t k - 48) from rfl)
            have hq1 : decide ((dv t k : Int) > (1000000000 - ((bt t k : Int) - 48)) / 10) = false := decide_eq_false (by omega)
            generalize dv t k = n at *
            have hx3 : bt t k < 256 := bt_lt t k
            have HB := hid (And.intro x1 x2)
            obtain ⟨x, hx⟩ : ∃ x, Hid (x = bt t k) := ⟨_, rfl⟩
            rw [← hx.out] at hx3 x1 x2 hL hnx hq hq1 HV
            go_wp2_with (go_at_call 26; refine (hL _).mono ?_; rintro e w' ⟨rfl, rfl⟩)
            go_roundw
            case rel => exact ⟨k + 1, by omega, rfl, by rw [HV.out]; go_num, by rw [HV.out]; omega, fun j hj => by
              by_cases e : j = k
              · rw [e]; exact HB.out
              · exact HD.out j (by omega)⟩
            case measure => simp; omega
          · have HN := hid (show ¬ NumT s from too_great (by rw [← HT.out.1]; exact hlt) (by rw [← HT.out.1]; omega))
            have hq1 : decide ((dv t k : Int) > (1000000000 - ((bt t k : Int) - 48)) / 10) = true := decide_eq_true (by omega)
            clear hq
            generalize dv t k = n at *
            have hx3 : bt t k < 256 := bt_lt t k
            generalize bt t k = x at *
            go_wp2_with (go_at_call 26; refine (hL _).mono ?_; rintro e w' ⟨rfl, rfl⟩)
            go_ret2
            exact ⟨ret_pair ((num_no HN.out).2.symm.trans hX.out.symm) ((num_no HN.out).1.symm.trans hY.out.symm), iter_below' w t _⟩
      · have hnx : ∀ ty, (Instr.next (.pointer (some ⟨w.heap.size, 0, none⟩)) true ty).run Tryd.prog (w.iter t k) = _ := fun ty => run_next_end w t k ty hlt
        obtain rfl : k = t.size := by omega
        have HN := hid (show NumT s from head_num HH.out (by rw [← HT.out.1]; exact HD.out) (by rw [← HT.out.1]; exact hv))
        have HV := hid (show (if b = true then -(dv t t.size : Int) else (dv t t.size : Int)) = numR s by rw [(num_yes HN.out).2]; unfold numV num; rw [← HT.out.1, ← HT.out.2])
        generalize dv t t.size = n at *
        cases b
        all_goals
          go_wp2
          go_ret2
          exact ⟨ret_pair ((by have := HV.out; simpa using this : _ = numR s).trans hX.out.symm) ((num_yes HN.out).1.symm.trans hY.out.symm), iter_below' w t _⟩
  · have hp : 0 < t.size := by omega
    have e0 := bt_at t 0 hp
    have e3 : ((bt t 0 : Int) == 48) = false := by simp; omega
    have e1 := tl_emptyN h0
    have HH := hid hh
    clear h0 h1 hh
    go_enter Tryd.func12, Tryd.ntmps12
    go_wp2_with (go_at_call 25; refine (hc _).mono ?_; rintro e w' ⟨rfl, hw'⟩; rw [hw']; clear hw')
    go_loopw [6] (fun n wr => ∃ k : Nat, k ≤ t.size ∧ wr = w.iter t k ∧ n = .int .i64 (dv t k : Int) ∧ dv t k ≤ 1000000000 ∧ Hid (∀ j, j < k → 48 ≤ bt t j ∧ bt t j ≤ 57)) (fun _ wr => t.size - wr.iterPos w.heap.size)
    case atStart => exact ⟨0, Nat.zero_le _, rfl, rfl, by simp [dv], fun j hj => by omega⟩
    case round =>
      obtain ⟨k, hk, rfl, rfl, hv, HD⟩ := hrel
      by_cases hlt : k < t.size
      · have hnx : ∀ ty, (Instr.next (.pointer (some ⟨w.heap.size, 0, none⟩)) true ty).run Tryd.prog (w.iter t k) = _ := fun ty => run_next_any w t k ty hlt
        rcases rune_ways t k hlt with ⟨hx, hd⟩ | ⟨x1, x2, hd, he⟩
        · have hL := fun v => isDigit_any (Utf8.decode t k).1 v
          rw [hd] at hL
          have HN := hid (show ¬ NumT s from no_digit (by rw [← HT.out.1]; exact hlt) (by rw [← HT.out.1]; exact hx))
          clear hx hd
          generalize Utf8.decode t k = d at *
          go_wp2_with (go_at_call 26; refine (hL _).mono ?_; rintro e w' ⟨rfl, rfl⟩)
          go_ret2
          exact ⟨ret_pair ((num_no HN.out).2.symm.trans hX.out.symm) ((num_no HN.out).1.symm.trans hY.out.symm), iter_below' w t _⟩
        · have hL := fun v => isDigit_any (bt t k) v
          rw [hd] at hL
          rw [he] at hnx
          clear hd he
          by_cases hq : dv t k * 10 + (bt t k - 48) ≤ 1000000000
          · have HV := hid (show dv t (k + 1) = dv t k * 10 + (bt t k - 48) from rfl)
            have hq1 : decide ((dv t k : Int) > (1000000000 - ((bt t k : Int) - 48)) / 10) = false := decide_eq_false (by omega)
            generalize dv t k = n at *
            have hx3 : bt t k < 256 := bt_lt t k
            have HB := hid (And.intro x1 x2)
            obtain ⟨x, hx⟩ : ∃ x, Hid (x = bt t k) := ⟨_, rfl⟩
            rw [← hx.out] at hx3 x1 x2 hL hnx hq hq1 HV
            go_wp2_with (go_at_call 26; refine (hL _).mono ?_; rintro e w' ⟨rfl, rfl⟩)
            go_roundw
            case rel => exact ⟨k + 1, by omega, rfl, by rw [HV.out]; go_num, by rw [HV.out]; omega, fun j hj => by
              by_cases e : j = k
              · rw [e]; exact HB.out
              · exact HD.out j (by omega)⟩
            case measure => simp; omega
          · have HN := hid (show ¬ NumT s from too_great (by rw [← HT.out.1]; exact hlt) (by rw [← HT.out.1]; omega))
            have hq1 : decide ((dv t k : Int) > (1000000000 - ((bt t k : Int) - 48)) / 10) = true := decide_eq_true (by omega)
            clear hq
            generalize dv t k = n at *
            have hx3 : bt t k < 256 := bt_lt t k
            generalize bt t k = x at *
            go_wp2_with (go_at_call 26; refine (hL _).mono ?_; rintro e w' ⟨rfl, rfl⟩)
            go_ret2
            exact ⟨ret_pair ((num_no HN.out).2.symm.trans hX.out.symm) ((num_no HN.out).1.symm.trans hY.out.symm), iter_below' w t _⟩
      · have hnx : ∀ ty, (Instr.next (.pointer (some ⟨w.heap.size, 0, none⟩)) true ty).run Tryd.prog (w.iter t k) = _ := fun ty => run_next_end w t k ty hlt
        obtain rfl : k = t.size := by omega
        have HN := hid (show NumT s from head_num HH.out (by rw [← HT.out.1]; exact HD.out) (by rw [← HT.out.1]; exact hv))
        have HV := hid (show (if b = true then -(dv t t.size : Int) else (dv t t.size : Int)) = numR s by rw [(num_yes HN.out).2]; unfold numV num; rw [← HT.out.1, ← HT.out.2])
        generalize dv t t.size = n at *
        cases b
        all_goals
          go_wp2
          go_ret2
          exact ⟨ret_pair ((by have := HV.out; simpa using this : _ = numR s).trans hX.out.symm) ((num_yes HN.out).1.symm.trans hY.out.symm), iter_below' w t _⟩
end Go.Proofs.YteelnimchlgdmaaDoor
