/- lex: Name, the program's and the document's. -/
import Derived.Test.YtpjajpgphdnglaaDoorLRune
namespace Go.Proofs.YtpjajpgphdnglaaDoor
open Go.RowKit
set_option linter.unusedVariables false
set_option maxRecDepth 100000
set_option linter.unusedSimpArgs false

/-- Letters alone, one to eight. -/
def nameB (s : ByteArray) : Bool := runs isLet (bl s) && decide (1 ≤ many (bl s) ∧ many (bl s) ≤ 8)
theorem iter_below (w : World) (s : ByteArray) (k : Nat) : Below w.heap.size w (w.iter s k) := (Below.refl _ _).alloc (Nat.le_refl _) _
theorem drop_all (s : ByteArray) (k : Nat) (h : ¬ k < s.size) : (bl s).drop k = [] := List.drop_eq_nil_of_le (by rw [bl_len]; omega)
theorem many_le : ∀ (n : Nat) (l : List UInt8), l.length ≤ n → many l ≤ l.length
  | 0, l, h => by obtain rfl : l = [] := List.eq_nil_of_length_eq_zero (by omega)
                  simp [many]
  | n + 1, [], _ => by simp [many]
  | n + 1, b :: r, h => by
    by_cases hb : b.toNat < 128
    · rw [many_low hb]
      have := many_le n r (by simp at h; omega)
      simp; omega
    · cases r with
      | nil => rw [many, if_neg hb]; simp
      | cons c r =>
        rw [many_high hb]
        have := many_le n r (by simp at h; omega)
        simp; omega
set_option maxHeartbeats 1600000 in
theorem name_any (s : ByteArray) (w : World) (hs : s.size ≤ 1000000000) :
    Calls Tryd.prog 16 #[.string s] w fun e w' => e = .returned (.bool (nameB s)) ∧ Below w.heap.size w w' := by
  have hm := many_le _ (bl s) (Nat.le_refl _)
  rw [bl_len] at hm
  obtain ⟨X, hX⟩ : ∃ X, Hid (X = nameB s) := ⟨_, rfl⟩
  rw [← hX.out]
  go_enter Tryd.func16, Tryd.ntmps16
  go_wp2
  go_loopw [3] (fun n wr => ∃ pos c : Nat, pos ≤ s.size ∧ wr = w.iter s pos ∧ n = .int .i64 (c : Int) ∧ Hid (runs isLet (bl s) = runs isLet ((bl s).drop pos) ∧ many (bl s) = c + many ((bl s).drop pos))) (fun _ wr => s.size - wr.iterPos w.heap.size)
  case atStart => exact ⟨0, 0, Nat.zero_le _, rfl, rfl, by simp [Hid]⟩
  case round =>
    obtain ⟨pos, c, hpos, rfl, rfl, HR⟩ := hrel
    have hc : c ≤ s.size := by have := HR.out.2; omega
    by_cases hp : pos < s.size
    · have hnx : ∀ ty, (Instr.next (.pointer (some ⟨w.heap.size, 0, none⟩)) true ty).run Tryd.prog (w.iter s pos) = _ := fun ty => run_next_any w s pos ty hp
      have hL := fun v => isLetter_any (Utf8.decode s pos).1 v
      rcases Bool.eq_false_or_eq_true (isLet (Utf8.decode s pos).1) with e1 | e1
      · have HY := hid (runs_yes few_let hp e1)
        rw [e1] at hL
        clear e1 hm
        generalize Utf8.decode s pos = d at *
        go_wp2_with (go_at_call 26; refine (hL _).mono ?_; rintro e w' ⟨rfl, rfl⟩)
        go_roundw
        case rel => exact ⟨pos + d.2, c + 1, HY.out.2.2.2, rfl, by go_num, ⟨by rw [HR.out.1, HY.out.1], by rw [HR.out.2, HY.out.2.1]; omega⟩⟩
        case measure => have := HY.out.2.2; simp; omega
      · have HY := hid (runs_no few_let hp e1)
        rw [e1] at hL
        clear e1 hm
        generalize Utf8.decode s pos = d at *
        go_wp2_with (go_at_call 26; refine (hL _).mono ?_; rintro e w' ⟨rfl, rfl⟩)
        go_ret
        exact ⟨ret_bool (by rw [hX.out]; unfold nameB; rw [HR.out.1, HY.out]; rfl), iter_below w s _⟩
    · have hnx : ∀ ty, (Instr.next (.pointer (some ⟨w.heap.size, 0, none⟩)) true ty).run Tryd.prog (w.iter s pos) = _ := fun ty => run_next_end w s pos ty hp
      have HE := hid (drop_all s pos hp)
      have hX2 : X = decide (1 ≤ c ∧ c ≤ 8) := by
        rw [hX.out]; unfold nameB
        rw [HR.out.1, HR.out.2, HE.out]
        rfl
      clear hm
      rcases (show c = 0 ∨ (1 ≤ c ∧ c ≤ 8) ∨ 8 < c by omega) with h | ⟨h, h'⟩ | h
      · subst h
        go_wp2
        go_ret
        exact ⟨ret_bool (by rw [hX2]; rfl), iter_below w s _⟩
      · have t1 : decide ((1 : Int) ≤ (c : Int)) = true := decide_eq_true (by omega)
        have t2 : decide ((c : Int) ≤ (8 : Int)) = true := decide_eq_true (by omega)
        have HX2 := hid (hX2.trans (decide_eq_true ⟨h, h'⟩))
        clear hX2 h h'
        go_wp2
        go_ret
        exact ⟨ret_bool HX2.out.symm, iter_below w s _⟩
      · have t1 : decide ((1 : Int) ≤ (c : Int)) = true := decide_eq_true (by omega)
        have t2 : decide ((c : Int) ≤ (8 : Int)) = false := decide_eq_false (by omega)
        have HX2 := hid (hX2.trans (decide_eq_false (by omega)))
        clear hX2 h
        go_wp2
        go_ret
        exact ⟨ret_bool HX2.out.symm, iter_below w s _⟩
set_option maxHeartbeats 1600000 in
theorem zname_any (s : ByteArray) (w : World) (hs : s.size ≤ 1000000000) :
    Calls Tryd.prog 17 #[.string s] w fun e w' => e = .returned (.bool (nameB s)) ∧ Below w.heap.size w w' := by
  have hm := many_le _ (bl s) (Nat.le_refl _)
  rw [bl_len] at hm
  obtain ⟨X, hX⟩ : ∃ X, Hid (X = nameB s) := ⟨_, rfl⟩
  rw [← hX.out]
  go_enter Tryd.func17, Tryd.ntmps17
  go_wp2
  go_loopw [3] (fun n wr => ∃ pos c : Nat, pos ≤ s.size ∧ wr = w.iter s pos ∧ n = .int .i64 (c : Int) ∧ Hid (runs isLet (bl s) = runs isLet ((bl s).drop pos) ∧ many (bl s) = c + many ((bl s).drop pos))) (fun _ wr => s.size - wr.iterPos w.heap.size)
  case atStart => exact ⟨0, 0, Nat.zero_le _, rfl, rfl, by simp [Hid]⟩
  case round =>
    obtain ⟨pos, c, hpos, rfl, rfl, HR⟩ := hrel
    have hc : c ≤ s.size := by have := HR.out.2; omega
    by_cases hp : pos < s.size
    · have hnx : ∀ ty, (Instr.next (.pointer (some ⟨w.heap.size, 0, none⟩)) true ty).run Tryd.prog (w.iter s pos) = _ := fun ty => run_next_any w s pos ty hp
      have hL := fun v => kind_any (Utf8.decode s pos).1 v
      have hk := kind_let (Utf8.decode s pos).1
      rcases Bool.eq_false_or_eq_true (isLet (Utf8.decode s pos).1) with e1 | e1
      · have HY := hid (runs_yes few_let hp e1)
        rw [e1] at hk
        clear e1 hm
        generalize Utf8.decode s pos = d at *
        generalize kindOf d.1 = kk at *
        go_wp2_with (go_at_call 19; refine (hL _).mono ?_; rintro e w' ⟨rfl, rfl⟩)
        go_roundw
        case rel => exact ⟨pos + d.2, c + 1, HY.out.2.2.2, rfl, by go_num, ⟨by rw [HR.out.1, HY.out.1], by rw [HR.out.2, HY.out.2.1]; omega⟩⟩
        case measure => have := HY.out.2.2; simp; omega
      · have HY := hid (runs_no few_let hp e1)
        rw [e1] at hk
        clear e1 hm
        generalize Utf8.decode s pos = d at *
        generalize kindOf d.1 = kk at *
        go_wp2_with (go_at_call 19; refine (hL _).mono ?_; rintro e w' ⟨rfl, rfl⟩)
        go_ret
        exact ⟨ret_bool (by rw [hX.out]; unfold nameB; rw [HR.out.1, HY.out]; rfl), iter_below w s _⟩
    · have hnx : ∀ ty, (Instr.next (.pointer (some ⟨w.heap.size, 0, none⟩)) true ty).run Tryd.prog (w.iter s pos) = _ := fun ty => run_next_end w s pos ty hp
      have HE := hid (drop_all s pos hp)
      have hX2 : X = decide (1 ≤ c ∧ c ≤ 8) := by
        rw [hX.out]; unfold nameB
        rw [HR.out.1, HR.out.2, HE.out]
        rfl
      clear hm
      rcases (show c = 0 ∨ (1 ≤ c ∧ c ≤ 8) ∨ 8 < c by omega) with h | ⟨h, h'⟩ | h
      · subst h
        go_wp2
        go_ret
        exact ⟨ret_bool (by rw [hX2]; rfl), iter_below w s _⟩
      · have t1 : decide ((1 : Int) ≤ (c : Int)) = true := decide_eq_true (by omega)
        have t2 : decide ((c : Int) ≤ (8 : Int)) = true := decide_eq_true (by omega)
        have HX2 := hid (hX2.trans (decide_eq_true ⟨h, h'⟩))
        clear hX2 h h'
        go_wp2
        go_ret
        exact ⟨ret_bool HX2.out.symm, iter_below w s _⟩
      · have t1 : decide ((1 : Int) ≤ (c : Int)) = true := decide_eq_true (by omega)
        have t2 : decide ((c : Int) ≤ (8 : Int)) = false := decide_eq_false (by omega)
        have HX2 := hid (hX2.trans (decide_eq_false (by omega)))
        clear hX2 h
        go_wp2
        go_ret
        exact ⟨ret_bool HX2.out.symm, iter_below w s _⟩
end Go.Proofs.YtpjajpgphdnglaaDoor
