/- Whole numbers: Parse. -/
import Derived.Test.YtchibjdhdbkdhaaDoorNOps
import Derived.Test.YtchibjdhdbkdhaaDoorParse
namespace Go.Proofs.YtchibjdhdbkdhaaDoor
open Go.RowKit
set_option linter.unusedVariables false
set_option maxRecDepth 100000
set_option linter.unusedSimpArgs false
attribute [local go_sem ↓] Go.wp_at_zero Go.wp_at_succ

theorem tl_cons (s : ByteArray) (h : 0 < s.size) : ∃ l, s.data.toList = s[0] :: l ∧ (s.extract 1 s.size).data.toList = l := by
  obtain ⟨⟨l⟩⟩ := s
  match l, h with
  | x :: l, _ => exact ⟨l, rfl, by rw [ByteArray.data_extract, Array.toList_extract]; show List.take _ (List.drop 1 (x :: l)) = l; rw [List.drop_one, List.tail_cons]; exact List.take_of_length_le (by show l.length ≤ (x :: l).length - 1; simp)⟩
theorem cut_no (s : ByteArray) (w : World) (h : bt s 0 ≠ 45) :
    Calls Tryd.prog 45 #[.string s, .string ⟨#[45]⟩] w fun e w' => e = .returned (.tuple #[.string s, .bool false]) ∧ w' = w := by
  have hp : Lib.hasPrefix s.data.toList (⟨#[45]⟩ : ByteArray).data.toList = false := by
    rcases Nat.eq_zero_or_pos s.size with e | e
    · have : s.data.toList = [] := List.eq_nil_of_length_eq_zero (by rw [Array.length_toList]; exact e)
      rw [this]; rfl
    · obtain ⟨l, h1, _⟩ := tl_cons s e
      rw [h1]
      have : s[0] ≠ 45 := by
        intro e1
        rw [← bt_at s 0 e, e1] at h
        exact h rfl
      simp [Lib.hasPrefix, List.isPrefixOf]
      exact fun e1 => this e1.symm
  refine (Tryd.strings_CutPrefix s ⟨#[45]⟩ w).mono ?_
  rintro e w' ⟨rfl, rfl⟩
  rw [Lib.trimPrefix, hp]
  exact ⟨rfl, rfl⟩
theorem cut_yes (s : ByteArray) (w : World) (hs : 0 < s.size) (h : bt s 0 = 45) :
    Calls Tryd.prog 45 #[.string s, .string ⟨#[45]⟩] w fun e w' => e = .returned (.tuple #[.string (s.extract 1 s.size), .bool true]) ∧ w' = w := by
  obtain ⟨l, h1, h2⟩ := tl_cons s hs
  have h3 : s[0] = 45 := by
    rw [← bt_at s 0 hs] at h
    exact UInt8.toNat_inj.1 h
  have hp : Lib.hasPrefix s.data.toList (⟨#[45]⟩ : ByteArray).data.toList = true := by
    rw [h1, h3]; simp [Lib.hasPrefix, List.isPrefixOf]
  refine (Tryd.strings_CutPrefix s ⟨#[45]⟩ w).mono ?_
  rintro e w' ⟨rfl, rfl⟩
  rw [Lib.trimPrefix, hp]
  refine ⟨?_, rfl⟩
  congr 3
  have e1 : (if true = true then List.drop (⟨#[45]⟩ : ByteArray).data.toList.length s.data.toList else s.data.toList) = l := by
    rw [if_pos rfl, h1]; rfl
  rw [e1, ← h2]
set_option maxHeartbeats 800000 in
theorem nparse_no (s t : ByteArray) (b : Bool) (w : World) (hc : ∀ w, Calls Tryd.prog 45 #[.string s, .string ⟨#[45]⟩] w fun e w' => e = .returned (.tuple #[.string t, .bool b]) ∧ w' = w) (hs : t.size ≤ 1000000000) (ht : ¬ Txt t) :
    Calls Tryd.prog 24 #[.string s] w fun e w' => e = .returned (.tuple #[.agg #[.slice none 0 0, .bool false], .int .i64 10]) ∧ Below w.heap.size w w' := by
  have hx := box_new w (Obj.cells #[.slice none 0 0, .bool false] 26)
  have hB : Below w.heap.size w (w.alloc (Obj.cells #[.slice none 0 0, .bool false] 26)) := (Below.refl _ _).alloc (Nat.le_refl _) _
  go_enter Tryd.func24, Tryd.ntmps24
  go_wp2_with fail
  refine (hc _).mono ?_
  rintro e w' ⟨rfl, rfl⟩
  generalize w.alloc (Obj.cells #[.slice none 0 0, .bool false] 26) = W at *
  go_wp2_with fail
  refine (parse_no t W hs ht).mono ?_
  rintro e w1 ⟨rfl, hb1⟩
  have hx3 := below_alloc' hb1 (Nat.le_refl _) (Obj.cells #[.slice none 0 0] 24)
  have hx1 := box_below hx3 hx (lt_of_block hx)
  have c1 := chain2 hB hx3
  have u2 := two_cell0 hx1
  have u3 := two_cell1 hx1
  have v2 := two_free (k := 0) hx1
  have v3 := two_free (k := 1) hx1
  obtain ⟨k0, k1, kB⟩ := end_two c1 (Nat.le_refl _) hx1 (.slice none 0 0) (.bool false)
  have HK := hid (And.intro k0 k1)
  clear k0 k1 hx hx1
  go_wp2
  generalize w1.alloc (Obj.cells #[.slice none 0 0] 24) = W1 at *
  exact bodyPost_ret (v := .tuple #[.agg #[.slice none 0 0, .bool false], .int .i64 10]) (by simp [results, Tryd.results24, go_sem, HK.out.1, HK.out.2]) rfl ⟨rfl, kB⟩
set_option maxHeartbeats 1000000 in
theorem nparse_nought (s t : ByteArray) (w : World) (hc : ∀ w, Calls Tryd.prog 45 #[.string s, .string ⟨#[45]⟩] w fun e w' => e = .returned (.tuple #[.string t, .bool true]) ∧ w' = w) (hs : t.size ≤ 1000000000) (ht : Txt t) (h0 : num t = 0) :
    Calls Tryd.prog 24 #[.string s] w fun e w' => e = .returned (.tuple #[.agg #[.slice none 0 0, .bool false], .int .i64 10]) ∧ Below w.heap.size w w' := by
  have hx := box_new w (Obj.cells #[.slice none 0 0, .bool false] 26)
  have hB : Below w.heap.size w (w.alloc (Obj.cells #[.slice none 0 0, .bool false] 26)) := (Below.refl _ _).alloc (Nat.le_refl _) _
  have hbin : Bin (num t) 0 := by rw [h0]; exact ⟨by simp, fun h => absurd rfl h, fun _ => rfl⟩
  clear h0
  go_enter Tryd.func24, Tryd.ntmps24
  go_wp2_with fail
  refine (hc _).mono ?_
  rintro e w' ⟨rfl, rfl⟩
  generalize w.alloc (Obj.cells #[.slice none 0 0, .bool false] 26) = W at *
  go_wp2_with fail
  refine (parse_yes t W hs ht _ rfl).mono ?_
  rintro e w1 ⟨⟨v, rfl, nv⟩, hb1⟩
  obtain ⟨ar, lr, cr, rfl⟩ := nv.form
  have hx3 := below_alloc' hb1 (Nat.le_refl _) (Obj.cells #[.slice ar lr cr] 24)
  have hx1 := box_below hx3 hx (lt_of_block hx)
  have c1 := chain2 hB hx3
  have n1 := nv.below ((Below.refl _ _).alloc (Nat.le_refl _) (Obj.cells #[.slice ar lr cr] 24))
  have hn := box_new w1 (Obj.cells #[.slice ar lr cr] 24)
  clear hx hx3 hb1 nv
  go_wp2_with fail
  generalize w1.alloc (Obj.cells #[.slice ar lr cr] 24) = W1 at *
  have hsz : t.size / 9 + 1 ≤ 1000000000 := by omega
  have HX := hid hx1
  clear hx1
  first
    | (have t1 := cell_of_one hn
       have B0 : Below W1.heap.size W1 W1.drew := (Below.refl _ _).drew
       go_region_held3 (fun w' => w'.cell? ⟨w1.heap.size, 0, none⟩ = some (.slice ar lr cr)) ((first | exact t1 | exact K1)) (first
         | (go_at_call 27; refine (bits_any _ _ _ _ _ hsz (n1.below B0) hbin).mono ?_; rintro e w2 ⟨rfl, hb2⟩; have B1 := chain2 B0 hb2; have K1 := kc B1 t1)))
    | (refine (bits_any _ _ _ _ _ hsz n1 hbin).mono ?_
       rintro e w2 ⟨rfl, B1⟩)
  have hx2 := box_below B1 HX.out (lt_of_block HX.out)
  have c2 := chain2 c1 B1
  have u2 := two_cell0 hx2
  have u3 := two_cell1 hx2
  have v2 := two_free (k := 0) hx2
  have v3 := two_free (k := 1) hx2
  obtain ⟨k0, k1, kB⟩ := end_two c2 (Nat.le_refl _) hx2 (.slice none 0 0) (.bool false)
  have HK := hid (And.intro k0 k1)
  clear k0 k1 hx2
  go_wp2
  exact bodyPost_ret (v := .tuple #[.agg #[.slice none 0 0, .bool false], .int .i64 10]) (by simp [results, Tryd.results24, go_sem, HK.out.1, HK.out.2]) rfl ⟨rfl, kB⟩
set_option maxHeartbeats 1000000 in
theorem nparse_below (s t : ByteArray) (w : World) (hc : ∀ w, Calls Tryd.prog 45 #[.string s, .string ⟨#[45]⟩] w fun e w' => e = .returned (.tuple #[.string t, .bool true]) ∧ w' = w) (hs : t.size ≤ 1000000000) (ht : Txt t) (h0 : num t ≠ 0) :
    Calls Tryd.prog 24 #[.string s] w fun e w' => ∃ ao l c, e = .returned (.tuple #[.agg #[.slice ao l c, .bool true], .int .i64 0]) ∧ NatIs w' (.agg #[.slice ao l c]) (num t) (t.size / 9 + 1) ∧ Below w.heap.size w w' := by
  have hx := box_new w (Obj.cells #[.slice none 0 0, .bool false] 26)
  have hB : Below w.heap.size w (w.alloc (Obj.cells #[.slice none 0 0, .bool false] 26)) := (Below.refl _ _).alloc (Nat.le_refl _) _
  obtain ⟨n, hbin⟩ : ∃ n, Bin (num t) n := ⟨_, bin_ex _⟩
  have hp := (bin_pos hbin).2 (by omega)
  clear h0
  go_enter Tryd.func24, Tryd.ntmps24
  go_wp2_with fail
  refine (hc _).mono ?_
  rintro e w' ⟨rfl, rfl⟩
  generalize w.alloc (Obj.cells #[.slice none 0 0, .bool false] 26) = W at *
  go_wp2_with fail
  refine (parse_yes t W hs ht _ rfl).mono ?_
  rintro e w1 ⟨⟨v, rfl, nv⟩, hb1⟩
  obtain ⟨ar, lr, cr, rfl⟩ := nv.form
  have hx3 := below_alloc' hb1 (Nat.le_refl _) (Obj.cells #[.slice ar lr cr] 24)
  have hx1 := box_below hx3 hx (lt_of_block hx)
  have c1 := chain2 hB hx3
  have n1 := nv.below ((Below.refl _ _).alloc (Nat.le_refl _) (Obj.cells #[.slice ar lr cr] 24))
  have hn := box_new w1 (Obj.cells #[.slice ar lr cr] 24)
  clear hx hx3 hb1 nv
  go_wp2_with fail
  generalize w1.alloc (Obj.cells #[.slice ar lr cr] 24) = W1 at *
  have hsz : t.size / 9 + 1 ≤ 1000000000 := by omega
  have HX := hid hx1
  have hn0 : ((n : Int) == 0) = false := by simp; omega
  clear hx1
  first
    | (have t1 := cell_of_one hn
       have B0 : Below W1.heap.size W1 W1.drew := (Below.refl _ _).drew
       go_region_held3 (fun w' => w'.cell? ⟨w1.heap.size, 0, none⟩ = some (.slice ar lr cr)) ((first | exact t1 | exact K1)) (first
         | (go_at_call 27; refine (bits_any _ _ _ _ _ hsz (n1.below B0) hbin).mono ?_; rintro e w2 ⟨rfl, hb2⟩; have B1 := chain2 B0 hb2; have K1 := kc B1 t1)))
    | (refine (bits_any _ _ _ _ _ hsz n1 hbin).mono ?_
       rintro e w2 ⟨rfl, B1⟩)
  have hx2 := box_below B1 HX.out (lt_of_block HX.out)
  have hn2 := cell_of_one (box_below B1 hn (lt_of_block hn))
  have n2 := n1.below B1
  have c2 := chain2 c1 B1
  have u2 := two_cell0 hx2
  have u3 := two_cell1 hx2
  have v2 := two_free (k := 0) hx2
  have v3 := two_free (k := 1) hx2
  obtain ⟨k0, k1, kB⟩ := end_two c2 (Nat.le_refl _) hx2 (.slice ar lr cr) (.bool true)
  have n3 := n2.box2 hx2 (by decide) (.slice ar lr cr) (.bool true)
  have HK := hid (And.intro k0 k1)
  clear k0 k1 hx2 hn
  go_wp2
  exact bodyPost_ret (v := .tuple #[.agg #[.slice ar lr cr, .bool true], .int .i64 0]) (by simp [results, Tryd.results24, go_sem, HK.out.1, HK.out.2]) rfl ⟨ar, lr, cr, rfl, n3, kB⟩
set_option maxHeartbeats 1000000 in
theorem nparse_above (s t : ByteArray) (w : World) (hc : ∀ w, Calls Tryd.prog 45 #[.string s, .string ⟨#[45]⟩] w fun e w' => e = .returned (.tuple #[.string t, .bool false]) ∧ w' = w) (hs : t.size ≤ 1000000000) (ht : Txt t) :
    Calls Tryd.prog 24 #[.string s] w fun e w' => ∃ ao l c, e = .returned (.tuple #[.agg #[.slice ao l c, .bool false], .int .i64 0]) ∧ NatIs w' (.agg #[.slice ao l c]) (num t) (t.size / 9 + 1) ∧ Below w.heap.size w w' := by
  have hx := box_new w (Obj.cells #[.slice none 0 0, .bool false] 26)
  have hB : Below w.heap.size w (w.alloc (Obj.cells #[.slice none 0 0, .bool false] 26)) := (Below.refl _ _).alloc (Nat.le_refl _) _
  go_enter Tryd.func24, Tryd.ntmps24
  go_wp2_with fail
  refine (hc _).mono ?_
  rintro e w' ⟨rfl, rfl⟩
  generalize w.alloc (Obj.cells #[.slice none 0 0, .bool false] 26) = W at *
  go_wp2_with fail
  refine (parse_yes t W hs ht _ rfl).mono ?_
  rintro e w1 ⟨⟨v, rfl, nv⟩, hb1⟩
  obtain ⟨ar, lr, cr, rfl⟩ := nv.form
  have hx3 := below_alloc' hb1 (Nat.le_refl _) (Obj.cells #[.slice ar lr cr] 24)
  have hx1 := box_below hx3 hx (lt_of_block hx)
  have c1 := chain2 hB hx3
  have n1 := nv.below ((Below.refl _ _).alloc (Nat.le_refl _) (Obj.cells #[.slice ar lr cr] 24))
  have hn := box_new w1 (Obj.cells #[.slice ar lr cr] 24)
  have t1 := cell_of_one hn
  have u2 := two_cell0 hx1
  have u3 := two_cell1 hx1
  have v2 := two_free (k := 0) hx1
  have v3 := two_free (k := 1) hx1
  obtain ⟨k0, k1, kB⟩ := end_two c1 (Nat.le_refl _) hx1 (.slice ar lr cr) (.bool false)
  have n3 := n1.box2 hx1 (by decide) (.slice ar lr cr) (.bool false)
  have HK := hid (And.intro k0 k1)
  clear hx hx3 hb1 nv hx1 hn k0 k1
  go_wp2_with fail
  generalize w1.alloc (Obj.cells #[.slice ar lr cr] 24) = W1 at *
  exact bodyPost_ret (v := .tuple #[.agg #[.slice ar lr cr, .bool false], .int .i64 0]) (by simp [results, Tryd.results24, go_sem, HK.out.1, HK.out.2]) rfl ⟨ar, lr, cr, rfl, n3, kB⟩
end Go.Proofs.YtchibjdhdbkdhaaDoor
