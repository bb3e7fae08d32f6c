/- NOps, NParse, NNumber, NAbs, NAdd, NMul, SAdd, NMake, NCmp. -/
import Derived.Test.YtcdkoadobdgbhaaGreatDoorPk7
import Derived.Test.YtcdkoadobdgbhaaGreatDoorPk10
import Derived.Test.YtcdkoadobdgbhaaGreatDoorPk24
/- Whole numbers: what signed, copied, Neg, Abs, Sign answer. -/
namespace Go.Proofs.YtcdkoadobdgbhaaGreatDoor
open Go.RowKit
set_option linter.unusedVariables false
set_option maxRecDepth 100000
set_option linter.unusedSimpArgs false
attribute [local go_sem ↓] Go.wp_at_zero Go.wp_at_succ

theorem bin_pos {m b : Nat} (h : Bin m b) : (0 < b ↔ 0 < m) := by
  obtain ⟨h1, h2, h3⟩ := h
  constructor
  · intro hb
    rcases Nat.eq_zero_or_pos m with e | e
    · have := h3 e; omega
    · exact e
  · intro hm
    rcases Nat.eq_zero_or_pos b with e | e
    · rw [e] at h1; simp at h1; omega
    · exact e
set_option maxHeartbeats 400000 in
theorem signed_yes (w : World) (ao : Option Addr) (l c m K : Nat) (hK : K ≤ 1000000000) (ha : NatIs w (.agg #[.slice ao l c]) m K) :
    Calls Tryz.prog 154 #[.bool true, .agg #[.slice ao l c]] w fun e w' => e = .returned (.agg #[.slice ao l c, .bool (decide (0 < m))]) ∧ Below w.heap.size w w' := by
  obtain ⟨b, hb⟩ : ∃ b, Bin m b := ⟨_, bin_ex m⟩
  have hp := hid (bin_pos hb)
  have hb0 : Below w.heap.size w (w.alloc (Obj.cells #[.slice ao l c] 69)) := (Below.refl _ _).alloc (Nat.le_refl _) _
  go_enter Tryz.func154, Tryz.ntmps154
  go_wp2_with fail
  have hx : ((w.alloc (Obj.cells #[.slice ao l c] 69)).alloc (Obj.cells #[.slice none 0 0, .bool false] 71)).heap[w.heap.size]? = some (Obj.cells #[.slice ao l c] 69) := boxed2_first _ _ _
  have hy : ((w.alloc (Obj.cells #[.slice ao l c] 69)).alloc (Obj.cells #[.slice none 0 0, .bool false] 71)).heap[w.heap.size + 1]? = some (Obj.cells #[.slice none 0 0, .bool false] 71) := boxed2_second _ _ _
  have hB := boxed2 (Below.refl w.heap.size w) (Obj.cells #[.slice ao l c] 69) (Obj.cells #[.slice none 0 0, .bool false] 71)
  generalize (w.alloc (Obj.cells #[.slice ao l c] 69)).alloc (Obj.cells #[.slice none 0 0, .bool false] 71) = W at *
  have t1 := cell_of_one hx
  have B0 : Below W.heap.size W W.drew := (Below.refl _ _).drew
  have na := ha.below hB
  have HY := hid hy
  have t2 := two_cell0 hy
  have t3 := two_cell1 hy
  have f2 := two_free (k := 0) hy
  have f3 := two_free (k := 1) hy
  clear hx hy hb0
  go_region_held3 (fun w' => w'.cell? ⟨w.heap.size, 0, none⟩ = some (.slice ao l c)) ((first | exact t1 | exact K1 | exact two_keep0 K1 (Nat.ne_of_lt (Nat.lt_succ_self _)) _ _)) (first
    | (go_at_call 148; refine (bits_any _ _ _ _ _ hK (na.below B0) hb).mono ?_; rintro e w1 ⟨rfl, hb1⟩; have K1 := (hb1.cell (World.block_lt_of_cell? W _ t1)).trans t1; have hy1 := box_below (chain2 B0 hb1) HY.out (lt_of_block HY.out); have u2 := two_cell0 hy1; have u3 := two_cell1 hy1; have v2 := two_free (k := 0) hy1; have v3 := two_free (k := 1) hy1))
  obtain ⟨k0, k1, kB⟩ := end_two (chain2 hB (chain2 B0 hb1)) (Nat.le_succ _) hy1 (.slice ao l c) (.bool (decide (0 < b)))
  go_wp2
  have HK := hid (And.intro k0 k1)
  clear k0 k1
  refine bodyPost_ret (v := .agg #[.slice ao l c, .bool (decide (0 < b))]) (by simp [results, Tryz.results154, go_sem, HK.out.1, HK.out.2]) rfl ⟨by rw [show decide (0 < b) = decide (0 < m) from decide_eq_decide.2 hp.out], kB⟩
set_option maxHeartbeats 400000 in
theorem signed_no (w : World) (ao : Option Addr) (l c : Nat) :
    Calls Tryz.prog 154 #[.bool false, .agg #[.slice ao l c]] w fun e w' => e = .returned (.agg #[.slice ao l c, .bool false]) ∧ Below w.heap.size w w' := by
  go_enter Tryz.func154, Tryz.ntmps154
  go_wp2_with fail
  have hx : ((w.alloc (Obj.cells #[.slice ao l c] 69)).alloc (Obj.cells #[.slice none 0 0, .bool false] 71)).heap[w.heap.size]? = some (Obj.cells #[.slice ao l c] 69) := boxed2_first _ _ _
  have hy : ((w.alloc (Obj.cells #[.slice ao l c] 69)).alloc (Obj.cells #[.slice none 0 0, .bool false] 71)).heap[w.heap.size + 1]? = some (Obj.cells #[.slice none 0 0, .bool false] 71) := boxed2_second _ _ _
  have hB := boxed2 (Below.refl w.heap.size w) (Obj.cells #[.slice ao l c] 69) (Obj.cells #[.slice none 0 0, .bool false] 71)
  generalize (w.alloc (Obj.cells #[.slice ao l c] 69)).alloc (Obj.cells #[.slice none 0 0, .bool false] 71) = W at *
  have t1 := cell_of_one hx
  have t2 := two_cell0 hy
  have t3 := two_cell1 hy
  have f2 := two_free (k := 0) hy
  have f3 := two_free (k := 1) hy
  obtain ⟨k0, k1, kB⟩ := end_two hB (Nat.le_succ _) hy (.slice ao l c) (.bool false)
  have HK := hid (show ((W.setCell ⟨w.heap.size + 1, 0, none⟩ (.slice ao l c)).setCell ⟨w.heap.size + 1, 1, none⟩ (.bool false)).drew.cell? ⟨w.heap.size + 1, 0, none⟩ = some (.slice ao l c) ∧ ((W.setCell ⟨w.heap.size + 1, 0, none⟩ (.slice ao l c)).setCell ⟨w.heap.size + 1, 1, none⟩ (.bool false)).drew.cell? ⟨w.heap.size + 1, 1, none⟩ = some (.bool false) from And.intro k0 k1)
  clear k0 k1 hx hy
  go_region
  go_wp2
  exact bodyPost_ret (v := .agg #[.slice ao l c, .bool false]) (by simp [results, Tryz.results154, go_sem, HK.out.1, HK.out.2]) rfl ⟨rfl, kB.drew⟩
/-- signed: the number with that sign; 0 has none. -/
theorem signed_any (w : World) (b : Bool) (a : Value) (m K : Nat) (hK : K ≤ 1000000000) (ha : NatIs w a m K) :
    Calls Tryz.prog 154 #[.bool b, a] w fun e w' => ∃ v, e = .returned v ∧ NumIs w' v (sgn b m) K ∧ Below w.heap.size w w' := by
  obtain ⟨ao, l, c, rfl⟩ := ha.form
  cases b
  · refine (signed_no w ao l c).mono ?_
    rintro e w' ⟨rfl, hw⟩
    exact ⟨_, rfl, ⟨ao, l, c, by rw [sgn_neg]; rfl, by rw [sgn_abs]; exact ha.below hw⟩, hw⟩
  · refine (signed_yes w ao l c m K hK ha).mono ?_
    rintro e w' ⟨rfl, hw⟩
    exact ⟨_, rfl, ⟨ao, l, c, by rw [sgn_neg]; rfl, by rw [sgn_abs]; exact ha.below hw⟩, hw⟩
set_option maxHeartbeats 400000 in
/-- copied: the same number. -/
theorem ncopied_any (w : World) (a : Value) (m K : Nat) (hK : K ≤ 1000000000) (ha : NatIs w a m K) :
    Calls Tryz.prog 179 #[a] w fun e w' => ∃ v, e = .returned v ∧ NatIs w' v m (K + 1) ∧ Below w.heap.size w w' := by
  obtain ⟨ao, l, c, rfl⟩ := ha.form
  have hy : ((w.alloc (Obj.cells #[.slice ao l c] 69)).alloc (Obj.cells #[.slice none 0 0] 69)).heap[w.heap.size + 1]? = some (Obj.cells #[.slice none 0 0] 69) := boxed2_second _ _ _
  have hB := boxed2 (Below.refl w.heap.size w) (Obj.cells #[.slice ao l c] 69) (Obj.cells #[.slice none 0 0] 69)
  go_enter Tryz.func179, Tryz.ntmps179
  go_wp2_with fail
  generalize (w.alloc (Obj.cells #[.slice ao l c] 69)).alloc (Obj.cells #[.slice none 0 0] 69) = W at *
  refine (add_any W _ _ m 0 K 0 hK (by omega) (ha.below hB) (nat_zero W)).mono ?_
  rintro e w1 ⟨v, rfl, nv, hb1⟩
  obtain ⟨ar, lr, cr, rfl⟩ := nv.form
  have hy1 := box_below hb1 hy (lt_of_block hy)
  have t1 := cell_of_one hy1
  have f1 := free_of_one hy1
  have k1 := cell_of_one (one_setCell (u := .slice ar lr cr) hy1)
  have HK := hid k1
  have n2 := (nv.box hy1 (by decide) (.slice ar lr cr)).mono (show max K 0 + 1 ≤ K + 1 by omega)
  have kB := (chain2 hB hb1).setCell (p := ⟨w.heap.size + 1, 0, none⟩) (Nat.le_succ _) (.slice ar lr cr)
  clear k1 hy hy1
  go_wp2
  exact bodyPost_ret (v := .agg #[.slice ar lr cr]) (by simp [results, Tryz.results179, go_sem, HK.out]) rfl ⟨_, rfl, n2, kB⟩
set_option maxHeartbeats 400000 in
/-- Sign. -/
theorem nsign_any (w : World) (a : Value) (z : Int) (K : Nat) (hK : K ≤ 1000000000) (ha : NumIs w a z K) :
    Calls Tryz.prog 128 #[a] w fun e w' => e = .returned (.int .i64 (signZ z)) ∧ Below w.heap.size w w' := by
  obtain ⟨ao, l, c, rfl, na0⟩ := ha
  obtain ⟨n, hn⟩ : ∃ n, Bin z.natAbs n := ⟨_, bin_ex _⟩
  have hp := bin_pos hn
  have hx := box_new w (Obj.cells #[.slice ao l c, .bool (decide (z < 0))] 71)
  have hB : Below w.heap.size w (w.alloc (Obj.cells #[.slice ao l c, .bool (decide (z < 0))] 71)) := (Below.refl _ _).alloc (Nat.le_refl _) _
  go_enter Tryz.func128, Tryz.ntmps128
  go_wp2_with fail
  generalize w.alloc (Obj.cells #[.slice ao l c, .bool (decide (z < 0))] 71) = W at *
  refine (bits_any W _ _ K n hK (na0.below hB) hn).mono ?_
  rintro e w1 ⟨rfl, hb1⟩
  have hx1 := box_below hb1 hx (lt_of_block hx)
  have t1 := two_cell1 hx1
  have kB := chain2 hB hb1
  clear hx hx1 hn
  rcases (show (n = 0 ∧ z = 0) ∨ (n ≠ 0 ∧ z < 0) ∨ (n ≠ 0 ∧ 0 < z) by omega) with ⟨h1, h2⟩ | ⟨h1, h2⟩ | ⟨h1, h2⟩
  · have HS := hid (show signZ z = 0 by simp [signZ, h2])
    subst h1
    clear h2 hp
    go_wp2
    go_ret
    exact ⟨by rw [HS.out]; rfl, kB⟩
  · have HS := hid (show signZ z = -1 by simp [signZ, h2])
    have h3 : ((n : Int) == 0) = false := by simp; omega
    rw [show decide (z < 0) = true by simp [h2]] at *
    clear h2 hp
    go_wp2
    go_ret
    exact ⟨by rw [HS.out]; rfl, kB⟩
  · have HS := hid (show signZ z = 1 by simp [signZ]; omega)
    have h3 : ((n : Int) == 0) = false := by simp; omega
    rw [show decide (z < 0) = false by simp; omega] at *
    clear h2 hp
    go_wp2
    go_ret
    exact ⟨by rw [HS.out]; rfl, kB⟩
end Go.Proofs.YtcdkoadobdgbhaaGreatDoor
/- Whole numbers: Parse. -/
namespace Go.Proofs.YtcdkoadobdgbhaaGreatDoor
open Go.RowKit
set_option linter.unusedVariables false
set_option maxRecDepth 100000
set_option linter.unusedSimpArgs false
attribute [local go_sem ↓] Go.wp_at_zero Go.wp_at_succ

theorem tl_cons (s : ByteArray) (h : 0 < s.size) : ∃ l, s.data.toList = s[0] :: l ∧ (s.extract 1 s.size).data.toList = l := by
  obtain ⟨⟨l⟩⟩ := s
  match l, h with
  | x :: l, _ => exact ⟨l, rfl, by rw [ByteArray.data_extract, Array.toList_extract]; show List.take _ (List.drop 1 (x :: l)) = l; rw [List.drop_one, List.tail_cons]; exact List.take_of_length_le (by show l.length ≤ (x :: l).length - 1; simp)⟩
theorem cut_no (s : ByteArray) (w : World) (h : bt s 0 ≠ 45) :
    Calls Tryz.prog 146 #[.string s, .string ⟨#[45]⟩] w fun e w' => e = .returned (.tuple #[.string s, .bool false]) ∧ w' = w := by
  have hp : Lib.hasPrefix s.data.toList (⟨#[45]⟩ : ByteArray).data.toList = false := by
    rcases Nat.eq_zero_or_pos s.size with e | e
    · have : s.data.toList = [] := List.eq_nil_of_length_eq_zero (by rw [Array.length_toList]; exact e)
      rw [this]; rfl
    · obtain ⟨l, h1, _⟩ := tl_cons s e
      rw [h1]
      have : s[0] ≠ 45 := by
        intro e1
        rw [← bt_at s 0 e, e1] at h
        exact h rfl
      simp [Lib.hasPrefix, List.isPrefixOf]
      exact fun e1 => this e1.symm
  refine (Tryz.strings_CutPrefix s ⟨#[45]⟩ w).mono ?_
  rintro e w' ⟨rfl, rfl⟩
  rw [Lib.trimPrefix, hp]
  exact ⟨rfl, rfl⟩
theorem cut_yes (s : ByteArray) (w : World) (hs : 0 < s.size) (h : bt s 0 = 45) :
    Calls Tryz.prog 146 #[.string s, .string ⟨#[45]⟩] w fun e w' => e = .returned (.tuple #[.string (s.extract 1 s.size), .bool true]) ∧ w' = w := by
  obtain ⟨l, h1, h2⟩ := tl_cons s hs
  have h3 : s[0] = 45 := by
    rw [← bt_at s 0 hs] at h
    exact UInt8.toNat_inj.1 h
  have hp : Lib.hasPrefix s.data.toList (⟨#[45]⟩ : ByteArray).data.toList = true := by
    rw [h1, h3]; simp [Lib.hasPrefix, List.isPrefixOf]
  refine (Tryz.strings_CutPrefix s ⟨#[45]⟩ w).mono ?_
  rintro e w' ⟨rfl, rfl⟩
  rw [Lib.trimPrefix, hp]
  refine ⟨?_, rfl⟩
  congr 3
  have e1 : (if true = true then List.drop (⟨#[45]⟩ : ByteArray).data.toList.length s.data.toList else s.data.toList) = l := by
    rw [if_pos rfl, h1]; rfl
  rw [e1, ← h2]
set_option maxHeartbeats 800000 in
theorem nparse_no (s t : ByteArray) (b : Bool) (w : World) (hc : ∀ w, Calls Tryz.prog 146 #[.string s, .string ⟨#[45]⟩] w fun e w' => e = .returned (.tuple #[.string t, .bool b]) ∧ w' = w) (hs : t.size ≤ 1000000000) (ht : ¬ Txt t) :
    Calls Tryz.prog 117 #[.string s] w fun e w' => e = .returned (.tuple #[.agg #[.slice none 0 0, .bool false], .int .i64 10]) ∧ Below w.heap.size w w' := by
  have hx := box_new w (Obj.cells #[.slice none 0 0, .bool false] 71)
  have hB : Below w.heap.size w (w.alloc (Obj.cells #[.slice none 0 0, .bool false] 71)) := (Below.refl _ _).alloc (Nat.le_refl _) _
  go_enter Tryz.func117, Tryz.ntmps117
  go_wp2_with fail
  refine (hc _).mono ?_
  rintro e w' ⟨rfl, rfl⟩
  generalize w.alloc (Obj.cells #[.slice none 0 0, .bool false] 71) = W at *
  go_wp2_with fail
  refine (parse_no t W hs ht).mono ?_
  rintro e w1 ⟨rfl, hb1⟩
  have hx3 := below_alloc' hb1 (Nat.le_refl _) (Obj.cells #[.slice none 0 0] 69)
  have hx1 := box_below hx3 hx (lt_of_block hx)
  have c1 := chain2 hB hx3
  have u2 := two_cell0 hx1
  have u3 := two_cell1 hx1
  have v2 := two_free (k := 0) hx1
  have v3 := two_free (k := 1) hx1
  obtain ⟨k0, k1, kB⟩ := end_two c1 (Nat.le_refl _) hx1 (.slice none 0 0) (.bool false)
  have HK := hid (And.intro k0 k1)
  clear k0 k1 hx hx1
  go_wp2
  generalize w1.alloc (Obj.cells #[.slice none 0 0] 69) = W1 at *
  exact bodyPost_ret (v := .tuple #[.agg #[.slice none 0 0, .bool false], .int .i64 10]) (by simp [results, Tryz.results117, go_sem, HK.out.1, HK.out.2]) rfl ⟨rfl, kB⟩
set_option maxHeartbeats 1000000 in
theorem nparse_nought (s t : ByteArray) (w : World) (hc : ∀ w, Calls Tryz.prog 146 #[.string s, .string ⟨#[45]⟩] w fun e w' => e = .returned (.tuple #[.string t, .bool true]) ∧ w' = w) (hs : t.size ≤ 1000000000) (ht : Txt t) (h0 : num t = 0) :
    Calls Tryz.prog 117 #[.string s] w fun e w' => e = .returned (.tuple #[.agg #[.slice none 0 0, .bool false], .int .i64 10]) ∧ Below w.heap.size w w' := by
  have hx := box_new w (Obj.cells #[.slice none 0 0, .bool false] 71)
  have hB : Below w.heap.size w (w.alloc (Obj.cells #[.slice none 0 0, .bool false] 71)) := (Below.refl _ _).alloc (Nat.le_refl _) _
  have hbin : Bin (num t) 0 := by rw [h0]; exact ⟨by simp, fun h => absurd rfl h, fun _ => rfl⟩
  clear h0
  go_enter Tryz.func117, Tryz.ntmps117
  go_wp2_with fail
  refine (hc _).mono ?_
  rintro e w' ⟨rfl, rfl⟩
  generalize w.alloc (Obj.cells #[.slice none 0 0, .bool false] 71) = W at *
  go_wp2_with fail
  refine (parse_yes t W hs ht _ rfl).mono ?_
  rintro e w1 ⟨⟨v, rfl, nv⟩, hb1⟩
  obtain ⟨ar, lr, cr, rfl⟩ := nv.form
  have hx3 := below_alloc' hb1 (Nat.le_refl _) (Obj.cells #[.slice ar lr cr] 69)
  have hx1 := box_below hx3 hx (lt_of_block hx)
  have c1 := chain2 hB hx3
  have n1 := nv.below ((Below.refl _ _).alloc (Nat.le_refl _) (Obj.cells #[.slice ar lr cr] 69))
  have hn := box_new w1 (Obj.cells #[.slice ar lr cr] 69)
  clear hx hx3 hb1 nv
  go_wp2_with fail
  generalize w1.alloc (Obj.cells #[.slice ar lr cr] 69) = W1 at *
  have hsz : t.size / 9 + 1 ≤ 1000000000 := by omega
  have HX := hid hx1
  clear hx1
  first
    | (have t1 := cell_of_one hn
       have B0 : Below W1.heap.size W1 W1.drew := (Below.refl _ _).drew
       go_region_held3 (fun w' => w'.cell? ⟨w1.heap.size, 0, none⟩ = some (.slice ar lr cr)) ((first | exact t1 | exact K1)) (first
         | (go_at_call 148; refine (bits_any _ _ _ _ _ hsz (n1.below B0) hbin).mono ?_; rintro e w2 ⟨rfl, hb2⟩; have B1 := chain2 B0 hb2; have K1 := kc B1 t1)))
    | (refine (bits_any _ _ _ _ _ hsz n1 hbin).mono ?_
       rintro e w2 ⟨rfl, B1⟩)
  have hx2 := box_below B1 HX.out (lt_of_block HX.out)
  have c2 := chain2 c1 B1
  have u2 := two_cell0 hx2
  have u3 := two_cell1 hx2
  have v2 := two_free (k := 0) hx2
  have v3 := two_free (k := 1) hx2
  obtain ⟨k0, k1, kB⟩ := end_two c2 (Nat.le_refl _) hx2 (.slice none 0 0) (.bool false)
  have HK := hid (And.intro k0 k1)
  clear k0 k1 hx2
  go_wp2
  exact bodyPost_ret (v := .tuple #[.agg #[.slice none 0 0, .bool false], .int .i64 10]) (by simp [results, Tryz.results117, go_sem, HK.out.1, HK.out.2]) rfl ⟨rfl, kB⟩
set_option maxHeartbeats 1000000 in
theorem nparse_below (s t : ByteArray) (w : World) (hc : ∀ w, Calls Tryz.prog 146 #[.string s, .string ⟨#[45]⟩] w fun e w' => e = .returned (.tuple #[.string t, .bool true]) ∧ w' = w) (hs : t.size ≤ 1000000000) (ht : Txt t) (h0 : num t ≠ 0) :
    Calls Tryz.prog 117 #[.string s] w fun e w' => ∃ ao l c, e = .returned (.tuple #[.agg #[.slice ao l c, .bool true], .int .i64 0]) ∧ NatIs w' (.agg #[.slice ao l c]) (num t) (t.size / 9 + 1) ∧ Below w.heap.size w w' := by
  have hx := box_new w (Obj.cells #[.slice none 0 0, .bool false] 71)
  have hB : Below w.heap.size w (w.alloc (Obj.cells #[.slice none 0 0, .bool false] 71)) := (Below.refl _ _).alloc (Nat.le_refl _) _
  obtain ⟨n, hbin⟩ : ∃ n, Bin (num t) n := ⟨_, bin_ex _⟩
  have hp := (bin_pos hbin).2 (by omega)
  clear h0
  go_enter Tryz.func117, Tryz.ntmps117
  go_wp2_with fail
  refine (hc _).mono ?_
  rintro e w' ⟨rfl, rfl⟩
  generalize w.alloc (Obj.cells #[.slice none 0 0, .bool false] 71) = W at *
  go_wp2_with fail
  refine (parse_yes t W hs ht _ rfl).mono ?_
  rintro e w1 ⟨⟨v, rfl, nv⟩, hb1⟩
  obtain ⟨ar, lr, cr, rfl⟩ := nv.form
  have hx3 := below_alloc' hb1 (Nat.le_refl _) (Obj.cells #[.slice ar lr cr] 69)
  have hx1 := box_below hx3 hx (lt_of_block hx)
  have c1 := chain2 hB hx3
  have n1 := nv.below ((Below.refl _ _).alloc (Nat.le_refl _) (Obj.cells #[.slice ar lr cr] 69))
  have hn := box_new w1 (Obj.cells #[.slice ar lr cr] 69)
  clear hx hx3 hb1 nv
  go_wp2_with fail
  generalize w1.alloc (Obj.cells #[.slice ar lr cr] 69) = W1 at *
  have hsz : t.size / 9 + 1 ≤ 1000000000 := by omega
  have HX := hid hx1
  have hn0 : ((n : Int) == 0) = false := by simp; omega
  clear hx1
  first
    | (have t1 := cell_of_one hn
       have B0 : Below W1.heap.size W1 W1.drew := (Below.refl _ _).drew
       go_region_held3 (fun w' => w'.cell? ⟨w1.heap.size, 0, none⟩ = some (.slice ar lr cr)) ((first | exact t1 | exact K1)) (first
         | (go_at_call 148; refine (bits_any _ _ _ _ _ hsz (n1.below B0) hbin).mono ?_; rintro e w2 ⟨rfl, hb2⟩; have B1 := chain2 B0 hb2; have K1 := kc B1 t1)))
    | (refine (bits_any _ _ _ _ _ hsz n1 hbin).mono ?_
       rintro e w2 ⟨rfl, B1⟩)
  have hx2 := box_below B1 HX.out (lt_of_block HX.out)
  have hn2 := cell_of_one (box_below B1 hn (lt_of_block hn))
  have n2 := n1.below B1
  have c2 := chain2 c1 B1
  have u2 := two_cell0 hx2
  have u3 := two_cell1 hx2
  have v2 := two_free (k := 0) hx2
  have v3 := two_free (k := 1) hx2
  obtain ⟨k0, k1, kB⟩ := end_two c2 (Nat.le_refl _) hx2 (.slice ar lr cr) (.bool true)
  have n3 := n2.box2 hx2 (by decide) (.slice ar lr cr) (.bool true)
  have HK := hid (And.intro k0 k1)
  clear k0 k1 hx2 hn
  go_wp2
  exact bodyPost_ret (v := .tuple #[.agg #[.slice ar lr cr, .bool true], .int .i64 0]) (by simp [results, Tryz.results117, go_sem, HK.out.1, HK.out.2]) rfl ⟨ar, lr, cr, rfl, n3, kB⟩
set_option maxHeartbeats 1000000 in
theorem nparse_above (s t : ByteArray) (w : World) (hc : ∀ w, Calls Tryz.prog 146 #[.string s, .string ⟨#[45]⟩] w fun e w' => e = .returned (.tuple #[.string t, .bool false]) ∧ w' = w) (hs : t.size ≤ 1000000000) (ht : Txt t) :
    Calls Tryz.prog 117 #[.string s] w fun e w' => ∃ ao l c, e = .returned (.tuple #[.agg #[.slice ao l c, .bool false], .int .i64 0]) ∧ NatIs w' (.agg #[.slice ao l c]) (num t) (t.size / 9 + 1) ∧ Below w.heap.size w w' := by
  have hx := box_new w (Obj.cells #[.slice none 0 0, .bool false] 71)
  have hB : Below w.heap.size w (w.alloc (Obj.cells #[.slice none 0 0, .bool false] 71)) := (Below.refl _ _).alloc (Nat.le_refl _) _
  go_enter Tryz.func117, Tryz.ntmps117
  go_wp2_with fail
  refine (hc _).mono ?_
  rintro e w' ⟨rfl, rfl⟩
  generalize w.alloc (Obj.cells #[.slice none 0 0, .bool false] 71) = W at *
  go_wp2_with fail
  refine (parse_yes t W hs ht _ rfl).mono ?_
  rintro e w1 ⟨⟨v, rfl, nv⟩, hb1⟩
  obtain ⟨ar, lr, cr, rfl⟩ := nv.form
  have hx3 := below_alloc' hb1 (Nat.le_refl _) (Obj.cells #[.slice ar lr cr] 69)
  have hx1 := box_below hx3 hx (lt_of_block hx)
  have c1 := chain2 hB hx3
  have n1 := nv.below ((Below.refl _ _).alloc (Nat.le_refl _) (Obj.cells #[.slice ar lr cr] 69))
  have hn := box_new w1 (Obj.cells #[.slice ar lr cr] 69)
  have t1 := cell_of_one hn
  have u2 := two_cell0 hx1
  have u3 := two_cell1 hx1
  have v2 := two_free (k := 0) hx1
  have v3 := two_free (k := 1) hx1
  obtain ⟨k0, k1, kB⟩ := end_two c1 (Nat.le_refl _) hx1 (.slice ar lr cr) (.bool false)
  have n3 := n1.box2 hx1 (by decide) (.slice ar lr cr) (.bool false)
  have HK := hid (And.intro k0 k1)
  clear hx hx3 hb1 nv hx1 hn k0 k1
  go_wp2_with fail
  generalize w1.alloc (Obj.cells #[.slice ar lr cr] 69) = W1 at *
  exact bodyPost_ret (v := .tuple #[.agg #[.slice ar lr cr, .bool false], .int .i64 0]) (by simp [results, Tryz.results117, go_sem, HK.out.1, HK.out.2]) rfl ⟨ar, lr, cr, rfl, n3, kB⟩
end Go.Proofs.YtcdkoadobdgbhaaGreatDoor
/- The laws of whole numbers' own helper 'number'. -/
namespace Go.Proofs.YtcdkoadobdgbhaaGreatDoor
open Go.RowKit
set_option linter.unusedVariables false
set_option maxRecDepth 100000
set_option linter.unusedSimpArgs false

theorem nparse_z (s : ByteArray) (z : Int) (w : World) (hs : s.size ≤ 1000000000) (h : ZTx s z) :
    Calls Tryz.prog 117 #[.string s] w fun e w' => ∃ ao l c, e = .returned (.tuple #[.agg #[.slice ao l c, .bool (decide (z < 0))], .int .i64 0]) ∧ NatIs w' (.agg #[.slice ao l c]) z.natAbs (s.size / 9 + 1) ∧ Below w.heap.size w w' := by
  rcases ztx_cases s with ⟨h1, ⟨y, h2, h3, h4, h5⟩ | ⟨_, h6⟩⟩ | ⟨h1, h2, h3, ⟨h4, h5, h6⟩ | ⟨_, _, h6⟩ | ⟨_, h6⟩⟩
  · have e := h.uniq h3
    subst e
    rw [show decide (z < 0) = false by simp; omega, show z.natAbs = num s by omega]
    exact nparse_above s s w (fun w => cut_no s w h1) hs h4
  · exact absurd h (h6 z)
  · have e := h.uniq h6
    rw [show decide (z < 0) = true by simp; omega, show z.natAbs = num (s.extract 1 s.size) by omega]
    refine (nparse_below s _ w (fun w => cut_yes s w h2 h1) (by simp; omega) h4 h5).mono ?_
    rintro e w' ⟨ao, l, c, rfl, n, hb⟩
    exact ⟨ao, l, c, rfl, n.mono (by simp; omega), hb⟩
  · exact absurd h (h6 z)
  · exact absurd h (h6 z)
theorem nparse_none (s : ByteArray) (w : World) (hs : s.size ≤ 1000000000) (h : ∀ z, ¬ ZTx s z) :
    Calls Tryz.prog 117 #[.string s] w fun e w' => e = .returned (.tuple #[.agg #[.slice none 0 0, .bool false], .int .i64 10]) ∧ Below w.heap.size w w' := by
  rcases ztx_cases s with ⟨h1, ⟨y, h2, h3, h4, h5⟩ | ⟨h5, h6⟩⟩ | ⟨h1, h2, h3, ⟨h4, h5, h6⟩ | ⟨h4, h5, h6⟩ | ⟨h4, h6⟩⟩
  · exact absurd h3 (h _)
  · exact nparse_no s s false w (fun w => cut_no s w h1) hs h5
  · exact absurd h6 (h _)
  · exact nparse_nought s _ w (fun w => cut_yes s w h2 h1) (by simp; omega) h4 h5
  · exact nparse_no s _ true w (fun w => cut_yes s w h2 h1) (by simp; omega) h4
theorem sparse_z (s : ByteArray) (z : Int) (w : World) (hs : s.size ≤ 1000000000) (h : ZTx s z) :
    Calls Tryz.prog 136 #[.string s] w fun e w' => ∃ ao l c, e = .returned (.tuple #[.agg #[.bool (decide (z < 0)), .slice ao l c], .int .i64 0]) ∧ RefIs w' (.agg #[.slice ao l c]) z.natAbs (s.size / 9 + 1) ∧ Below w.heap.size w w' := by
  have h0 := h.sign.1
  rcases ztx_cases s with ⟨h1, ⟨y, h2, h3, h4, h5⟩ | ⟨_, h6⟩⟩ | ⟨h1, h2, h3, ⟨h4, h5, h6⟩ | ⟨_, _, h6⟩ | ⟨_, h6⟩⟩
  · have e := h.uniq h3
    subst e
    refine (sparse_plain s w hs h0 h1 h4).mono ?_
    rintro e w' ⟨v, rfl, ⟨ao, l, c, rfl, n⟩, hb⟩
    rw [show sgn false (num s) = z by simp [sgn]; omega] at n ⊢
    exact ⟨ao, l, c, rfl, n, hb⟩
  · exact absurd h (h6 z)
  · have e := h.uniq h6
    refine (sparse_minus s _ w hs h0 h1 rfl h4 h5).mono ?_
    rintro e w' ⟨v, rfl, ⟨ao, l, c, rfl, n⟩, hb⟩
    rw [show sgn true (num (s.extract 1 s.size)) = z by simp [sgn]; omega] at n ⊢
    exact ⟨ao, l, c, rfl, n.mono (by simp; omega), hb⟩
  · exact absurd h (h6 z)
  · exact absurd h (h6 z)
theorem sparse_none (s : ByteArray) (w : World) (hs : s.size ≤ 1000000000) (h : ∀ z, ¬ ZTx s z) :
    Calls Tryz.prog 136 #[.string s] w fun e w' => e = .returned (.tuple #[.agg #[.bool false, .slice none 0 0], .int .i64 10]) ∧ Below w.heap.size w w' := by
  by_cases hz : s.size = 0
  · exact sparse_empty s w hz
  rcases ztx_cases s with ⟨h1, ⟨y, h2, h3, h4, h5⟩ | ⟨h5, h6⟩⟩ | ⟨h1, h2, h3, ⟨h4, h5, h6⟩ | ⟨h4, h5, h6⟩ | ⟨h4, h6⟩⟩
  · exact absurd h3 (h _)
  · exact sparse_plain_no s w hs (by omega) h1 h5
  · exact absurd h6 (h _)
  · exact sparse_minus_nought s w hs h2 h1 h4 h5
  · exact sparse_minus_no s w hs h2 h1 h4
end Go.Proofs.YtcdkoadobdgbhaaGreatDoor
/- Whole numbers: Abs. -/
namespace Go.Proofs.YtcdkoadobdgbhaaGreatDoor
open Go.RowKit
set_option linter.unusedVariables false
set_option maxRecDepth 100000
set_option linter.unusedSimpArgs false
attribute [local go_sem ↓] Go.wp_at_zero Go.wp_at_succ

set_option maxHeartbeats 800000 in
/-- Abs: the number without its sign. -/
theorem nabs_any (w : World) (a : Value) (z : Int) (K : Nat) (hK : K < 1000000000) (ha : NumIs w a z K) :
    Calls Tryz.prog 176 #[a] w fun e w' => ∃ v, e = .returned v ∧ NatIs w' v z.natAbs (K + 1) ∧ Below w.heap.size w w' := by
  obtain ⟨ao, l, c, rfl, na0⟩ := ha
  generalize decide (z < 0) = b at *
  have hy : ((w.alloc (Obj.cells #[.slice ao l c, .bool b] 71)).alloc (Obj.cells #[.slice none 0 0] 69)).heap[w.heap.size + 1]? = some (Obj.cells #[.slice none 0 0] 69) := boxed2_second _ _ _
  have hB := boxed2 (Below.refl w.heap.size w) (Obj.cells #[.slice ao l c, .bool b] 71) (Obj.cells #[.slice none 0 0] 69)
  go_enter Tryz.func176, Tryz.ntmps176
  go_wp2_with fail
  generalize (w.alloc (Obj.cells #[.slice ao l c, .bool b] 71)).alloc (Obj.cells #[.slice none 0 0] 69) = W at *
  refine (ncopied_any W _ _ K (by omega) (na0.below hB)).mono ?_
  rintro e w1 ⟨v, rfl, nv, hb1⟩
  obtain ⟨ar, lr, cr, rfl⟩ := nv.form
  have hy1 := box_below hb1 hy (lt_of_block hy)
  have t1 := cell_of_one hy1
  have f1 := free_of_one hy1
  have k1 := cell_of_one (one_setCell (u := .slice ar lr cr) hy1)
  have HK := hid k1
  have n2 := nv.box hy1 (by decide) (.slice ar lr cr)
  have kB := (chain2 hB hb1).setCell (p := ⟨w.heap.size + 1, 0, none⟩) (Nat.le_succ _) (.slice ar lr cr)
  clear k1 hy hy1
  go_wp2
  exact bodyPost_ret (v := .agg #[.slice ar lr cr]) (by simp [results, Tryz.results176, go_sem, HK.out]) rfl ⟨_, rfl, n2, kB⟩
end Go.Proofs.YtcdkoadobdgbhaaGreatDoor
/- Whole numbers: Add. -/
namespace Go.Proofs.YtcdkoadobdgbhaaGreatDoor
open Go.RowKit
set_option linter.unusedVariables false
set_option maxRecDepth 100000
set_option linter.unusedSimpArgs false
attribute [local go_sem ↓] Go.wp_at_zero Go.wp_at_succ

theorem sgn_add_same {x y : Int} (h : decide (x < 0) = decide (y < 0)) : sgn (decide (x < 0)) (x.natAbs + y.natAbs) = x + y := by
  unfold sgn; by_cases hx : x < 0 <;> by_cases hy : y < 0 <;> simp [hx, hy] at h ⊢ <;> omega
theorem sgn_add_more {x y : Int} (h : decide (x < 0) ≠ decide (y < 0)) (hl : y.natAbs ≤ x.natAbs) : sgn (decide (x < 0)) (x.natAbs - y.natAbs) = x + y := by
  unfold sgn; by_cases hx : x < 0 <;> by_cases hy : y < 0 <;> simp [hx, hy] at h ⊢ <;> omega
theorem sgn_add_less {x y : Int} (h : decide (x < 0) ≠ decide (y < 0)) (hl : x.natAbs ≤ y.natAbs) : sgn (decide (y < 0)) (y.natAbs - x.natAbs) = x + y := by
  unfold sgn; by_cases hx : x < 0 <;> by_cases hy : y < 0 <;> simp [hx, hy] at h ⊢ <;> omega
theorem keepN {W X : World} {p q : Nat} {a b c d : Value} (h1 : W.cell? ⟨p, 0, none⟩ = some a) (h2 : W.cell? ⟨p, 1, none⟩ = some b) (h3 : W.cell? ⟨q, 0, none⟩ = some c) (h4 : W.cell? ⟨q, 1, none⟩ = some d) (h : Below W.heap.size W X) :
    X.cell? ⟨p, 0, none⟩ = some a ∧ X.cell? ⟨p, 1, none⟩ = some b ∧ X.cell? ⟨q, 0, none⟩ = some c ∧ X.cell? ⟨q, 1, none⟩ = some d := ⟨kc h h1, kc h h2, kc h h3, kc h h4⟩
theorem keepN2 {X : World} {p q r : Nat} {a b c d : Value} (h : X.cell? ⟨p, 0, none⟩ = some a ∧ X.cell? ⟨p, 1, none⟩ = some b ∧ X.cell? ⟨q, 0, none⟩ = some c ∧ X.cell? ⟨q, 1, none⟩ = some d) (h1 : p ≠ r) (h2 : q ≠ r) (u v : Value) :
    ((X.setCell ⟨r, 0, none⟩ u).setCell ⟨r, 1, none⟩ v).cell? ⟨p, 0, none⟩ = some a ∧ ((X.setCell ⟨r, 0, none⟩ u).setCell ⟨r, 1, none⟩ v).cell? ⟨p, 1, none⟩ = some b ∧ ((X.setCell ⟨r, 0, none⟩ u).setCell ⟨r, 1, none⟩ v).cell? ⟨q, 0, none⟩ = some c ∧ ((X.setCell ⟨r, 0, none⟩ u).setCell ⟨r, 1, none⟩ v).cell? ⟨q, 1, none⟩ = some d :=
  ⟨two_keep0 h.1 h1 _ _, two_keep0 h.2.1 h1 _ _, two_keep0 h.2.2.1 h2 _ _, two_keep0 h.2.2.2 h2 _ _⟩
set_option maxHeartbeats 1000000 in
theorem nadd_same (w : World) (aa ab : Option Addr) (la ca lb cb m n K K' : Nat) (b : Bool) (hK : K < 1000000000) (hK' : K' < 1000000000) (na0 : NatIs w (.agg #[.slice aa la ca]) m K) (nb0 : NatIs w (.agg #[.slice ab lb cb]) n K') :
    Calls Tryz.prog 126 #[.agg #[.slice aa la ca, .bool b], .agg #[.slice ab lb cb, .bool b]] w fun e w' => ∃ v, e = .returned v ∧ NumIs w' v (sgn b (m + n)) (max K K' + 1) ∧ Below w.heap.size w w' := by
  have hx := boxed3_first w (Obj.cells #[.slice aa la ca, .bool b] 71) (Obj.cells #[.slice ab lb cb, .bool b] 71) (Obj.cells #[.slice none 0 0, .bool false] 71)
  have hz := boxed3_second w (Obj.cells #[.slice aa la ca, .bool b] 71) (Obj.cells #[.slice ab lb cb, .bool b] 71) (Obj.cells #[.slice none 0 0, .bool false] 71)
  have hy := boxed3_third w (Obj.cells #[.slice aa la ca, .bool b] 71) (Obj.cells #[.slice ab lb cb, .bool b] 71) (Obj.cells #[.slice none 0 0, .bool false] 71)
  have hB := boxed3 (Below.refl w.heap.size w) (Obj.cells #[.slice aa la ca, .bool b] 71) (Obj.cells #[.slice ab lb cb, .bool b] 71) (Obj.cells #[.slice none 0 0, .bool false] 71)
  go_enter Tryz.func126, Tryz.ntmps126
  go_wp2_with fail
  generalize ((w.alloc (Obj.cells #[.slice aa la ca, .bool b] 71)).alloc (Obj.cells #[.slice ab lb cb, .bool b] 71)).alloc (Obj.cells #[.slice none 0 0, .bool false] 71) = W at *
  have t1 := two_cell0 hx
  have t2 := two_cell1 hx
  have t3 := two_cell0 hz
  have t4 := two_cell1 hz
  have B0 : Below W.heap.size W W.drew := (Below.refl _ _).drew
  have na := na0.below hB
  have nb := nb0.below hB
  have HY := hid hy
  clear hx hy hz
  go_region_held3 (fun w' => w'.cell? ⟨w.heap.size, 0, none⟩ = some (.slice aa la ca) ∧ w'.cell? ⟨w.heap.size, 1, none⟩ = some (.bool b) ∧ w'.cell? ⟨w.heap.size + 1, 0, none⟩ = some (.slice ab lb cb) ∧ w'.cell? ⟨w.heap.size + 1, 1, none⟩ = some (.bool b)) ((first | exact ⟨t1, t2, t3, t4⟩ | exact K1 | exact K2 | exact keepN2 K2 (by omega) (by omega) _ _)) (first
    | (have gk := B1; go_at_call 154; refine (signed_any _ _ _ _ _ (by omega) n1).mono ?_; rintro e w2 ⟨v2, rfl, n2, hb2⟩; have B2 := chain2 B1 hb2; have K2 := keepN t1 t2 t3 t4 B2; obtain ⟨ar, lr, cr, rfl, n3⟩ := n2; have hy1 := box_below B2 HY.out (lt_of_block HY.out); have u2 := two_cell0 hy1; have u3 := two_cell1 hy1; have v2 := two_free (k := 0) hy1; have v3 := two_free (k := 1) hy1)
    | (have gk := B0; go_at_call 155; refine (add_any _ _ _ _ _ _ _ (by omega) (by omega) (na.below B0) (nb.below B0)).mono ?_; rintro e w1 ⟨v1, rfl, n1, hb1⟩; have B1 := chain2 B0 hb1; have K1 := keepN t1 t2 t3 t4 B1))
  obtain ⟨k0, k1, kB⟩ := end_two (chain2 hB B2) (show w.heap.size ≤ w.heap.size + 1 + 1 by omega) hy1 (.slice ar lr cr) (.bool (decide (sgn b (m + n) < 0)))
  have n4 := n3.box2 hy1 (by decide) (.slice ar lr cr) (.bool (decide (sgn b (m + n) < 0)))
  have HK := hid (And.intro k0 k1)
  clear k0 k1
  go_wp2
  exact bodyPost_ret (v := .agg #[.slice ar lr cr, .bool (decide (sgn b (m + n) < 0))]) (by simp [results, Tryz.results126, go_sem, HK.out.1, HK.out.2]) rfl ⟨_, rfl, ⟨ar, lr, cr, rfl, n4⟩, kB⟩
set_option maxHeartbeats 1000000 in
theorem nadd_other (w : World) (aa ab : Option Addr) (la ca lb cb m n K K' : Nat) (b b' : Bool) (r : Int) (hr1 : n ≤ m → sgn b (m - n) = r) (hr2 : ¬ n ≤ m → sgn b' (n - m) = r) (hbb : b ≠ b') (hK : K < 1000000000) (hK' : K' < 1000000000) (na0 : NatIs w (.agg #[.slice aa la ca]) m K) (nb0 : NatIs w (.agg #[.slice ab lb cb]) n K') :
    Calls Tryz.prog 126 #[.agg #[.slice aa la ca, .bool b], .agg #[.slice ab lb cb, .bool b']] w fun e w' => ∃ v, e = .returned v ∧ NumIs w' v r (max K K' + 1) ∧ Below w.heap.size w w' := by
  have hx := boxed3_first w (Obj.cells #[.slice aa la ca, .bool b] 71) (Obj.cells #[.slice ab lb cb, .bool b'] 71) (Obj.cells #[.slice none 0 0, .bool false] 71)
  have hz := boxed3_second w (Obj.cells #[.slice aa la ca, .bool b] 71) (Obj.cells #[.slice ab lb cb, .bool b'] 71) (Obj.cells #[.slice none 0 0, .bool false] 71)
  have hy := boxed3_third w (Obj.cells #[.slice aa la ca, .bool b] 71) (Obj.cells #[.slice ab lb cb, .bool b'] 71) (Obj.cells #[.slice none 0 0, .bool false] 71)
  have hB := boxed3 (Below.refl w.heap.size w) (Obj.cells #[.slice aa la ca, .bool b] 71) (Obj.cells #[.slice ab lb cb, .bool b'] 71) (Obj.cells #[.slice none 0 0, .bool false] 71)
  go_enter Tryz.func126, Tryz.ntmps126
  have hbe : (b == b') = false := by simpa using hbb
  have HR := hid (And.intro hr1 hr2)
  clear hr1 hr2
  go_wp2_with fail
  generalize ((w.alloc (Obj.cells #[.slice aa la ca, .bool b] 71)).alloc (Obj.cells #[.slice ab lb cb, .bool b'] 71)).alloc (Obj.cells #[.slice none 0 0, .bool false] 71) = W at *
  have na := na0.below hB
  have nb := nb0.below hB
  refine (sub_both W _ _ _ _ _ _ _ _ _ _ (by omega) (by omega) na nb).mono ?_
  rintro e w1 ⟨ar, lr, cr, rfl, n1, hb1⟩
  have hx3 := below_alloc' hb1 (Nat.le_refl _) (Obj.cells #[.slice ar lr cr] 69)
  have c1 := chain2 hB hx3
  have hx1 := box_below hx3 hx (lt_of_block hx)
  have hz1 := box_below hx3 hz (lt_of_block hz)
  have hy1 := box_below hx3 hy (lt_of_block hy)
  have hn1 := box_new w1 (Obj.cells #[.slice ar lr cr] 69)
  have na1 := na.below hx3
  have nb1 := nb.below hx3
  have n1 := n1.below ((Below.refl _ _).alloc (Nat.le_refl _) (Obj.cells #[.slice ar lr cr] 69))
  by_cases hmn : n ≤ m
  · have HS := hid (HR.out.1 hmn)
    rw [show subE m n = 0 by simp [subE]; omega]
    have t2 := two_cell1 hx1
    clear hx hz hy hx1 hz1 hmn hx3 hb1 na1 nb1
    go_wp2_with fail
    generalize w1.alloc (Obj.cells #[.slice ar lr cr] 69) = W1 at *
    refine (signed_any _ _ _ _ _ (by omega) n1).mono ?_
    rintro e w2 ⟨v2, rfl, n2, hb2⟩
    obtain ⟨aq, lq, cq, rfl, n3⟩ := n2
    have hy2 := box_below hb2 hy1 (lt_of_block hy1)
    have u2 := two_cell0 hy2
    have u3 := two_cell1 hy2
    have v2 := two_free (k := 0) hy2
    have v3 := two_free (k := 1) hy2
    obtain ⟨k0, k1, kB⟩ := end_two (chain2 c1 hb2) (show w.heap.size ≤ w.heap.size + 1 + 1 by omega) hy2 (.slice aq lq cq) (.bool (decide (sgn b (m - n) < 0)))
    have n4 := n3.box2 hy2 (by decide) (.slice aq lq cq) (.bool (decide (sgn b (m - n) < 0)))
    have HK := hid (And.intro k0 k1)
    clear k0 k1
    go_wp2
    refine bodyPost_ret (v := .agg #[.slice aq lq cq, .bool (decide (sgn b (m - n) < 0))]) (by simp [results, Tryz.results126, go_sem, HK.out.1, HK.out.2]) rfl ⟨_, rfl, ?_, kB⟩
    rw [← HS.out]
    exact ⟨aq, lq, cq, rfl, n4.mono (by omega)⟩
  · have HS := hid (HR.out.2 hmn)
    rw [show subE m n = 11 by simp [subE]; omega]
    have t1 := two_cell0 hx1
    have t3 := two_cell0 hz1
    clear hx hz hy hx3 hb1 hx1
    go_wp2_with fail
    clear t1 t3
    generalize w1.alloc (Obj.cells #[.slice ar lr cr] 69) = W1 at *
    refine (sub_both W1 _ _ _ _ _ _ _ _ _ _ (by omega) (by omega) nb1 na1).mono ?_
    rintro e w2 ⟨aS, ls, cs, rfl, n2, hb2⟩
    have hx4 := below_alloc' hb2 (Nat.le_refl _) (Obj.cells #[.slice aS ls cs] 69)
    have c2 := chain2 c1 hx4
    have hz2 := box_below hx4 hz1 (lt_of_block hz1)
    have hy2 := box_below hx4 hy1 (lt_of_block hy1)
    have n2 := n2.below ((Below.refl _ _).alloc (Nat.le_refl _) (Obj.cells #[.slice aS ls cs] 69))
    have t4 := two_cell1 hz2
    clear hz1 hy1 hz2 hx4 hb2 na1 nb1 hn1 n1
    go_wp2_with fail
    generalize w2.alloc (Obj.cells #[.slice aS ls cs] 69) = W2 at *
    refine (signed_any _ _ _ _ _ (by omega) n2).mono ?_
    rintro e w3 ⟨v3, rfl, n3, hb3⟩
    obtain ⟨aq, lq, cq, rfl, n5⟩ := n3
    have hy3 := box_below hb3 hy2 (lt_of_block hy2)
    have u2 := two_cell0 hy3
    have u3 := two_cell1 hy3
    have v2 := two_free (k := 0) hy3
    have v3 := two_free (k := 1) hy3
    obtain ⟨k0, k1, kB⟩ := end_two (chain2 c2 hb3) (show w.heap.size ≤ w.heap.size + 1 + 1 by omega) hy3 (.slice aq lq cq) (.bool (decide (sgn b' (n - m) < 0)))
    have n4 := n5.box2 hy3 (by decide) (.slice aq lq cq) (.bool (decide (sgn b' (n - m) < 0)))
    have HK := hid (And.intro k0 k1)
    clear k0 k1
    go_wp2
    refine bodyPost_ret (v := .agg #[.slice aq lq cq, .bool (decide (sgn b' (n - m) < 0))]) (by simp [results, Tryz.results126, go_sem, HK.out.1, HK.out.2]) rfl ⟨_, rfl, ?_, kB⟩
    rw [← HS.out]
    exact ⟨aq, lq, cq, rfl, n4.mono (by omega)⟩
/-- Add: the sum. -/
theorem nadd_any (w : World) (a b : Value) (x y : Int) (K K' : Nat) (hK : K < 1000000000) (hK' : K' < 1000000000) (ha : NumIs w a x K) (hb : NumIs w b y K') :
    Calls Tryz.prog 126 #[a, b] w fun e w' => ∃ v, e = .returned v ∧ NumIs w' v (x + y) (max K K' + 1) ∧ Below w.heap.size w w' := by
  obtain ⟨aa, la, ca, rfl, na⟩ := ha
  obtain ⟨ab, lb, cb, rfl, nb⟩ := hb
  by_cases h : decide (x < 0) = decide (y < 0)
  · have e := sgn_add_same h
    rw [← h, ← e]
    exact nadd_same w aa ab la ca lb cb _ _ K K' _ hK hK' na nb
  · exact nadd_other w aa ab la ca lb cb _ _ K K' _ _ _ (fun hl => sgn_add_more h hl) (fun hl => sgn_add_less h (by omega)) h hK hK' na nb
end Go.Proofs.YtcdkoadobdgbhaaGreatDoor
/- Whole numbers: Sub, Mul, Abs. -/
namespace Go.Proofs.YtcdkoadobdgbhaaGreatDoor
open Go.RowKit
set_option linter.unusedVariables false
set_option maxRecDepth 100000
set_option linter.unusedSimpArgs false
attribute [local go_sem ↓] Go.wp_at_zero Go.wp_at_succ

theorem sgn_mul (x y : Int) : sgn (decide (x < 0) != decide (y < 0)) (x.natAbs * y.natAbs) = x * y := by
  rw [← Int.natAbs_mul]
  by_cases hx : x < 0 <;> by_cases hy : y < 0
  · have : 0 < x * y := Int.mul_pos_of_neg_of_neg hx hy
    simp [sgn, hx, hy]; omega
  · have : x * y ≤ 0 := Int.mul_nonpos_of_nonpos_of_nonneg (by omega) (by omega)
    simp [sgn, hx, hy]; omega
  · have : x * y ≤ 0 := Int.mul_nonpos_of_nonneg_of_nonpos (by omega) (by omega)
    simp [sgn, hx, hy]; omega
  · have : 0 ≤ x * y := Int.mul_nonneg (by omega) (by omega)
    simp [sgn, hx, hy]; omega
set_option maxHeartbeats 2000000 in
theorem nmul_walk (w : World) (aa ab : Option Addr) (la ca lb cb m n K K' : Nat) (b b' : Bool) (hK : K < 400000000) (hK' : K' < 400000000) (na0 : NatIs w (.agg #[.slice aa la ca]) m K) (nb0 : NatIs w (.agg #[.slice ab lb cb]) n K') :
    Calls Tryz.prog 153 #[.agg #[.slice aa la ca, .bool b], .agg #[.slice ab lb cb, .bool b']] w fun e w' => ∃ v, e = .returned v ∧ NumIs w' v (sgn (b != b') (m * n)) (K + K') ∧ Below w.heap.size w w' := by
  have hx := boxed3_first w (Obj.cells #[.slice aa la ca, .bool b] 71) (Obj.cells #[.slice ab lb cb, .bool b'] 71) (Obj.cells #[.slice none 0 0, .bool false] 71)
  have hz := boxed3_second w (Obj.cells #[.slice aa la ca, .bool b] 71) (Obj.cells #[.slice ab lb cb, .bool b'] 71) (Obj.cells #[.slice none 0 0, .bool false] 71)
  have hy := boxed3_third w (Obj.cells #[.slice aa la ca, .bool b] 71) (Obj.cells #[.slice ab lb cb, .bool b'] 71) (Obj.cells #[.slice none 0 0, .bool false] 71)
  have hB := boxed3 (Below.refl w.heap.size w) (Obj.cells #[.slice aa la ca, .bool b] 71) (Obj.cells #[.slice ab lb cb, .bool b'] 71) (Obj.cells #[.slice none 0 0, .bool false] 71)
  go_enter Tryz.func153, Tryz.ntmps153
  go_wp2_with fail
  generalize ((w.alloc (Obj.cells #[.slice aa la ca, .bool b] 71)).alloc (Obj.cells #[.slice ab lb cb, .bool b'] 71)).alloc (Obj.cells #[.slice none 0 0, .bool false] 71) = W at *
  have t1 := two_cell0 hx
  have t2 := two_cell1 hx
  have t3 := two_cell0 hz
  have t4 := two_cell1 hz
  have B0 : Below W.heap.size W W.drew := (Below.refl _ _).drew
  have na := na0.below hB
  have nb := nb0.below hB
  have HY := hid hy
  clear hx hy hz
  go_region_held3 (fun w' => w'.cell? ⟨w.heap.size, 0, none⟩ = some (.slice aa la ca) ∧ w'.cell? ⟨w.heap.size, 1, none⟩ = some (.bool b) ∧ w'.cell? ⟨w.heap.size + 1, 0, none⟩ = some (.slice ab lb cb) ∧ w'.cell? ⟨w.heap.size + 1, 1, none⟩ = some (.bool b')) ((first | exact ⟨t1, t2, t3, t4⟩ | exact K1 | exact K2 | exact keepN2 K2 (by omega) (by omega) _ _)) (first
    | (have gk := B1; go_at_call 154; refine (signed_any _ (b != b') _ _ _ (by omega) n1).mono ?_; rintro e w2 ⟨v2, rfl, n2, hb2⟩; have B2 := chain2 B1 hb2; have K2 := keepN t1 t2 t3 t4 B2; obtain ⟨ar, lr, cr, rfl, n3⟩ := n2; have hy1 := box_below B2 HY.out (lt_of_block HY.out); have u2 := two_cell0 hy1; have u3 := two_cell1 hy1; have v2 := two_free (k := 0) hy1; have v3 := two_free (k := 1) hy1)
    | (have gk := B0; go_at_call 180; refine (mul_any _ _ _ _ _ _ _ (by omega) (by omega) (na.below B0) (nb.below B0)).mono ?_; rintro e w1 ⟨v1, rfl, n1, hb1⟩; have B1 := chain2 B0 hb1; have K1 := keepN t1 t2 t3 t4 B1))
  obtain ⟨k0, k1, kB⟩ := end_two (chain2 hB B2) (show w.heap.size ≤ w.heap.size + 1 + 1 by omega) hy1 (.slice ar lr cr) (.bool (decide (sgn (b != b') (m * n) < 0)))
  have n4 := n3.box2 hy1 (by decide) (.slice ar lr cr) (.bool (decide (sgn (b != b') (m * n) < 0)))
  have HK := hid (And.intro k0 k1)
  clear k0 k1
  go_wp2
  exact bodyPost_ret (v := .agg #[.slice ar lr cr, .bool (decide (sgn (b != b') (m * n) < 0))]) (by simp [results, Tryz.results153, go_sem, HK.out.1, HK.out.2]) rfl ⟨_, rfl, ⟨ar, lr, cr, rfl, n4⟩, kB⟩
/-- Mul: the product. -/
theorem nmul_any (w : World) (a b : Value) (x y : Int) (K K' : Nat) (hK : K < 400000000) (hK' : K' < 400000000) (ha : NumIs w a x K) (hb : NumIs w b y K') :
    Calls Tryz.prog 153 #[a, b] w fun e w' => ∃ v, e = .returned v ∧ NumIs w' v (x * y) (K + K') ∧ Below w.heap.size w w' := by
  obtain ⟨aa, la, ca, rfl, na⟩ := ha
  obtain ⟨ab, lb, cb, rfl, nb⟩ := hb
  rw [← sgn_mul]
  exact nmul_walk w aa ab la ca lb cb _ _ K K' _ _ hK hK' na nb
set_option maxHeartbeats 2000000 in
/-- Sub: the difference. -/
theorem nsub_any (w : World) (a b : Value) (x y : Int) (K K' : Nat) (hK : K < 1000000000) (hK' : K' < 1000000000) (ha : NumIs w a x K) (hb : NumIs w b y K') :
    Calls Tryz.prog 131 #[a, b] w fun e w' => ∃ v, e = .returned v ∧ NumIs w' v (x - y) (max K K' + 1) ∧ Below w.heap.size w w' := by
  obtain ⟨aa, la, ca, rfl, na0⟩ := ha
  obtain ⟨ab, lb, cb, rfl, nb0⟩ := hb
  have Na0 : NumIs w (.agg #[.slice aa la ca, .bool (decide (x < 0))]) x K := ⟨aa, la, ca, rfl, na0⟩
  have HZ := hid (sgn_not y)
  rw [Int.sub_eq_add_neg]
  generalize decide (x < 0) = b at *
  generalize decide (y < 0) = b' at *
  have hx := boxed3_first w (Obj.cells #[.slice aa la ca, .bool b] 71) (Obj.cells #[.slice ab lb cb, .bool b'] 71) (Obj.cells #[.slice none 0 0, .bool false] 71)
  have hz := boxed3_second w (Obj.cells #[.slice aa la ca, .bool b] 71) (Obj.cells #[.slice ab lb cb, .bool b'] 71) (Obj.cells #[.slice none 0 0, .bool false] 71)
  have hy := boxed3_third w (Obj.cells #[.slice aa la ca, .bool b] 71) (Obj.cells #[.slice ab lb cb, .bool b'] 71) (Obj.cells #[.slice none 0 0, .bool false] 71)
  have hB := boxed3 (Below.refl w.heap.size w) (Obj.cells #[.slice aa la ca, .bool b] 71) (Obj.cells #[.slice ab lb cb, .bool b'] 71) (Obj.cells #[.slice none 0 0, .bool false] 71)
  go_enter Tryz.func131, Tryz.ntmps131
  go_wp2_with fail
  generalize ((w.alloc (Obj.cells #[.slice aa la ca, .bool b] 71)).alloc (Obj.cells #[.slice ab lb cb, .bool b'] 71)).alloc (Obj.cells #[.slice none 0 0, .bool false] 71) = W at *
  have t1 := two_cell0 hx
  have t2 := two_cell1 hx
  have t3 := two_cell0 hz
  have t4 := two_cell1 hz
  have B0 : Below W.heap.size W W.drew := (Below.refl _ _).drew
  have Na := Na0.below hB
  have nb := nb0.below hB
  have HY := hid hy
  clear hx hy hz
  go_region_held3 (fun w' => w'.cell? ⟨w.heap.size, 0, none⟩ = some (.slice aa la ca) ∧ w'.cell? ⟨w.heap.size, 1, none⟩ = some (.bool b) ∧ w'.cell? ⟨w.heap.size + 1, 0, none⟩ = some (.slice ab lb cb) ∧ w'.cell? ⟨w.heap.size + 1, 1, none⟩ = some (.bool b')) ((first | exact ⟨t1, t2, t3, t4⟩ | exact K1 | exact K2 | exact keepN2 K2 (by omega) (by omega) _ _)) (first
    | (have gk := B1; go_at_call 126; refine (nadd_any _ _ _ _ _ _ _ (by omega) (by omega) (Na.below B1) n1).mono ?_; rintro e w2 ⟨v2, rfl, n2, hb2⟩; have B2 := chain2 B1 hb2; have K2 := keepN t1 t2 t3 t4 B2; obtain ⟨ar, lr, cr, rfl, n3⟩ := n2; have hy1 := box_below B2 HY.out (lt_of_block HY.out); have u2 := two_cell0 hy1; have u3 := two_cell1 hy1; have v2 := two_free (k := 0) hy1; have v3 := two_free (k := 1) hy1)
    | (have gk := B0; go_at_call 154; refine (signed_any _ (!b') _ _ _ (by omega) (nb.below B0)).mono ?_; rintro e w1 ⟨v1, rfl, n1, hb1⟩; have B1 := chain2 B0 hb1; have K1 := keepN t1 t2 t3 t4 B1; rw [HZ.out] at n1))
  obtain ⟨k0, k1, kB⟩ := end_two (chain2 hB B2) (show w.heap.size ≤ w.heap.size + 1 + 1 by omega) hy1 (.slice ar lr cr) (.bool (decide (x + -y < 0)))
  have n4 := n3.box2 hy1 (by decide) (.slice ar lr cr) (.bool (decide (x + -y < 0)))
  have HK := hid (And.intro k0 k1)
  clear k0 k1
  go_wp2
  exact bodyPost_ret (v := .agg #[.slice ar lr cr, .bool (decide (x + -y < 0))]) (by simp [results, Tryz.results131, go_sem, HK.out.1, HK.out.2]) rfl ⟨_, rfl, ⟨ar, lr, cr, rfl, n4⟩, kB⟩
end Go.Proofs.YtcdkoadobdgbhaaGreatDoor
/- The document's whole numbers: Add, Mul. -/
namespace Go.Proofs.YtcdkoadobdgbhaaGreatDoor
open Go.RowKit
set_option linter.unusedVariables false
set_option maxRecDepth 100000
set_option linter.unusedSimpArgs false
attribute [local go_sem ↓] Go.wp_at_zero Go.wp_at_succ

set_option maxHeartbeats 1000000 in
theorem sadd_same (w : World) (aa ab : Option Addr) (la ca lb cb m n K K' : Nat) (b : Bool) (hK : K < 1000000000) (hK' : K' < 1000000000) (na0 : RefIs w (.agg #[.slice aa la ca]) m K) (nb0 : RefIs w (.agg #[.slice ab lb cb]) n K') :
    Calls Tryz.prog 135 #[.agg #[.bool b, .slice aa la ca], .agg #[.bool b, .slice ab lb cb]] w fun e w' => ∃ v, e = .returned v ∧ RNumIs w' v (sgn b (m + n)) (max K K' + 1) ∧ Below w.heap.size w w' := by
  have hx := boxed3_first w (Obj.cells #[.bool b, .slice aa la ca] 33) (Obj.cells #[.bool b, .slice ab lb cb] 33) (Obj.cells #[.bool false, .slice none 0 0] 33)
  have hz := boxed3_second w (Obj.cells #[.bool b, .slice aa la ca] 33) (Obj.cells #[.bool b, .slice ab lb cb] 33) (Obj.cells #[.bool false, .slice none 0 0] 33)
  have hy := boxed3_third w (Obj.cells #[.bool b, .slice aa la ca] 33) (Obj.cells #[.bool b, .slice ab lb cb] 33) (Obj.cells #[.bool false, .slice none 0 0] 33)
  have hB := boxed3 (Below.refl w.heap.size w) (Obj.cells #[.bool b, .slice aa la ca] 33) (Obj.cells #[.bool b, .slice ab lb cb] 33) (Obj.cells #[.bool false, .slice none 0 0] 33)
  go_enter Tryz.func135, Tryz.ntmps135
  go_wp2_with fail
  generalize ((w.alloc (Obj.cells #[.bool b, .slice aa la ca] 33)).alloc (Obj.cells #[.bool b, .slice ab lb cb] 33)).alloc (Obj.cells #[.bool false, .slice none 0 0] 33) = W at *
  have t1 := two_cell0 hx
  have t2 := two_cell1 hx
  have t3 := two_cell0 hz
  have t4 := two_cell1 hz
  have B0 : Below W.heap.size W W.drew := (Below.refl _ _).drew
  have na := na0.below hB
  have nb := nb0.below hB
  have HY := hid hy
  clear hx hy hz
  go_region_held3 (fun w' => w'.cell? ⟨w.heap.size, 0, none⟩ = some (.bool b) ∧ w'.cell? ⟨w.heap.size, 1, none⟩ = some (.slice aa la ca) ∧ w'.cell? ⟨w.heap.size + 1, 0, none⟩ = some (.bool b) ∧ w'.cell? ⟨w.heap.size + 1, 1, none⟩ = some (.slice ab lb cb)) ((first | exact ⟨t1, t2, t3, t4⟩ | exact K1 | exact K2 | exact keepN2 K2 (by omega) (by omega) _ _)) (first
    | (have gk := B1; go_at_call 66; refine (smake_any _ _ _ _ _ n1).mono ?_; rintro e w2 ⟨v2, rfl, n2, hb2⟩; have B2 := chain2 B1 hb2; have K2 := keepN t1 t2 t3 t4 B2; obtain ⟨ar, lr, cr, rfl, n3⟩ := n2; have hy1 := box_below B2 HY.out (lt_of_block HY.out); have u2 := two_cell0 hy1; have u3 := two_cell1 hy1; have v2 := two_free (k := 0) hy1; have v3 := two_free (k := 1) hy1)
    | (have gk := B0; go_at_call 160; refine (radd_any _ _ _ _ _ _ _ (by omega) (by omega) (na.below B0) (nb.below B0)).mono ?_; rintro e w1 ⟨v1, rfl, n1, hb1⟩; have B1 := chain2 B0 hb1; have K1 := keepN t1 t2 t3 t4 B1))
  obtain ⟨k0, k1, kB⟩ := end_two (chain2 hB B2) (show w.heap.size ≤ w.heap.size + 1 + 1 by omega) hy1 (.bool (decide (sgn b (m + n) < 0))) (.slice ar lr cr)
  have n4 := n3.box2 hy1 (by decide) (.bool (decide (sgn b (m + n) < 0))) (.slice ar lr cr)
  have HK := hid (And.intro k0 k1)
  clear k0 k1
  go_wp2
  exact bodyPost_ret (v := .agg #[.bool (decide (sgn b (m + n) < 0)), .slice ar lr cr]) (by simp [results, Tryz.results135, go_sem, HK.out.1, HK.out.2]) rfl ⟨_, rfl, ⟨ar, lr, cr, rfl, n4⟩, kB⟩
set_option maxHeartbeats 2000000 in
theorem sadd_other (w : World) (aa ab : Option Addr) (la ca lb cb m n K K' : Nat) (b b' : Bool) (r : Int) (hr1 : n ≤ m → sgn b (m - n) = r) (hr2 : ¬ n ≤ m → sgn b' (n - m) = r) (hbb : b ≠ b') (hK : K < 1000000000) (hK' : K' < 1000000000) (na0 : RefIs w (.agg #[.slice aa la ca]) m K) (nb0 : RefIs w (.agg #[.slice ab lb cb]) n K') :
    Calls Tryz.prog 135 #[.agg #[.bool b, .slice aa la ca], .agg #[.bool b', .slice ab lb cb]] w fun e w' => ∃ v, e = .returned v ∧ RNumIs w' v r (max K K' + 1) ∧ Below w.heap.size w w' := by
  have hx := boxed3_first w (Obj.cells #[.bool b, .slice aa la ca] 33) (Obj.cells #[.bool b', .slice ab lb cb] 33) (Obj.cells #[.bool false, .slice none 0 0] 33)
  have hz := boxed3_second w (Obj.cells #[.bool b, .slice aa la ca] 33) (Obj.cells #[.bool b', .slice ab lb cb] 33) (Obj.cells #[.bool false, .slice none 0 0] 33)
  have hy := boxed3_third w (Obj.cells #[.bool b, .slice aa la ca] 33) (Obj.cells #[.bool b', .slice ab lb cb] 33) (Obj.cells #[.bool false, .slice none 0 0] 33)
  have hB := boxed3 (Below.refl w.heap.size w) (Obj.cells #[.bool b, .slice aa la ca] 33) (Obj.cells #[.bool b', .slice ab lb cb] 33) (Obj.cells #[.bool false, .slice none 0 0] 33)
  have hbe : (b == b') = false := by simpa using hbb
  have HR := hid (And.intro hr1 hr2)
  clear hr1 hr2
  go_enter Tryz.func135, Tryz.ntmps135
  go_wp2_with fail
  generalize ((w.alloc (Obj.cells #[.bool b, .slice aa la ca] 33)).alloc (Obj.cells #[.bool b', .slice ab lb cb] 33)).alloc (Obj.cells #[.bool false, .slice none 0 0] 33) = W at *
  have na := na0.below hB
  have nb := nb0.below hB
  refine (rcmp_any W _ _ _ _ _ _ (by omega) (by omega) na nb).mono ?_
  rintro e w0 ⟨rfl, hb0⟩
  have hx0 := box_below hb0 hx (lt_of_block hx)
  have hz0 := box_below hb0 hz (lt_of_block hz)
  have hy0 := box_below hb0 hy (lt_of_block hy)
  have na := na.below hb0
  have nb := nb.below hb0
  have c0 := chain2 hB hb0
  have t1 := two_cell1 hx0
  have t3 := two_cell1 hz0
  clear hx hz hy hB hb0
  by_cases hmn : n ≤ m
  · have HS := hid (HR.out.1 hmn)
    have hc : ¬ cmpI m n < 0 := by unfold cmpI; (repeat' split) <;> omega
    generalize cmpI m n = q at *
    clear hmn
    go_wp2_with fail
    refine (rsub_both _ _ _ _ _ _ _ _ _ _ _ (by omega) (by omega) na nb).mono ?_
    rintro e w1 ⟨ar, lr, cr, rfl, n1, hb1⟩
    have hx3 := below_alloc' hb1 (Nat.le_refl _) (Obj.cells #[.slice ar lr cr] 31)
    have c1 := chain2 c0 hx3
    have hx1 := box_below hx3 hx0 (lt_of_block hx0)
    have hy1 := box_below hx3 hy0 (lt_of_block hy0)
    have n1 := n1.below ((Below.refl _ _).alloc (Nat.le_refl _) (Obj.cells #[.slice ar lr cr] 31))
    have t2 := two_cell0 hx1
    clear hx3 hb1 hx0 hz0 hy0 hx1 t1 t3
    go_wp2_with fail
    generalize w1.alloc (Obj.cells #[.slice ar lr cr] 31) = W1 at *
    refine (smake_any _ _ _ _ _ n1).mono ?_
    rintro e w2 ⟨v2, rfl, n2, hb2⟩
    obtain ⟨aq, lq, cq, rfl, n3⟩ := n2
    have hy2 := box_below hb2 hy1 (lt_of_block hy1)
    have u2 := two_cell0 hy2
    have u3 := two_cell1 hy2
    have v2 := two_free (k := 0) hy2
    have v3 := two_free (k := 1) hy2
    obtain ⟨k0, k1, kB⟩ := end_two (chain2 c1 hb2) (show w.heap.size ≤ w.heap.size + 1 + 1 by omega) hy2 (.bool (decide (sgn b (m - n) < 0))) (.slice aq lq cq)
    have n4 := n3.box2 hy2 (by decide) (.bool (decide (sgn b (m - n) < 0))) (.slice aq lq cq)
    have HK := hid (And.intro k0 k1)
    clear k0 k1
    go_wp2
    refine bodyPost_ret (v := .agg #[.bool (decide (sgn b (m - n) < 0)), .slice aq lq cq]) (by simp [results, Tryz.results135, go_sem, HK.out.1, HK.out.2]) rfl ⟨_, rfl, ?_, kB⟩
    rw [← HS.out]
    exact ⟨aq, lq, cq, rfl, n4.mono (by omega)⟩
  · have HS := hid (HR.out.2 hmn)
    have hc : cmpI m n < 0 := by unfold cmpI; (repeat' split) <;> omega
    generalize cmpI m n = q at *
    clear hmn
    go_wp2_with fail
    refine (rsub_both _ _ _ _ _ _ _ _ _ _ _ (by omega) (by omega) nb na).mono ?_
    rintro e w1 ⟨ar, lr, cr, rfl, n1, hb1⟩
    have hx3 := below_alloc' hb1 (Nat.le_refl _) (Obj.cells #[.slice ar lr cr] 31)
    have c1 := chain2 c0 hx3
    have hz1 := box_below hx3 hz0 (lt_of_block hz0)
    have hy1 := box_below hx3 hy0 (lt_of_block hy0)
    have n1 := n1.below ((Below.refl _ _).alloc (Nat.le_refl _) (Obj.cells #[.slice ar lr cr] 31))
    have t2 := two_cell0 hz1
    clear hx3 hb1 hx0 hz0 hy0 hz1 t1 t3
    go_wp2_with fail
    generalize w1.alloc (Obj.cells #[.slice ar lr cr] 31) = W1 at *
    refine (smake_any _ _ _ _ _ n1).mono ?_
    rintro e w2 ⟨v2, rfl, n2, hb2⟩
    obtain ⟨aq, lq, cq, rfl, n3⟩ := n2
    have hy2 := box_below hb2 hy1 (lt_of_block hy1)
    have u2 := two_cell0 hy2
    have u3 := two_cell1 hy2
    have v2 := two_free (k := 0) hy2
    have v3 := two_free (k := 1) hy2
    obtain ⟨k0, k1, kB⟩ := end_two (chain2 c1 hb2) (show w.heap.size ≤ w.heap.size + 1 + 1 by omega) hy2 (.bool (decide (sgn b' (n - m) < 0))) (.slice aq lq cq)
    have n4 := n3.box2 hy2 (by decide) (.bool (decide (sgn b' (n - m) < 0))) (.slice aq lq cq)
    have HK := hid (And.intro k0 k1)
    clear k0 k1
    go_wp2
    refine bodyPost_ret (v := .agg #[.bool (decide (sgn b' (n - m) < 0)), .slice aq lq cq]) (by simp [results, Tryz.results135, go_sem, HK.out.1, HK.out.2]) rfl ⟨_, rfl, ?_, kB⟩
    rw [← HS.out]
    exact ⟨aq, lq, cq, rfl, n4.mono (by omega)⟩
/-- The document's Add. -/
theorem sadd_any (w : World) (a b : Value) (x y : Int) (K K' : Nat) (hK : K < 1000000000) (hK' : K' < 1000000000) (ha : RNumIs w a x K) (hb : RNumIs w b y K') :
    Calls Tryz.prog 135 #[a, b] w fun e w' => ∃ v, e = .returned v ∧ RNumIs w' v (x + y) (max K K' + 1) ∧ Below w.heap.size w w' := by
  obtain ⟨aa, la, ca, rfl, na⟩ := ha
  obtain ⟨ab, lb, cb, rfl, nb⟩ := hb
  by_cases h : decide (x < 0) = decide (y < 0)
  · have e := sgn_add_same h
    rw [← h, ← e]
    exact sadd_same w aa ab la ca lb cb _ _ K K' _ hK hK' na nb
  · exact sadd_other w aa ab la ca lb cb _ _ K K' _ _ _ (fun hl => sgn_add_more h hl) (fun hl => sgn_add_less h (by omega)) h hK hK' na nb
set_option maxHeartbeats 2000000 in
theorem smul_walk (w : World) (aa ab : Option Addr) (la ca lb cb m n K K' : Nat) (b b' : Bool) (hK : K < 400000000) (hK' : K' < 400000000) (na0 : RefIs w (.agg #[.slice aa la ca]) m K) (nb0 : RefIs w (.agg #[.slice ab lb cb]) n K') :
    Calls Tryz.prog 23 #[.agg #[.bool b, .slice aa la ca], .agg #[.bool b', .slice ab lb cb]] w fun e w' => ∃ v, e = .returned v ∧ RNumIs w' v (sgn (b != b') (m * n)) (K + K') ∧ Below w.heap.size w w' := by
  have hx := boxed3_first w (Obj.cells #[.bool b, .slice aa la ca] 33) (Obj.cells #[.bool b', .slice ab lb cb] 33) (Obj.cells #[.bool false, .slice none 0 0] 33)
  have hz := boxed3_second w (Obj.cells #[.bool b, .slice aa la ca] 33) (Obj.cells #[.bool b', .slice ab lb cb] 33) (Obj.cells #[.bool false, .slice none 0 0] 33)
  have hy := boxed3_third w (Obj.cells #[.bool b, .slice aa la ca] 33) (Obj.cells #[.bool b', .slice ab lb cb] 33) (Obj.cells #[.bool false, .slice none 0 0] 33)
  have hB := boxed3 (Below.refl w.heap.size w) (Obj.cells #[.bool b, .slice aa la ca] 33) (Obj.cells #[.bool b', .slice ab lb cb] 33) (Obj.cells #[.bool false, .slice none 0 0] 33)
  go_enter Tryz.func23, Tryz.ntmps23
  go_wp2_with fail
  generalize ((w.alloc (Obj.cells #[.bool b, .slice aa la ca] 33)).alloc (Obj.cells #[.bool b', .slice ab lb cb] 33)).alloc (Obj.cells #[.bool false, .slice none 0 0] 33) = W at *
  have t1 := two_cell0 hx
  have t2 := two_cell1 hx
  have t3 := two_cell0 hz
  have t4 := two_cell1 hz
  have B0 : Below W.heap.size W W.drew := (Below.refl _ _).drew
  have na := na0.below hB
  have nb := nb0.below hB
  have HY := hid hy
  clear hx hy hz
  go_region_held3 (fun w' => w'.cell? ⟨w.heap.size, 0, none⟩ = some (.bool b) ∧ w'.cell? ⟨w.heap.size, 1, none⟩ = some (.slice aa la ca) ∧ w'.cell? ⟨w.heap.size + 1, 0, none⟩ = some (.bool b') ∧ w'.cell? ⟨w.heap.size + 1, 1, none⟩ = some (.slice ab lb cb)) ((first | exact ⟨t1, t2, t3, t4⟩ | exact K1 | exact K2 | exact keepN2 K2 (by omega) (by omega) _ _)) (first
    | (have gk := B1; go_at_call 66; refine (smake_any _ (b != b') _ _ _ n1).mono ?_; rintro e w2 ⟨v2, rfl, n2, hb2⟩; have B2 := chain2 B1 hb2; have K2 := keepN t1 t2 t3 t4 B2; obtain ⟨ar, lr, cr, rfl, n3⟩ := n2; have hy1 := box_below B2 HY.out (lt_of_block HY.out); have u2 := two_cell0 hy1; have u3 := two_cell1 hy1; have v2 := two_free (k := 0) hy1; have v3 := two_free (k := 1) hy1)
    | (have gk := B0; go_at_call 69; refine (rmul_any _ _ _ _ _ _ _ (by omega) (by omega) (na.below B0) (nb.below B0)).mono ?_; rintro e w1 ⟨v1, rfl, n1, hb1⟩; have B1 := chain2 B0 hb1; have K1 := keepN t1 t2 t3 t4 B1))
  obtain ⟨k0, k1, kB⟩ := end_two (chain2 hB B2) (show w.heap.size ≤ w.heap.size + 1 + 1 by omega) hy1 (.bool (decide (sgn (b != b') (m * n) < 0))) (.slice ar lr cr)
  have n4 := n3.box2 hy1 (by decide) (.bool (decide (sgn (b != b') (m * n) < 0))) (.slice ar lr cr)
  have HK := hid (And.intro k0 k1)
  clear k0 k1
  go_wp2
  exact bodyPost_ret (v := .agg #[.bool (decide (sgn (b != b') (m * n) < 0)), .slice ar lr cr]) (by simp [results, Tryz.results23, go_sem, HK.out.1, HK.out.2]) rfl ⟨_, rfl, ⟨ar, lr, cr, rfl, n4⟩, kB⟩
/-- Mul: the product. -/
theorem smul_any (w : World) (a b : Value) (x y : Int) (K K' : Nat) (hK : K < 400000000) (hK' : K' < 400000000) (ha : RNumIs w a x K) (hb : RNumIs w b y K') :
    Calls Tryz.prog 23 #[a, b] w fun e w' => ∃ v, e = .returned v ∧ RNumIs w' v (x * y) (K + K') ∧ Below w.heap.size w w' := by
  obtain ⟨aa, la, ca, rfl, na⟩ := ha
  obtain ⟨ab, lb, cb, rfl, nb⟩ := hb
  rw [← sgn_mul]
  exact smul_walk w aa ab la ca lb cb _ _ K K' _ _ hK hK' na nb
set_option maxHeartbeats 800000 in
/-- The document's Sign. -/
theorem ssign_any (w : World) (a : Value) (z : Int) (K : Nat) (hK : K ≤ 1000000000) (ha : RNumIs w a z K) :
    Calls Tryz.prog 70 #[a] w fun e w' => e = .returned (.int .i64 (signZ z)) ∧ Below w.heap.size w w' := by
  obtain ⟨ao, l, c, rfl, na⟩ := ha
  have hl := (ref_len na).1
  have hB : ∀ o : Obj, Below w.heap.size w (w.alloc o) := fun o => (Below.refl _ _).alloc (Nat.le_refl _) _
  rcases (show (z < 0) ∨ (¬ z < 0 ∧ l = 0 ∧ z = 0) ∨ (¬ z < 0 ∧ 0 < l ∧ 0 < z) by omega) with h | ⟨h, h1, h2⟩ | ⟨h, h1, h2⟩
  · rw [show decide (z < 0) = true by simp [h]]
    have HS := hid (show signZ z = -1 by simp [signZ, h])
    go_enter Tryz.func70, Tryz.ntmps70
    go_wp2
    go_ret
    exact ⟨by rw [HS.out]; rfl, hB _⟩
  · rw [show decide (z < 0) = false by simp; omega]
    have HS := hid (show signZ z = 0 by simp [signZ, h2])
    subst h1
    clear hl h2 h na
    go_enter Tryz.func70, Tryz.ntmps70
    go_wp2
    go_ret
    exact ⟨by rw [HS.out]; rfl, hB _⟩
  · rw [show decide (z < 0) = false by simp; omega]
    have HS := hid (show signZ z = 1 by unfold signZ; (repeat' split) <;> omega)
    clear hl h2 h na
    go_enter Tryz.func70, Tryz.ntmps70
    go_wp2
    go_ret
    exact ⟨by rw [HS.out]; rfl, hB _⟩
set_option maxHeartbeats 800000 in
/-- The document's Neg. -/
theorem sneg_any (w : World) (a : Value) (z : Int) (K : Nat) (hK : K < 1000000000) (ha : RNumIs w a z K) :
    Calls Tryz.prog 112 #[a] w fun e w' => ∃ v, e = .returned v ∧ RNumIs w' v (-z) K ∧ Below w.heap.size w w' := by
  obtain ⟨ao, l, c, rfl, na0⟩ := ha
  have HZ := hid (sgn_not z)
  generalize decide (z < 0) = b at *
  have hy := boxed2_second w (Obj.cells #[.bool b, .slice ao l c] 33) (Obj.cells #[.bool false, .slice none 0 0] 33)
  have hB := boxed2 (Below.refl w.heap.size w) (Obj.cells #[.bool b, .slice ao l c] 33) (Obj.cells #[.bool false, .slice none 0 0] 33)
  go_enter Tryz.func112, Tryz.ntmps112
  go_wp2_with fail
  generalize (w.alloc (Obj.cells #[.bool b, .slice ao l c] 33)).alloc (Obj.cells #[.bool false, .slice none 0 0] 33) = W at *
  refine (smake_any W (!b) _ _ _ (na0.below hB)).mono ?_
  rintro e w1 ⟨v, rfl, n1, hb1⟩
  obtain ⟨ar, lr, cr, rfl, n2⟩ := n1
  have hy1 := box_below hb1 hy (lt_of_block hy)
  have u2 := two_cell0 hy1
  have u3 := two_cell1 hy1
  have v2 := two_free (k := 0) hy1
  have v3 := two_free (k := 1) hy1
  obtain ⟨k0, k1, kB⟩ := end_two (chain2 hB hb1) (Nat.le_succ _) hy1 (.bool (decide (sgn (!b) z.natAbs < 0))) (.slice ar lr cr)
  have n4 := n2.box2 hy1 (by decide) (.bool (decide (sgn (!b) z.natAbs < 0))) (.slice ar lr cr)
  have HK := hid (And.intro k0 k1)
  clear k0 k1 hy
  go_wp2
  refine bodyPost_ret (v := .agg #[.bool (decide (sgn (!b) z.natAbs < 0)), .slice ar lr cr]) (by simp [results, Tryz.results112, go_sem, HK.out.1, HK.out.2]) rfl ⟨_, rfl, ?_, kB⟩
  rw [HZ.out] at n4 ⊢
  exact ⟨ar, lr, cr, rfl, n4⟩
end Go.Proofs.YtcdkoadobdgbhaaGreatDoor
/- Whole numbers: Make. -/
namespace Go.Proofs.YtcdkoadobdgbhaaGreatDoor
open Go.RowKit
set_option linter.unusedVariables false
set_option maxRecDepth 100000
set_option linter.unusedSimpArgs false
attribute [local go_sem ↓] Go.wp_at_zero Go.wp_at_succ
set_option maxHeartbeats 800000 in
theorem nmake_any (w : World) (b : Bool) (a : Value) (m K : Nat) (hK : K < 1000000000) (ha : NatIs w a m K) :
    Calls Tryz.prog 175 #[.bool b, a] w fun e w' => ∃ v, e = .returned v ∧ NumIs w' v (sgn b m) (K + 1) ∧ Below w.heap.size w w' := by
  obtain ⟨ao, l, c, rfl⟩ := ha.form
  have hx := boxed2_first w (Obj.cells #[.slice ao l c] 69) (Obj.cells #[.slice none 0 0, .bool false] 71)
  have hy := boxed2_second w (Obj.cells #[.slice ao l c] 69) (Obj.cells #[.slice none 0 0, .bool false] 71)
  have hB := boxed2 (Below.refl w.heap.size w) (Obj.cells #[.slice ao l c] 69) (Obj.cells #[.slice none 0 0, .bool false] 71)
  go_enter Tryz.func175, Tryz.ntmps175
  go_wp2_with fail
  generalize (w.alloc (Obj.cells #[.slice ao l c] 69)).alloc (Obj.cells #[.slice none 0 0, .bool false] 71) = W at *
  have na := ha.below hB
  have HY := hid hy
  have t1 := cell_of_one hx
  clear hx hy
  refine (ncopied_any _ _ _ _ (by omega) na).mono ?_
  rintro e w1 ⟨v1, rfl, n1, hb1⟩
  have t2 := kc hb1 t1
  go_wp2_with fail
  refine (signed_any _ _ _ _ _ (by omega) n1).mono ?_
  rintro e w2 ⟨v2, rfl, n2, hb2⟩
  have B2 := chain2 hb1 hb2
  obtain ⟨ar, lr, cr, rfl, n3⟩ := n2
  have hy1 := box_below B2 HY.out (lt_of_block HY.out)
  have u2 := two_cell0 hy1
  have u3 := two_cell1 hy1
  have v2 := two_free (k := 0) hy1
  have v3 := two_free (k := 1) hy1
  obtain ⟨k0, k1, kB⟩ := end_two (chain2 hB B2) (Nat.le_succ _) hy1 (.slice ar lr cr) (.bool (decide (sgn b m < 0)))
  have n4 := n3.box2 hy1 (by decide) (.slice ar lr cr) (.bool (decide (sgn b m < 0)))
  have HK := hid (And.intro k0 k1)
  clear k0 k1
  go_wp2
  exact bodyPost_ret (v := .agg #[.slice ar lr cr, .bool (decide (sgn b m < 0))]) (by simp [results, Tryz.results175, go_sem, HK.out.1, HK.out.2]) rfl ⟨_, rfl, ⟨ar, lr, cr, rfl, n4⟩, kB⟩
end Go.Proofs.YtcdkoadobdgbhaaGreatDoor
/- Whole numbers: Cmp. -/
namespace Go.Proofs.YtcdkoadobdgbhaaGreatDoor
open Go.RowKit
set_option linter.unusedVariables false
set_option maxRecDepth 100000
set_option linter.unusedSimpArgs false
attribute [local go_sem ↓] Go.wp_at_zero Go.wp_at_succ

set_option maxHeartbeats 1000000 in
theorem ncmp_other (w : World) (aa ab : Option Addr) (la ca lb cb K K' : Nat) (x y : Int) (hbb : decide (x < 0) ≠ decide (y < 0)) (hK : K < 1000000000) (hK' : K' < 1000000000) (na0 : NumIs w (.agg #[.slice aa la ca, .bool (decide (x < 0))]) x K) (nb0 : NumIs w (.agg #[.slice ab lb cb, .bool (decide (y < 0))]) y K') :
    Calls Tryz.prog 134 #[.agg #[.slice aa la ca, .bool (decide (x < 0))], .agg #[.slice ab lb cb, .bool (decide (y < 0))]] w fun e w' => e = .returned (.int .i64 (Lib.compareInt (signZ x) (signZ y))) ∧ Below w.heap.size w w' := by
  have hbe : (decide (x < 0) == decide (y < 0)) = false := by simpa using hbb
  generalize hb1 : decide (x < 0) = b at *
  generalize hb2 : decide (y < 0) = b' at *
  have HB := hid (And.intro hb1 hb2)
  clear hb1 hb2
  have hx := boxed2_first w (Obj.cells #[.slice aa la ca, .bool b] 71) (Obj.cells #[.slice ab lb cb, .bool b'] 71)
  have hz := boxed2_second w (Obj.cells #[.slice aa la ca, .bool b] 71) (Obj.cells #[.slice ab lb cb, .bool b'] 71)
  have hB := boxed2 (Below.refl w.heap.size w) (Obj.cells #[.slice aa la ca, .bool b] 71) (Obj.cells #[.slice ab lb cb, .bool b'] 71)
  go_enter Tryz.func134, Tryz.ntmps134
  go_wp2_with fail
  generalize (w.alloc (Obj.cells #[.slice aa la ca, .bool b] 71)).alloc (Obj.cells #[.slice ab lb cb, .bool b'] 71) = W at *
  have t1 := two_cell0 hx
  have t2 := two_cell1 hx
  have t3 := two_cell0 hz
  have t4 := two_cell1 hz
  have B0 : Below W.heap.size W W.drew := (Below.refl _ _).drew
  have na := na0.below hB
  have nb := nb0.below hB
  clear hx hz
  go_region_held3 (fun w' => w'.cell? ⟨w.heap.size, 0, none⟩ = some (.slice aa la ca) ∧ w'.cell? ⟨w.heap.size, 1, none⟩ = some (.bool b) ∧ w'.cell? ⟨w.heap.size + 1, 0, none⟩ = some (.slice ab lb cb) ∧ w'.cell? ⟨w.heap.size + 1, 1, none⟩ = some (.bool b')) ((first | exact ⟨t1, t2, t3, t4⟩ | exact K1 | exact K2)) (first
    | (have gk := B2; go_at_call 141; refine (Tryz.cmp_Compare_int _ _ _).mono ?_; rintro e w3 ⟨rfl, rfl⟩)
    | (have gk := B1; go_at_call 128; refine (nsign_any _ _ _ _ (by omega) (nb.below B1)).mono ?_; rintro e w2 ⟨rfl, hb2⟩; have B2 := chain2 B1 hb2; have K2 := keepN t1 t2 t3 t4 B2)
    | (have gk := B0; go_at_call 128; refine (nsign_any _ _ _ _ (by omega) (na.below B0)).mono ?_; rintro e w1 ⟨rfl, hb1⟩; have B1 := chain2 B0 hb1; have K1 := keepN t1 t2 t3 t4 B1))
  go_wp2
  go_ret
  exact ⟨rfl, chain2 hB B2⟩
set_option maxHeartbeats 800000 in
theorem ncmp_below (w : World) (aa ab : Option Addr) (la ca lb cb m n K K' : Nat) (na0 : NatIs w (.agg #[.slice aa la ca]) m K) (nb0 : NatIs w (.agg #[.slice ab lb cb]) n K') :
    Calls Tryz.prog 134 #[.agg #[.slice aa la ca, .bool true], .agg #[.slice ab lb cb, .bool true]] w fun e w' => e = .returned (.int .i64 (cmpI n m)) ∧ Below w.heap.size w w' := by
  have hB := boxed2 (Below.refl w.heap.size w) (Obj.cells #[.slice aa la ca, .bool true] 71) (Obj.cells #[.slice ab lb cb, .bool true] 71)
  go_enter Tryz.func134, Tryz.ntmps134
  go_wp2_with fail
  refine (cmp_any _ _ _ _ _ _ _ (nb0.below hB) (na0.below hB)).mono ?_
  rintro e w1 ⟨rfl, hb1⟩
  have kB := chain2 hB hb1
  go_wp2
  go_ret
  exact ⟨rfl, kB⟩
set_option maxHeartbeats 800000 in
theorem ncmp_above (w : World) (aa ab : Option Addr) (la ca lb cb m n K K' : Nat) (na0 : NatIs w (.agg #[.slice aa la ca]) m K) (nb0 : NatIs w (.agg #[.slice ab lb cb]) n K') :
    Calls Tryz.prog 134 #[.agg #[.slice aa la ca, .bool false], .agg #[.slice ab lb cb, .bool false]] w fun e w' => e = .returned (.int .i64 (cmpI m n)) ∧ Below w.heap.size w w' := by
  have hB := boxed2 (Below.refl w.heap.size w) (Obj.cells #[.slice aa la ca, .bool false] 71) (Obj.cells #[.slice ab lb cb, .bool false] 71)
  go_enter Tryz.func134, Tryz.ntmps134
  go_wp2_with fail
  refine (cmp_any _ _ _ _ _ _ _ (na0.below hB) (nb0.below hB)).mono ?_
  rintro e w1 ⟨rfl, hb1⟩
  have kB := chain2 hB hb1
  go_wp2
  go_ret
  exact ⟨rfl, kB⟩
theorem cmpZ_signs {x y : Int} (h : decide (x < 0) ≠ decide (y < 0)) : Lib.compareInt (signZ x) (signZ y) = cmpZ x y := by
  unfold Lib.compareInt signZ cmpZ
  by_cases hx : x < 0 <;> by_cases hy : y < 0 <;> simp [hx, hy] at h ⊢ <;> (repeat' split) <;> omega
theorem cmpZ_below {x y : Int} (hx : x < 0) (hy : y < 0) : cmpI y.natAbs x.natAbs = cmpZ x y := by
  unfold cmpI cmpZ; (repeat' split) <;> omega
theorem cmpZ_above {x y : Int} (hx : ¬ x < 0) (hy : ¬ y < 0) : cmpI x.natAbs y.natAbs = cmpZ x y := by
  unfold cmpI cmpZ; (repeat' split) <;> omega
/-- Cmp. -/
theorem ncmp_any (w : World) (a b : Value) (x y : Int) (K K' : Nat) (hK : K < 1000000000) (hK' : K' < 1000000000) (ha : NumIs w a x K) (hb : NumIs w b y K') :
    Calls Tryz.prog 134 #[a, b] w fun e w' => e = .returned (.int .i64 (cmpZ x y)) ∧ Below w.heap.size w w' := by
  obtain ⟨aa, la, ca, rfl, na⟩ := ha
  obtain ⟨ab, lb, cb, rfl, nb⟩ := hb
  by_cases h : decide (x < 0) = decide (y < 0)
  · by_cases hx : x < 0
    · have hy : y < 0 := by by_cases hy : y < 0 <;> simp [hx, hy] at h ⊢
      rw [show decide (x < 0) = true by simp [hx], show decide (y < 0) = true by simp [hy], ← cmpZ_below hx hy]
      exact ncmp_below w aa ab la ca lb cb _ _ K K' na nb
    · have hy : ¬ y < 0 := by intro hy; simp [hx, hy] at h
      rw [show decide (x < 0) = false by simp; omega, show decide (y < 0) = false by simp; omega, ← cmpZ_above hx hy]
      exact ncmp_above w aa ab la ca lb cb _ _ K K' na nb
  · rw [← cmpZ_signs h]
    exact ncmp_other w aa ab la ca lb cb K K' x y h hK hK' ⟨aa, la, ca, rfl, na⟩ ⟨ab, lb, cb, rfl, nb⟩
end Go.Proofs.YtcdkoadobdgbhaaGreatDoor
