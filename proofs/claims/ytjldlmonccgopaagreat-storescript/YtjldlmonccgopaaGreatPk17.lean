/- WCom, WParse. -/
import Derived.Test.YtjldlmonccgopaaGreatZWSmall
import Derived.Deep.RegionHeld3
/- wal: a commit's own functions. -/
namespace Go.Proofs.YtjldlmonccgopaaGreat
open Go.RowKit
set_option linter.unusedVariables false
set_option maxRecDepth 100000
set_option linter.unusedSimpArgs false

/-- A commit as a value. -/
def cv (c : Com) : Value := .agg #[.int .u64 (c.num : Int), .int .i64 (c.area : Int), .int .i64 (c.len : Int), .int .u32 c.sum]
theorem set4 {X : World} {b : Nat} {t : TypeId} {a0 a1 a2 a3 : Value} (h : X.heap[b]? = some (.cells #[a0, a1, a2, a3] t (0, 0))) (v0 v1 v2 v3 : Value) : ((((X.setCell ⟨b, 0, none⟩ v0).setCell ⟨b, 1, none⟩ v1).setCell ⟨b, 2, none⟩ v2).setCell ⟨b, 3, none⟩ v3).heap[b]? = some (.cells #[v0, v1, v2, v3] t (0, 0)) :=
  set_at (L := [_, _, _, _]) (k := 3) (v := v3) (set_at (L := [_, _, _, _]) (k := 2) (v := v2) (set_at (L := [_, _, _, _]) (k := 1) (v := v1) (set_at (L := [_, _, _, _]) (k := 0) (v := v0) h)))
theorem below4 {B b : Nat} {w X : World} (h : Below B w X) (hB : B ≤ b) (v0 v1 v2 v3 : Value) : Below B w ((((X.setCell ⟨b, 0, none⟩ v0).setCell ⟨b, 1, none⟩ v1).setCell ⟨b, 2, none⟩ v2).setCell ⟨b, 3, none⟩ v3) :=
  (((h.setCell (p := ⟨b, 0, none⟩) hB _).setCell (p := ⟨b, 1, none⟩) hB _).setCell (p := ⟨b, 2, none⟩) hB _).setCell (p := ⟨b, 3, none⟩) hB _
/-- Four cells. -/
structure Box4 (X : World) (b : Nat) (t : TypeId) (v0 v1 v2 v3 : Value) : Prop where
  blk : X.heap[b]? = some (.cells #[v0, v1, v2, v3] t (0, 0))
  c0 : X.cell? ⟨b, 0, none⟩ = some v0
  c1 : X.cell? ⟨b, 1, none⟩ = some v1
  c2 : X.cell? ⟨b, 2, none⟩ = some v2
  c3 : X.cell? ⟨b, 3, none⟩ = some v3
  fr : ∀ k, X.frozen? ⟨b, k, none⟩ = false
theorem Box4.of {X : World} {b : Nat} {t : TypeId} {v0 v1 v2 v3 : Value} (h : X.heap[b]? = some (.cells #[v0, v1, v2, v3] t (0, 0))) : Box4 X b t v0 v1 v2 v3 :=
  ⟨h, cell_at (L := [_, _, _, _]) h 0 _ rfl, cell_at (L := [_, _, _, _]) h 1 _ rfl, cell_at (L := [_, _, _, _]) h 2 _ rfl, cell_at (L := [_, _, _, _]) h 3 _ rfl, free_at (L := [_, _, _, _]) h⟩
theorem Box4.set {X : World} {b : Nat} {t : TypeId} {a0 a1 a2 a3 : Value} (h : Box4 X b t a0 a1 a2 a3) (v0 v1 v2 v3 : Value) : Box4 ((((X.setCell ⟨b, 0, none⟩ v0).setCell ⟨b, 1, none⟩ v1).setCell ⟨b, 2, none⟩ v2).setCell ⟨b, 3, none⟩ v3) b t v0 v1 v2 v3 := Box4.of (set4 h.blk _ _ _ _)
theorem Box4.below {X Y : World} {b : Nat} {t : TypeId} {v0 v1 v2 v3 : Value} (h : Box4 X b t v0 v1 v2 v3) {B : Nat} (k : Below B X Y) (hb : b < B) : Box4 Y b t v0 v1 v2 v3 := Box4.of ((k.block b hb).trans h.blk)
theorem Box4.drewN {X : World} {b : Nat} {t : TypeId} {v0 v1 v2 v3 : Value} (h : Box4 X b t v0 v1 v2 v3) (n : Nat) : Box4 (X.drewN n) b t v0 v1 v2 v3 := Box4.of h.blk
theorem Box4.new (w : World) (t : TypeId) (v0 v1 v2 v3 : Value) : Box4 (w.alloc (Obj.cells #[v0, v1, v2, v3] t)) w.heap.size t v0 v1 v2 v3 := Box4.of (heap_alloc_last w _)
theorem wrap_succ (n : Nat) (h : n < 18446744073709551616) : IntKind.u64.wrap ((n : Int) + 1) = (((n + 1) % 18446744073709551616 : Nat) : Int) := by
  simp [IntKind.wrap, IntKind.signed, IntKind.bits]
theorem sector_com (w : World) (c : Com) (hf : c.Fit) :
    Calls Tryz.prog 96 #[cv c] w fun e w' => e = .returned (.int .i64 ((c.num % 2 : Nat) : Int)) ∧ Below w.heap.size w w' := by
  have h1 := hf.num
  unfold cv
  go_enter Tryz.func96, Tryz.ntmps96
  go_wp2
  go_ret
  exact ⟨by go_num, (Below.refl _ _).alloc (Nat.le_refl _) _⟩
theorem sum_empty : sumOf ByteArray.empty = 2166136261 := rfl
theorem wsum_nil (w : World) : Calls Tryz.prog 66 #[.string ⟨#[]⟩] w fun e w' => e = .returned (.int .u32 2166136261) ∧ w' = w := wsum_any ⟨#[]⟩ w (by show (0 : Nat) < _; omega)
theorem keep2 {W w' : World} {b : Nat} {v1 v2 : Value} (d1 : W.cell? ⟨b, 0, none⟩ = some v1) (d2 : W.cell? ⟨b, 1, none⟩ = some v2) (h : Below (b + 1) W w') : w'.cell? ⟨b, 0, none⟩ = some v1 ∧ w'.cell? ⟨b, 1, none⟩ = some v2 :=
  ⟨(h.cell (by show b < b + 1; omega)).trans d1, (h.cell (by show b < b + 1; omega)).trans d2⟩
set_option maxHeartbeats 1600000 in
theorem anew_any (w : World) (c : Com) (hf : c.Fit) :
    Calls Tryz.prog 60 #[cv c] w fun e w' => e = .returned (cv ⟨c.num, 1 - c.area, 0, 2166136261⟩) ∧ Below w.heap.size w w' := by
  have h1 := hf.num
  have h2 := hf.area
  unfold cv
  go_enter Tryz.func60, Tryz.ntmps60
  go_wp2_with fail
  have B0 : Below w.heap.size w ((w.alloc (Obj.cells #[Value.int IntKind.u64 ↑c.num, Value.int IntKind.i64 ↑c.area, Value.int IntKind.i64 ↑c.len, Value.int IntKind.u32 c.sum] 88)).alloc (Obj.cells #[Value.int IntKind.u64 0, Value.int IntKind.i64 0, Value.int IntKind.i64 0, Value.int IntKind.u32 0] 88)) := ((Below.refl _ _).alloc (Nat.le_refl _) _).alloc (by simp) _
  have q0 : ((w.alloc (Obj.cells #[Value.int IntKind.u64 ↑c.num, Value.int IntKind.i64 ↑c.area, Value.int IntKind.i64 ↑c.len, Value.int IntKind.u32 c.sum] 88)).alloc (Obj.cells #[Value.int IntKind.u64 0, Value.int IntKind.i64 0, Value.int IntKind.i64 0, Value.int IntKind.u32 0] 88)).heap[w.heap.size]? = some (Obj.cells #[Value.int IntKind.u64 ↑c.num, Value.int IntKind.i64 ↑c.area, Value.int IntKind.i64 ↑c.len, Value.int IntKind.u32 c.sum] 88 (0, 0)) := (Below.heap_alloc _ _ _ (by simp)).trans (heap_alloc_last w _)
  have q1 := heap_alloc_last (w.alloc (Obj.cells #[Value.int IntKind.u64 ↑c.num, Value.int IntKind.i64 ↑c.area, Value.int IntKind.i64 ↑c.len, Value.int IntKind.u32 c.sum] 88)) (Obj.cells #[Value.int IntKind.u64 0, Value.int IntKind.i64 0, Value.int IntKind.i64 0, Value.int IntKind.u32 0] 88)
  rw [World.size_alloc] at q1
  generalize ((w.alloc (Obj.cells #[Value.int IntKind.u64 ↑c.num, Value.int IntKind.i64 ↑c.area, Value.int IntKind.i64 ↑c.len, Value.int IntKind.u32 c.sum] 88)).alloc (Obj.cells #[Value.int IntKind.u64 0, Value.int IntKind.i64 0, Value.int IntKind.i64 0, Value.int IntKind.u32 0] 88)) = W at *
  have d1 := cell_at (L := [_, _, _, _]) q0 0 _ rfl
  have d2 := cell_at (L := [_, _, _, _]) q0 1 _ rfl
  have e0 := cell_at (L := [_, _, _, _]) q1 0 _ rfl
  have e1 := cell_at (L := [_, _, _, _]) q1 1 _ rfl
  have e2 := cell_at (L := [_, _, _, _]) q1 2 _ rfl
  have e3 := cell_at (L := [_, _, _, _]) q1 3 _ rfl
  have f1 := free_at (L := [_, _, _, _]) q1
  go_region_held3 (fun w' => w'.cell? ⟨w.heap.size, 0, none⟩ = some (.int .u64 c.num) ∧ w'.cell? ⟨w.heap.size, 1, none⟩ = some (.int .i64 c.area)) ((refine keep2 d1 d2 ?_; first | exact Below.refl _ _ | exact (Below.refl _ _).drew | (refine Below.drew ?_; exact ((((Below.refl _ W).setCell (p := ⟨w.heap.size + 1, 0, none⟩) (Nat.le_refl _) _).setCell (p := ⟨w.heap.size + 1, 1, none⟩) (Nat.le_refl _) _).setCell (p := ⟨w.heap.size + 1, 2, none⟩) (Nat.le_refl _) _).setCell (p := ⟨w.heap.size + 1, 3, none⟩) (Nat.le_refl _) _))) ((go_at_call 66; refine (wsum_nil _).mono ?_; rintro e w' ⟨rfl, rfl⟩))
  have B2 : Below (w.heap.size + 1) W ((((W.setCell ⟨w.heap.size + 1, 0, none⟩ (Value.int IntKind.u64 ↑c.num)).setCell ⟨w.heap.size + 1, 1, none⟩ (Value.int IntKind.i64 (IntKind.i64.wrap (1 - ↑c.area)))).setCell ⟨w.heap.size + 1, 2, none⟩ (Value.int IntKind.i64 0)).setCell ⟨w.heap.size + 1, 3, none⟩ (Value.int IntKind.u32 2166136261)).drew := (((((Below.refl _ W).setCell (p := ⟨w.heap.size + 1, 0, none⟩) (Nat.le_refl _) _).setCell (p := ⟨w.heap.size + 1, 1, none⟩) (Nat.le_refl _) _).setCell (p := ⟨w.heap.size + 1, 2, none⟩) (Nat.le_refl _) _).setCell (p := ⟨w.heap.size + 1, 3, none⟩) (Nat.le_refl _) _).drew
  have q2 := set_at (L := [_, _, _, _]) (k := 3) (v := Value.int IntKind.u32 2166136261) (set_at (L := [_, _, _, _]) (k := 2) (v := Value.int IntKind.i64 0) (set_at (L := [_, _, _, _]) (k := 1) (v := Value.int IntKind.i64 (IntKind.i64.wrap (1 - ↑c.area))) (set_at (L := [_, _, _, _]) (k := 0) (v := Value.int IntKind.u64 ↑c.num) q1)))
  have hwa : IntKind.i64.wrap (1 - (c.area : Int)) = ((1 - c.area : Nat) : Int)  := by
    rcases (show c.area = 0 ∨ c.area = 1 by omega) with h | h <;> rw [h] <;> rfl
  generalize ((((W.setCell ⟨w.heap.size + 1, 0, none⟩ (Value.int IntKind.u64 ↑c.num)).setCell ⟨w.heap.size + 1, 1, none⟩ (Value.int IntKind.i64 (IntKind.i64.wrap (1 - ↑c.area)))).setCell ⟨w.heap.size + 1, 2, none⟩ (Value.int IntKind.i64 0)).setCell ⟨w.heap.size + 1, 3, none⟩ (Value.int IntKind.u32 2166136261)) = W2 at *
  have g0 := cell_at (L := [_, _, _, _]) q2 0 _ rfl
  have g1 := cell_at (L := [_, _, _, _]) q2 1 _ rfl
  have g2 := cell_at (L := [_, _, _, _]) q2 2 _ rfl
  have g3 := cell_at (L := [_, _, _, _]) q2 3 _ rfl
  rw [hwa] at g1
  go_wp2
  refine bodyPost_ret (v := .agg #[.int .u64 c.num, .int .i64 ((1 - c.area : Nat) : Int), .int .i64 0, .int .u32 2166136261]) (by simp [results, Tryz.results60, go_sem, g0, g1, g2, g3]) rfl ⟨rfl, B0.trans (B2.mono (by omega))⟩
set_option maxHeartbeats 1600000 in
theorem with_any (w : World) (c : Com) (s : ByteArray) (hf : c.Fit) (hs : s.size ≤ 65536) :
    Calls Tryz.prog 77 #[cv c, .string s] w fun e w' => e = .returned (cv ⟨(c.num + 1) % 18446744073709551616, c.area, c.len + s.size, sumN c.sum s s.size⟩) ∧ Below w.heap.size w w' := by
  have h1 := hf.num
  have h2 := hf.len
  unfold cv
  go_enter Tryz.func77, Tryz.ntmps77
  go_wp2_with fail
  have hw := wrap_succ c.num h1
  rw [hw]
  refine (sumOn_any c.sum s _ (by omega)).mono ?_
  rintro e w' ⟨rfl, rfl⟩
  clear hw
  generalize hN : (((c.num + 1) % 18446744073709551616 : Nat) : Int) = N
  have HN := hid hN
  clear hN
  go_wp2
  refine bodyPost_ret (v := .agg #[.int .u64 N, .int .i64 c.area, .int .i64 (c.len + s.size : Int), .int .u32 (sumN c.sum s s.size)]) (by simp [results, Tryz.results77, go_sem]) rfl ⟨by rw [HN.out]; rfl, ((Below.refl _ _).alloc (Nat.le_refl _) _).alloc (by simp) _⟩
theorem bytes_at {w : World} {base g n cap : Nat} {l : List UInt8} (hown : w.ownsRow base 5 1 (.slice (some ⟨g, 0, none⟩) n cap) n (Lib.byteCells l)) (k : Nat) (hk : k < l.length) :
    w.cell? ⟨g, k, none⟩ = some (.int .u8 ((l[k]'hk).toNat : Int)) := by
  have hn : (Lib.byteCells l).length = n * 1 := hown.1
  have h := hown.cellAt k (by rw [← hn, Lib.byteCells_length]; exact hk)
  rw [h]; simp [Lib.byteCells, hk]
theorem bytes_form {w : World} {base : Nat} {v : Value} {l : List UInt8} (h : w.ownsRow base 5 1 v l.length (Lib.byteCells l)) (hl : l ≠ []) : ∃ g cap, v = .slice (some ⟨g, 0, none⟩) l.length cap ∧ g < w.heap.size := by
  rcases h.2 with ⟨h1, h2⟩ | ⟨g, cap, cur, hv, hg, hh, r1, r2, _⟩
  · exact absurd (List.eq_nil_of_length_eq_zero h2) hl
  · exact ⟨g, cap, hv, lt_of_block hh⟩
theorem bytes_conv {w : World} {base g cap : Nat} {l : List UInt8} (h : w.ownsRow base 5 1 (.slice (some ⟨g, 0, none⟩) l.length cap) l.length (Lib.byteCells l)) :
    (convert 102 9 (.slice (some ⟨g, 0, none⟩) l.length cap)).run Tryz.prog w = .ok (.string ⟨l.toArray⟩) w :=
  run_convert_bytes_back (P := Tryz.prog) w 102 9 5 ⟨g, 0, none⟩ cap l Tryz.underlying102 Tryz.underlying5 Tryz.underlying9 (fun j hj => by
    rw [Addr.add_lit, Nat.zero_add]
    exact bytes_at h j hj)
theorem appendNumber_at (w : World) (B : Nat) (v : Value) (l : List UInt8) (n K m : Nat) (hn : n < 18446744073709551616) (hK : K ≤ 8) (hm : l.length = m) (hl : m ≤ 1000) (hB : B ≤ w.heap.size) (hown : w.ownsRow B 5 1 v m (Lib.byteCells l)) :
    Calls Tryz.prog 105 #[v, .int .u64 (n : Int), .int .i64 (K : Int)] w fun e w' => (∃ va vc L, e = .returned (.slice va (m + K) vc) ∧ w'.ownsRow B 5 1 (.slice va (m + K) vc) (m + K) (Lib.byteCells L) ∧ Hid (L = l ++ beL n K) ∧ Hid (L.length = m + K)) ∧ Below B w w' := by
  subst hm
  refine (appendNumber_any w B v l n K hn hK hl hB hown).mono ?_
  rintro e w' ⟨⟨v', rfl, o⟩, b⟩
  have hlen : (l ++ beL n K).length = l.length + K := by rw [List.length_append, beL_len]
  rw [hlen] at o
  obtain ⟨va, vc, rfl⟩ := own_slice o
  exact ⟨⟨va, vc, _, rfl, o, rfl, hlen⟩, b⟩
set_option maxHeartbeats 1600000 in
theorem text_com (w : World) (c : Com) (hf : c.Fit) :
    Calls Tryz.prog 97 #[cv c] w fun e w' => e = .returned (.string (comT c)) ∧ Below w.heap.size w w' := by
  have h1 := hf.num
  have h2 := hf.area
  have h3 := hf.len
  have h4 := hf.sum
  obtain ⟨i0, hi, hz0, hz1, hz2⟩ := info_parts info_u8
  unfold cv
  go_enter Tryz.func97, Tryz.ntmps97
  have B0 := (Below.refl w.heap.size w).alloc (Nat.le_refl _) (Obj.cells #[Value.int IntKind.u64 ↑c.num, Value.int IntKind.i64 ↑c.area, Value.int IntKind.i64 ↑c.len, Value.int IntKind.u32 c.sum] 88)
  have q0 := heap_alloc_last w (Obj.cells #[Value.int IntKind.u64 ↑c.num, Value.int IntKind.i64 ↑c.area, Value.int IntKind.i64 ↑c.len, Value.int IntKind.u32 c.sum] 88)
  go_wp2_with fail
  generalize (w.alloc (Obj.cells #[Value.int IntKind.u64 ↑c.num, Value.int IntKind.i64 ↑c.area, Value.int IntKind.i64 ↑c.len, Value.int IntKind.u32 c.sum] 88)) = W at *
  have hW : w.heap.size + 1 ≤ W.heap.size := by have := lt_of_block q0; omega
  have cells : ∀ X, Below (w.heap.size + 1) W X → X.cell? ⟨w.heap.size, 1, none⟩ = some (.int .i64 c.area) ∧ X.cell? ⟨w.heap.size, 2, none⟩ = some (.int .i64 c.len) ∧ X.cell? ⟨w.heap.size, 3, none⟩ = some (.int .u32 c.sum) := fun X h =>
    ⟨(h.cell (by show w.heap.size < w.heap.size + 1; omega)).trans (cell_at (L := [_, _, _, _]) q0 1 _ rfl), (h.cell (by show w.heap.size < w.heap.size + 1; omega)).trans (cell_at (L := [_, _, _, _]) q0 2 _ rfl), (h.cell (by show w.heap.size < w.heap.size + 1; omega)).trans (cell_at (L := [_, _, _, _]) q0 3 _ rfl)⟩
  have HC := hid cells
  clear cells
  refine (appendNumber_at W (w.heap.size + 1) (.slice none 0 0) [] c.num 8 0 h1 (by omega) rfl (by simp) hW (World.ownsRow_nil _ _ _ _)).mono ?_
  rintro e w1 ⟨⟨va, vc, L1, rfl, o1, HE1, HL1⟩, b1⟩
  simp only [Nat.zero_add] at o1 ⊢
  obtain ⟨d1, d2, d3⟩ := HC.out w1 b1
  have s1 := b1.size
  obtain ⟨x, hx⟩ : ∃ x, x = UInt8.ofNat c.area := ⟨_, rfl⟩
  have hxn : ((c.area : Int)) = x.toNat := by rw [hx, UInt8.toNat_ofNat']; omega
  have HX := hid (And.intro hx hxn)
  clear hx hxn
  go_wp2_with (at_builtin; refine wpList_append_own _ rfl _ _ 102 rfl (w.heap.size + 1) 5 i0 (.int .u8 0) 1 1 Tryz.underlying102 hi hz0 hz1 hz2 rfl (by decide) _ _ _ rfl (o1.alloc _) ⟨w1.heap.size, 0, none⟩ 1 1 [.int .u8 (c.area : Int)] rfl rfl (by intro j u hu; match j, hu with | 0, hu => simp at hu; subst hu; simp [Addr.add]) (by intro u hu; simp at hu; subst hu; rfl) (by unfold maxLen; omega) (by omega) (by simp; omega) ?_)
  intro v2 w2 o2 hgrow hnil
  have b2 : Below (w.heap.size + 1) W w2 := (b1.alloc (by omega) _).grown hgrow (by simp; omega) (fun q hq => (o1.lt q hq).1)
  obtain ⟨L2, HE2, HL2, o2'⟩ : ∃ L2, Hid (L2 = L1 ++ [x]) ∧ Hid (L2.length = 9) ∧ w2.ownsRow (w.heap.size + 1) 5 1 v2 9 (Lib.byteCells L2) := ⟨L1 ++ [x], rfl, by have := HL1.out; show _ = 9; rw [List.length_append, this]; rfl, by
    rw [Lib.byteCells_append]
    rw [HX.out.2] at o2
    exact o2⟩
  clear o1 o2 hgrow hnil d1 d2 d3
  obtain ⟨e1, e2, e3⟩ := HC.out w2 b2
  have s2 := b2.size
  obtain ⟨va2, vc2, rfl⟩ := own_slice o2'
  go_wp2_with fail
  refine (appendNumber_at w2 (w.heap.size + 1) _ L2 c.len 4 9 (by omega) (by omega) HL2.out (by omega) (by omega) o2').mono ?_
  rintro e w3 ⟨⟨va3, vc3, L3, rfl, o3, HE3, HL3⟩, b3'⟩
  have b3 := b2.trans b3'
  clear o2' e1 e2 e3 b3'
  obtain ⟨e1, e2, e3⟩ := HC.out w3 b3
  have s3 := b3.size
  simp only [Nat.reduceAdd] at o3 HL3 ⊢
  obtain ⟨q, hq⟩ : ∃ q : Nat, c.sum = q := ⟨c.sum.toNat, by omega⟩
  have HQ := hid (show c.sum.toNat = q by omega)
  rw [hq] at e3 h4
  go_wp2_with fail
  refine (appendNumber_at w3 (w.heap.size + 1) _ L3 q 4 13 (by omega) (by omega) HL3.out (by omega) (by omega) o3).mono ?_
  rintro e w4 ⟨⟨va4, vc4, L4, rfl, o4, HE4, HL4⟩, b4'⟩
  have b4 := b3.trans b4'
  clear o3 e1 e2 e3 b4'
  simp only [Nat.reduceAdd] at o4 HL4 ⊢
  have s4 := b4.size
  obtain ⟨g4, cap4, hv4, hg4⟩ := bytes_form (l := L4) (by rw [HL4.out]; exact o4) (fun e => by have := HL4.out; rw [e] at this; simp at this)
  rw [HL4.out] at hv4
  rw [hv4] at o4 ⊢
  have hcv : (convert 102 9 (.slice (some ⟨g4, 0, none⟩) 17 cap4)).run Tryz.prog w4 = .ok (.string ⟨L4.toArray⟩) w4 := by
    have := bytes_conv (l := L4) (by rw [HL4.out]; exact o4)
    rw [HL4.out] at this; exact this
  obtain ⟨t4, ht4⟩ : ∃ t4 : ByteArray, t4 = ⟨L4.toArray⟩ := ⟨_, rfl⟩
  rw [← ht4] at hcv
  have HT4 := hid ht4
  have ts : t4.size = 17 := by rw [ht4, size_list, HL4.out]
  clear ht4
  go_wp2_with fail
  refine (wsum_any t4 w4 (by omega)).mono ?_
  rintro e w' ⟨rfl, rfl⟩
  have hsl := sum_lt t4
  obtain ⟨r, hr⟩ : ∃ r : Nat, sumOf t4 = r := ⟨(sumOf t4).toNat, by omega⟩
  have HR := hid (show (sumOf t4).toNat = r by omega)
  rw [hr] at hsl ⊢
  clear hr hcv
  go_wp2_with fail
  refine (appendNumber_at _ (w.heap.size + 1) _ L4 r 4 17 (by omega) (by omega) HL4.out (by omega) (by omega) o4).mono ?_
  rintro e w5 ⟨⟨va5, vc5, L5, rfl, o5, HE5, HL5⟩, b5'⟩
  have b5 := b4.trans b5'
  clear o4 b5'
  simp only [Nat.reduceAdd] at o5 HL5 ⊢
  obtain ⟨g5, cap5, hv5, hg5⟩ := bytes_form (l := L5) (by rw [HL5.out]; exact o5) (fun e => by have := HL5.out; rw [e] at this; simp at this)
  rw [HL5.out] at hv5
  rw [hv5] at o5 ⊢
  have hcv : (convert 102 9 (.slice (some ⟨g5, 0, none⟩) 21 cap5)).run Tryz.prog w5 = .ok (.string (comT c)) w5 := by
    have := bytes_conv (l := L5) (by rw [HL5.out]; exact o5)
    rw [HL5.out] at this
    rw [this]
    congr 2
    unfold comT
    have e4 : L4 = comL c := by rw [HE4.out, HE3.out, HE2.out, HE1.out, HX.out.1, ← HQ.out]; simp [comL]
    rw [HE5.out, ← HR.out, HT4.out, e4]
  go_wp2
  go_ret
  exact ⟨rfl, B0.trans (b5.mono (by omega))⟩
end Go.Proofs.YtjldlmonccgopaaGreat
/- wal: parse. -/
namespace Go.Proofs.YtjldlmonccgopaaGreat
open Go.RowKit
set_option linter.unusedVariables false
set_option maxRecDepth 100000
set_option linter.unusedSimpArgs false

theorem below_dn {B : Nat} {w X : World} (h : Below B w X) (n : Nat) : Below B w (X.drewN n) := below_drewN h n
def comZ : Com := ⟨0, 0, 0, 0⟩
set_option maxHeartbeats 1600000 in
theorem parse_short (w : World) (s : ByteArray) (hs : s.size ≤ maxLen) (h : s.size ≠ 21) :
    Calls Tryz.prog 64 #[.string s] w fun e w' => e = .returned (.tuple #[cv comZ, .bool false]) ∧ Below w.heap.size w w' := by
  unfold maxLen at hs
  have h1 : ((s.size : Int) == 21) = false := beq_eq_false_iff_ne.2 (by omega)
  have h2 : ((s.size : Int) != 21) = true := by simp; omega
  unfold cv comZ
  have q0 := Box4.new w 88 (.int .u64 0) (.int .i64 0) (.int .i64 0) (.int .u32 0)
  have B0 := (Below.refl w.heap.size w).alloc (Nat.le_refl _) (Obj.cells #[.int .u64 0, .int .i64 0, .int .i64 0, .int .u32 0] 88)
  go_enter Tryz.func64, Tryz.ntmps64
  go_wp2_with fail
  generalize w.alloc (Obj.cells #[Value.int .u64 0, .int .i64 0, .int .i64 0, .int .u32 0] 88) = W at *
  go_quiet (fail)
  have q1 := q0.drewN nq
  have B1 := below_dn B0 nq
  have q2 := q1.set (.int .u64 0) (.int .i64 0) (.int .i64 0) (.int .u32 0)
  have B2 := below4 B1 (Nat.le_refl _) (.int .u64 0) (.int .i64 0) (.int .i64 0) (.int .u32 0)
  obtain ⟨_, c0, c1, c2, c3, fr⟩ := q1
  generalize W.drewN nq = W1 at *
  go_wp2
  obtain ⟨_, g0, g1, g2, g3, _⟩ := q2
  exact bodyPost_ret (v := .tuple #[.agg #[.int .u64 0, .int .i64 0, .int .i64 0, .int .u32 0], .bool false]) (by simp [results, Tryz.results64, go_sem, g0, g1, g2, g3]) rfl ⟨rfl, B2⟩
set_option maxHeartbeats 4000000 in
theorem parse_long (w : World) (s : ByteArray) (h : s.size = 21) :
    Calls Tryz.prog 64 #[.string s] w fun e w' => ((∃ c, IsCom s c ∧ e = .returned (.tuple #[cv c, .bool true])) ∨ ((∀ c, ¬ IsCom s c) ∧ e = .returned (.tuple #[cv comZ, .bool false]))) ∧ Below w.heap.size w w' := by
  have num : ∀ a b, a ≤ b → b ≤ 21 → b - a ≤ 8 → ∀ v, Calls Tryz.prog 81 #[.string (s.extract a b)] v fun e w' => e = .returned (.int .u64 (be s a (b - a) : Int)) ∧ w' = v := by
    intro a b hab hb h8 v
    have n1 := numberOf_any v (s.extract a b) (by rw [ByteArray.size_extract]; omega)
    rwa [show (s.extract a b).size = b - a by rw [ByteArray.size_extract]; omega, be_extract s a b (by omega) (b - a) (by omega)] at n1
  have n1 := num 17 21 (by omega) (by omega) (by omega)
  have n2 := num 0 8 (by omega) (by omega) (by omega)
  have n3 := num 9 13 (by omega) (by omega) (by omega)
  have n4 := num 13 17 (by omega) (by omega) (by omega)
  simp only [Nat.reduceSub] at n1 n2 n3 n4
  clear num
  have s1 := fun v => wsum_any (s.extract 0 17) v (by rw [ByteArray.size_extract]; omega)
  rw [sum_extract s 17 (by omega)] at s1
  have h21 : ((s.size : Int) == 21) = true := by rw [h]; rfl
  have hw := sumN_lt 2166136261 (by omega) s 17
  have HCom := hid (show ∀ c, IsCom s c → be s 0 8 = c.num ∧ bt s 8 = c.area ∧ be s 9 4 = c.len ∧ (be s 13 4 : Int) = c.sum ∧ (be s 17 4 : Int) = sumN 2166136261 s 17 ∧ c.num ≠ 0 ∧ c.area ≤ 1 ∧ c.len ≤ 32512 from fun c k => ⟨k.num, k.area, k.len, k.sum, k.own, k.num0, k.area1, k.len1⟩)
  have HMk := hid (show (be s 17 4 : Int) = sumN 2166136261 s 17 → be s 0 8 ≠ 0 → bt s 8 ≤ 1 → be s 9 4 ≤ 32512 → IsCom s ⟨be s 0 8, bt s 8, be s 9 4, be s 13 4⟩ from fun h1 h2 h3 h4 => ⟨h, rfl, rfl, rfl, rfl, h1, h2, h3, h4⟩)
  have l1 := be_lt s 0 8
  have l2 := be_lt s 9 4
  have l3 := be_lt s 13 4
  have l4 := be_lt s 17 4
  have l5 := bt_lt s 8
  have l6 := bt_at s 8 (by omega)
  simp only [Nat.reducePow] at l1 l2 l3 l4
  generalize sumN 2166136261 s 17 = S at *
  generalize be s 0 8 = bn at *
  generalize be s 9 4 = bl at *
  generalize be s 13 4 = bs at *
  generalize be s 17 4 = bo at *
  generalize bt s 8 = ba at *
  have hc : IntKind.u64.wrap S = S := by simp only [IntKind.wrap, IntKind.signed, IntKind.bits]; simp; omega
  have hlt8 : (8 : Int) < (s.size : Int) := by omega
  have q0 := Box4.new w 88 (.int .u64 0) (.int .i64 0) (.int .i64 0) (.int .u32 0)
  have B0 := (Below.refl w.heap.size w).alloc (Nat.le_refl _) (Obj.cells #[.int .u64 0, .int .i64 0, .int .i64 0, .int .u32 0] 88)
  go_enter Tryz.func64, Tryz.ntmps64
  go_wp2_with fail
  generalize w.alloc (Obj.cells #[Value.int .u64 0, .int .i64 0, .int .i64 0, .int .u32 0] 88) = W at *
  go_quiet (first | (go_at_call 66; exact Calls.quiet_of_same (s1 _)) | (go_at_call 81; exact Calls.quiet_of_same (n1 _)))
  have q1 := q0.drewN nq
  have B1 := below_dn B0 nq
  generalize W.drewN nq = W1 at *
  clear q0 B0
  by_cases hS : S = (bo : Int)
  · have hS1 : (S != (bo : Int)) = false := by simp [hS]
    rw [hS1]
    have HS := hid hS
    clear hS hS1 hw hc
    go_wp2_with fail
    go_quiet ((go_at_call 81; exact Calls.quiet_of_same (n2 _)))
    have q2 := q1.drewN nq
    have B2 := below_dn B1 nq
    generalize W1.drewN nq = W2 at *
    clear q1 B1
    go_wp2_with fail
    go_quiet (first | (go_at_call_of 81 (Value.string (s.extract 9 13)); exact Calls.quiet_of_same (n3 _)) | (go_at_call_of 81 (Value.string (s.extract 13 17)); exact Calls.quiet_of_same (n4 _)))
    have q3 := q2.drewN nq
    have B3 := below_dn B2 nq
    generalize W2.drewN nq = W3 at *
    clear q2 B2 n1 n2 n3 n4 s1
    by_cases hok : bn ≠ 0 ∧ ba ≤ 1 ∧ bl ≤ 32512
    · obtain ⟨k1, k2, k3⟩ := hok
      have HIs := hid (HMk.out HS.out.symm k1 k2 k3)
      clear HMk HCom
      have t1 : ((bn : Int) == 0) = false := beq_eq_false_iff_ne.2 (by omega)
      have t2 : decide ((1 : Int) < (ba : Int)) = false := decide_eq_false (by omega)
      have t3 : decide ((32512 : Int) < (bl : Int)) = false := decide_eq_false (by omega)
      have q4 := q3.set (.int .u64 (bn : Int)) (.int .i64 (ba : Int)) (.int .i64 (bl : Int)) (.int .u32 (bs : Int))
      have B4 := below4 B3 (Nat.le_refl _) (.int .u64 (bn : Int)) (.int .i64 (ba : Int)) (.int .i64 (bl : Int)) (.int .u32 (bs : Int))
      obtain ⟨_, c0, c1, c2, c3, fr⟩ := q3
      go_wp2
      obtain ⟨_, g0, g1, g2, g3, _⟩ := q4
      exact bodyPost_ret (v := .tuple #[.agg #[.int .u64 (bn : Int), .int .i64 (ba : Int), .int .i64 (bl : Int), .int .u32 (bs : Int)], .bool true]) (by simp [results, Tryz.results64, go_sem, g0, g1, g2, g3]) rfl ⟨Or.inl ⟨_, HIs.out, rfl⟩, B4⟩
    · have HNo := hid (show ∀ c, ¬ IsCom s c from fun c k => hok (by obtain ⟨a1, a2, a3, _, _, a4, a5, a6⟩ := HCom.out c k; rw [a1, a2, a3]; exact ⟨a4, a5, a6⟩))
      clear HMk HCom
      have q4 := q3.set (.int .u64 0) (.int .i64 0) (.int .i64 0) (.int .u32 0)
      have B4 := below4 B3 (Nat.le_refl _) (.int .u64 0) (.int .i64 0) (.int .i64 0) (.int .u32 0)
      obtain ⟨_, c0, c1, c2, c3, fr⟩ := q3
      rcases (show bn = 0 ∨ bn ≠ 0 ∧ 1 < ba ∨ bn ≠ 0 ∧ ¬ 1 < ba ∧ 32512 < bl by omega) with k | ⟨k1, k2⟩ | ⟨k1, k2, k3⟩
      · have t1 : ((bn : Int) == 0) = true := by rw [k]; rfl
        clear hok k
        go_wp2
        obtain ⟨_, g0, g1, g2, g3, _⟩ := q4
        exact bodyPost_ret (v := .tuple #[.agg #[.int .u64 0, .int .i64 0, .int .i64 0, .int .u32 0], .bool false]) (by simp [results, Tryz.results64, go_sem, g0, g1, g2, g3]) rfl ⟨Or.inr ⟨HNo.out, rfl⟩, B4⟩
      · have t1 : ((bn : Int) == 0) = false := beq_eq_false_iff_ne.2 (by omega)
        have t2 : decide ((1 : Int) < (ba : Int)) = true := decide_eq_true (by omega)
        clear hok
        go_wp2
        obtain ⟨_, g0, g1, g2, g3, _⟩ := q4
        exact bodyPost_ret (v := .tuple #[.agg #[.int .u64 0, .int .i64 0, .int .i64 0, .int .u32 0], .bool false]) (by simp [results, Tryz.results64, go_sem, g0, g1, g2, g3]) rfl ⟨Or.inr ⟨HNo.out, rfl⟩, B4⟩
      · have t1 : ((bn : Int) == 0) = false := beq_eq_false_iff_ne.2 (by omega)
        have t2 : decide ((1 : Int) < (ba : Int)) = false := decide_eq_false (by omega)
        have t3 : decide ((32512 : Int) < (bl : Int)) = true := decide_eq_true (by omega)
        clear hok
        go_wp2
        obtain ⟨_, g0, g1, g2, g3, _⟩ := q4
        exact bodyPost_ret (v := .tuple #[.agg #[.int .u64 0, .int .i64 0, .int .i64 0, .int .u32 0], .bool false]) (by simp [results, Tryz.results64, go_sem, g0, g1, g2, g3]) rfl ⟨Or.inr ⟨HNo.out, rfl⟩, B4⟩
  · have hS1 : (S != (bo : Int)) = true := by simp [hS]
    rw [hS1]
    have HS := hid hS
    clear hS hS1
    have q2 := q1.set (.int .u64 0) (.int .i64 0) (.int .i64 0) (.int .u32 0)
    have B2 := below4 B1 (Nat.le_refl _) (.int .u64 0) (.int .i64 0) (.int .i64 0) (.int .u32 0)
    obtain ⟨_, c0, c1, c2, c3, fr⟩ := q1
    go_wp2
    obtain ⟨_, g0, g1, g2, g3, _⟩ := q2
    exact bodyPost_ret (v := .tuple #[.agg #[.int .u64 0, .int .i64 0, .int .i64 0, .int .u32 0], .bool false]) (by simp [results, Tryz.results64, go_sem, g0, g1, g2, g3]) rfl ⟨Or.inr ⟨fun c k => HS.out ((HCom.out c k).2.2.2.2.1).symm, rfl⟩, B2⟩
end Go.Proofs.YtjldlmonccgopaaGreat
