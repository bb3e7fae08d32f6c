/- RcApp, RcTake. -/
import Derived.Test.YtjldlmonccgopaaGreatZRcBase
import Derived.Laws.DeepNot64
/- record: zigzag, appendCount, appendText, appendGroups. -/
namespace Go.Proofs.YtjldlmonccgopaaGreat.Rc
open Go.RowKit
set_option linter.unusedVariables false
set_option maxRecDepth 100000
set_option linter.unusedSimpArgs false

theorem or1 (u : Nat) (hu : u < 9223372036854775808) : bits .or .u64 ((u : Int) * 2) 1 = ((u * 2 + 1 : Nat) : Int) := by
  rw [show (u : Int) * 2 = ((u * 2 : Nat) : Int) by simp, show (1 : Int) = ((1 : Nat) : Int) by rfl, bits_or_u64_nat _ _ (by omega) (by omega)]
  have := Nat.two_pow_add_eq_or_of_lt (i := 1) (b := 1) (by omega) u
  rw [Nat.mul_comm u 2]
  exact congrArg _ this.symm
theorem not_neg (n : Int) (h1 : -9223372036854775808 ≤ n) (h2 : n < 0) : bits .xor .i64 (-1) n = -n - 1 := by
  show IntKind.i64.wrap ((BitVec.ofInt 64 (-1) ^^^ BitVec.ofInt 64 n).toNat : Int) = _
  have h3 : BitVec.ofInt 64 (-1) = BitVec.allOnes 64 := by decide
  have h4 : (BitVec.ofInt 64 n).toNat = (n + 18446744073709551616).toNat := by
    rw [BitVec.toNat_ofInt]
    congr 1
    simp only [Nat.reducePow]
    omega
  rw [h3, BitVec.allOnes_xor, BitVec.toNat_not, h4]
  simp [IntKind.wrap, IntKind.bits, IntKind.signed]
  omega
theorem or256i (u b : Nat) (hu : u < 256) (hb : b < 256) : bits .or .i64 ((u : Int) * 256) (b : Int) = ((u * 256 + b : Nat) : Int) := by
  show IntKind.i64.wrap ((BitVec.ofInt 64 ((u : Int) * 256) ||| BitVec.ofInt 64 (b : Int)).toNat : Int) = _
  have h : u * 256 ||| b = u * 256 + b := by
    have := Nat.two_pow_add_eq_or_of_lt (i := 8) (b := b) hb u
    rw [Nat.mul_comm u 256]
    exact this.symm
  rw [show (u : Int) * 256 = ((u * 256 : Nat) : Int) by simp, BitVec.toNat_or, ofInt_u64 _ (by omega), ofInt_u64 _ (by omega), h]
  simp [IntKind.wrap, IntKind.bits, IntKind.signed]
  omega
theorem or128 (x : Nat) (hx : x < 256) : bits .or .u8 (x : Int) 128 = ((x % 128 + 128 : Nat) : Int) := by
  rw [show (128 : Int) = ((128 : Nat) : Int) by rfl, u8_or_nat x 128 hx (by omega)]
  have : ∀ x : Fin 256, x.val ||| 128 = x.val % 128 + 128 := by decide
  exact congrArg _ (this ⟨x, hx⟩)
theorem and1 (z : Nat) (hz : z < 18446744073709551616) : bits .and .u64 (z : Int) 1 = ((z % 2 : Nat) : Int) := by
  rw [show (1 : Int) = ((1 : Nat) : Int) by rfl, bits_and_u64_nat _ _ hz (by omega), Nat.and_one_is_mod]
theorem zigzag_any (w : World) (n : Int) (h : I64 n) :
    Calls Tryz.prog 92 #[.int .i64 n] w fun e w' => e = .returned (.int .u64 (zz n : Int)) ∧ w' = w := by
  obtain ⟨h1, h2⟩ := h
  by_cases hn : n < 0
  · obtain ⟨u, hu⟩ : ∃ u : Nat, -n - 1 = u := ⟨(-n - 1).toNat, by omega⟩
    have hz : zz n = u * 2 + 1 := by unfold zz; rw [if_neg (by omega)]; omega
    rw [hz]
    have ho := or1 u (by omega)
    have hx : bits .xor .i64 (-1) n = (u : Int) := by rw [not_neg n h1 hn, hu]
    have hw : IntKind.u64.wrap (u : Int) = u := by simp only [IntKind.wrap, IntKind.signed, IntKind.bits]; simp; omega
    have hw2 : IntKind.u64.wrap ((u : Int) * 2) = (u : Int) * 2 := by simp only [IntKind.wrap, IntKind.signed, IntKind.bits]; simp; omega
    clear hz hu
    go_enter Tryz.func92, Tryz.ntmps92
    go_wp2
    go_ret
    exact ⟨by simp [hx, hw, hw2, ho], rfl⟩
  · obtain ⟨u, rfl⟩ : ∃ u : Nat, n = u := ⟨n.toNat, by omega⟩
    have hz : zz (u : Int) = u * 2 := by unfold zz; rw [if_pos (by omega)]; omega
    rw [hz]
    go_enter Tryz.func92, Tryz.ntmps92
    go_wp2
    go_ret
    exact ⟨by simp, rfl⟩
theorem cnt_succ (n K k : Nat) (h : k < K) : (cnt K n).take (k + 1) = (cnt K n).take k ++ [UInt8.ofNat (n / 256 ^ (K - 1 - k))] := by
  rw [List.take_add_one]
  congr 1
  simp [cnt, h]
set_option maxHeartbeats 1600000 in
theorem appendCount_any (w : World) (B : Nat) (v : Value) (l : Bs) (n K : Nat) (hn : n < 4611686018427387904) (hK : K ≤ 2) (hl : l.length ≤ 100000) (hB : B ≤ w.heap.size) (hown : w.ownsRow B 5 1 v l.length (Lib.byteCells l)) :
    Calls Tryz.prog 90 #[v, .int .i64 (n : Int), .int .i64 (K : Int)] w fun e w' => (∃ v', e = .returned v' ∧ w'.ownsRow B 5 1 v' (l ++ cnt K n).length (Lib.byteCells (l ++ cnt K n))) ∧ Below B w w' := by
  obtain ⟨i0, hi, hz0, hz1, hz2⟩ := info_parts info_u8
  go_enter Tryz.func90, Tryz.ntmps90
  go_wp2
  go_loopw [0, 9] (fun v c wr => ∃ k : Nat, k ≤ K ∧ c = .int .i64 k ∧ wr.ownsRow B 5 1 v (l.length + k) (Lib.byteCells (l ++ (cnt K n).take k)) ∧ Below B w wr) (fun _ c _ => K - (intOf c).toNat)
  case atStart => exact ⟨0, Nat.zero_le _, rfl, by simpa using hown, Below.refl _ _⟩
  case round =>
    obtain ⟨k, hk, rfl, hown1, hb1⟩ := hrel
    clear hown
    have hsz := hb1.size
    by_cases hlt : k < K
    · obtain ⟨q, hq⟩ : ∃ q : Nat, (8 : Int) * ((K : Int) - 1 - k) = q := ⟨8 * (K - 1 - k), by omega⟩
      have HQ := hid (show q = 8 * (K - 1 - k) by omega)
      have hq64 : q < 64 := by omega
      obtain ⟨x, hx⟩ : ∃ x, x = UInt8.ofNat (n / 256 ^ (K - 1 - k)) := ⟨_, rfl⟩
      have HX := hid hx
      have hxn : (x.toNat : Int) = (n : Int) / 2 ^ q % 256 := by
        rw [hx, UInt8.toNat_ofNat', HQ.out, show (2 : Int) ^ (8 * (K - 1 - k)) = ((256 ^ (K - 1 - k) : Nat) : Int) by rw [Int.pow_mul]; simp]
        omega
      have HXN := hid hxn
      clear hx hxn
      go_wp2_with (at_builtin; refine wpList_append_own _ rfl _ _ 102 rfl B 5 i0 (.int .u8 0) 1 1 Tryz.underlying102 hi hz0 hz1 hz2 rfl (by decide) _ _ _ rfl (hown1.alloc _) ⟨wr.heap.size, 0, none⟩ 1 1 [.int .u8 ((n : Int) / 2 ^ q % 256)] rfl rfl (by intro j u hu; match j, hu with | 0, hu => simp at hu; subst hu; simp [Addr.add]) (by intro u hu; simp at hu; subst hu; rfl) (by unfold maxLen; omega) (by omega) (by simp; omega) ?_)
      intro v' w1 hown3 hgrow hnil
      have hb3 : Below B w w1 := (hb1.alloc (by omega) _).grown hgrow (by simp; omega) (fun q hq => (hown1.lt q hq).1)
      have hown4 : w1.ownsRow B 5 1 v' (l.length + (k + 1)) (Lib.byteCells (l ++ (cnt K n).take (k + 1))) := by
        rw [cnt_succ n K k hlt, ← HX.out, ← List.append_assoc, Lib.byteCells_append, show l.length + (k + 1) = l.length + k + 1 by omega]
        rw [← HXN.out] at hown3
        exact hown3
      clear hown3 hgrow hnil hown1 hb1
      go_wp2
      go_roundw
      case rel => exact ⟨k + 1, by omega, by go_num, hown4, hb3⟩
      case measure => simp [intOf]; omega
    · obtain rfl : k = K := by omega
      have e : (cnt k n).take k = cnt k n := by rw [List.take_of_length_le (by rw [cnt_len]; exact Nat.le_refl _)]
      have hown4 : wr.ownsRow B 5 1 u0 (l ++ cnt k n).length (Lib.byteCells (l ++ cnt k n)) := by
        rw [e] at hown1
        rw [List.length_append, cnt_len]; exact hown1
      clear hown1
      obtain ⟨aa, ca, hv⟩ := own_slice hown4
      go_wp2
      go_ret
      exact ⟨⟨_, rfl, hown4⟩, hb1⟩

theorem strCells_of (s : ByteArray) : Lib.strCells s = Lib.byteCells (Bs.of s) := rfl
set_option maxHeartbeats 1600000 in
theorem appendText_any (w : World) (B : Nat) (v : Value) (l : Bs) (s : ByteArray) (K : Nat) (hs : s.size ≤ 100000) (hK : K ≤ 2) (hl : l.length ≤ 100000) (hB : B ≤ w.heap.size) (hown : w.ownsRow B 5 1 v l.length (Lib.byteCells l)) :
    Calls Tryz.prog 89 #[v, .string s, .int .i64 (K : Int)] w fun e w' => (∃ v', e = .returned v' ∧ w'.ownsRow B 5 1 v' (l ++ tx K (Bs.of s)).length (Lib.byteCells (l ++ tx K (Bs.of s)))) ∧ Below B w w' := by
  obtain ⟨i0, hi, hz0, hz1, hz2⟩ := info_parts info_u8
  have hc := appendCount_any w B v l s.size K (by omega) hK hl hB hown
  go_enter Tryz.func89, Tryz.ntmps89
  go_wp2_with fail
  refine hc.mono ?_
  rintro e w1 ⟨⟨v1, rfl, o1⟩, b1⟩
  have hl1 : (l ++ cnt K s.size).length ≤ 100002 := by rw [List.length_append, cnt_len]; omega
  have hsz := b1.size
  go_wp2_with (at_builtin; refine Lib.wpList_append_own_string _ rfl _ _ 102 9 rfl B 5 i0 Tryz.underlying102 Tryz.underlying9 hi hz0 hz1 hz2 _ _ _ rfl o1 s rfl (by unfold maxLen; omega) (by omega) (by omega) ?_)
  intro v2 w2 o2 g2 _
  have b2 : Below B w w2 := b1.grown g2 (by omega) (fun q hq => (o1.lt q hq).1)
  have o3 : w2.ownsRow B 5 1 v2 (l ++ tx K (Bs.of s)).length (Lib.byteCells (l ++ tx K (Bs.of s))) := by
    have e : (l ++ tx K (Bs.of s)).length = List.length l + List.length (cnt K s.size) + s.size := by simp only [tx, List.length_append, of_len]; omega
    rw [e, tx, of_len, ← List.append_assoc, Lib.byteCells_append (l ++ cnt K s.size)]
    exact o2
  clear o2 o1 g2
  obtain ⟨sa, sc, hv⟩ := own_slice o3
  go_wp2
  go_ret
  exact ⟨⟨_, rfl, o3⟩, b2⟩
theorem grp_len_le (k : Nat) : ∀ z, z < 128 ^ k → (grp z).length ≤ max 1 k := by
  induction k with
  | zero => intro z h; rw [grp_lt (by simp at h; omega)]; simp
  | succ k ih =>
    intro z h
    by_cases hz : z < 128
    · rw [grp_lt hz]; simp
    · rw [grp_ge (by omega)]
      have := ih (z / 128) (by rw [Nat.pow_succ] at h; omega)
      rw [List.length_cons]
      have : 1 ≤ k := by
        cases k with
        | zero => simp at h; omega
        | succ k => omega
      omega
theorem grp_len {z : Nat} (h : z < 18446744073709551616) : (grp z).length ≤ 10 := grp_len_le 10 z (by omega)
set_option maxHeartbeats 1600000 in
theorem appendGroups_any (w : World) (B : Nat) (v : Value) (l : Bs) (z : Nat) (hz : z < 18446744073709551616) (hl : l.length ≤ 100000) (hB : B ≤ w.heap.size) (hown : w.ownsRow B 5 1 v l.length (Lib.byteCells l)) :
    Calls Tryz.prog 91 #[v, .int .u64 (z : Int)] w fun e w' => (∃ v', e = .returned v' ∧ w'.ownsRow B 5 1 v' (l ++ grp z).length (Lib.byteCells (l ++ grp z))) ∧ Below B w w' := by
  obtain ⟨i0, hi, hz0, hz1, hz2⟩ := info_parts info_u8
  go_enter Tryz.func91, Tryz.ntmps91
  go_wp2
  go_loopw [0, 1] (fun v c wr => ∃ (m : Bs) (y : Nat), c = .int .u64 (y : Int) ∧ y < 18446744073709551616 ∧ m ++ grp y = l ++ grp z ∧ wr.ownsRow B 5 1 v m.length (Lib.byteCells m) ∧ Below B w wr) (fun _ c _ => (intOf c).toNat)
  case atStart => exact ⟨l, z, rfl, hz, rfl, hown, Below.refl _ _⟩
  case round =>
    obtain ⟨m, y, rfl, hy, hm, hown1, hb1⟩ := hrel
    clear hown
    have hsz := hb1.size
    have hml : m.length ≤ 200000 := by
      have h1 := congrArg List.length hm
      simp only [List.length_append] at h1
      have h2 := grp_len hz
      omega
    have HM := hid hm
    clear hm
    by_cases hlt : 128 ≤ y
    · obtain ⟨x, hx⟩ : ∃ x, x = UInt8.ofNat (y % 128 + 128) := ⟨_, rfl⟩
      have HG := hid (show m ++ [x] ++ grp (y / 128) = l ++ grp z by rw [← HM.out, grp_ge hlt, hx, List.append_assoc]; rfl)
      have hxn : (x.toNat : Int) = ((y % 128 + 128 : Nat) : Int) := by rw [hx, u8n (by omega)]
      have ho := or128 (y % 256) (by omega)
      rw [show y % 256 % 128 + 128 = y % 128 + 128 by omega, ← hxn] at ho
      have hc : (((y % 256 : Nat)) : Int) = (y : Int) % 256 := by simp
      rw [hc] at ho
      clear hx hxn hc
      go_wp2_with (at_builtin; refine wpList_append_own _ rfl _ _ 102 rfl B 5 i0 (.int .u8 0) 1 1 Tryz.underlying102 hi hz0 hz1 hz2 rfl (by decide) _ _ _ rfl (hown1.alloc _) ⟨wr.heap.size, 0, none⟩ 1 1 [.int .u8 (x.toNat : Int)] rfl rfl (by intro j u hu; match j, hu with | 0, hu => simp at hu; subst hu; simp [Addr.add, ho]) (by intro u hu; simp at hu; subst hu; rfl) (by unfold maxLen; omega) (by omega) (by simp; omega) ?_)
      intro v' w1 hown3 hgrow hnil
      have hb3 : Below B w w1 := (hb1.alloc (by omega) _).grown hgrow (by simp; omega) (fun q hq => (hown1.lt q hq).1)
      have hown4 : w1.ownsRow B 5 1 v' (m ++ [x]).length (Lib.byteCells (m ++ [x])) := by
        rw [List.length_append, Lib.byteCells_append]
        exact hown3
      clear hown3 hgrow hnil hown1 hb1
      go_wp2
      go_roundw
      case rel => exact ⟨m ++ [x], y / 128, by go_num, by omega, HG.out, hown4, hb3⟩
      case measure => simp [intOf]; omega
    · obtain ⟨x, hx⟩ : ∃ x, x = UInt8.ofNat y := ⟨_, rfl⟩
      have HG := hid (show m ++ [x] = l ++ grp z by rw [← HM.out, grp_lt (by omega), hx])
      have hxn : (x.toNat : Int) = (y : Int) := by rw [hx, u8n (by omega)]
      have HX := hid hxn
      clear hx hxn
      go_wp2_with (at_builtin; refine wpList_append_own _ rfl _ _ 102 rfl B 5 i0 (.int .u8 0) 1 1 Tryz.underlying102 hi hz0 hz1 hz2 rfl (by decide) _ _ _ rfl (hown1.alloc _) ⟨wr.heap.size, 0, none⟩ 1 1 [.int .u8 (y : Int)] rfl rfl (by intro j u hu; match j, hu with | 0, hu => simp at hu; subst hu; simp [Addr.add]) (by intro u hu; simp at hu; subst hu; rfl) (by unfold maxLen; omega) (by omega) (by simp; omega) ?_)
      intro v' w1 hown3 hgrow hnil
      have hb3 : Below B w w1 := (hb1.alloc (by omega) _).grown hgrow (by simp; omega) (fun q hq => (hown1.lt q hq).1)
      have hown4 : w1.ownsRow B 5 1 v' (l ++ grp z).length (Lib.byteCells (l ++ grp z)) := by
        rw [← HG.out, List.length_append, Lib.byteCells_append]
        rw [← HX.out] at hown3
        exact hown3
      clear hown3 hgrow hnil hown1 hb1
      obtain ⟨sa, sc, hv⟩ := own_slice hown4
      go_wp2
      go_ret
      exact ⟨⟨_, rfl, hown4⟩, hb3⟩
end Go.Proofs.YtjldlmonccgopaaGreat.Rc
/- record: the closure that hands out bytes; takeCount. -/
namespace Go.Proofs.YtjldlmonccgopaaGreat.Rc
open Go.RowKit
set_option linter.unusedVariables false
set_option maxRecDepth 100000
set_option linter.unusedSimpArgs false

/-- In block q lies the text s, in block p how many of its bytes are taken: k. -/
structure Tk (w : World) (p q : Nat) (s : ByteArray) (k : Nat) : Prop where
  pb : w.heap[p]? = some (.cells #[.int .i64 (k : Int)] 3 (0, 0))
  qb : w.heap[q]? = some (.cells #[.string s] 9 (0, 0))
  lt : q < p
  le : k ≤ s.size
  sz : s.size ≤ 1000000
/-- Of what was there only block p may have changed. -/
structure Fr (p : Nat) (w w' : World) : Prop where
  bel : Below p w w'
  oth : ∀ b, b < w.heap.size → b ≠ p → w'.heap[b]? = w.heap[b]?
theorem Fr.refl (p : Nat) (w : World) : Fr p w w := ⟨Below.refl _ _, fun _ _ _ => rfl⟩
theorem Fr.size {p : Nat} {w w' : World} (h : Fr p w w') : w.heap.size ≤ w'.heap.size := h.bel.size
theorem Fr.trans {p : Nat} {u v w : World} (h : Fr p u v) (k : Fr p v w) : Fr p u w := ⟨h.bel.trans k.bel, fun b hb hn => (k.oth b (by have := h.size; omega) hn).trans (h.oth b hb hn)⟩
theorem Fr.of_below {p : Nat} {u w : World} (h : Below u.heap.size u w) (hp : p ≤ u.heap.size) : Fr p u w := ⟨h.mono hp, fun b hb _ => h.block b hb⟩
theorem Fr.alloc {p : Nat} {u w : World} (h : Fr p u w) (hp : p ≤ w.heap.size) (o : Obj) : Fr p u (w.alloc o) := h.trans (Fr.of_below ((Below.refl _ _).alloc (Nat.le_refl _) o) hp)
theorem Fr.set {p k : Nat} {u w : World} (h : Fr p u w) (v : Value) : Fr p u (w.setCell ⟨p, k, none⟩ v) :=
  ⟨h.bel.setCell (p := ⟨p, k, none⟩) (Nat.le_refl _) v, fun i hi hs => (Below.heap_setCell w ⟨p, k, none⟩ v i hs).trans (h.oth i hi hs)⟩
theorem Fr.grown {p : Nat} {u w w' : World} {row : Option Nat} (h : Fr p u w) (hg : w.grownBy w' row) (hp : p < u.heap.size) (hr : ∀ k, row = some k → u.heap.size ≤ k) : Fr p u w' := by
  have hs := h.size
  refine ⟨h.bel.grown hg (by omega) (fun k hk => by have := hr k hk; omega), fun b hb hn => ?_⟩
  refine (hg.block b (by omega) (fun e => ?_)).trans (h.oth b hb hn)
  have := hr b e.symm
  omega
theorem Fr.own {p : Nat} {w w' : World} {base size : Nat} {e : TypeId} {v : Value} {n : Nat} {xs : List Value} (k : Fr p w w') (h : w.ownsRow base e size v n xs) (hp : p < base) : w'.ownsRow base e size v n xs := by
  obtain ⟨h1, h2⟩ := h
  refine ⟨h1, ?_⟩
  rcases h2 with h2 | ⟨g, cap, cur, hv, hb, hh, r⟩
  · exact Or.inl h2
  · exact Or.inr ⟨g, cap, cur, hv, hb, (k.oth g (lt_of_block hh) (by omega)).trans hh, r⟩
theorem Tk.keep {w w' : World} {p q : Nat} {s : ByteArray} {k : Nat} (h : Tk w p q s k) (b : Below w.heap.size w w') : Tk w' p q s k :=
  ⟨(b.block p (lt_of_block h.pb)).trans h.pb, (b.block q (lt_of_block h.qb)).trans h.qb, h.lt, h.le, h.sz⟩
theorem Tk.grown {w w' : World} {p q B : Nat} {s : ByteArray} {k : Nat} {row : Option Nat} (h : Tk w p q s k) (hg : w.grownBy w' row) (hp : p < B) (hr : ∀ k, row = some k → B ≤ k) : Tk w' p q s k := by
  have h1 := lt_of_block h.pb
  have h2 := lt_of_block h.qb
  have h3 := h.lt
  exact ⟨(hg.block p h1 (fun e => by have := hr p e.symm; omega)).trans h.pb, (hg.block q h2 (fun e => by have := hr q e.symm; omega)).trans h.qb, h.lt, h.le, h.sz⟩
theorem Tk.pl {w : World} {p q : Nat} {s : ByteArray} {k : Nat} (h : Tk w p q s k) : p < w.heap.size := lt_of_block h.pb
set_option maxHeartbeats 1000000 in
/-- No more bytes. -/
theorem take_end (w : World) (p q : Nat) (s : ByteArray) (h : Tk w p q s s.size) :
    Calls Tryz.prog 52 #[.pointer (some ⟨p, 0, none⟩), .pointer (some ⟨q, 0, none⟩)] w fun e w' => e = .returned (.tuple #[.int .u8 0, .bool false]) ∧ w' = w := by
  have c0 := cell_at (L := [_]) h.pb 0 _ rfl
  have c1 := cell_at (L := [_]) h.qb 0 _ rfl
  have hs := h.sz
  clear h
  go_enter Tryz.func52, Tryz.ntmps52
  go_wp2
  exact bodyPost_ret (v := .tuple #[.int .u8 0, .bool false]) (by simp [results, Tryz.results52, go_sem]) rfl ⟨rfl, rfl⟩
set_option maxHeartbeats 1000000 in
/-- The next byte. -/
theorem take_next (w : World) (p q : Nat) (s : ByteArray) (k : Nat) (hk : k < s.size) (h : Tk w p q s k) :
    Calls Tryz.prog 52 #[.pointer (some ⟨p, 0, none⟩), .pointer (some ⟨q, 0, none⟩)] w fun e w' => e = .returned (.tuple #[.int .u8 (bt s k : Int), .bool true]) ∧ Tk w' p q s (k + 1) ∧ Fr p w w' := by
  have c0 := cell_at (L := [_]) h.pb 0 _ rfl
  have c1 := cell_at (L := [_]) h.qb 0 _ rfl
  have f0 := free_at (L := [_]) h.pb 0
  have hs := h.sz
  have hne : q ≠ p := by have := h.lt; omega
  have ek := bt_at s k hk
  have hlt : ((k : Int) == (s.size : Int)) = false := beq_eq_false_iff_ne.2 (by omega)
  have HT := hid (show Tk (w.setCell ⟨p, 0, none⟩ (.int .i64 ((k + 1 : Nat) : Int))) p q s (k + 1) from
    ⟨set_at (L := [_]) (k := 0) h.pb, (Below.heap_setCell w ⟨p, 0, none⟩ _ q hne).trans h.qb, h.lt, by omega, h.sz⟩)
  have HF := hid ((Fr.refl p w).set (k := 0) (.int .i64 ((k + 1 : Nat) : Int)))
  have e1 : ((k + 1 : Nat) : Int) = (k : Int) + 1 := by simp
  rw [e1] at HT HF
  clear h e1
  go_enter Tryz.func52, Tryz.ntmps52
  go_wp2
  exact bodyPost_ret (v := .tuple #[.int .u8 (bt s k : Int), .bool true]) (by simp [results, Tryz.results52, go_sem]) rfl ⟨rfl, HT.out, HF.out⟩
/-- The number of the next j bytes, the highest first. -/
def bev (s : ByteArray) (k : Nat) : Nat → Nat
  | 0 => 0
  | j + 1 => bev s k j * 256 + bt s (k + j)
theorem bev_lt (s : ByteArray) (k : Nat) : ∀ j, bev s k j < 256 ^ j
  | 0 => by simp [bev]
  | j + 1 => by
    have h1 := bev_lt s k j
    have h2 := bt_lt s (k + j)
    rw [bev, Nat.pow_succ]; omega
set_option maxHeartbeats 2000000 in
theorem takeCount_any (w : World) (p q : Nat) (s : ByteArray) (k K most : Nat) (hK : K ≤ 2) (hm : most ≤ 1000000) (h : Tk w p q s k) :
    Calls Tryz.prog 86 #[.func (.func 52) #[] #[.pointer (some ⟨p, 0, none⟩), .pointer (some ⟨q, 0, none⟩)], .int .i64 (K : Int), .int .i64 (most : Int)] w fun e w' => Fr p w w' ∧
      ((k + K ≤ s.size ∧ e = .returned (.tuple #[.int .i64 (bev s k K : Int), .bool (decide (bev s k K ≤ most))]) ∧ Tk w' p q s (k + K)) ∨ (s.size < k + K ∧ e = .returned (.tuple #[.int .i64 0, .bool false]) ∧ Tk w' p q s s.size)) := by
  have hsz := h.sz
  go_enter Tryz.func86, Tryz.ntmps86
  go_wp2
  go_loopw [8, 12] (fun n c wr => ∃ j : Nat, j ≤ K ∧ c = .int .i64 j ∧ n = .int .i64 (bev s k j : Int) ∧ Tk wr p q s (k + j) ∧ Fr p w wr) (fun _ c _ => K - (intOf c).toNat)
  case atStart => exact ⟨0, Nat.zero_le _, rfl, rfl, h, Fr.refl _ _⟩
  case round =>
    obtain ⟨j, hj, rfl, rfl, hT, hF⟩ := hrel
    clear h
    by_cases hlt : j < K
    · by_cases hk : k + j < s.size
      · have hu : bev s k j < 256 := Nat.lt_of_lt_of_le (bev_lt s k j) (Nat.pow_le_pow_right (n := 256) (by omega) (show j ≤ 1 by omega))
        have hb := bt_lt s (k + j)
        have HE := hid (show bev s k (j + 1) = bev s k j * 256 + bt s (k + j) from rfl)
        have ho := or256i _ _ hu hb
        have ht := take_next wr p q s (k + j) hk hT
        generalize bev s k j = u at *
        generalize bt s (k + j) = y at *
        go_wp2_with fail
        refine ht.mono ?_
        rintro e w1 ⟨rfl, hT1, hF1⟩
        have hF2 := hF.trans hF1
        clear hT hF ht hF1
        go_wp2
        go_roundw
        case rel => exact ⟨j + 1, by omega, by go_num, by simp [HE.out, ho], hT1, hF2⟩
        case measure => simp [intOf]; omega
      · have hk' : k + j = s.size := by have := hT.le; omega
        rw [hk'] at hT
        have ht := take_end wr p q s hT
        clear hk'
        go_wp2_with fail
        refine ht.mono ?_
        rintro e w1 ⟨rfl, rfl⟩
        go_wp2
        exact bodyPost_ret (v := .tuple #[.int .i64 0, .bool false]) (by simp [results, Tryz.results86, go_sem]) rfl ⟨hF, Or.inr ⟨by omega, rfl, hT⟩⟩
    · obtain rfl : j = K := by omega
      have hl := hT.le
      have hu := bev_lt s k j
      have hu2 : bev s k j < 65536 := Nat.lt_of_lt_of_le hu (Nat.pow_le_pow_right (n := 256) (by omega) hK)
      clear hu
      go_wp2
      exact bodyPost_ret (v := .tuple #[.int .i64 (bev s k j : Int), .bool (decide (bev s k j ≤ most))]) (by simp [results, Tryz.results86, go_sem]) rfl ⟨hF, Or.inl ⟨hl, rfl, hT⟩⟩
end Go.Proofs.YtjldlmonccgopaaGreat.Rc
