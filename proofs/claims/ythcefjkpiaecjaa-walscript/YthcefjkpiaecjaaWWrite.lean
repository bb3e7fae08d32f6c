/- wal: write. -/
import Derived.Test.YthcefjkpiaecjaaWIter
namespace Go.Proofs.Ythcefjkpiaecjaa
open Go.RowKit Go.Shelf
attribute [local go_sem] Oper.semAt_some
set_option linter.unusedVariables false
set_option maxRecDepth 100000
set_option linter.unusedSimpArgs false

/-- Sectors that are written one behind the other, till one fails. -/
def wrs (D : Dsk) : List (Nat × ByteArray) → Dsk × Int
  | [] => (D, 0)
  | x :: xs => if (D.write x.1 x.2).2 = 0 then wrs (D.write x.1 x.2).1 xs else D.write x.1 x.2
theorem wrs_app : ∀ (xs ys : List (Nat × ByteArray)) (D : Dsk), wrs D (xs ++ ys) = if (wrs D xs).2 = 0 then wrs (wrs D xs).1 ys else wrs D xs
  | [], ys, D => by simp [wrs]
  | x :: xs, ys, D => by
    simp only [List.cons_append, wrs]
    by_cases h : (D.write x.1 x.2).2 = 0
    · simp only [if_pos h]; exact wrs_app xs ys _
    · simp only [if_neg h]
theorem wrs_one (D Dp : Dsk) (pre : List (Nat × ByteArray)) (x : Nat × ByteArray) (h : wrs D pre = (Dp, 0)) : wrs D (pre ++ [x]) = Dp.write x.1 x.2 := by
  rw [wrs_app, h]
  simp only [if_pos, wrs]
  by_cases h2 : (Dp.write x.1 x.2).2 = 0
  · rw [if_pos h2]; exact Prod.ext rfl h2.symm
  · rw [if_neg h2]
theorem wrs_stop (D Dp : Dsk) (e : Int) (pre xs : List (Nat × ByteArray)) (h : wrs D pre = (Dp, e)) (he : e ≠ 0) (hp : pre <+: xs) : wrs D xs = (Dp, e) := by
  obtain ⟨r, rfl⟩ := hp
  rw [wrs_app, h]
  exact if_neg he
theorem wrs_ops : ∀ (xs : List (Nat × ByteArray)) (D : Dsk), (wrs D xs).1.ops ≤ D.ops + xs.length
  | [], D => by simp [wrs]
  | x :: xs, D => by
    have h1 := D.write_ops x.1 x.2
    simp only [wrs, List.length_cons]
    by_cases h : (D.write x.1 x.2).2 = 0
    · rw [if_pos h]; have := wrs_ops xs (D.write x.1 x.2).1; omega
    · rw [if_neg h]; omega
/-- What lies behind: the disk D' in block b; only blocks of S have changed. -/
def DS (S : Nat → Prop) (B b : Nat) (sl : Value) (D' : Dsk) (w w' : World) : Prop := ∃ sl', DiskAt w' b D' sl' ∧ (∀ g, sl'.ownBlock = some g → sl.ownBlock = some g ∨ w.heap.size ≤ g) ∧ Kf S B w w'
theorem ownsRow_same {w w' : World} {base : Nat} {e : TypeId} {size : Nat} {v : Value} {n : Nat} {xs : List Value} (h : w.ownsRow base e size v n xs) (hs : ∀ g, v.ownBlock = some g → w'.heap[g]? = w.heap[g]?) : w'.ownsRow base e size v n xs := by
  obtain ⟨h1, h2⟩ := h
  refine ⟨h1, ?_⟩
  rcases h2 with h2 | ⟨g, cap, cur, hv, hg, hh, r⟩
  · exact Or.inl h2
  · exact Or.inr ⟨g, cap, cur, hv, hg, by rw [hs g (by rw [hv]; rfl)]; exact hh, r⟩
theorem DiskAt.same {w w' : World} {b : Nat} {D : Dsk} {sl : Value} (h : DiskAt w b D sl) (hs : ∀ g, g = b ∨ sl.ownBlock = some g → w'.heap[g]? = w.heap[g]?) : DiskAt w' b D sl :=
  ⟨(hs b (Or.inl rfl)).trans h.blk, ownsRow_same h.own (fun g hg => hs g (Or.inr hg)), h.good⟩
theorem DS.grown {S : Nat → Prop} {B b : Nat} {sl : Value} {D' : Dsk} {w W W' : World} {row : Option Nat} (h : DS S B b sl D' w W) (hB : B ≤ w.heap.size) (hg : W.grownBy W' row) (hr : ∀ r, row = some r → w.heap.size ≤ r ∧ ∃ o : Obj, W.heap[r]? = some o ∧ o.isCells = false) : DS S B b sl D' w W' := by
  obtain ⟨sl', h1, h2, h3⟩ := h
  refine ⟨sl', h1.same fun g hgb => ?_, h2, h3.grown hg (Nat.le_trans hB h3.size) (fun k e => Nat.le_trans hB (hr k e).1) (fun k e => Or.inr (hr k e).1)⟩
  have hc : ∃ c t fz, W.heap[g]? = some (.cells c t fz) := by
    rcases hgb with rfl | hgb
    · exact ⟨_, _, _, h1.blk⟩
    · obtain ⟨c, fz, hc⟩ := own_kind h1.own g hgb
      exact ⟨_, _, _, hc⟩
  obtain ⟨c, t, fz, hc⟩ := hc
  refine hg.block g (lt_of_block hc) (fun e => ?_)
  obtain ⟨_, o, ho, hn⟩ := hr g e.symm
  rw [hc] at ho
  cases ho
  cases hn
theorem DS.keeps {S : Nat → Prop} {B b : Nat} {sl : Value} {D D' : Dsk} {w w' : World} (h : DS S B b sl D' w w') (hS : ∀ k, S k → ∃ c t fz, w.heap[k]? = some (.cells c t fz)) (B' : Nat) : KeepsFrom B' w w' := by
  obtain ⟨sl', h1, h2, h3⟩ := h
  refine ⟨h3.size, fun k o _ hk ho => (h3.oth k (lt_of_block hk) (fun e => ?_)).trans hk⟩
  obtain ⟨c, t, fz, hc⟩ := hS k e
  rw [hc] at hk
  cases hk
  cases ho
theorem Sd_cells {w : World} {b : Nat} {D : Dsk} {sl : Value} (h : DiskAt w b D sl) : ∀ k, Sd b sl k → ∃ c t fz, w.heap[k]? = some (.cells c t fz) := by
  intro k e
  rcases e with rfl | e
  · exact ⟨_, _, _, h.blk⟩
  · obtain ⟨c, fz, hc⟩ := own_kind h.own k e
    exact ⟨_, _, _, hc⟩
theorem Kf.weak {S S' : Nat → Prop} {B : Nat} {u w : World} (h : Kf S B u w) (hs : ∀ k, k < u.heap.size → S k → S' k) : Kf S' B u w := ⟨h.bel, fun k hk hn => h.oth k hk (fun e => hn (hs k hk e))⟩
/-- Two calls. -/
theorem DS.step {S : Nat → Prop} {B b : Nat} {sl sl1 : Value} {D2 : Dsk} {w w1 w2 : World} (h2 : ∀ g, sl1.ownBlock = some g → sl.ownBlock = some g ∨ w.heap.size ≤ g) (h3 : Kf S B w w1) (hS : ∀ k, Sd b sl k → S k) (k : DNext B b sl1 D2 w1 w2) : DS S B b sl D2 w w2 := by
  obtain ⟨sl2, k1, k2, k3⟩ := k
  refine ⟨sl2, k1, fun g hg => ?_, h3.bel.trans k3.bel, fun i hi hn => (k3.oth i (by have := h3.size; omega) (fun e => ?_)).trans (h3.oth i hi hn)⟩
  · rcases k2 g hg with e | e
    · exact h2 g e
    · right; have := h3.size; omega
  · rcases e with rfl | e
    · exact hn (hS _ (Or.inl rfl))
    · rcases h2 i e with e | e
      · exact hn (hS _ (Or.inr e))
      · omega
/-- A store elsewhere. -/
theorem DS.set {S S' : Nat → Prop} {B b : Nat} {sl : Value} {D2 : Dsk} {w w2 : World} (h : DS S B b sl D2 w w2) (q : Nat) (hS : ∀ k, S k → S' k) (hq : S' q) (hB : B ≤ q) (hqb : q ≠ b) (hql : q < w.heap.size) (hqs : sl.ownBlock ≠ some q) (n : Nat) (v : Value) : DS S' B b sl D2 w (w2.setCell ⟨q, n, none⟩ v) := by
  obtain ⟨sl2, h1, h2, h3⟩ := h
  refine ⟨sl2, h1.same fun g hg => Below.heap_setCell w2 ⟨q, n, none⟩ v g (fun e => ?_), h2, (h3.weak (fun k _ hk => hS k hk)).set hq hB v⟩
  have e' : g = q := e
  rcases hg with hg | hg
  · exact hqb (by rw [← e', hg])
  · rcases h2 g hg with h | h
    · exact hqs (by rw [← e']; exact h)
    · omega
theorem DS.up {S : Nat → Prop} {B b : Nat} {sl : Value} {D2 : Dsk} {w w1 w2 : World} (h : DS S B b sl D2 w1 w2) (b1 : Below w.heap.size w w1) (hB : B ≤ w.heap.size) (hS : ∀ k, k < w.heap.size → S k → Sd b sl k) : DNext B b sl D2 w w2 := by
  obtain ⟨sl2, h1, h2, h3⟩ := h
  have hs := b1.size
  refine ⟨sl2, h1, fun g hg => ?_, (b1.mono hB).trans h3.bel, fun k hk hn => (h3.oth k (by omega) (fun e => hn (hS k hk e))).trans (b1.block k hk)⟩
  rcases h2 g hg with e | e
  · exact Or.inl e
  · right; omega
/-- A commit behind its data. -/
def Dsk.lay (D : Dsk) (xs : List (Nat × ByteArray)) (i : Nat) (t : ByteArray) : Dsk × Int :=
  if (wrs D xs).2 ≠ 0 then wrs D xs else if (wrs D xs).1.sync.2 ≠ 0 then (wrs D xs).1.sync else if ((wrs D xs).1.sync.1.write i t).2 ≠ 0 then (wrs D xs).1.sync.1.write i t else ((wrs D xs).1.sync.1.write i t).1.sync
set_option maxHeartbeats 4000000 in
theorem write_log (w : World) (B l b : Nat) (D : Dsk) (sl : Value) (c c0 next : Com) (tl tail s : ByteArray) (er : Int) (hf : c.Fit) (hn : next.Fit) (hs : s.size ≤ 32512) (ht : tail.size ≤ 32512) (ho : D.ops + 1000 < 4611686018427387904) (hB : B ≤ b) (hd : DiskAt w b D sl) (hl : LogAt w l b c0 tl er) :
    Calls Try.prog 50 #[.pointer (some ⟨l, 0, none⟩), cv c, cv next, .string tail, .string s] w fun e w' => e = .returned (.int .i64 (D.lay (chg c tail s) (next.num % 2) (comT next)).2) ∧ DNext B b sl (D.lay (chg c tail s) (next.num % 2) (comT next)).1 w w' := by
  refine (callsIn_wide (n := 3)).1 ?_
  unfold cv
  refine callsIn_of_wp_marks Try.func50 rfl trivial ?_ rfl
  simp only [Try.ntmps50, List.size_toArray, List.length_cons, List.length_nil, Nat.reduceAdd, Nat.reduceSub, Array.replicate_succ, Array.replicate_zero, List.push_toArray, List.append_toArray, List.nil_append, List.cons_append]
  have b0 : Below w.heap.size w ((((w.alloc (Obj.cells #[Value.pointer (some ⟨l, 0, none⟩)] 28)).alloc (Obj.cells #[.int .u64 (c.num : Int), .int .i64 (c.area : Int), .int .i64 (c.len : Int), .int .u32 c.sum] 62)).alloc (Obj.cells #[.int .u64 (next.num : Int), .int .i64 (next.area : Int), .int .i64 (next.len : Int), .int .u32 next.sum] 62)).alloc (Obj.cells #[.int .i64 0] 29)) :=
    ((((Below.refl w.heap.size w).alloc (Nat.le_refl _) _).alloc (by simp) _).alloc (by simp; omega) _).alloc (by simp; omega) _
  have cp : ((((w.alloc (Obj.cells #[Value.pointer (some ⟨l, 0, none⟩)] 28)).alloc (Obj.cells #[.int .u64 (c.num : Int), .int .i64 (c.area : Int), .int .i64 (c.len : Int), .int .u32 c.sum] 62)).alloc (Obj.cells #[.int .u64 (next.num : Int), .int .i64 (next.area : Int), .int .i64 (next.len : Int), .int .u32 next.sum] 62)).alloc (Obj.cells #[.int .i64 0] 29)).heap[w.heap.size]? = some (Obj.cells #[Value.pointer (some ⟨l, 0, none⟩)] 28 (0, 0)) :=
    ((Below.heap_alloc _ _ _ (by simp; omega)).trans ((Below.heap_alloc _ _ _ (by simp; omega)).trans (Below.heap_alloc _ _ _ (by simp)))).trans (heap_alloc_last w _)
  have cn : ((((w.alloc (Obj.cells #[Value.pointer (some ⟨l, 0, none⟩)] 28)).alloc (Obj.cells #[.int .u64 (c.num : Int), .int .i64 (c.area : Int), .int .i64 (c.len : Int), .int .u32 c.sum] 62)).alloc (Obj.cells #[.int .u64 (next.num : Int), .int .i64 (next.area : Int), .int .i64 (next.len : Int), .int .u32 next.sum] 62)).alloc (Obj.cells #[.int .i64 0] 29)).heap[w.heap.size + 1 + 1]? = some (Obj.cells #[.int .u64 (next.num : Int), .int .i64 (next.area : Int), .int .i64 (next.len : Int), .int .u32 next.sum] 62 (0, 0)) := by
    have := (Below.heap_alloc (((w.alloc (Obj.cells #[Value.pointer (some ⟨l, 0, none⟩)] 28)).alloc (Obj.cells #[.int .u64 (c.num : Int), .int .i64 (c.area : Int), .int .i64 (c.len : Int), .int .u32 c.sum] 62)).alloc (Obj.cells #[.int .u64 (next.num : Int), .int .i64 (next.area : Int), .int .i64 (next.len : Int), .int .u32 next.sum] 62)) (Obj.cells #[.int .i64 0] 29) (w.heap.size + 1 + 1) (by simp)).trans (show _ = some (Obj.cells #[.int .u64 (next.num : Int), .int .i64 (next.area : Int), .int .i64 (next.len : Int), .int .u32 next.sum] 62 (0, 0)) by have := heap_alloc_last ((w.alloc (Obj.cells #[Value.pointer (some ⟨l, 0, none⟩)] 28)).alloc (Obj.cells #[.int .u64 (c.num : Int), .int .i64 (c.area : Int), .int .i64 (c.len : Int), .int .u32 c.sum] 62)) (Obj.cells #[.int .u64 (next.num : Int), .int .i64 (next.area : Int), .int .i64 (next.len : Int), .int .u32 next.sum] 62); rwa [World.size_alloc, World.size_alloc] at this)
    exact this
  have cr : ((((w.alloc (Obj.cells #[Value.pointer (some ⟨l, 0, none⟩)] 28)).alloc (Obj.cells #[.int .u64 (c.num : Int), .int .i64 (c.area : Int), .int .i64 (c.len : Int), .int .u32 c.sum] 62)).alloc (Obj.cells #[.int .u64 (next.num : Int), .int .i64 (next.area : Int), .int .i64 (next.len : Int), .int .u32 next.sum] 62)).alloc (Obj.cells #[.int .i64 0] 29)).heap[w.heap.size + 1 + 1 + 1]? = some (Obj.cells #[.int .i64 0] 29 (0, 0)) := by
    have := heap_alloc_last (((w.alloc (Obj.cells #[Value.pointer (some ⟨l, 0, none⟩)] 28)).alloc (Obj.cells #[.int .u64 (c.num : Int), .int .i64 (c.area : Int), .int .i64 (c.len : Int), .int .u32 c.sum] 62)).alloc (Obj.cells #[.int .u64 (next.num : Int), .int .i64 (next.area : Int), .int .i64 (next.len : Int), .int .u32 next.sum] 62)) (Obj.cells #[.int .i64 0] 29)
    rwa [World.size_alloc, World.size_alloc, World.size_alloc] at this
  gi_wp2
  generalize ((((w.alloc (Obj.cells #[Value.pointer (some ⟨l, 0, none⟩)] 28)).alloc (Obj.cells #[.int .u64 (c.num : Int), .int .i64 (c.area : Int), .int .i64 (c.len : Int), .int .u32 c.sum] 62)).alloc (Obj.cells #[.int .u64 (next.num : Int), .int .i64 (next.area : Int), .int .i64 (next.len : Int), .int .u32 next.sum] 62)).alloc (Obj.cells #[.int .i64 0] 29)) = W0 at *
  have hW0 : w.heap.size + 4 ≤ W0.heap.size := lt_of_block cr
  refine ⟨trivial, ?_⟩
  refine (callsIn_wide.2 (changed_any W0 c tail s)).mono ?_
  rintro e w1 ⟨rfl, k1, k2, k3, k4, b1⟩
  have d1 := (hd.below b0).below b1
  have l1 := (hl.below b0 (lt_of_block hl.blk)).below b1 (Nat.lt_of_lt_of_le (lt_of_block hl.blk) b0.size)
  have cp1 := (b1.block _ (by omega)).trans cp
  have cn1 := Box4.of ((b1.block _ (by omega)).trans cn)
  have cr1 := (b1.block _ (by omega)).trans cr
  have B1 := b0.trans (b1.mono b0.size)
  clear cp cn cr
  gi_wp2
  have hxs : (chg c tail s).length ≤ 300 := by
    unfold chg
    split
    · simp
    · rw [pcs_len]; unfold nP; rw [ByteArray.size_append]; omega
  have hbN : b < w1.heap.size := lt_of_block d1.blk
  have hB1 : B ≤ w1.heap.size := by omega
  have hlN : l < w.heap.size := lt_of_block hl.blk
  have hlb : l ≠ b := fun e => by
    have h1 := l1.blk
    rw [e, d1.blk] at h1
    simp at h1
  have hlS : ¬ Sd b sl l := fun e => by
    rcases e with e | e
    · exact hlb e
    · obtain ⟨c', fz, hc'⟩ := own_kind d1.own l e
      rw [l1.blk] at hc'
      simp at hc'
  have hbw : b < w.heap.size := lt_of_block hd.blk
  have hNS : ∀ k, w.heap.size ≤ k → ¬ Sd b sl k := fun k hk e => by
    rcases e with e | e
    · omega
    · have := (hd.own.lt k e).2; omega
  have hfacts : ∀ S : Nat → Prop, (∀ k, k ≤ w.heap.size + 2 → S k → Sd b sl k) → ∀ W, Kf S B w1 W → W.cell? ⟨w.heap.size, 0, none⟩ = some (.pointer (some ⟨l, 0, none⟩)) ∧ W.cell? ⟨l, 0, none⟩ = some (.pointer (some ⟨b, 0, none⟩)) ∧ W.heap[w.heap.size + 1 + 1]? = some (.cells #[.int .u64 (next.num : Int), .int .i64 (next.area : Int), .int .i64 (next.len : Int), .int .u32 next.sum] 62 (0, 0)) := fun S hS W k =>
    ⟨cell_at (L := [_]) ((k.oth _ (lt_of_block cp1) (fun e => hNS _ (Nat.le_refl _) (hS _ (by omega) e))).trans cp1) 0 _ rfl, cell_at (L := [_, _, _, _, _, _, _]) ((k.oth _ (lt_of_block l1.blk) (fun e => hlS (hS _ (by omega) e))).trans l1.blk) 0 _ rfl, (k.oth _ (lt_of_block cn1.blk) (fun e => hNS _ (by omega) (hS _ (by omega) e))).trans cn1.blk⟩
  have HF := hid hfacts
  have HCR := hid (show ∀ W, Kf (Sd b sl) B w1 W → W.heap[w.heap.size + 1 + 1 + 1]? = some (Obj.cells #[.int .i64 0] 29 (0, 0)) from fun W k => (k.oth _ (lt_of_block cr1) (hNS _ (by omega))).trans cr1)
  clear hfacts
  refine wpIn_rangeFunc_ownG rfl (by omega) (gf := 72) (lb := #[.pointer (some ⟨W0.heap.size + 2, 0, none⟩), .pointer (some ⟨W0.heap.size, 0, none⟩), .pointer (some ⟨W0.heap.size + 1, 0, none⟩)]) rfl trivial (enters_of Try.func72 (by kernel_rfl) rfl)
    (changed1_stops 2 w1 _ _ _ c tail s hf (by omega) (by omega) k1 k2 k3) (fun _ _ => trivial) (fun _ _ _ _ _ _ _ _ => trivial) (Below.refl _ _) (fun _ => rfl)
    (fun pre W => ∃ Dp, wrs D pre = (Dp, 0) ∧ DS (Sd b sl) B b sl Dp w1 W)
    (fun cd pre W => cd = .ret ∧ ∃ Dp e, e ≠ 0 ∧ wrs D pre = (Dp, e) ∧ DS (fun k => Sd b sl k ∨ k = w.heap.size + 1 + 1 + 1) B b sl Dp w1 W ∧ W.cell? ⟨w.heap.size + 1 + 1 + 1, 0, none⟩ = some (.int .i64 e))
    (fun pre A A' row ⟨Dp, h1, h2⟩ hg hr => ⟨Dp, h1, h2.grown hB1 hg hr⟩)
    (fun cd pre A A' row ⟨h0, Dp, e, h1, h2, h3, h4⟩ hg hr => ⟨h0, Dp, e, h1, h2, h3.grown hB1 hg hr, cell_kept h4 hg (fun r e => (hr r e).2)⟩)
    ⟨D, rfl, sl, d1, fun g hg => Or.inl hg, Kf.refl _ _ _⟩
    (fun x => { tmps := #[Value.pointer (some ⟨l, 0, none⟩), Value.agg #[.int .u64 (c.num : Int), .int .i64 (c.area : Int), .int .i64 (c.len : Int), .int .u32 c.sum], Value.agg #[.int .u64 (next.num : Int), .int .i64 (next.area : Int), .int .i64 (next.len : Int), .int .u32 next.sum], .string tail, .string s, .pointer (some ⟨w.heap.size, 0, none⟩), .pointer (some ⟨w.heap.size + 1, 0, none⟩), .pointer (some ⟨w.heap.size + 1 + 1, 0, none⟩), undef, undef, .pointer (some ⟨w.heap.size + 1 + 1 + 1, 0, none⟩), .int .i64 (x.1 : Int), .string x.2, undef, undef, undef, Value.agg #[.int .u64 (c.num : Int), .int .i64 (c.area : Int), .int .i64 (c.len : Int), .int .u32 c.sum], .string tail, .string s, .func (.func 72) #[] #[.pointer (some ⟨W0.heap.size + 2, 0, none⟩), .pointer (some ⟨W0.heap.size, 0, none⟩), .pointer (some ⟨W0.heap.size + 1, 0, none⟩)], .int .i64 (x.1 : Int), .string x.2, undef, undef, undef, undef, undef, undef, undef, undef, undef, undef, undef, undef, undef, undef, undef, undef, undef, undef, undef, undef, undef, undef, undef, undef, undef, undef, undef, undef, undef, undef, undef, undef, undef, undef, undef], defers := [] }) ?assign ?body ?done ?stop
  case assign =>
    intro l x W K hK
    dsimp only [encs]
    gi_wp2
    exact hK
  case body =>
    rintro lp pre x W ⟨Dp, hp, hDS⟩ hlen
    obtain ⟨sl', e1, e2, e3⟩ := hDS
    obtain ⟨f1, f2, _⟩ := HF.out _ (fun _ _ h => h) W e3
    have f3 := HCR.out W e3
    have f4 := cell_at (L := [_]) f3 0 _ rfl
    have f5 := free_at (L := [_]) f3
    have hops : Dp.ops < 4611686018427387904 := by have := wrs_ops pre D; rw [hp] at this; simp only at this; omega
    have hw1 := wrs_one D Dp pre x hp
    have HW := hid hw1
    clear hw1 hlen
    gi_wp2
    refine ⟨trivial, ?_⟩
    refine (CallsIn.inRound lp (callsIn_wide.2 (write_at W B b Dp sl' x.1 x.2 hops hB e1))).mono ?_
    rintro e W2 ⟨rfl, hN⟩
    have kp := DS.keeps (D := Dp) hN (Sd_cells e1) w1.heap.size
    have hD2 := DS.step e2 e3 (fun _ h => h) hN
    have f6 := HCR.out W2 (by obtain ⟨_, _, _, k⟩ := hD2; exact k)
    have f7 := cell_at (L := [_]) f6 0 _ rfl
    have f8 := free_at (L := [_]) f6
    obtain ⟨er1, her⟩ : ∃ er1, (Dp.write x.1 x.2).2 = er1 := ⟨_, rfl⟩
    rw [her]
    by_cases h0 : er1 = 0
    · have h0' : (er1 != 0) = false := by simp [h0]
      have HE := hid (her.trans h0)
      clear her
      subst h0
      gi_wp2
      exact ⟨kp, trivial, _, (HW.out.trans (Prod.ext rfl HE.out)), hD2⟩
    · have h0' : (er1 == 0) = false := beq_eq_false_iff_ne.2 h0
      have HE := hid (And.intro her h0)
      clear her
      have hD3 := hD2.set (S' := fun k => Sd b sl k ∨ k = w.heap.size + 1 + 1 + 1) (w.heap.size + 1 + 1 + 1) (fun k h => Or.inl h) (Or.inr rfl) (by omega) (by omega) (by omega) (fun e => hNS _ (by omega) (Or.inr e)) 0 (.int .i64 er1)
      have kp2 := kp.trans ((KeepsOthers.setCell W2 ⟨w.heap.size + 1 + 1 + 1, 0, none⟩ (.int .i64 er1)).from w1.heap.size)
      have f9 := cell_at (L := [_]) (set_at (L := [_]) (k := 0) (v := .int .i64 er1) f6) 0 _ rfl
      gi_wp2
      exact ⟨kp2, rfl, _, er1, HE.out.2, (HW.out.trans (Prod.ext rfl HE.out.1)), hD3, f9⟩
  case done =>
    rintro Db xs W hD rfl ⟨Dp, hp, hDS⟩ hK
    have hlay : D.lay (chg c tail s) (next.num % 2) (comT next) = if Dp.sync.2 ≠ 0 then Dp.sync else if (Dp.sync.1.write ((next.num % 2 : Nat) : Int) (comT next)).2 ≠ 0 then Dp.sync.1.write ((next.num % 2 : Nat) : Int) (comT next) else (Dp.sync.1.write ((next.num % 2 : Nat) : Int) (comT next)).1.sync := by
      unfold Dsk.lay
      rw [hp]
      exact if_neg (by simp)
    have hops : Dp.ops + 500 < 4611686018427387904 := by have := wrs_ops (chg c tail s) D; rw [hp] at this; simp only at this; omega
    have HLay := hid hlay
    clear hlay hp
    have fin : ∀ (D2 : Dsk) (e : Int) (W2 : World), DS (Sd b sl) B b sl D2 w1 W2 → W2.heap[Db]? = some (.deferred (some [])) → True := fun _ _ _ _ _ => trivial
    obtain ⟨sl', e1, e2, e3⟩ := hDS
    obtain ⟨f1, f2, f3⟩ := HF.out _ (fun _ _ h => h) W e3
    gi_wp2
    refine ⟨trivial, ?_⟩
    refine (callsIn_wide.2 (sync_at W B b Dp sl' (by omega) hB e1)).mono ?_
    rintro e W2 ⟨rfl, hN⟩
    have kp := DS.keeps (D := Dp) hN (Sd_cells e1) w1.heap.size
    have hD2 := DS.step e2 e3 (fun _ h => h) hN
    have hK2 := kp.same Db _ hD hK rfl
    clear f1 f2 f3 e1 e2 e3 hK kp hN
    obtain ⟨er1, her⟩ : ∃ er1, Dp.sync.2 = er1 := ⟨_, rfl⟩
    rw [her]
    have f6 := HCR.out W2 (by obtain ⟨_, _, _, k⟩ := hD2; exact k)
    have f7 := cell_at (L := [_]) f6 0 _ rfl
    have f8 := free_at (L := [_]) f6
    by_cases h0 : er1 = 0
    · have h0' : (er1 != 0) = false := by simp [h0]
      have HE := hid (her.trans h0)
      clear her
      subst h0
      obtain ⟨sl2, e1, e2, e3⟩ := hD2
      obtain ⟨f1, f2, f3⟩ := HF.out _ (fun _ _ h => h) W2 e3
      have hops2 : Dp.sync.1.ops + 400 < 4611686018427387904 := by have := Dp.sync_ops; omega
      have q3 := Box4.of f3
      obtain ⟨_, n0, n1, n2, n3, _⟩ := q3
      have hsz2 : w.heap.size < W2.heap.size := World.block_lt_of_cell? _ _ f1
      have hsz3 : l < W2.heap.size := by omega
      have hsz4 : w.heap.size + 1 + 1 < W2.heap.size := World.block_lt_of_cell? _ _ n0
      have hS6 : ∀ X, Below W2.heap.size W2 X → X.cell? ⟨w.heap.size, 0, none⟩ = some (.pointer (some ⟨l, 0, none⟩)) ∧ X.cell? ⟨l, 0, none⟩ = some (.pointer (some ⟨b, 0, none⟩)) ∧ X.cell? ⟨w.heap.size + 1 + 1, 0, none⟩ = some (.int .u64 (next.num : Int)) ∧ X.cell? ⟨w.heap.size + 1 + 1, 1, none⟩ = some (.int .i64 (next.area : Int)) ∧ X.cell? ⟨w.heap.size + 1 + 1, 2, none⟩ = some (.int .i64 (next.len : Int)) ∧ X.cell? ⟨w.heap.size + 1 + 1, 3, none⟩ = some (.int .u32 next.sum) := fun X h =>
        ⟨(h.cell hsz2).trans f1, (h.cell hsz3).trans f2, (h.cell hsz4).trans n0, (h.cell hsz4).trans n1, (h.cell hsz4).trans n2, (h.cell hsz4).trans n3⟩
      have HS6 := hid hS6
      have C0 : Below W2.heap.size W2 W2.drew := (Below.refl _ _).drew
      obtain ⟨pz, hpz⟩ : ∃ pz, pz = next.num % 2 := ⟨_, rfl⟩
      obtain ⟨ct, hct⟩ : ∃ ct, ct = comT next := ⟨_, rfl⟩
      have hsec := fun v => sector_com v next hn
      have htxt := fun v => text_com v next hn
      rw [← hpz] at hsec HLay
      rw [← hct] at htxt HLay
      unfold cv at hsec htxt
      have HPZ := hid (And.intro hpz hct)
      clear hpz hct
      have hstep : ∀ (X X3 : World), Below W2.heap.size W2 X → DNext B b sl2 (Dp.sync.1.write (pz : Int) ct).1 X X3 → DS (Sd b sl) B b sl (Dp.sync.1.write (pz : Int) ct).1 w1 X3 ∧ KeepsFrom w1.heap.size W2 X3 := fun X X3 hb hN =>
        ⟨DS.step e2 (e3.below (Nat.le_trans hB1 e3.size) hb) (fun _ h => h) hN, (KeepsFrom.mk hb.size (fun k o _ hk ho => (hb.block k (lt_of_block hk)).trans hk)).trans (DS.keeps (D := Dp) hN (Sd_cells (e1.below hb)) w1.heap.size)⟩
      have HST := hid hstep
      gi_wp2
      refine wpIn_wide.2 ?_
      go_region_held3 (fun X => X.cell? ⟨w.heap.size, 0, none⟩ = some (.pointer (some ⟨l, 0, none⟩)) ∧ X.cell? ⟨l, 0, none⟩ = some (.pointer (some ⟨b, 0, none⟩)) ∧ X.cell? ⟨w.heap.size + 1 + 1, 0, none⟩ = some (.int .u64 (next.num : Int)) ∧ X.cell? ⟨w.heap.size + 1 + 1, 1, none⟩ = some (.int .i64 (next.area : Int)) ∧ X.cell? ⟨w.heap.size + 1 + 1, 2, none⟩ = some (.int .i64 (next.len : Int)) ∧ X.cell? ⟨w.heap.size + 1 + 1, 3, none⟩ = some (.int .u32 next.sum)) (first | exact hSw | exact HS6.out _ C2 | exact HS6.out _ C1 | exact HS6.out _ C0) (first
        | (go_at_call 19; have gk := C2; refine (write_at _ B b Dp.sync.1 sl2 (pz : Int) ct (by omega) hB (e1.below C2)).mono ?_; rintro e X3 ⟨rfl, hN3⟩; have hst3 := HST.out _ _ C2 hN3; have hD4 := hst3.1; have kp3 := hst3.2; have hSw : X3.cell? ⟨w.heap.size, 0, none⟩ = some (.pointer (some ⟨l, 0, none⟩)) ∧ X3.cell? ⟨l, 0, none⟩ = some (.pointer (some ⟨b, 0, none⟩)) ∧ X3.cell? ⟨w.heap.size + 1 + 1, 0, none⟩ = some (.int .u64 (next.num : Int)) ∧ X3.cell? ⟨w.heap.size + 1 + 1, 1, none⟩ = some (.int .i64 (next.area : Int)) ∧ X3.cell? ⟨w.heap.size + 1 + 1, 2, none⟩ = some (.int .i64 (next.len : Int)) ∧ X3.cell? ⟨w.heap.size + 1 + 1, 3, none⟩ = some (.int .u32 next.sum) := by (obtain ⟨_, _, _, kk⟩ := hD4; obtain ⟨z1, z2, z3⟩ := HF.out _ (fun _ _ h => h) X3 kk; have z4 := Box4.of z3; exact ⟨z1, z2, z4.c0, z4.c1, z4.c2, z4.c3⟩))
        | (go_at_call 65; have gk := C1; refine (htxt _).mono ?_; rintro e X2 ⟨rfl, hb2⟩; have C2 := C1.trans (hb2.mono C1.size))
        | (go_at_call 64; refine (hsec _).mono ?_; rintro e X1 ⟨rfl, hb1⟩; have C1 := C0.trans (hb1.mono C0.size)))
      have hK4 := kp3.same Db _ hD hK2 rfl
      clear hSw hst3 hN3 f1 f2 n0 n1 n2 n3 e1 e2 e3 kp3 hb1 hb2 gk C0 C1 C2 HST hstep hS6 HS6 f6 f7 f8
      obtain ⟨er2, her⟩ : ∃ er2, (Dp.sync.1.write (pz : Int) ct).2 = er2 := ⟨_, rfl⟩
      rw [her]
      have f6 := HCR.out X3 (by obtain ⟨_, _, _, k⟩ := hD4; exact k)
      have f7 := cell_at (L := [_]) f6 0 _ rfl
      have f8 := free_at (L := [_]) f6
      by_cases h0 : er2 = 0
      · have h0' : (er2 != 0) = false := by simp [h0]
        have HE2 := hid (her.trans h0)
        clear her
        subst h0
        obtain ⟨sl4, e1, e2, e3⟩ := hD4
        obtain ⟨f1, f2, _⟩ := HF.out _ (fun _ _ h => h) X3 e3
        have hops3 : (Dp.sync.1.write (pz : Int) ct).1.ops + 300 < 4611686018427387904 := by have := Dp.sync.1.write_ops (pz : Int) ct; omega
        gi_wp2
        refine ⟨trivial, ?_⟩
        refine (callsIn_wide.2 (sync_at X3 B b _ sl4 (by omega) hB e1)).mono ?_
        rintro e X4 ⟨rfl, hN⟩
        have kp := DS.keeps (D := Dp) hN (Sd_cells e1) w1.heap.size
        have hD5 := DS.step e2 e3 (fun _ h => h) hN
        have hK5 := kp.same Db _ hD hK4 rfl
        clear f1 f2 e1 e2 e3 hK4 kp hN f6 f7 f8
        have f6 := HCR.out X4 (by obtain ⟨_, _, _, k⟩ := hD5; exact k)
        have f7 := cell_at (L := [_]) f6 0 _ rfl
        have f8 := free_at (L := [_]) f6
        obtain ⟨er3, her3⟩ : ∃ er3, (Dp.sync.1.write (pz : Int) ct).1.sync.2 = er3 := ⟨_, rfl⟩
        rw [her3]
        have HE3 := hid her3
        clear her3
        have hD6 := hD5.set (S' := fun k => Sd b sl k ∨ k = w.heap.size + 1 + 1 + 1) (w.heap.size + 1 + 1 + 1) (fun k h => Or.inl h) (Or.inr rfl) (by omega) (by omega) (by omega) (fun e => hNS _ (by omega) (Or.inr e)) 0 (.int .i64 er3)
        have hK6 := (KeepsOthers.setCell X4 ⟨w.heap.size + 1 + 1 + 1, 0, none⟩ (.int .i64 er3)).same Db _ hK5 rfl
        have f9 := cell_at (L := [_]) (set_at (L := [_]) (k := 0) (v := .int .i64 er3) f6) 0 _ rfl
        gi_wp2
        refine ⟨by simp, .inl ⟨_, _, rfl, run_takeDeferred hK6, ?_⟩⟩
        have hc5 := cell_kept f9 (grownBy_putObj' _ Db (.deferred none)) (fun r e => by cases e; exact ⟨_, hK6, rfl⟩)
        have hD7 := hD6.grown hB1 (grownBy_putObj' _ Db (.deferred none)) (fun r e => by cases e; exact ⟨hD, _, hK6, rfl⟩)
        refine ⟨.int .i64 er3, ?_, ?_⟩
        · simp [results, Try.f50, go_sem, hc5]
        · rw [← HPZ.out.1, ← HPZ.out.2, HLay.out, if_neg (by rw [HE.out]; simp), if_neg (by rw [HE2.out]; simp), HE3.out]
          exact ⟨rfl, hD7.up B1 (by omega) (fun k hk e => by rcases e with e | e; exact e; omega)⟩
      · have h0' : (er2 == 0) = false := beq_eq_false_iff_ne.2 h0
        have HE2 := hid (And.intro her h0)
        clear her
        have hD5 := hD4.set (S' := fun k => Sd b sl k ∨ k = w.heap.size + 1 + 1 + 1) (w.heap.size + 1 + 1 + 1) (fun k h => Or.inl h) (Or.inr rfl) (by omega) (by omega) (by omega) (fun e => hNS _ (by omega) (Or.inr e)) 0 (.int .i64 er2)
        have hK5 := (KeepsOthers.setCell X3 ⟨w.heap.size + 1 + 1 + 1, 0, none⟩ (.int .i64 er2)).same Db _ hK4 rfl
        have f9 := cell_at (L := [_]) (set_at (L := [_]) (k := 0) (v := .int .i64 er2) f6) 0 _ rfl
        gi_wp2
        refine ⟨by simp, .inl ⟨_, _, rfl, run_takeDeferred hK5, ?_⟩⟩
        have hc5 := cell_kept f9 (grownBy_putObj' _ Db (.deferred none)) (fun r e => by cases e; exact ⟨_, hK5, rfl⟩)
        have hD6 := hD5.grown hB1 (grownBy_putObj' _ Db (.deferred none)) (fun r e => by cases e; exact ⟨hD, _, hK5, rfl⟩)
        refine ⟨.int .i64 er2, ?_, ?_⟩
        · simp [results, Try.f50, go_sem, hc5]
        · rw [← HPZ.out.1, ← HPZ.out.2, HLay.out, if_neg (by rw [HE.out]; simp), if_pos (by rw [HE2.out.1]; exact HE2.out.2), HE2.out.1]
          exact ⟨rfl, hD6.up B1 (by omega) (fun k hk e => by rcases e with e | e; exact e; omega)⟩
    · have h0' : (er1 == 0) = false := beq_eq_false_iff_ne.2 h0
      have HE := hid (And.intro her h0)
      clear her
      have hD3 := hD2.set (S' := fun k => Sd b sl k ∨ k = w.heap.size + 1 + 1 + 1) (w.heap.size + 1 + 1 + 1) (fun k h => Or.inl h) (Or.inr rfl) (by omega) (by omega) (by omega) (fun e => hNS _ (by omega) (Or.inr e)) 0 (.int .i64 er1)
      have hK3 := (KeepsOthers.setCell W2 ⟨w.heap.size + 1 + 1 + 1, 0, none⟩ (.int .i64 er1)).same Db _ hK2 rfl
      have f9 := cell_at (L := [_]) (set_at (L := [_]) (k := 0) (v := .int .i64 er1) f6) 0 _ rfl
      gi_wp2
      refine ⟨by simp, .inl ⟨_, _, rfl, run_takeDeferred hK3, ?_⟩⟩
      have hc5 := cell_kept f9 (grownBy_putObj' _ Db (.deferred none)) (fun r e => by cases e; exact ⟨_, hK3, rfl⟩)
      have hD4 := hD3.grown hB1 (grownBy_putObj' _ Db (.deferred none)) (fun r e => by cases e; exact ⟨hD, _, hK3, rfl⟩)
      refine ⟨.int .i64 er1, ?_, ?_⟩
      · simp [results, Try.f50, go_sem, hc5]
      · rw [HLay.out, if_pos (by rw [HE.out.1]; exact HE.out.2), HE.out.1]
        exact ⟨rfl, hD4.up B1 (by omega) (fun k hk e => by rcases e with e | e; exact e; omega)⟩
  case stop =>
    rintro Db cd pre W hD hpre ⟨rfl, Dp, e, he, hp, hDS, hc⟩ hK
    have hlay : D.lay (chg c tail s) (next.num % 2) (comT next) = (Dp, e) := by
      unfold Dsk.lay
      rw [wrs_stop D Dp e pre _ hp he hpre]
      exact if_pos he
    have HLay := hid hlay
    clear hlay
    gi_wp2
    refine ⟨by simp, .inl ⟨_, _, rfl, run_takeDeferred hK, ?_⟩⟩
    have hc5 := cell_kept hc (grownBy_putObj' _ Db (.deferred none)) (fun r e => by cases e; exact ⟨_, hK, rfl⟩)
    have hD4 := hDS.grown hB1 (grownBy_putObj' _ Db (.deferred none)) (fun r e => by cases e; exact ⟨hD, _, hK, rfl⟩)
    refine ⟨.int .i64 e, ?_, ?_⟩
    · simp [results, Try.f50, go_sem, hc5]
    · rw [HLay.out]
      exact ⟨rfl, hD4.up B1 (by omega) (fun k hk e => by rcases e with e | e; exact e; omega)⟩
end Go.Proofs.Ythcefjkpiaecjaa
