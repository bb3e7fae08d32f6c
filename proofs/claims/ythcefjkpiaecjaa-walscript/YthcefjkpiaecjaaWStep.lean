/- wal: step, Append, Checkpoint, Len, Err. -/
import Derived.Test.YthcefjkpiaecjaaWWrite
namespace Go.Proofs.Ythcefjkpiaecjaa
open Go.RowKit
set_option linter.unusedVariables false
set_option maxRecDepth 100000
set_option linter.unusedSimpArgs false

/-- A log in plain terms. -/
structure Lg where
  c : Com
  tail : ByteArray
  er : Int
def LgAt (w : World) (l b : Nat) (L : Lg) : Prop := LogAt w l b L.c L.tail L.er
def comNext (c : Com) (s : ByteArray) : Com := ⟨(c.num + 1) % 18446744073709551616, c.area, c.len + s.size, sumN c.sum s s.size⟩
theorem comNext_fit {c : Com} {s : ByteArray} (h : c.Fit) (hl : c.len + s.size ≤ 32512) : (comNext c s).Fit :=
  ⟨Nat.mod_lt _ (by omega), h.area, hl, sumN_lt _ h.sum s _⟩
/-- What step makes of a disk and a log, and what it answers. -/
def Lg.step (L : Lg) (D : Dsk) (fr : Com) (tl s : ByteArray) : Dsk × Lg × Int :=
  if L.er ≠ 0 then (D, L, L.er) else if 32512 < fr.len + s.size then (D, L, 50)
  else if (D.lay (chg fr tl s) ((comNext fr s).num % 2) (comT (comNext fr s))).2 ≠ 0 then ((D.lay (chg fr tl s) ((comNext fr s).num % 2) (comT (comNext fr s))).1, { L with er := (D.lay (chg fr tl s) ((comNext fr s).num % 2) (comT (comNext fr s))).2 }, (D.lay (chg fr tl s) ((comNext fr s).num % 2) (comT (comNext fr s))).2)
  else ((D.lay (chg fr tl s) ((comNext fr s).num % 2) (comT (comNext fr s))).1, ⟨comNext fr s, tailT (tl ++ s), 0⟩, 0)
/-- The blocks of a log and its disk. -/
def Sl (b l : Nat) (sl : Value) : Nat → Prop := fun k => Sd b sl k ∨ k = l
/-- What a call leaves. -/
def LNext (B b l : Nat) (sl : Value) (D' : Dsk) (L' : Lg) (w w' : World) : Prop := LgAt w' l b L' ∧ DS (Sl b l sl) B b sl D' w w'
theorem LogAt.cells {w : World} {l b : Nat} {c : Com} {tail : ByteArray} {er : Int} (h : LogAt w l b c tail er) : w.cell? ⟨l, 0, none⟩ = some (.pointer (some ⟨b, 0, none⟩)) ∧ w.cell? ⟨l, 1, none⟩ = some (.int .u64 (c.num : Int)) ∧ w.cell? ⟨l, 2, none⟩ = some (.int .i64 (c.area : Int)) ∧ w.cell? ⟨l, 3, none⟩ = some (.int .i64 (c.len : Int)) ∧ w.cell? ⟨l, 4, none⟩ = some (.int .u32 c.sum) ∧ w.cell? ⟨l, 5, none⟩ = some (.string tail) ∧ w.cell? ⟨l, 6, none⟩ = some (.int .i64 er) ∧ ∀ k, w.frozen? ⟨l, k, none⟩ = false :=
  ⟨cell_at (L := [_, _, _, _, _, _, _]) h.blk 0 _ rfl, cell_at (L := [_, _, _, _, _, _, _]) h.blk 1 _ rfl, cell_at (L := [_, _, _, _, _, _, _]) h.blk 2 _ rfl, cell_at (L := [_, _, _, _, _, _, _]) h.blk 3 _ rfl, cell_at (L := [_, _, _, _, _, _, _]) h.blk 4 _ rfl, cell_at (L := [_, _, _, _, _, _, _]) h.blk 5 _ rfl, cell_at (L := [_, _, _, _, _, _, _]) h.blk 6 _ rfl, free_at (L := [_, _, _, _, _, _, _]) h.blk⟩
theorem len_any (w : World) (l b : Nat) (L : Lg) (h : LgAt w l b L) :
    Calls Try.prog 23 #[.pointer (some ⟨l, 0, none⟩)] w fun e w' => e = .returned (.int .i64 (L.c.len : Int)) ∧ w' = w := by
  obtain ⟨_, _, _, c3, _⟩ := LogAt.cells h
  go_enter Try.func23, Try.ntmps23
  go_wp2
  go_ret
  exact ⟨rfl, rfl⟩
theorem err_any (w : World) (l b : Nat) (L : Lg) (h : LgAt w l b L) :
    Calls Try.prog 24 #[.pointer (some ⟨l, 0, none⟩)] w fun e w' => e = .returned (.int .i64 L.er) ∧ w' = w := by
  obtain ⟨_, _, _, _, _, _, c6, _⟩ := LogAt.cells h
  go_enter Try.func24, Try.ntmps24
  go_wp2
  go_ret
  exact ⟨rfl, rfl⟩
theorem log_off {w : World} {l b : Nat} {L : Lg} {D : Dsk} {sl : Value} (h : LgAt w l b L) (d : DiskAt w b D sl) : ¬ Sd b sl l := fun e => by
  rcases e with e | e
  · have h1 := LogAt.blk h
    rw [e, d.blk] at h1
    simp at h1
  · obtain ⟨c', fz, hc'⟩ := own_kind d.own l e
    rw [LogAt.blk h] at hc'
    simp at hc'
theorem DiskAt.ds {w w' : World} {b : Nat} {D : Dsk} {sl : Value} (S : Nat → Prop) {B : Nat} (h : DiskAt w b D sl) (hb : Below w.heap.size w w') (hB : B ≤ b) : DS S B b sl D w w' :=
  ⟨sl, h.below hb, fun g hg => Or.inl hg, Kf.of_below hb (by have := lt_of_block h.blk; omega)⟩
theorem DS.drew {S : Nat → Prop} {B b : Nat} {sl : Value} {D2 : Dsk} {w w2 : World} (h : DS S B b sl D2 w w2) : DS S B b sl D2 w w2.drew := by
  obtain ⟨sl2, h1, h2, h3⟩ := h
  exact ⟨sl2, h1.drew, h2, h3.drew⟩
/-- Block q is as it was. -/
structure Far (X Y : World) (q : Nat) : Prop where
  eq : Y.heap[q]? = X.heap[q]?
theorem far_refl (X : World) (q : Nat) : Far X X q := ⟨rfl⟩
theorem far_drew {X Y : World} {q : Nat} (h : Far X Y q) : Far X Y.drew q := ⟨h.eq⟩
theorem far_set {X Y : World} {q l n : Nat} {v : Value} (hne : q ≠ l) (h : Far X Y q) : Far X (Y.setCell ⟨l, n, none⟩ v) q := ⟨(Below.heap_setCell Y ⟨l, n, none⟩ v q hne).trans h.eq⟩
theorem far4 {X Y : World} {q : Nat} {t : TypeId} {v0 v1 v2 v3 : Value} (h : X.heap[q]? = some (.cells #[v0, v1, v2, v3] t (0, 0))) (f : Far X Y q) : Y.cell? ⟨q, 0, none⟩ = some v0 ∧ Y.cell? ⟨q, 1, none⟩ = some v1 ∧ Y.cell? ⟨q, 2, none⟩ = some v2 ∧ Y.cell? ⟨q, 3, none⟩ = some v3 := by
  have b := Box4.of (f.eq.trans h)
  exact ⟨b.c0, b.c1, b.c2, b.c3⟩
set_option maxHeartbeats 4000000 in
theorem step_any (w : World) (B l b : Nat) (D : Dsk) (sl : Value) (L : Lg) (fr : Com) (tl s : ByteArray) (hf : fr.Fit) (ht : tl.size ≤ 32512) (hs : s.size ≤ 1099511627776) (ho : D.ops + 1000 < 4611686018427387904) (hB : B ≤ b) (hBl : B ≤ l) (hd : DiskAt w b D sl) (hl : LgAt w l b L) :
    Calls Try.prog 29 #[.pointer (some ⟨l, 0, none⟩), cv fr, .string tl, .string s] w fun e w' => e = .returned (.int .i64 (L.step D fr tl s).2.2) ∧ LNext B b l sl (L.step D fr tl s).1 (L.step D fr tl s).2.1 w w' := by
  have hfl := hf.len
  have q0 := Box4.new w 62 (.int .u64 (fr.num : Int)) (.int .i64 (fr.area : Int)) (.int .i64 (fr.len : Int)) (.int .u32 fr.sum)
  have b0 := (Below.refl w.heap.size w).alloc (Nat.le_refl _) (Obj.cells #[.int .u64 (fr.num : Int), .int .i64 (fr.area : Int), .int .i64 (fr.len : Int), .int .u32 fr.sum] 62)
  have hne : ¬ l = w.heap.size := by have := lt_of_block (LogAt.blk hl); omega
  have hl0 := LogAt.below hl b0 (lt_of_block (LogAt.blk hl))
  have hd0 := hd.below b0
  have HD := hid hd
  have HL := hid hl
  by_cases he : L.er = 0
  · by_cases hfull : 32512 < fr.len + s.size
    · have hE : L.step D fr tl s = (D, L, 50) := by
        unfold Lg.step
        rw [if_neg (by simp [he]), if_pos hfull]
      have HE := hid hE
      have hx : (32512 : Int) < (fr.len : Int) + (s.size : Int) := by omega
      have HL0 := hid hl0
      rw [he] at hl0
      obtain ⟨c0, c1, c2, c3, c4, c5, c6, cf⟩ := LogAt.cells hl0
      unfold cv
      go_enter Try.func29, Try.ntmps29
      go_wp2
      go_ret
      rw [HE.out]
      exact ⟨rfl, HL0.out, HD.out.ds _ b0 hB⟩
    · have HL0 := hid hl0
      rw [he] at hl0
      obtain ⟨c0, c1, c2, c3, c4, c5, c6, cf⟩ := LogAt.cells hl0
      have hx : ¬ (32512 : Int) < (fr.len : Int) + (s.size : Int) := by omega
      unfold cv
      go_enter Try.func29, Try.ntmps29
      go_wp2_with fail
      have hfit := comNext_fit hf (show fr.len + s.size ≤ 32512 by omega)
      have hwith := with_any (w.alloc (Obj.cells #[.int .u64 (fr.num : Int), .int .i64 (fr.area : Int), .int .i64 (fr.len : Int), .int .u32 fr.sum] 62)) fr s hf (by omega)
      rw [show (⟨(fr.num + 1) % 18446744073709551616, fr.area, fr.len + s.size, sumN fr.sum s s.size⟩ : Com) = comNext fr s from rfl] at hwith
      obtain ⟨nx, hnx⟩ : ∃ nx, nx = comNext fr s := ⟨_, rfl⟩
      rw [← hnx] at hwith hfit
      have HNX := hid hnx
      clear hnx
      generalize w.alloc (Obj.cells #[.int .u64 (fr.num : Int), .int .i64 (fr.area : Int), .int .i64 (fr.len : Int), .int .u32 fr.sum] 62) = W0 at *
      refine hwith.mono ?_
      rintro e w1 ⟨rfl, b1⟩
      clear hwith c0 c1 c2 c3 c4 c5 c6 cf
      have hW0 := lt_of_block q0.blk
      have q1 := q0.below b1 hW0
      have l1 := hl0.below b1 (lt_of_block hl0.blk)
      have d1 := hd0.below b1
      have B1 := b0.trans (b1.mono b0.size)
      have b2 := (Below.refl w1.heap.size w1).alloc (Nat.le_refl _) (Obj.cells #[.int .u64 (nx.num : Int), .int .i64 (nx.area : Int), .int .i64 (nx.len : Int), .int .u32 nx.sum] 62)
      have p2 := Box4.new w1 62 (.int .u64 (nx.num : Int)) (.int .i64 (nx.area : Int)) (.int .i64 (nx.len : Int)) (.int .u32 nx.sum)
      have q2 := q1.below b2 (lt_of_block q1.blk)
      have l2 := l1.below b2 (lt_of_block l1.blk)
      have d2 := d1.below b2
      have B2 := B1.trans (b2.mono B1.size)
      have hww : w.heap.size < w1.heap.size := lt_of_block q1.blk
      clear q1 l1 d1 B1 b1 q0 b0 hl0 hd0 HL0
      have q2' := q2
      have p2' := p2
      have l2' := l2
      obtain ⟨c0, c1, c2, c3, c4, c5, c6, cf⟩ := LogAt.cells l2'
      obtain ⟨_, a0, a1, a2, a3, af⟩ := q2'
      obtain ⟨_, n0, n1, n2, n3, nf⟩ := p2'
      unfold cv
      go_wp2_with fail
      generalize w1.alloc (Obj.cells #[.int .u64 (nx.num : Int), .int .i64 (nx.area : Int), .int .i64 (nx.len : Int), .int .u32 nx.sum] 62) = W2 at *
      have hlay := write_log W2 B l b D sl fr L.c nx L.tail tl s 0 hf hfit (by omega) ht ho hB d2 l2
      have hstepE : L.step D fr tl s = if (D.lay (chg fr tl s) (nx.num % 2) (comT nx)).2 ≠ 0 then ((D.lay (chg fr tl s) (nx.num % 2) (comT nx)).1, { L with er := (D.lay (chg fr tl s) (nx.num % 2) (comT nx)).2 }, (D.lay (chg fr tl s) (nx.num % 2) (comT nx)).2) else ((D.lay (chg fr tl s) (nx.num % 2) (comT nx)).1, ⟨nx, tailT (tl ++ s), 0⟩, 0) := by
        unfold Lg.step
        rw [if_neg (by simp [he]), if_neg hfull, ← HNX.out]
      have HST := hid hstepE
      clear hstepE
      generalize D.lay (chg fr tl s) (nx.num % 2) (comT nx) = R at *
      obtain ⟨D', e'⟩ := R
      simp only at hlay HST
      refine hlay.mono ?_
      rintro e W3 ⟨rfl, hN⟩
      have hlS := log_off (L := ⟨L.c, L.tail, 0⟩) l2 d2
      have hlw : l < w.heap.size := lt_of_block (LogAt.blk hl)
      have hbw : b < w.heap.size := lt_of_block hd.blk
      have hNS : ∀ k, w.heap.size ≤ k → ¬ Sd b sl k := fun k hk e => by
        rcases e with e | e
        · omega
        · have := (hd.own.lt k e).2; omega
      have hkeep : ∀ k, k < W2.heap.size → ¬ Sd b sl k → W3.heap[k]? = W2.heap[k]? := by obtain ⟨_, _, _, kf⟩ := hN; exact kf.oth
      have l3 : LogAt W3 l b L.c L.tail 0 := ⟨(hkeep l (lt_of_block l2.blk) hlS).trans l2.blk⟩
      have p3 := Box4.of ((hkeep w1.heap.size (lt_of_block p2.blk) (hNS _ (by omega))).trans p2.blk)
      have D3 := DS.up (S := Sd b sl) hN B2 (by omega) (fun k _ h => h)
      have hlsl : sl.ownBlock ≠ some l := fun e => hlS (Or.inr e)
      have hlb : l ≠ b := fun e => hlS (Or.inl e)
      have D4 := DS.set (S := Sd b sl) (S' := Sl b l sl) D3 l (fun k h => Or.inl h) (Or.inr rfl) hBl hlb hlw hlsl 6 (.int .i64 e')
      have l4 : LogAt (W3.setCell ⟨l, 6, none⟩ (.int .i64 e')) l b L.c L.tail e' := ⟨set_at (L := [_, _, _, _, _, _, _]) (k := 6) (v := .int .i64 e') l3.blk⟩
      have hww' : w1.heap.size ≠ l := by omega
      have p4 := Box4.of ((Below.heap_setCell W3 ⟨l, 6, none⟩ (.int .i64 e') w1.heap.size hww').trans p3.blk)
      clear c0 c1 c2 c3 c4 c5 c6 cf a0 a1 a2 a3 af n0 n1 n2 n3 nf hlay hN
      have l3' := l3
      have l4' := l4
      obtain ⟨x0, x1, x2, x3, x4, x5, x6, xf⟩ := LogAt.cells l3'
      by_cases h0 : e' = 0
      · subst h0
        have HE := hid (show L.step D fr tl s = (D', ⟨nx, tailT (tl ++ s), 0⟩, 0) from by rw [HST.out]; exact if_neg (by simp))
        go_wp2_with fail
        generalize W3.setCell ⟨l, 6, none⟩ (.int .i64 0) = Y at *
        have hTs : (tl ++ s).size ≤ maxLen := by rw [ByteArray.size_append]; unfold maxLen; omega
        have htail := fun v => tailOf_any v (tl ++ s) hTs
        have hsum : ∀ v, (Op.stringOp .add tl s).run Try.prog v = .ok (.string (tl ++ s)) v := fun v => run_string_add_sum v _ _ (by omega)
        clear hTs
        obtain ⟨_, y1, y2, y3, y4, y5, y6, yf⟩ := LogAt.cells l4'
        obtain ⟨nb, n0, n1, n2, n3, nf⟩ := p4
        go_region_held3 (fun X => X.cell? ⟨w1.heap.size, 0, none⟩ = some (.int .u64 (nx.num : Int)) ∧ X.cell? ⟨w1.heap.size, 1, none⟩ = some (.int .i64 (nx.area : Int)) ∧ X.cell? ⟨w1.heap.size, 2, none⟩ = some (.int .i64 (nx.len : Int)) ∧ X.cell? ⟨w1.heap.size, 3, none⟩ = some (.int .u32 nx.sum)) ((refine far4 nb ?_; with_reducible (repeat (first | exact far_refl _ _ | refine far_drew ?_ | refine far_set hww' ?_)))) ((go_at_call 27; refine (htail _).mono ?_; rintro e w' ⟨rfl, rfl⟩))
        have l5 : LogAt (((((Y.setCell ⟨l, 1, none⟩ (.int .u64 (nx.num : Int))).setCell ⟨l, 2, none⟩ (.int .i64 (nx.area : Int))).setCell ⟨l, 3, none⟩ (.int .i64 (nx.len : Int))).setCell ⟨l, 4, none⟩ (.int .u32 nx.sum)).setCell ⟨l, 5, none⟩ (.string (tailT (tl ++ s)))).drew l b nx (tailT (tl ++ s)) 0 :=
          ⟨set_at (L := [_, _, _, _, _, _, _]) (k := 5) (v := .string (tailT (tl ++ s))) (set_at (L := [_, _, _, _, _, _, _]) (k := 4) (v := .int .u32 nx.sum) (set_at (L := [_, _, _, _, _, _, _]) (k := 3) (v := .int .i64 (nx.len : Int)) (set_at (L := [_, _, _, _, _, _, _]) (k := 2) (v := .int .i64 (nx.area : Int)) (set_at (L := [_, _, _, _, _, _, _]) (k := 1) (v := .int .u64 (nx.num : Int)) l4.blk))))⟩
        have st : ∀ {Z : World} (n : Nat) (v : Value), DS (Sl b l sl) B b sl D' w Z → DS (Sl b l sl) B b sl D' w (Z.setCell ⟨l, n, none⟩ v) := fun n v h => DS.set (S := Sl b l sl) (S' := Sl b l sl) h l (fun k h => h) (Or.inr rfl) hBl hlb hlw hlsl n v
        have D5 := (st 5 (.string (tailT (tl ++ s))) (st 4 (.int .u32 nx.sum) (st 3 (.int .i64 (nx.len : Int)) (st 2 (.int .i64 (nx.area : Int)) (st 1 (.int .u64 (nx.num : Int)) D4))))).drew
        generalize ((((Y.setCell ⟨l, 1, none⟩ (.int .u64 (nx.num : Int))).setCell ⟨l, 2, none⟩ (.int .i64 (nx.area : Int))).setCell ⟨l, 3, none⟩ (.int .i64 (nx.len : Int))).setCell ⟨l, 4, none⟩ (.int .u32 nx.sum)).setCell ⟨l, 5, none⟩ (.string (tailT (tl ++ s))) = Z at *
        go_wp2
        go_ret
        rw [HE.out]
        exact ⟨rfl, l5, D5⟩
      · have h0' : (e' == 0) = false := beq_eq_false_iff_ne.2 h0
        have HE := hid (show L.step D fr tl s = (D', { L with er := e' }, e') from by rw [HST.out]; exact if_pos h0)
        go_wp2
        go_ret
        rw [HE.out]
        exact ⟨rfl, l4, D4⟩
  · have hE : L.step D fr tl s = (D, L, L.er) := by
      unfold Lg.step
      rw [if_pos he]
    have HE := hid hE
    have he' : (L.er == 0) = false := beq_eq_false_iff_ne.2 he
    have HL0 := hid hl0
    obtain ⟨c0, c1, c2, c3, c4, c5, c6, cf⟩ := LogAt.cells hl0
    unfold cv
    go_enter Try.func29, Try.ntmps29
    go_wp2
    go_ret
    rw [HE.out]
    exact ⟨rfl, HL0.out, HD.out.ds _ b0 hB⟩
end Go.Proofs.Ythcefjkpiaecjaa
