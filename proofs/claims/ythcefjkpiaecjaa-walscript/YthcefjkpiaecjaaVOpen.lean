/- The document's wal: Open. -/
import Derived.Test.YthcefjkpiaecjaaVCommit
namespace Go.Proofs.Ythcefjkpiaecjaa
open Go.RowKit
set_option linter.unusedVariables false
set_option maxRecDepth 100000
set_option linter.unusedSimpArgs false

/-- What Open answers. -/
def VOpens (w w' : World) (b : Nat) (V : List ByteArray) (e : Ending) : Prop :=
  ∃ r c t, e = .returned (.tuple #[.pointer (some ⟨r, 0, none⟩), .string t, .int .i64 0]) ∧ Tells V c t ∧ VAt w' r b t c.num c.area 0 ∧ w.heap.size ≤ r
theorem VAt.drewN {w : World} {r m : Nat} {t : ByteArray} {n a : Nat} {er : Int} (h : VAt w r m t n a er) (k : Nat) : VAt (w.drewN k) r m t n a er := ⟨h.blk⟩
set_option maxHeartbeats 4000000 in
theorem vopen_any (w : World) (b : Nat) (D : Dsk) (hz : Sz D.wr) (hd : RIs w b D) :
    Calls Try.prog 8 #[.pointer (some ⟨b, 0, none⟩)] w fun e w' => VOpens w w' b D.wr e ∧ Below w.heap.size w w' := by
  have h0 := vcommit_any w b D 0 (by omega) hz hd
  have h1 := fun v (h : RIs v b D) => vcommit_any v b D 1 (by omega) hz h
  have H1 := hid h1
  have HD := hid hd
  clear h1 hd
  go_enter Try.func8, Try.ntmps8
  go_wp2_with fail
  refine h0.mono ?_
  rintro e w1 ⟨hc0, b1⟩
  have h1 := H1.out w1 (HD.out.below b1)
  clear h0
  rcases hc0 with ⟨r0, c0, t0, rfl, hR0, v0, hl0⟩ | ⟨rfl, hN0⟩
  · have HR0 := hid (show Right0 D.wr 0 c0 t0 from Or.inl hR0)
    have hf0 := hR0.com.fit.num
    clear hR0
    go_wp2_with fail
    refine h1.mono ?_
    rintro e w2 ⟨hc1, b2⟩
    have v0' := v0.below b2
    have bw := vchain b1 b2
    have s1 := b1.size
    clear h1 v0
    rcases hc1 with ⟨r1, c1, t1, rfl, hR1, v1, hl1⟩ | ⟨rfl, hN1⟩
    · have HR1 := hid (show Right0 D.wr 1 c1 t1 from Or.inl hR1)
      have hf1 := hR1.com.fit.num
      clear hR1
      obtain ⟨x0, x1, x2, x3, x4, xf⟩ := v0'.cells
      obtain ⟨y0, y1, y2, y3, y4, yf⟩ := v1.cells
      by_cases hlt : c0.num < c1.num
      · have HT := hid (show Tells D.wr c1 t1 from ⟨_, _, _, _, HR0.out, HR1.out, by rw [if_pos hlt]⟩)
        have hlt' : ¬ (c1.num : Int) ≤ (c0.num : Int) := by omega
        have hlt2 : decide ((c1.num : Int) ≤ (c0.num : Int)) = false := decide_eq_false (by omega)
        clear hlt
        go_wp2_with fail
        go_quiet (fail)
        have bq := below_dn bw nq
        have v2 := v1.drewN nq
        generalize w2.drewN nq = W at *
        obtain ⟨z0, z1, z2, z3, z4, zf⟩ := v2.cells
        clear x0 x1 x2 x3 x4 xf y0 y1 y2 y3 y4 yf
        go_wp2_with fail
        go_quiet (fail)
        have bq2 := below_dn bq nq
        have v3 := v2.drewN nq
        generalize W.drewN nq = W2 at *
        go_wp2
        exact bodyPost_ret (v := .tuple #[.pointer (some ⟨r1, 0, none⟩), .string t1, .int .i64 0]) (by simp [results, Try.results8, go_sem]) rfl ⟨⟨r1, c1, t1, rfl, HT.out, v3, by omega⟩, bq2⟩
      · have HT := hid (show Tells D.wr c0 t0 from ⟨_, _, _, _, HR0.out, HR1.out, by rw [if_neg hlt]⟩)
        have hlt' : (c1.num : Int) ≤ (c0.num : Int) := by omega
        have hlt2 : decide ((c1.num : Int) ≤ (c0.num : Int)) = true := decide_eq_true (by omega)
        clear hlt
        go_wp2_with fail
        go_quiet (fail)
        have bq := below_dn bw nq
        have v2 := v0'.drewN nq
        generalize w2.drewN nq = W at *
        obtain ⟨z0, z1, z2, z3, z4, zf⟩ := v2.cells
        clear x0 x1 x2 x3 x4 xf y0 y1 y2 y3 y4 yf
        go_wp2_with fail
        go_quiet (fail)
        have bq2 := below_dn bq nq
        have v3 := v2.drewN nq
        generalize W.drewN nq = W2 at *
        go_wp2
        exact bodyPost_ret (v := .tuple #[.pointer (some ⟨r0, 0, none⟩), .string t0, .int .i64 0]) (by simp [results, Try.results8, go_sem]) rfl ⟨⟨r0, c0, t0, rfl, HT.out, v3, by omega⟩, bq2⟩
    · have HT := hid (show Tells D.wr c0 t0 from ⟨_, _, _, _, HR0.out, Or.inr ⟨hN1, rfl, rfl⟩, by rw [if_neg (by show ¬ c0.num < 0; omega)]⟩)
      clear hN1
      go_wp2_with fail
      go_quiet (fail)
      have bq := below_dn bw nq
      have v2 := v0'.drewN nq
      generalize w2.drewN nq = W at *
      obtain ⟨z0, z1, z2, z3, z4, zf⟩ := v2.cells
      go_wp2_with fail
      go_quiet (fail)
      have bq2 := below_dn bq nq
      have v3 := v2.drewN nq
      generalize W.drewN nq = W2 at *
      go_wp2
      exact bodyPost_ret (v := .tuple #[.pointer (some ⟨r0, 0, none⟩), .string t0, .int .i64 0]) (by simp [results, Try.results8, go_sem]) rfl ⟨⟨r0, c0, t0, rfl, HT.out, v3, by omega⟩, bq2⟩
  · have HR0 := hid (show Right0 D.wr 0 com0 ByteArray.empty from Or.inr ⟨hN0, rfl, rfl⟩)
    clear hN0
    go_wp2_with fail
    refine h1.mono ?_
    rintro e w2 ⟨hc1, b2⟩
    have bw := vchain b1 b2
    have s1 := b1.size
    clear h1
    rcases hc1 with ⟨r1, c1, t1, rfl, hR1, v1, hl1⟩ | ⟨rfl, hN1⟩
    · have HT := hid (show Tells D.wr c1 t1 from ⟨_, _, _, _, HR0.out, Or.inl hR1, by rw [if_pos (by show 0 < c1.num; have := hR1.com.num0; omega)]⟩)
      clear hR1
      go_wp2_with fail
      go_quiet (fail)
      have bq := below_dn bw nq
      have v2 := v1.drewN nq
      generalize w2.drewN nq = W at *
      obtain ⟨z0, z1, z2, z3, z4, zf⟩ := v2.cells
      go_wp2_with fail
      go_quiet (fail)
      have bq2 := below_dn bq nq
      have v3 := v2.drewN nq
      generalize W.drewN nq = W2 at *
      go_wp2
      exact bodyPost_ret (v := .tuple #[.pointer (some ⟨r1, 0, none⟩), .string t1, .int .i64 0]) (by simp [results, Try.results8, go_sem]) rfl ⟨⟨r1, c1, t1, rfl, HT.out, v3, by omega⟩, bq2⟩
    · have HT := hid (show Tells D.wr com0 ByteArray.empty from ⟨_, _, _, _, HR0.out, Or.inr ⟨hN1, rfl, rfl⟩, by rw [if_neg (by show ¬ 0 < 0; omega)]⟩)
      clear hN1
      go_wp2_with fail
      go_quiet (fail)
      have bq := below_dn bw nq
      generalize w2.drewN nq = W at *
      have ba := (Below.refl W.heap.size W).alloc (Nat.le_refl _) (Obj.cells #[.pointer (some ⟨b, 0, none⟩), .string ⟨#[]⟩, .int .u64 0, .int .i64 0, .int .i64 0] 45)
      have bw4 := vchain bq ba
      have hsz := bq.size
      have vn := vat_new W b ⟨#[]⟩ 0 0
      go_wp2
      exact bodyPost_ret (v := .tuple #[.pointer (some ⟨W.heap.size, 0, none⟩), .string ⟨#[]⟩, .int .i64 0]) (by simp [results, Try.results8, go_sem]) rfl ⟨⟨_, com0, ByteArray.empty, rfl, HT.out, vn, hsz⟩, bw4⟩
end Go.Proofs.Ythcefjkpiaecjaa
