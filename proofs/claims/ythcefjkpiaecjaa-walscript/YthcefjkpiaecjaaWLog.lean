/- wal: Append, Checkpoint. -/
import Derived.Test.YthcefjkpiaecjaaWStep
namespace Go.Proofs.Ythcefjkpiaecjaa
open Go.RowKit
set_option linter.unusedVariables false
set_option maxRecDepth 100000
set_option linter.unusedSimpArgs false

def Lg.append (L : Lg) (D : Dsk) (s : ByteArray) : Dsk × Lg × Int := L.step D L.c L.tail s
def Lg.checkpoint (L : Lg) (D : Dsk) (s : ByteArray) : Dsk × Lg × Int := L.step D ⟨L.c.num, 1 - L.c.area, 0, 2166136261⟩ ByteArray.empty s
theorem DS.upl {S : Nat → Prop} {B b : Nat} {sl : Value} {D2 : Dsk} {w w1 w2 : World} (h : DS S B b sl D2 w1 w2) (b1 : Below w.heap.size w w1) (hB : B ≤ w.heap.size) : DS S B b sl D2 w w2 := by
  obtain ⟨sl2, h1, h2, h3⟩ := h
  have hs := b1.size
  refine ⟨sl2, h1, fun g hg => ?_, (b1.mono hB).trans h3.bel, fun k hk hn => (h3.oth k (by omega) hn).trans (b1.block k hk)⟩
  rcases h2 g hg with e | e
  · exact Or.inl e
  · right; omega
theorem LgAt.drew {w : World} {l b : Nat} {L : Lg} (h : LgAt w l b L) : LgAt w.drew l b L := LogAt.mk (w := w.drew) (show LogAt w l b L.c L.tail L.er from h).blk
theorem LNext.drew {B b l : Nat} {sl : Value} {D2 : Dsk} {L2 : Lg} {w w2 : World} (h : LNext B b l sl D2 L2 w.drew w2) : LNext B b l sl D2 L2 w w2.drew ∧ LNext B b l sl D2 L2 w w2 := by
  obtain ⟨h1, sl', h2, h3, h4, h5⟩ := h
  exact ⟨⟨h1.drew, sl', h2.drew, h3, ⟨((Below.refl B w).drew.trans h4).drew, h5⟩⟩, ⟨h1, sl', h2, h3, ⟨(Below.refl B w).drew.trans h4, h5⟩⟩⟩
theorem append_any (w : World) (B l b : Nat) (D : Dsk) (sl : Value) (L : Lg) (s : ByteArray) (hf : L.c.Fit) (ht : L.tail.size ≤ 32512) (hs : s.size ≤ 1099511627776) (ho : D.ops + 1000 < 4611686018427387904) (hB : B ≤ b) (hBl : B ≤ l) (hd : DiskAt w b D sl) (hl : LgAt w l b L) :
    Calls Try.prog 9 #[.pointer (some ⟨l, 0, none⟩), .string s] w fun e w' => e = .returned (.int .i64 (L.append D s).2.2) ∧ LNext B b l sl (L.append D s).1 (L.append D s).2.1 w w' := by
  have hst := step_any w.drew B l b D sl L L.c L.tail s hf ht hs ho hB hBl hd.drew (LgAt.drew hl)
  have hup := fun D2 L2 w2 => LNext.drew (B := B) (b := b) (l := l) (sl := sl) (D2 := D2) (L2 := L2) (w := w) (w2 := w2)
  have HUP := hid hup
  clear hup
  obtain ⟨c0, c1, c2, c3, c4, c5, c6, cf⟩ := LogAt.cells hl
  unfold Lg.append
  generalize L.step D L.c L.tail s = R at *
  unfold cv at hst
  go_enter Try.func9, Try.ntmps9
  go_wp2_with fail
  go_region_with ((go_at_call 29; refine hst.mono ?_; rintro e w2 ⟨rfl, hN⟩))
  all_goals
    simp only [List.getElem_toArray, List.getElem_cons_zero, List.getElem_cons_succ, Act.put, List.setIfInBounds_toArray, List.set_cons_succ, List.set_cons_zero]
    have hN1 := HUP.out _ _ _ hN
    go_wp2
    go_ret
    first
      | exact ⟨rfl, hN1.2⟩
      | exact ⟨rfl, hN1.1⟩
set_option maxHeartbeats 2000000 in
theorem checkpoint_any (w : World) (B l b : Nat) (D : Dsk) (sl : Value) (L : Lg) (s : ByteArray) (hf : L.c.Fit) (hs : s.size ≤ 1099511627776) (ho : D.ops + 1000 < 4611686018427387904) (hB : B ≤ b) (hBl : B ≤ l) (hd : DiskAt w b D sl) (hl : LgAt w l b L) :
    Calls Try.prog 11 #[.pointer (some ⟨l, 0, none⟩), .string s] w fun e w' => e = .returned (.int .i64 (L.checkpoint D s).2.2) ∧ LNext B b l sl (L.checkpoint D s).1 (L.checkpoint D s).2.1 w w' := by
  have hst := fun v hdv hlv => step_any v B l b D sl L ⟨L.c.num, 1 - L.c.area, 0, 2166136261⟩ ByteArray.empty s ⟨hf.num, by simp, by simp, by simp⟩ (by simp) hs ho hB hBl hdv hlv
  obtain ⟨c0, c1, c2, c3, c4, c5, c6, cf⟩ := LogAt.cells hl
  unfold Lg.checkpoint
  generalize L.step D ⟨L.c.num, 1 - L.c.area, 0, 2166136261⟩ ByteArray.empty s = R at *
  have hane := fun v => anew_any v L.c hf
  unfold cv at hst hane
  simp only at hst hane
  rw [show ByteArray.empty = (⟨#[]⟩ : ByteArray) from rfl] at hst
  generalize 1 - L.c.area = q at *
  have hlw : l < w.heap.size := lt_of_block (LogAt.blk hl)
  have hbw : b < w.heap.size := lt_of_block hd.blk
  go_enter Try.func11, Try.ntmps11
  go_wp2_with fail
  refine (hane w).mono ?_
  rintro e w1 ⟨rfl, b1⟩
  go_wp2_with fail
  refine (hst w1 (hd.below b1) (LogAt.below hl b1 hlw)).mono ?_
  rintro e w2 ⟨rfl, h1, hN⟩
  have hD := DS.upl (S := Sl b l sl) hN b1 (by omega)
  go_wp2
  go_ret
  exact ⟨rfl, h1, hD⟩
end Go.Proofs.Ythcefjkpiaecjaa
