/- The law RecordEncodes. -/
import Derived.Test.YtgcfgfkociaooaaRcREnc
import Derived.Test.YtgcfgfkociaooaaRcHeavy
import Derived.Test.YtgcfgfkociaooaaRcOpen
namespace Go.Proofs.Ytgcfgfkociaooaa
open Go.RowKit
set_option linter.unusedVariables false
set_option maxRecDepth 100000
set_option linter.unusedSimpArgs false

/-- One record, laid by itself. -/
theorem one_row (X : World) (r : Rec) (u : Value) (hf : RecFits r) (hI : IsInts X u r.nums) : IsRecs (X.alloc (Obj.cells #[.int .i64 r.kind, .string r.who, u, .string r.text] 24)) (.slice (some ⟨X.heap.size, 0, none⟩) 1 1) [r] := by
  refine ⟨some ⟨X.heap.size, 0, none⟩, 1, rfl, Nat.le_refl _, by unfold maxLen; omega, Or.inr ⟨X.heap.size, 0, rfl, fun i hi => ?_⟩⟩
  have hi' : i = 0 := by simp at hi; exact hi
  subst hi'
  have q := Box4.new X 24 (.int .i64 r.kind) (.string r.who) u (.string r.text)
  exact ⟨hf, u, q.c0, q.c1, q.c2, q.c3, hI.below ((Below.refl _ _).alloc (Nat.le_refl _) _)⟩
set_option maxHeartbeats 8000000 in
theorem rencodes_any (r : Rec) (v : Value) (w : World) (hf : RecFits r) (h : IsInts w v r.nums) :
    Calls Try.prog 5 #[rv r v] w fun e w' => e = .returned (.bool true) ∧ Below w.heap.size w w' := by
  obtain ⟨a, c, rfl, hl⟩ := h.slice
  obtain ⟨i0, hi, hz0, hz1, hz2⟩ := info_parts info_int
  have q0 := Box4.new w 24 (.int .i64 r.kind) (.string r.who) (.slice a r.nums.length c) (.string r.text)
  have B0 := (Below.refl w.heap.size w).alloc (Nat.le_refl _) (Obj.cells #[.int .i64 r.kind, .string r.who, .slice a r.nums.length c, .string r.text] 24)
  have R1 := one_row _ r _ hf (h.below B0)
  rw [World.size_alloc] at R1
  have B1 := B0.alloc (by simp) (Obj.cells #[.int .i64 r.kind, .string r.who, .slice a r.nums.length c, .string r.text] 24)
  have q1 := q0.below ((Below.refl (w.heap.size + 1) _).alloc (by simp) (Obj.cells #[.int .i64 r.kind, .string r.who, .slice a r.nums.length c, .string r.text] 24)) (by omega)
  have hsz : w.heap.size + 2 ≤ ((w.alloc (Obj.cells #[.int .i64 r.kind, .string r.who, .slice a r.nums.length c, .string r.text] 24)).alloc (Obj.cells #[.int .i64 r.kind, .string r.who, .slice a r.nums.length c, .string r.text] 24)).heap.size := by simp
  unfold rv
  go_enter Try.func5, Try.ntmps5
  go_wp2_with fail
  generalize ((w.alloc (Obj.cells #[Value.int .i64 r.kind, .string r.who, .slice a r.nums.length c, .string r.text] 24)).alloc (Obj.cells #[Value.int .i64 r.kind, .string r.who, .slice a r.nums.length c, .string r.text] 24)) = W1 at *
  clear q0 B0
  refine (heavy_any W1 _ [r] (r.nums.length ≤ 131072) (fun hh => (hsum_few hh).2 r (by simp)) R1).mono ?_
  rintro e w2 ⟨rfl | ⟨rfl, hn⟩, b2'⟩
  · go_wp2
    go_ret
    exact ⟨rfl, chain2 B1 b2'⟩
  · have b2 := chain2 B1 b2'
    have HR2 := hid (R1.below b2')
    have q2 := q1.below b2' (by omega)
    have s2 := b2'.size
    clear R1 B1 b2' q1
    have HQ2 := hid q2
    have HI := hid (h.below b2)
    obtain ⟨_, c0, c1, c2, c3, fr⟩ := q2
    have hx3 := Below.alloc (Below.refl w2.heap.size w2) (Nat.le_refl _) (Obj.cells #[.int .i64 r.kind, .string r.who, .slice none 0 0, .string r.text] 24)
    have q3 := HQ2.out.below hx3 (by omega)
    have d2 := q3.c2
    have x3 := Box4.new w2 24 (.int .i64 r.kind) (.string r.who) (.slice none 0 0) (.string r.text)
    have hsrc : (∃ ad, a = some ad ∧ ∀ j u, (i64s r.nums)[j]? = some u → (w2.alloc (Obj.cells #[.int .i64 r.kind, .string r.who, .slice none 0 0, .string r.text] 24)).cell? (ad.add j) = some u) ∨ (a = none ∧ r.nums = []) := by
      obtain ⟨_, a', c', e, _, _, h0 | ⟨b, off, hab, hcell⟩⟩ := HI.out.below hx3
      · cases a with
        | none => exact Or.inr ⟨rfl, h0⟩
        | some ad => exact Or.inl ⟨ad, rfl, fun j u hu => by rw [h0] at hu; simp [i64s] at hu⟩
      · simp only [Value.slice.injEq] at e
        refine Or.inl ⟨⟨b, off, none⟩, by rw [e.1, hab], fun j u hu => ?_⟩
        have hj : j < r.nums.length := by
          rcases Nat.lt_or_ge j (i64s r.nums).length with h1 | h1
          · rwa [i64s_len] at h1
          · rw [List.getElem?_eq_none h1] at hu; cases hu
        rw [add_off, hcell j hj]
        simp [i64s, hj] at hu
        rw [hu]
    rcases hsrc with ⟨ad, rfl, hsrc⟩ | ⟨rfl, hnil⟩
    · go_wp2_with (at_builtin; refine wpList_append_own _ rfl _ _ 22 rfl (w2.heap.size + 1) 3 i0 (.int .i64 0) 1 8 Try.underlying22 hi hz0 hz1 hz2 rfl (by decide) _ _ _ rfl (World.ownsRow_nil _ _ _ _) ad r.nums.length c (i64s r.nums) rfl (by rw [i64s_len]; omega) hsrc (by intro u hu; simp only [i64s, List.mem_map] at hu; obtain ⟨_, _, rfl⟩ := hu; rfl) (by unfold maxLen; omega) (by omega) (by simp) ?_)
      intro v3 w3 o3 g3 _
      have b3 : Below w2.heap.size w2 w3 := hx3.grown g3 (by simp) (fun k hk => by simp [Value.ownBlock] at hk)
      have x3' : Box4 w3 w2.heap.size 24 (.int .i64 r.kind) (.string r.who) (.slice none 0 0) (.string r.text) := Box4.of ((g3.block w2.heap.size (by simp) (by simp [Value.ownBlock])).trans x3.blk)
      obtain ⟨va, vc, rfl⟩ := own_slice o3
      have HI4 := hid (IsInts.of_own (ownsRow_setCell_below o3 (a := ⟨w2.heap.size, 2, none⟩) (by show w2.heap.size < w2.heap.size + 1; omega) (.slice va r.nums.length vc)) h.1)
      clear o3 g3 hsrc
      have x4 : Box4 (w3.setCell ⟨w2.heap.size, 2, none⟩ (.slice va r.nums.length vc)) w2.heap.size 24 (.int .i64 r.kind) (.string r.who) (.slice va r.nums.length vc) (.string r.text) := Box4.of (set_at (L := [_, _, _, _]) (k := 2) x3'.blk)
      have b4 : Below w2.heap.size w2 (w3.setCell ⟨w2.heap.size, 2, none⟩ (.slice va r.nums.length vc)) := b3.setCell (p := ⟨w2.heap.size, 2, none⟩) (Nat.le_refl _) _
      have s4 : w2.heap.size + 1 ≤ (w3.setCell ⟨w2.heap.size, 2, none⟩ (.slice va r.nums.length vc)).heap.size := by have := lt_of_block x4.blk; omega
      have HX4 := hid x4
      have HQ4 := hid (HQ2.out.below b4 (by omega))
      have HR4 := hid (HR2.out.below b4)
      have HJ4 := hid (HI.out.below b4)
      obtain ⟨_, y0, y1, y2, y3, yf⟩ := x3'
      obtain ⟨_, z0, z1, z2, z3, zf⟩ := x4
      clear c0 c1 c2 c3 fr q3 x3 d2
      go_wp2_with fail
      generalize w3.setCell ⟨w2.heap.size, 2, none⟩ (.slice va r.nums.length vc) = W4 at *
      clear y0 y1 y2 y3 yf z0 z1 z2 z3 zf
      refine (encode_any W4 r (.slice va r.nums.length vc) hf HI4.out).mono ?_
      rintro e w5 ⟨rfl, b5'⟩
      have b5 := b4.trans (b5'.mono (by omega))
      have HI5 := hid (HI4.out.below b5')
      have HJ5 := hid (HJ4.out.below b5')
      have HR5 := hid (HR4.out.below b5')
      have HQ5 := hid (HQ4.out.below b5' (by have := b4.size; omega))
      have HX5 := hid (HX4.out.below b5' (by omega))
      have s5 := b5'.size
      obtain ⟨E, HE⟩ : ∃ E, Hid (encE r = E) := ⟨_, rfl⟩
      obtain ⟨T, HT⟩ : ∃ T, Hid (encT r = T) := ⟨_, rfl⟩
      rw [HE.out, HT.out]
      obtain ⟨_, z0, z1, z2, z3, zf⟩ := HQ5.out
      go_wp2_with fail
      refine (xencode_any w5 r (.slice (some ad) r.nums.length c) hf HJ5.out).mono ?_
      rintro e w6 ⟨rfl, b6'⟩
      have b6 := b5.trans (b6'.mono (by have := b5.size; omega))
      have HR6 := hid (HR5.out.below b6')
      rw [HE.out, HT.out]
      clear z0 z1 z2 z3 zf
      obtain ⟨_, z0, z1, z2, z3, zf⟩ := HX5.out.below b6' (by omega)
      have hone := one_row w6 r (.slice va r.nums.length vc) hf (HI5.out.below b6')
      have HBw := hid (show Below w.heap.size w w6 from b2.trans (b6.mono (by have := b2.size; omega)))
      go_wp2_with fail
      refine (same_true _ _ _ _ (HR6.out.below ((Below.refl _ _).alloc (Nat.le_refl _) _)) hone).mono ?_
      rintro e w7 ⟨rfl, b7'⟩
      have b7 := chain2 (chain2 HBw.out ((Below.refl _ _).alloc (Nat.le_refl _) _)) b7'
      go_wp2
      go_ret
      exact ⟨rfl, b7⟩
    · have hlen0 : r.nums.length = 0 := by rw [hnil]; rfl
      have HI4 := hid (show IsInts (w2.alloc (Obj.cells #[.int .i64 r.kind, .string r.who, .slice none 0 0, .string r.text] 24)) (.slice none 0 0) r.nums by rw [hnil]; exact IsInts.nil _)
      have HQ4 := hid q3
      have HX4 := hid x3
      have HR4 := hid (HR2.out.below hx3)
      have HJ4 := hid (HI.out.below hx3)
      have s4 : w2.heap.size + 1 ≤ (w2.alloc (Obj.cells #[.int .i64 r.kind, .string r.who, .slice none 0 0, .string r.text] 24)).heap.size := by simp
      rw [hlen0] at HQ4 HJ4
      go_wp2_with fail
      clear c0 c1 c2 c3 fr q3 x3 d2 hnil
      generalize w2.alloc (Obj.cells #[Value.int .i64 r.kind, .string r.who, .slice none 0 0, .string r.text] 24) = W4 at *
      refine (encode_any W4 r (.slice none 0 0) hf HI4.out).mono ?_
      rintro e w5 ⟨rfl, b5'⟩
      have b5 := hx3.trans (b5'.mono (by omega))
      have HI5 := hid (HI4.out.below b5')
      have HJ5 := hid (HJ4.out.below b5')
      have HR5 := hid (HR4.out.below b5')
      have HQ5 := hid (HQ4.out.below b5' (by omega))
      have HX5 := hid (HX4.out.below b5' (by omega))
      have s5 := b5'.size
      obtain ⟨E, HE⟩ : ∃ E, Hid (encE r = E) := ⟨_, rfl⟩
      obtain ⟨T, HT⟩ : ∃ T, Hid (encT r = T) := ⟨_, rfl⟩
      rw [HE.out, HT.out]
      obtain ⟨_, z0, z1, z2, z3, zf⟩ := HQ5.out
      go_wp2_with fail
      refine (xencode_any w5 r (.slice none 0 c) hf HJ5.out).mono ?_
      rintro e w6 ⟨rfl, b6'⟩
      have b6 := b5.trans (b6'.mono (by have := b5.size; omega))
      have HR6 := hid (HR5.out.below b6')
      rw [HE.out, HT.out]
      clear z0 z1 z2 z3 zf
      obtain ⟨_, z0, z1, z2, z3, zf⟩ := HX5.out.below b6' (by omega)
      have hone := one_row w6 r (.slice none 0 0) hf (HI5.out.below b6')
      have HBw := hid (show Below w.heap.size w w6 from b2.trans (b6.mono (by have := b2.size; omega)))
      go_wp2_with fail
      refine (same_true _ _ _ _ (HR6.out.below ((Below.refl _ _).alloc (Nat.le_refl _) _)) hone).mono ?_
      rintro e w7 ⟨rfl, b7'⟩
      have b7 := chain2 (chain2 HBw.out ((Below.refl _ _).alloc (Nat.le_refl _) _)) b7'
      go_wp2
      go_ret
      exact ⟨rfl, b7⟩
end Go.Proofs.Ytgcfgfkociaooaa
