/- The document's Decode. -/
import Derived.Test.YtfpifjejooineaaRcXone
import Derived.Test.YtfpifjejooineaaRcDec
namespace Go.Proofs.Ytfpifjejooineaa.Rc
open Go.RowKit
set_option linter.unusedVariables false
set_option maxRecDepth 100000
set_option linter.unusedSimpArgs false

theorem DRow.made (w : World) (base : Nat) (hb : base ≤ w.heap.size) : DRow (w.alloc (.cells #[] 29)) base (.slice (some ⟨w.heap.size, 0, none⟩) 0 0) [] :=
  ⟨by simp, [], rfl, World.ownsRow_made w #[] 0 hb (Nat.zero_le _) (by simp), fun i hi => by simp at hi⟩
set_option maxHeartbeats 8000000 in
theorem xdecode_any (w : World) (s : ByteArray) (hs : s.size ≤ 1000000) :
    Calls Try.prog 11 #[.string s] w fun e w' => ∃ (l : Value) (L : List Rec) (n : Nat), e = .returned (.tuple #[l, .int .i64 (n : Int)]) ∧ Dec (Bs.of s) L n ∧ Row w' w.heap.size l L ∧ Below w.heap.size w w' := by
  have B0 := (Below.refl w.heap.size w).alloc (Nat.le_refl _) (Obj.cells #[] 29)
  have D0 := DRow.made w w.heap.size (Nat.le_refl _)
  obtain ⟨i0, hi, hz0, hz1, hz2⟩ := info_parts info_rec
  go_enter Try.func11, Try.ntmps11
  go_wp2
  generalize w.alloc (Obj.cells #[] 29) = W0 at *
  go_loopw [4, 5] (fun l c wr => ∃ (L : List Rec) (k : Nat), c = .int .i64 (k : Int) ∧ Hid (k = (encs L).length ∧ Bs.of s = encs L ++ (Bs.of s).drop k) ∧ k ≤ s.size ∧ L.length ≤ k ∧ DRow wr w.heap.size l L ∧ Below w.heap.size w wr) (fun _ c _ => s.size - (intOf c).toNat)
  case atStart => exact ⟨[], 0, rfl, ⟨rfl, rfl⟩, by omega, Nat.le_refl _, D0, B0⟩
  case round =>
    obtain ⟨L, k, rfl, HK, hkl, hLk, D, b⟩ := hrel
    clear B0 D0
    have sz := b.size
    by_cases hlt : k < s.size
    · have hxs : (s.extract k s.size).size ≤ 1000000 := by rw [ByteArray.size_extract]; omega
      have HEx := hid (of_extract_end s k)
      go_wp2_with fail
      refine (xone_any wr (s.extract k s.size) hxs).mono ?_
      rintro e w1 ⟨⟨r, v, g, hd, o, rfl⟩ | ⟨hno, k1, y1, a1, n1, c1, t1, rfl⟩, b1'⟩
      · rw [HEx.out] at hd
        have D1 := D.below b1'
        have b1 := chain2 b b1'
        have o1 := own_mono o sz
        have s1 := b1'.size
        have HK' := hid (show k + (enc r).length = (encs (L ++ [r])).length ∧ Bs.of s = encs (L ++ [r]) ++ (Bs.of s).drop (k + (enc r).length) ∧ k + (enc r).length ≤ s.size from by
          have h1 := congrArg List.length hd
          rw [List.length_drop, List.length_append, List.length_drop, List.length_drop, of_len] at h1
          refine ⟨by rw [encs_snoc, List.length_append, ← HK.out.1], ?_, by omega⟩
          rw [encs_snoc, List.append_assoc, ← List.drop_drop, ← hd]
          exact HK.out.2)
        have hk2 : k + (enc r).length ≤ s.size := HK'.out.2.2
        have hen := enc_len r
        have HG := hid g
        clear D b b1' hd o g
        obtain ⟨m, HM⟩ : ∃ m, Hid ((enc r).length = m) := ⟨_, rfl⟩
        rw [HM.out] at hk2 hen ⊢
        unfold rv
        obtain ⟨va, vc, rfl⟩ := own_slice o1
        obtain ⟨hf, vs, q1, q2, q3⟩ := D1
        have HF := hid hf
        have HQ1 := hid q1
        have HQ3 := hid q3
        clear hf q1 q3
        have hm0 : ((m : Int) == 0) = false := beq_eq_false_iff_ne.2 (by omega)
        have X1 := (Below.refl w1.heap.size w1).alloc (Nat.le_refl _) (Obj.cells #[.int .i64 r.kind, .string r.who, .slice va r.nums.length vc, .string r.text] 29)
        have q2' := (q2.alloc (Obj.cells #[.int .i64 r.kind, .string r.who, .slice va r.nums.length vc, .string r.text] 29)).alloc (Obj.cells #[.int .i64 r.kind, .string r.who, .slice va r.nums.length vc, .string r.text] 29)
        have o2 := (o1.alloc (Obj.cells #[.int .i64 r.kind, .string r.who, .slice va r.nums.length vc, .string r.text] 29)).alloc (Obj.cells #[.int .i64 r.kind, .string r.who, .slice va r.nums.length vc, .string r.text] 29)
        have hb2 : Below w1.heap.size w1 ((w1.alloc (Obj.cells #[.int .i64 r.kind, .string r.who, .slice va r.nums.length vc, .string r.text] 29)).alloc (Obj.cells #[.int .i64 r.kind, .string r.who, .slice va r.nums.length vc, .string r.text] 29)) := X1.alloc (by simp) _
        have b2 := chain2 b1 hb2
        have hs1 : w.heap.size ≤ w1.heap.size := by omega
        go_wp2_with (at_builtin; refine wpList_append_own _ rfl _ _ 22 rfl w.heap.size 29 i0 (.agg #[.int .i64 0, .string ⟨#[]⟩, .slice none 0 0, .string ⟨#[]⟩]) 4 64 Try.underlying22 hi hz0 hz1 hz2 rfl (by decide) _ _ _ rfl q2' ⟨w1.heap.size + 1, 0, none⟩ 1 1 [.int .i64 r.kind, .string r.who, .slice va r.nums.length vc, .string r.text] rfl rfl (fun j u hj => by have h4 := four_cells (w1.alloc (Obj.cells #[.int .i64 r.kind, .string r.who, .slice va r.nums.length vc, .string r.text] 29)) 29 _ _ _ _ j u hj; rw [World.size_alloc] at h4; exact h4) (by intro u hu; simp at hu; rcases hu with rfl | rfl | rfl | rfl <;> rfl) (by unfold maxLen; omega) (by omega) (by simp; omega) ?_)
        intro v' w3 o3 hgrow _
        have D3 : DRow w3 w.heap.size v' (L ++ [r]) := DRow.snoc HF.out HQ1.out q2' (fun i hi hi' => ((HQ3.out i hi hi').alloc _).alloc _) HG.out o2 o3 hgrow
        have b3 : Below w.heap.size w w3 := b2.grown hgrow (by simp; omega) (fun g hg => (q2'.lt g hg).1)
        clear o3 hgrow q2' o2 b2 hb2 X1 q2 b1 o1
        go_wp2
        go_roundw
        case rel => exact ⟨L ++ [r], k + m, by go_num, by show _ = _ ∧ _; rw [← HM.out]; exact ⟨HK'.out.1, HK'.out.2.1⟩, hk2, by simp; omega, D3, b3⟩
        case measure => simp [intOf]; omega
      · rw [HEx.out] at hno
        have D1 := D.below b1'
        have b1 := chain2 b b1'
        have HD := hid (show Dec (Bs.of s) L k from ⟨D.1, HK.out.1, _, HK.out.2, hno⟩)
        have X1 := (Below.refl w1.heap.size w1).alloc (Nat.le_refl _) (Obj.cells #[.int .i64 k1, .string y1, .slice a1 n1 c1, .string t1] 29)
        have HR := hid (D1.below X1).row
        have HBB := hid (chain2 b1 X1)
        clear D b b1' hno D1 b1 X1
        go_wp2
        exact bodyPost_ret (v := .tuple #[u4, .int .i64 (k : Int)]) (by simp [results, Try.results11, go_sem]) rfl ⟨_, _, _, rfl, HD.out, HR.out, HBB.out⟩
    · have HD := hid (show Dec (Bs.of s) L k from ⟨D.1, HK.out.1, _, HK.out.2, by rw [drop_end s k (by omega)]; exact no_short (by simp)⟩)
      have HR := hid D.row
      go_wp2
      exact bodyPost_ret (v := .tuple #[u4, .int .i64 (k : Int)]) (by simp [results, Try.results11, go_sem]) rfl ⟨_, _, _, rfl, HD.out, HR.out, b⟩
end Go.Proofs.Ytfpifjejooineaa.Rc
