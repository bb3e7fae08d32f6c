/- The law RecordJoined. -/
import Derived.Test.YtgcfgfkociaooaaRcXdec
import Derived.Test.YtgcfgfkociaooaaRcSame
import Derived.Test.YtgcfgfkociaooaaRcJoin
namespace Go.Proofs.Ytgcfgfkociaooaa
open Go.RowKit
set_option linter.unusedVariables false
set_option maxRecDepth 100000
set_option linter.unusedSimpArgs false

theorem of_append (s t : ByteArray) : Bs.of (s ++ t) = Bs.of s ++ Bs.of t := by
  simp [Bs.of, ByteArray.data_append]
theorem Dec.few {s : Bs} {L : List Rec} {n : Nat} (h : Dec s L n) : L.length ≤ n := by
  have : ∀ L : List Rec, L.length ≤ (encs L).length := by
    intro L
    induction L with
    | nil => simp
    | cons r L ih => have := enc_len r; simp only [encs, List.length_append, List.length_cons]; omega
  rw [h.len]; exact this L
set_option maxHeartbeats 16000000 in
theorem rjoined_any (s t : ByteArray) (w : World) (hw : s.size ≤ maxLen) (hw2 : t.size ≤ maxLen) :
    Calls Try.prog 8 #[.string s, .string t] w fun e w' => e = .returned (.bool true) ∧ Below w.heap.size w w' := by
  unfold maxLen at hw hw2
  by_cases hbig : 32768 < s.size
  · have hb' : (32768 : Int) < (s.size : Int) := by omega
    go_enter Try.func8, Try.ntmps8
    go_wp2
    go_ret
    exact ⟨by simp, Below.refl _ _⟩
  have hb' : ¬ (32768 : Int) < (s.size : Int) := by omega
  by_cases hbig2 : 32768 < t.size
  · have hb2 : (32768 : Int) < (t.size : Int) := by omega
    go_enter Try.func8, Try.ntmps8
    go_wp2
    go_ret
    exact ⟨by simp, Below.refl _ _⟩
  have hb2 : ¬ (32768 : Int) < (t.size : Int) := by omega
  obtain ⟨i0, hi, hz0, hz1, hz2⟩ := info_parts info_rec
  go_enter Try.func8, Try.ntmps8
  go_wp2_with fail
  refine (decode_any w s (by omega)).mono ?_
  rintro e w1 ⟨l, L, n, rfl, D1, R1, b1⟩
  go_wp2_with fail
  refine (decode_any w1 t (by omega)).mono ?_
  rintro e w2 ⟨m, M, k, rfl, D2, R2, b2'⟩
  have b2 := chain2 b1 b2'
  have R1b := R1.below b2'
  have hn := D1.le
  have hk := D2.le
  rw [of_len] at hn hk
  have hLn := D1.few
  have hMk := D2.few
  have hxs : (s.extract 0 n ++ t).size ≤ 65536 := by rw [ByteArray.size_append, ByteArray.size_extract]; omega
  have hsum : ∀ v, (Op.stringOp .add (s.extract 0 n) t).run Try.prog v = .ok (.string (s.extract 0 n ++ t)) v := fun v => run_string_add_sum v _ _ (by rw [ByteArray.size_extract]; omega)
  have HJ := hid (show Dec (Bs.of (s.extract 0 n ++ t)) (L ++ M) (n + k) by rw [of_append, of_extract_head]; exact D1.joined D2)
  have HD1 := hid D1
  clear R1 D1 D2
  go_wp2_with fail
  refine (decode_any w2 (s.extract 0 n ++ t) (by omega)).mono ?_
  rintro e w3 ⟨va, A, i, rfl, D3, R3', b3'⟩
  obtain ⟨rfl, rfl⟩ := D3.uniq HJ.out
  have b3 := chain2 b2 b3'
  have R1c := R1b.below b3'
  have R2c := R2.below b3'
  clear R1b R2 D3 hsum
  go_wp2_with fail
  refine (xdecode_any w3 s (by omega)).mono ?_
  rintro e w4 ⟨vx, X, x, rfl, D4, R4, b4'⟩
  obtain ⟨rfl, rfl⟩ := HD1.out.uniq D4
  have b4 := chain2 b3 b4'
  have H1 := (R1c.below b4').src
  have H2 := (R2c.below b4').src
  have R3 := R3'.below b4'
  clear R1c R2c R4 D4 b4'
  have R5 := Row.made w4 w4.heap.size (Nat.le_refl _)
  have b6 := (Below.refl w4.heap.size w4).alloc (Nat.le_refl _) (Obj.cells #[] 24)
  have e2 : (w4.alloc (Obj.cells #[] 24)).ownsRow w4.heap.size 24 4 (.slice (some ⟨w4.heap.size, 0, none⟩) 0 0) 0 [] := World.ownsRow_made w4 #[] 0 (Nat.le_refl _) (Nat.zero_le _) (by simp)
  rcases H1 with ⟨rfl, rfl⟩ | ⟨t1, t1c, t1u, S1⟩
  · rcases H2 with ⟨rfl, rfl⟩ | ⟨t2, t2c, t2u, S2⟩
    · have HSame := hid (show IsRecs (w4.alloc (Obj.cells #[] 24)) va [] from (R3.below b6).recs)
      have HF := hid (chain2 b4 b6)
      have HRw := hid R5.recs
      go_wp2_with (at_builtin; refine wpList_append_own_none rfl _ _ 29 rfl w4.heap.size 24 i0 4 Try.underlying29 hi _ _ _ rfl e2 rfl ?_)
      refine (same_true (w4.alloc (Obj.cells #[] 24)) va (.slice (some ⟨w4.heap.size, 0, none⟩) 0 0) [] HSame.out HRw.out).mono ?_
      rintro e w8 ⟨rfl, b8'⟩
      have b8 := chain2 HF.out b8'
      go_wp2
      go_ret
      exact ⟨by simp, b8⟩
    · have S2' := S2.below b6
      have hform := S2.form
      subst hform
      go_wp2_with (first | (at_builtin; refine wpList_append_own_none rfl _ _ 29 rfl w4.heap.size 24 i0 4 Try.underlying29 hi _ _ _ rfl e2 rfl ?_) | (at_builtin; refine wpList_append_own_at _ rfl _ _ 29 rfl w4.heap.size 24 i0 (.agg #[.int .i64 0, .string ⟨#[]⟩, .slice none 0 0, .string ⟨#[]⟩]) 4 64 Try.underlying29 hi hz0 hz1 hz2 rfl (by decide) _ _ _ rfl e2 ⟨t2, 0, none⟩ M.length t2c (flat M t2u) rfl (by rw [flat_len _ _ S2'.len]) S2'.cells S2'.one (by unfold maxLen; omega) (by omega) (by simp) ?_))
      intro V7 W7 o9 g9 _ at9
      have R7 : Row W7 w4.heap.size V7 ([] ++ M) := Row.join (A := []) (vs := []) (by simp) rfl (fun i h => by simp at h) S2'.fits S2'.len (fun i h h' => ⟨S2'.ints i h h', fun hn e => by
        obtain ⟨b, hb1, hb2⟩ := S2.low i h h' hn
        have := (e2.lt b (by rw [← e, hb1])).1
        omega⟩) (by simpa [flat] using o9) g9 (by rw [World.size_alloc]; exact at9)
      have b7 : Below w4.heap.size w4 W7 := b6.grown g9 (by have := b6.size; omega) (fun q hq => (e2.lt q hq).1)
      clear o9 g9 at9 e2 b6 S2' S2
      have HSame := hid (show IsRecs W7 va ([] ++ M) from (R3.below b7).recs)
      have HF := hid (chain2 b4 b7)
      have HRw := hid R7.recs
      clear R7 b7
      go_wp2_with fail
      refine (same_true W7 va V7 ([] ++ M) HSame.out HRw.out).mono ?_
      rintro e w8 ⟨rfl, b8'⟩
      have b8 := chain2 HF.out b8'
      go_wp2
      go_ret
      exact ⟨by simp, b8⟩
  · have S1' := S1.below b6
    have hform := S1.form
    subst hform
    go_wp2_with (at_builtin; refine wpList_append_own_at _ rfl _ _ 29 rfl w4.heap.size 24 i0 (.agg #[.int .i64 0, .string ⟨#[]⟩, .slice none 0 0, .string ⟨#[]⟩]) 4 64 Try.underlying29 hi hz0 hz1 hz2 rfl (by decide) _ _ _ rfl e2 ⟨t1, 0, none⟩ L.length t1c (flat L t1u) rfl (by rw [flat_len _ _ S1'.len]) S1'.cells S1'.one (by unfold maxLen; omega) (by omega) (by simp) ?_)
    intro V6 W6 o9 g9 _ at9
    have R6 : Row W6 w4.heap.size V6 ([] ++ L) := Row.join (A := []) (vs := []) (by simp) rfl (fun i h => by simp at h) S1'.fits S1'.len (fun i h h' => ⟨S1'.ints i h h', fun hn e => by
        obtain ⟨b, hb1, hb2⟩ := S1.low i h h' hn
        have := (e2.lt b (by rw [← e, hb1])).1
        omega⟩) (by simpa [flat] using o9) g9 (by rw [World.size_alloc]; exact at9)
    rw [List.nil_append] at R6
    have bb : Below w4.heap.size w4 W6 := b6.grown g9 (by have := b6.size; omega) (fun q hq => (e2.lt q hq).1)
    clear o9 g9 at9 e2 b6 S1' S1
    obtain ⟨hf6, vs6, e1, e2, e3⟩ := R6
    have l6 := bb.size
    rcases H2 with ⟨rfl, rfl⟩ | ⟨t2, t2c, t2u, S2⟩
    · have R7 : Row W6 w4.heap.size V6 (L ++ []) := by rw [List.append_nil]; exact ⟨hf6, vs6, e1, e2, e3⟩
      have HSame := hid (show IsRecs W6 va (L ++ []) from (R3.below bb).recs)
      have HF := hid (chain2 b4 bb)
      have HRw := hid R7.recs
      clear R7
      go_wp2_with (at_builtin; refine wpList_append_own_none rfl _ _ 29 rfl w4.heap.size 24 i0 4 Try.underlying29 hi _ _ _ rfl e2 rfl ?_)
      refine (same_true W6 va V6 (L ++ []) HSame.out HRw.out).mono ?_
      rintro e w8 ⟨rfl, b8'⟩
      have b8 := chain2 HF.out b8'
      go_wp2
      go_ret
      exact ⟨by simp, b8⟩
    · have S2' := S2.below bb
      have hform := S2.form
      subst hform
      go_wp2_with (at_builtin; refine wpList_append_own_at _ rfl _ _ 29 rfl w4.heap.size 24 i0 (.agg #[.int .i64 0, .string ⟨#[]⟩, .slice none 0 0, .string ⟨#[]⟩]) 4 64 Try.underlying29 hi hz0 hz1 hz2 rfl (by decide) _ _ _ rfl e2 ⟨t2, 0, none⟩ M.length t2c (flat M t2u) rfl (by rw [flat_len _ _ S2'.len]) S2'.cells S2'.one (by unfold maxLen; omega) (by omega) (by omega) ?_)
      intro V7 W7 o9 g9 _ at9
      have R7 : Row W7 w4.heap.size V7 (L ++ M) := Row.join hf6 e1 e3 S2'.fits S2'.len (fun i h h' => ⟨S2'.ints i h h', fun hn e => by
        obtain ⟨b, hb1, hb2⟩ := S2.low i h h' hn
        have := (e2.lt b (by rw [← e, hb1])).1
        omega⟩) o9 g9 at9
      have b7 : Below w4.heap.size w4 W7 := bb.grown g9 (by omega) (fun q hq => (e2.lt q hq).1)
      clear o9 g9 at9 e1 e2 e3 bb S2' S2
      have HSame := hid (show IsRecs W7 va (L ++ M) from (R3.below b7).recs)
      have HF := hid (chain2 b4 b7)
      have HRw := hid R7.recs
      clear R7 b7
      go_wp2_with fail
      refine (same_true W7 va V7 (L ++ M) HSame.out HRw.out).mono ?_
      rintro e w8 ⟨rfl, b8'⟩
      have b8 := chain2 HF.out b8'
      go_wp2
      go_ret
      exact ⟨by simp, b8⟩
end Go.Proofs.Ytgcfgfkociaooaa
