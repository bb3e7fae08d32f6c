/- The law RecordOne. -/
import Derived.Test.YtgcfgfkociaooaaRcXdec
import Derived.Test.YtgcfgfkociaooaaRcSame
import Derived.Test.YtgcfgfkociaooaaRcOpen
namespace Go.Proofs.Ytgcfgfkociaooaa
open Go.RowKit
set_option linter.unusedVariables false
set_option maxRecDepth 100000
set_option linter.unusedSimpArgs false

theorem of_append (s t : ByteArray) : Bs.of (s ++ t) = Bs.of s ++ Bs.of t := by
  simp [Bs.of, ByteArray.data_append]
theorem Dec.few {s : Bs} {L : List Rec} {n : Nat} (h : Dec s L n) : L.length ≤ n := by
  have : ∀ L : List Rec, L.length ≤ (encs L).length := by
    intro L
    induction L with
    | nil => simp
    | cons r L ih => have := enc_len r; simp only [encs, List.length_append, List.length_cons]; omega
  rw [h.len]; exact this L
theorem encs_take (L : List Rec) (i : Nat) (hi : i < L.length) : encs (L.take (i + 1)) = encs (L.take i) ++ enc L[i] := by
  rw [show L.take (i + 1) = L.take i ++ [L[i]] by rw [List.take_add_one]; simp [List.getElem?_eq_getElem hi], encs_snoc]
theorem encs_take_le (L : List Rec) (i : Nat) : (encs (L.take i)).length ≤ (encs L).length := by
  have := congrArg List.length (congrArg encs (List.take_append_drop i L))
  rw [encs_app, List.length_append] at this
  omega
set_option maxHeartbeats 16000000 in
theorem rone_any (s : ByteArray) (more : Int) (w : World) (hw : s.size ≤ maxLen) (hmore : (Lit.int .u8 more).wf = true) :
    Calls Try.prog 4 #[.string s, .int .u8 more] w fun e w' => e = .returned (.bool true) ∧ Below w.heap.size w w' := by
  unfold maxLen at hw
  by_cases hbig : 32768 < s.size
  · have hb' : (32768 : Int) < (s.size : Int) := by omega
    go_enter Try.func4, Try.ntmps4
    go_wp2
    go_ret
    exact ⟨by simp, Below.refl _ _⟩
  have hb' : ¬ (32768 : Int) < (s.size : Int) := by omega
  have hm8 : 0 ≤ more ∧ more < 256 := by
    have := bounds_u8 hmore
    omega
  obtain ⟨x, hx⟩ : ∃ x : UInt8, (x.toNat : Int) = more := ⟨UInt8.ofNat more.toNat, by rw [u8n (by omega)]; omega⟩
  subst hx
  go_enter Try.func4, Try.ntmps4
  go_wp2_with fail
  refine (decode_any w s (by omega)).mono ?_
  rintro e w1 ⟨l, L, n, rfl, D1, R1, b1⟩
  have hn := D1.le
  rw [of_len] at hn
  have hLn := D1.few
  go_wp2_with fail
  refine (xdecode_any w1 s (by omega)).mono ?_
  rintro e w2 ⟨m, M, k, rfl, D2, R2, b2'⟩
  obtain ⟨rfl, rfl⟩ := D1.uniq D2
  have b2 := chain2 b1 b2'
  have HR := hid (R1.below b2').recs
  have HD := hid D1
  obtain ⟨la, lc, rfl, _⟩ := HR.out.slice
  clear D2 R2 R1 b2' D1
  go_wp2
  go_loopw [9, 10] (fun t i wr => ∃ (j : Nat) (T : ByteArray), j ≤ L.length ∧ i = .int .i64 (j : Int) ∧ t = .string T ∧ Hid (Bs.of T = encs (L.take j)) ∧ Below w2.heap.size w2 wr) (fun _ i _ => L.length - (intOf i).toNat)
  case atStart => exact ⟨0, ⟨#[]⟩, Nat.zero_le _, rfl, rfl, rfl, Below.refl _ _⟩
  case round =>
    obtain ⟨j, T, hj, rfl, rfl, HT, b3⟩ := hrel
    have b3w := chain2 b2 b3
    have hTs : T.size ≤ 32768 := by
      have h1 := encs_take_le L j
      rw [← of_len, HT.out]
      have := HD.out.len
      omega
    by_cases hlt : j < L.length
    · obtain ⟨bb, oo, dd, u1, e1, l1, m1, f1, r1⟩ := (HR.out.below b3).at j hlt
      simp only [Value.slice.injEq] at e1
      obtain ⟨rfl, _, rfl⟩ := e1
      unfold maxLen at m1
      have hg := HD.out.good L[j] (List.getElem_mem hlt)
      have HTk := hid (encs_take L j hlt)
      have hle2 := encs_take_le L (j + 1)
      rw [HTk.out, List.length_append, ← HT.out, of_len, ← HD.out.len] at hle2
      have HG := hid hg
      have HF := hid f1
      have HI := hid r1.ints
      obtain ⟨q1, x1, eq1, hN⟩ := r1.ints.slice
      subst eq1
      obtain ⟨k1, w1', n1, t1, _⟩ := r1
      generalize L[j] = r at *
      go_wp2_with fail
      refine (encode_good wr r (.slice q1 r.nums.length x1) HF.out HI.out HG.out).mono ?_
      rintro e w3 ⟨rfl, b4'⟩
      have b4 := chain2 b3 b4'
      obtain ⟨X, HX⟩ : ∃ X, Hid (Bs.str (enc r) = X) := ⟨_, rfl⟩
      rw [HX.out]
      have hXs : X.size = (enc r).length := by rw [← HX.out, str_size]
      have hXl : T.size + X.size ≤ 32768 := by omega
      have hsum : ∀ v, (Op.stringOp .add T X).run Try.prog v = .ok (.string (T ++ X)) v := fun v => run_string_add_sum v _ _ (by omega)
      have HN := hid (show Bs.of (T ++ X) = encs (L.take (j + 1)) by rw [of_append, HTk.out, HT.out, ← HX.out, of_str])
      clear k1 w1' n1 t1 hXs b4' hle2
      go_wp2
      go_roundw
      case rel => exact ⟨j + 1, T ++ X, by omega, by go_num, rfl, HN.out, b4⟩
      case measure => simp [intOf]; omega
    · obtain rfl : j = L.length := by omega
      have hT : T = s.extract 0 n := by
        apply of_inj
        rw [HT.out, List.take_length, of_extract_head, HD.out.take]
      subst hT
      have o : (wr.alloc (Obj.cells #[.int .u8 (x.toNat : Int)] 5)).ownsRow wr.heap.size 5 1 (.slice (some ⟨wr.heap.size, 0, none⟩) 1 1) [x].length (Lib.byteCells [x]) :=
        ⟨rfl, Or.inr ⟨wr.heap.size, 1, #[.int .u8 (x.toNat : Int)], rfl, Nat.le_refl _, heap_alloc_last wr _, Nat.le_refl _, by unfold maxLen; omega, rfl, rfl⟩⟩
      have hcv : (convert 34 9 (.slice (some ⟨wr.heap.size, 0, none⟩) 1 1)).run Try.prog (wr.alloc (Obj.cells #[.int .u8 (x.toNat : Int)] 5)).drew = .ok (.string (Bs.str [x])) (wr.alloc (Obj.cells #[.int .u8 (x.toNat : Int)] 5)).drew := bytes_conv (w := (wr.alloc (Obj.cells #[.int .u8 (x.toNat : Int)] 5)).drew) (base := wr.heap.size) o
      have hcv0 : (convert 34 9 (.slice (some ⟨wr.heap.size, 0, none⟩) 1 1)).run Try.prog (wr.alloc (Obj.cells #[.int .u8 (x.toNat : Int)] 5)) = .ok (.string (Bs.str [x])) (wr.alloc (Obj.cells #[.int .u8 (x.toNat : Int)] 5)) := bytes_conv o
      obtain ⟨X, HX⟩ : ∃ X, Hid (Bs.str [x] = X) := ⟨_, rfl⟩
      rw [HX.out] at hcv hcv0
      have hXs : X.size = 1 := by rw [← HX.out, str_size]; rfl
      have hsum : ∀ v, (Op.stringOp .add (s.extract 0 n) X).run Try.prog v = .ok (.string (s.extract 0 n ++ X)) v := fun v => run_string_add_sum v _ _ (by omega)
      have HM := hid (show Dec (Bs.of (s.extract 0 n ++ X)) L n by rw [of_append, of_extract_head, ← HX.out, of_str]; exact HD.out.more x)
      have hsz : (s.extract 0 n ++ X).size ≤ 100000 := by rw [ByteArray.size_append]; omega
      have X1 := (Below.refl wr.heap.size wr).alloc (Nat.le_refl _) (Obj.cells #[.int .u8 (x.toNat : Int)] 5)
      clear o hXs
      go_wp2_with fail
      go_region_with ((go_at_call 10; refine (decode_any _ _ (by omega)).mono ?_; rintro e w5 ⟨vm, M, k, rfl, D5, R5, b5'⟩))
      obtain ⟨rfl, rfl⟩ := HM.out.uniq D5
      have b5 := chain2 (chain2 b3 X1.drew) b5'
      have HR5 := hid R5.recs
      clear D5 R5 b5' hcv hcv0 hsum
      have bw := chain2 b2 b5
      go_wp2_with fail
      refine (same_true w5 _ vm L (HR.out.below b5) HR5.out).mono ?_
      rintro e w6 ⟨rfl, b6'⟩
      have b6 := chain2 bw b6'
      go_wp2
      go_ret
      exact ⟨by simp, b6⟩
end Go.Proofs.Ytgcfgfkociaooaa
