/- The law WalSums. -/
import Derived.Test.YtchhllbegokihaaWSum
import Derived.Below
namespace Go.Proofs.Ytchhllbegokihaa
open Go.RowKit
set_option linter.unusedVariables false
set_option maxRecDepth 100000
set_option linter.unusedSimpArgs false

set_option maxHeartbeats 1600000 in
theorem wsums_any (s : ByteArray) (c : Int) (w : World) (hs : s.size ≤ maxLen) (hc0 : (Lit.int IntKind.u8 c).wf = true) :
    Calls Try.prog 6 #[.string s, .int .u8 c] w fun e w' => e = .returned (.bool true) ∧ Below w.heap.size w w' := by
  unfold maxLen at hs
  have hc : 0 ≤ c ∧ c < 256 := by
    simp only [Lit.wf, IntKind.min, IntKind.max, IntKind.signed, IntKind.bits] at hc0
    simp at hc0
    omega
  clear hc0
  by_cases h : 65536 < s.size
  · go_enter Try.func6, Try.ntmps6
    go_wp2
    go_ret
    exact ⟨rfl, Below.refl _ _⟩
  · obtain ⟨x, hx⟩ : ∃ x : UInt8, (x.toNat : Int) = c := ⟨UInt8.ofNat c.toNat, by rw [UInt8.toNat_ofNat']; omega⟩
    subst hx
    clear hc
    have hlt := UInt8.toNat_lt x
    obtain ⟨t, ht⟩ : ∃ t : ByteArray, Hid (t = s ++ ⟨#[x]⟩) := ⟨_, rfl⟩
    have hsz : t.size = s.size + 1 := by rw [ht.out, ByteArray.size_append]; rfl
    have hsum : sumOf t = bits BinOp.xor IntKind.u32 (sumOf s) (x.toNat : Int) * 16777619 % 4294967296 := by
      rw [ht.out, sumOf_on]; rfl
    have hcv : (convert 51 9 (.slice (some ⟨w.heap.size, 0, none⟩) 1 1)).run Try.prog (w.alloc (Obj.cells #[Value.int IntKind.u8 (x.toNat : Int)] 5)) = .ok (.string ⟨#[x]⟩) (w.alloc (Obj.cells #[Value.int IntKind.u8 (x.toNat : Int)] 5)) := run_convert_bytes_back (P := Try.prog) (w.alloc (Obj.cells #[Value.int IntKind.u8 (x.toNat : Int)] 5)) 51 9 5 ⟨w.heap.size, 0, none⟩ 1 [x] Try.underlying51 Try.underlying5 Try.underlying9 (fun j hj => by
      match j, hj with | 0, _ => simp [Addr.add])
    have hadd : s ++ ⟨#[x]⟩ = t := ht.out.symm
    go_enter Try.func6, Try.ntmps6
    go_wp2_with fail
    have k1 := (Below.refl w.heap.size w).alloc (Nat.le_refl _) (Obj.cells #[Value.int IntKind.u8 (x.toNat : Int)] 5)
    generalize w.alloc (Obj.cells #[Value.int IntKind.u8 (x.toNat : Int)] 5) = w1 at *
    clear hadd hcv
    have hS := fun v => wsum_any s v (by omega)
    have hV := fun v => vsum_any s v (by omega)
    have hT := fun v => wsum_any t v (by omega)
    generalize sumOf t = st at *
    generalize sumOf s = ss at *
    refine (hS _).mono ?_
    rintro e w' ⟨rfl, rfl⟩
    go_wp2_with (first | (go_at_call 32; first | (refine (hS _).mono ?_; rintro e w' ⟨rfl, rfl⟩) | (refine (hT _).mono ?_; rintro e w' ⟨rfl, rfl⟩)) | (go_at_call 33; refine (hV _).mono ?_; rintro e w' ⟨rfl, rfl⟩))
    go_ret
    exact ⟨rfl, k1⟩
end Go.Proofs.Ytchhllbegokihaa
