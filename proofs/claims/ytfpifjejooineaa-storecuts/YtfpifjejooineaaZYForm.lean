/- StoreCuts' arguments. -/
import Derived.Test.YtfpifjejooineaaZYCutsWalk
namespace Go.Proofs.Ytfpifjejooineaa.Rc
open Go.RowKit Go.Deep
set_option linter.unusedVariables false
set_option maxRecDepth 100000

section
variable {H : Type} {enc : TypeId × Value → H} {W : World} {base : Nat} {spare : Nat → Bool} {held : Bool}
theorem recs_form {a : Option Addr} {len cap : Nat} {d : DataW H} {ps : List MemPlace} (h : DataW.Trod enc Try.prog W base spare held 22 (.slice a len cap) d ps) : Value.slice a len cap = .slice none 0 0 ∨ ∃ ad n c, Value.slice a len cap = .slice (some ad) n c := by
  obtain ⟨fuel, hf⟩ := h
  rcases open_slice Try.underlying22 hf with ⟨hcs, _⟩ | ⟨x, l, c, m, n, D, Pl, hcs, _, _⟩
  · simp [Value.cells] at hcs
    obtain ⟨rfl, rfl, rfl⟩ := hcs
    exact Or.inl rfl
  · simp [Value.cells] at hcs
    obtain ⟨rfl, rfl, rfl⟩ := hcs
    exact Or.inr ⟨_, _, _, rfl⟩
end
theorem ycuts_own (va : Value) (A : List Rec) (vb : Value) (R : List Rec) (whole : Bool) (cn kp : Int) (w : World) (ha : IsRecs w va A) (hb : IsRecs w vb R) (hcn : (Lit.int .i64 cn).wf = true) (hkp : (Lit.int .u64 kp).wf = true) (fa : va = .slice none 0 0 ∨ ∃ ad n c, va = .slice (some ad) n c) (fb : vb = .slice none 0 0 ∨ ∃ ad n c, vb = .slice (some ad) n c) :
    Calls Try.prog 5 #[va, vb, .bool whole, .int .i64 cn, .int .u64 kp] w fun e w' => e = .returned (.bool true) ∧ Below w.heap.size w w' := by
  have h1 := bounds_i64 hcn
  have h2 := bounds_u64 hkp
  obtain ⟨k, rfl⟩ : ∃ k : Nat, kp = (k : Int) := ⟨kp.toNat, by omega⟩
  exact ycuts_any va A vb R whole cn k w ha fa hb fb (by omega) (by omega)
end Go.Proofs.Ytfpifjejooineaa.Rc
