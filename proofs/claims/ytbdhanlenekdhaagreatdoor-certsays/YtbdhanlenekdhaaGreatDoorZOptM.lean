/- cert: what Optimal asks. -/
import Derived.Test.YtbdhanlenekdhaaGreatDoorPk34
namespace Go.Proofs.YtbdhanlenekdhaaGreatDoor
open Go.RowKit
set_option linter.unusedVariables false
set_option maxRecDepth 100000
set_option linter.unusedSimpArgs false

theorem txr_can {s : ByteArray} {q : Rat} (h : TxR s q) : CanR s q := ⟨h, by have := q.den_pos; omega, by rw [Int.natAbs_natCast]; exact q.reduced⟩
theorem TxR.eq {s : ByteArray} {p q : Rat} (h : TxR s p) (k : TxR s q) : p = q := (txr_can h).inj (txr_can k)
theorem opt_iff {P : Prb} {S T : List ByteArray} {s t : ByteArray} {e g : Int} (h : WorS P P.c S s e) (k : WorS P P.b T t g) : OptS P S T ↔ e = 0 ∧ g = 0 ∧ s = t ∧ FeaS P S ∧ DuaS P T := by
  constructor
  · rintro ⟨hf, hd, X, Y, hX, hY, hXY⟩
    rcases h with ⟨h1, h2, ⟨X', h3, h4⟩, h5⟩ | ⟨h1, _, _⟩
    · rcases k with ⟨k1, k2, ⟨Y', k3, k4⟩, k5⟩ | ⟨k1, _, _⟩
      · refine ⟨h5, k5, ?_, hf, hd⟩
        rw [h3.uniq hX, hXY] at h4
        rw [k3.uniq hY] at k4
        exact h4.inj k4
      · exact absurd ⟨hd.1, hd.2.1, Y, hY⟩ k1
    · exact absurd ⟨hf.1, hf.2.1, X, hX⟩ h1
  · rintro ⟨rfl, rfl, rfl, hf, hd⟩
    obtain ⟨f1, f2, X, f3, _⟩ := hf
    obtain ⟨d1, d2, Y, d3, _⟩ := id hd
    refine ⟨⟨f1, f2, X, f3, by assumption⟩, hd, X, Y, f3, d3, ?_⟩
    rcases h with ⟨h1, h2, ⟨X', h3, h4⟩, h5⟩ | ⟨h1, _, _⟩
    · rcases k with ⟨k1, k2, ⟨Y', k3, k4⟩, k5⟩ | ⟨k1, _, _⟩
      · rw [h3.uniq f3] at h4
        rw [k3.uniq d3] at k4
        exact h4.eq k4
      · exact absurd ⟨d1, d2, Y, d3⟩ k1
    · exact absurd ⟨f1, f2, X, f3⟩ h1
theorem toL_neq {s t : ByteArray} (h : ¬ s = t) : ¬ s.toList = t.toList := fun e => h (by
  rw [ByteArray.toList_eq, ByteArray.toList_eq] at e
  exact ByteArray.ext (Array.ext' e))
theorem WorS.yes' {P : Prb} {f : List Int} {S : List ByteArray} {X : List Rat} {s : ByteArray} {e : Int} (h : WorS P f S s e) (hc : chk P = 0) (hl : S.length = f.length) (hX : Nums S X) : e = 0 := by
  rcases h with ⟨_, _, _, h5⟩ | ⟨h1, _, _⟩
  · exact h5
  · exact absurd ⟨hc, hl, X, hX⟩ h1
end Go.Proofs.YtbdhanlenekdhaaGreatDoor
