/- isText: is it a number's text? -/
import Derived.Test.YteelnimchlgdmaaDoorScale
import Derived.Test.YteelnimchlgdmaaDoorTexts
namespace Go.Proofs.YteelnimchlgdmaaDoor
open Go.RowKit
set_option linter.unusedVariables false
set_option maxRecDepth 100000
set_option linter.unusedSimpArgs false

theorem tl_len (s : ByteArray) : s.toList.length = s.size := by rw [ByteArray.toList_eq]; rfl
theorem tl_empty {s : ByteArray} (h : s.size ≠ 0) : s.toList.isEmpty = false := by
  have := tl_len s
  cases hl : s.toList with
  | nil => rw [hl] at this; simp at this; omega
  | cons a r => rfl
theorem tl_none {s : ByteArray} (h : s.size = 0) : s.toList.isEmpty = true := by
  have := tl_len s
  cases hl : s.toList with
  | nil => rfl
  | cons a r => rw [hl] at this; simp at this; omega
theorem tl_inj {s t : ByteArray} (h : s.toList = t.toList) : s = t := by
  rw [ByteArray.toList_eq, ByteArray.toList_eq] at h
  exact ByteArray.ext (Array.toList_inj.1 h)
theorem tl_long {s : ByteArray} (h : 1 < s.size) : (s.toList == [48]) = false := by
  rw [beq_eq_false_iff_ne]; intro e
  have := tl_len s
  rw [e] at this; simp at this; omega
theorem tl_nought {s : ByteArray} (h : s.size = 1) (h0 : bt s 0 = 48) : (s.toList == [48]) = true := by
  have e : s = ⟨#[48]⟩ := by
    refine ext_bt h ?_
    intro k hk
    obtain rfl : k = 0 := by omega
    rw [h0]; rfl
  rw [e, ByteArray.toList_eq]; rfl
end Go.Proofs.YteelnimchlgdmaaDoor
