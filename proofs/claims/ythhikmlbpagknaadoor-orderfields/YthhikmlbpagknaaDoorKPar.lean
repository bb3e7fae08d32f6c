/- order: what Parse answers, plainly; the verbs. -/
import Derived.Test.YthhikmlbpagknaaDoorKAsk
import Derived.Test.YthhikmlbpagknaaDoorLWords
namespace Go.Proofs.YthhikmlbpagknaaDoor
open Go.RowKit
set_option linter.unusedVariables false
set_option maxRecDepth 100000
set_option linter.unusedSimpArgs false

/-- A plain Ask. -/
structure Ak where
  kind : Int
  cents : Int
  seq : Int
  sw : ByteArray
  s1 : Int
  s2 : Int
  s3 : Int
  sb : Bool
  s5 : Int
  s6 : Int
  bw : ByteArray
  b1 : Int
  b2 : Int
  bb : Bool
  b4 : Int
  bq : List Int
  b6 : Int
  b7 : Int
def ak0 : Ak := ⟨0, 0, 0, ⟨#[]⟩, 0, 0, 0, false, 0, 0, ⟨#[]⟩, 0, 0, false, 0, [], 0, 0⟩
/-- Its cells; its Qty's slice is q. -/
def askV (a : Ak) (q : Value) : Array Value :=
  #[.int .i64 a.kind, .int .i64 a.cents, .int .i64 a.seq, .string a.sw, .int .i64 a.s1, .int .i64 a.s2, .int .i64 a.s3, .bool a.sb, .int .i64 a.s5, .int .i64 a.s6, .string a.bw, .int .i64 a.b1, .int .i64 a.b2, .bool a.bb, .int .i64 a.b4, q, .int .i64 a.b6, .int .i64 a.b7]
def lockB : ByteArray := ⟨#[108, 111, 99, 107]⟩
def stepB : ByteArray := ⟨#[115, 116, 101, 112]⟩
def blockB : ByteArray := ⟨#[98, 108, 111, 99, 107]⟩
def cancelB : ByteArray := ⟨#[99, 97, 110, 99, 101, 108]⟩
def lockE (x1 : ByteArray) : Int := orE 0 (numF x1 1 1000000000 92)
def cancelE (x1 : ByteArray) : Int := orE 0 (numF x1 1 1000 92)
def stepE (g : Gd) (x1 x2 x3 x4 x5 x6 : ByteArray) : Int :=
  orE (orE (orE (orE (orE (orE 0 (numF x1 1 1000 92)) (numF x2 0 (top g.zones) 93)) (numF x3 0 (top g.hours) 94)) (sideF x4)) (numF x5 1 1000 95)) (numF x6 g.low g.high 96)
def blockE (g : Gd) (x1 x2 x3 x4 x5 x6 x7 : ByteArray) : Int :=
  orE (orE (orE (orE (orE (orE (orE 0 (numF x1 1 1000 92)) (numF x2 0 (top g.zones) 93)) (sideF x3)) (numF x4 g.low g.high 96)) (qF x5 g.hours)) (numF x6 0 1000 92)) (numF x7 0 9 92)
def lockA (x1 : ByteArray) : Ak := { ak0 with kind := 1, cents := numR x1 }
def cancelA (x1 : ByteArray) : Ak := { ak0 with kind := 4, seq := numR x1 }
def stepA (who x1 x2 x3 x4 x5 x6 : ByteArray) : Ak := { ak0 with kind := 2, sw := who, s1 := numR x1, s2 := numR x2, s3 := numR x3, sb := decide (x4 = buyB), s5 := numR x5, s6 := numR x6 }
def blockA (who x1 x2 x3 x4 x5 x6 x7 : ByteArray) : Ak := { ak0 with kind := 3, bw := who, b1 := numR x1, b2 := numR x2, bb := decide (x3 = buyB), b4 := numR x4, bq := numsL x5, b6 := numR x6, b7 := numR x7 }
/-- The error and the Ask of a line's words. -/
def parL (who : ByteArray) (g : Gd) (L : List ByteArray) : Int × Ak :=
  if L.getD 0 ⟨#[]⟩ = lockB then (match L with | [_, x1] => if lockE x1 = 0 then (0, lockA x1) else (lockE x1, ak0) | _ => (91, ak0))
  else if L.getD 0 ⟨#[]⟩ = stepB then (match L with | [_, x1, x2, x3, x4, x5, x6] => if stepE g x1 x2 x3 x4 x5 x6 = 0 then (0, stepA who x1 x2 x3 x4 x5 x6) else (stepE g x1 x2 x3 x4 x5 x6, ak0) | _ => (91, ak0))
  else if L.getD 0 ⟨#[]⟩ = blockB then (match L with | [_, x1, x2, x3, x4, x5, x6, x7] => if blockE g x1 x2 x3 x4 x5 x6 x7 = 0 then (0, blockA who x1 x2 x3 x4 x5 x6 x7) else (blockE g x1 x2 x3 x4 x5 x6 x7, ak0) | _ => (91, ak0))
  else if L.getD 0 ⟨#[]⟩ = cancelB then (match L with | [_, x1] => if cancelE x1 = 0 then (0, cancelA x1) else (cancelE x1, ak0) | _ => (91, ak0))
  else (90, ak0)
/-- What Parse answers. -/
def par (who line : ByteArray) (g : Gd) : Int × Ak := if wordsE line = 0 then parL who g (wordsL line) else (wordsE line, ak0)
theorem kindOf_lock (w : World) : Calls Tryd.prog 16 #[.string ⟨#[108, 111, 99, 107]⟩] w fun r w' => r = .returned (.int .i64 1) ∧ w' = w := by
  go_enter Tryd.func16, Tryd.ntmps16
  go_wp2
  go_ret
  exact ⟨rfl, rfl⟩
theorem kindOf_step (w : World) : Calls Tryd.prog 16 #[.string ⟨#[115, 116, 101, 112]⟩] w fun r w' => r = .returned (.int .i64 2) ∧ w' = w := by
  go_enter Tryd.func16, Tryd.ntmps16
  go_wp2
  go_ret
  exact ⟨rfl, rfl⟩
theorem kindOf_block (w : World) : Calls Tryd.prog 16 #[.string ⟨#[98, 108, 111, 99, 107]⟩] w fun r w' => r = .returned (.int .i64 3) ∧ w' = w := by
  go_enter Tryd.func16, Tryd.ntmps16
  go_wp2
  go_ret
  exact ⟨rfl, rfl⟩
theorem kindOf_cancel (w : World) : Calls Tryd.prog 16 #[.string ⟨#[99, 97, 110, 99, 101, 108]⟩] w fun r w' => r = .returned (.int .i64 4) ∧ w' = w := by
  go_enter Tryd.func16, Tryd.ntmps16
  go_wp2
  go_ret
  exact ⟨rfl, rfl⟩
theorem kindOf_none (x : ByteArray) (h1 : ¬ x = lockB) (h2 : ¬ x = stepB) (h3 : ¬ x = blockB) (h4 : ¬ x = cancelB) (w : World) : Calls Tryd.prog 16 #[.string x] w fun r w' => r = .returned (.int .i64 0) ∧ w' = w := by
  obtain ⟨t1, u1⟩ := toL_ne (l := [108, 111, 99, 107]) h1
  obtain ⟨t2, u2⟩ := toL_ne (l := [115, 116, 101, 112]) h2
  obtain ⟨t3, u3⟩ := toL_ne (l := [98, 108, 111, 99, 107]) h3
  obtain ⟨t4, u4⟩ := toL_ne (l := [99, 97, 110, 99, 101, 108]) h4
  clear h1 h2 h3 h4
  go_enter Tryd.func16, Tryd.ntmps16
  go_wp2
  go_ret
  exact ⟨rfl, rfl⟩
theorem m_lock_words (a : Addr) (w : World) : (method 260 65 (.pointer (some a)) "noonbell/order.words").run Tryd.prog w = .ok (76, .pointer (some a)) w := by kernel_rfl
theorem m_lock_fill (a : Addr) (w : World) : (method 260 65 (.pointer (some a)) "noonbell/order.fill").run Tryd.prog w = .ok (75, .pointer (some a)) w := by kernel_rfl
theorem m_lock_ask (a : Addr) (w : World) : (method 260 65 (.pointer (some a)) "noonbell/order.ask").run Tryd.prog w = .ok (74, .pointer (some a)) w := by kernel_rfl
theorem m_step_words (a : Addr) (w : World) : (method 260 68 (.pointer (some a)) "noonbell/order.words").run Tryd.prog w = .ok (99, .pointer (some a)) w := by kernel_rfl
theorem m_step_fill (a : Addr) (w : World) : (method 260 68 (.pointer (some a)) "noonbell/order.fill").run Tryd.prog w = .ok (98, .pointer (some a)) w := by kernel_rfl
theorem m_step_ask (a : Addr) (w : World) : (method 260 68 (.pointer (some a)) "noonbell/order.ask").run Tryd.prog w = .ok (97, .pointer (some a)) w := by kernel_rfl
theorem m_block_words (a : Addr) (w : World) : (method 260 71 (.pointer (some a)) "noonbell/order.words").run Tryd.prog w = .ok (105, .pointer (some a)) w := by kernel_rfl
theorem m_block_fill (a : Addr) (w : World) : (method 260 71 (.pointer (some a)) "noonbell/order.fill").run Tryd.prog w = .ok (104, .pointer (some a)) w := by kernel_rfl
theorem m_block_ask (a : Addr) (w : World) : (method 260 71 (.pointer (some a)) "noonbell/order.ask").run Tryd.prog w = .ok (103, .pointer (some a)) w := by kernel_rfl
theorem m_cancel_words (a : Addr) (w : World) : (method 260 74 (.pointer (some a)) "noonbell/order.words").run Tryd.prog w = .ok (117, .pointer (some a)) w := by kernel_rfl
theorem m_cancel_fill (a : Addr) (w : World) : (method 260 74 (.pointer (some a)) "noonbell/order.fill").run Tryd.prog w = .ok (116, .pointer (some a)) w := by kernel_rfl
theorem m_cancel_ask (a : Addr) (w : World) : (method 260 74 (.pointer (some a)) "noonbell/order.ask").run Tryd.prog w = .ok (115, .pointer (some a)) w := by kernel_rfl
end Go.Proofs.YthhikmlbpagknaaDoor
