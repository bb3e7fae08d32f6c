/- market: right, sameInts, bought, isAmong, gives. -/
import Derived.Test.YtlkcfgjhgmpbcaaK15M
import Derived.Deep.QuietTactic
namespace Go.Proofs.Ytlkcfgjhgmpbcaa
open Go.RowKit
set_option linter.unusedVariables false
set_option maxRecDepth 100000
set_option linter.unusedSimpArgs false

def rgS (s : Sp) : Bool := decide (1 ≤ s.qty) && decide (s.qty ≤ 1000) && decide (-100000 ≤ s.price) && decide (s.price ≤ 100000)
def rgN (n : Int) : Bool := decide (-100000 ≤ n) && decide (n ≤ 100000)
theorem rgS_iff {s : Sp} : rgS s = true ↔ 1 ≤ s.qty ∧ s.qty ≤ 1000 ∧ -100000 ≤ s.price ∧ s.price ≤ 100000 := by
  simp only [rgS, Bool.and_eq_true, decide_eq_true_eq]
  constructor
  · rintro ⟨⟨⟨a, b⟩, c⟩, d⟩; exact ⟨a, b, c, d⟩
  · rintro ⟨a, b, c, d⟩; exact ⟨⟨⟨a, b⟩, c⟩, d⟩
theorem rgN_iff {n : Int} : rgN n = true ↔ -100000 ≤ n ∧ n ≤ 100000 := by simp [rgN]
def Rgt (S : List Sp) (net : List Int) : Prop := (∀ s ∈ S, rgS s = true) ∧ ∀ n ∈ net, rgN n = true
set_option maxHeartbeats 3200000 in
theorem sameInts_any (w : World) (v1 v2 : Value) (L1 L2 : List Int) (h1 : Ints w v1 L1) (h2 : Ints w v2 L2) :
    Calls Try.prog 8 #[v1, v2] w fun e w' => (∃ R : Bool, e = .returned (.bool R) ∧ (L1 = L2 → R = true)) ∧ Below w.heap.size w w' := by
  have H1 := hid h1
  have H2 := hid h2
  obtain ⟨a, c, rfl, al, am⟩ := h1.slice
  obtain ⟨b, d, rfl, bl, bm⟩ := h2.slice
  unfold maxLen at am bm
  clear h1 h2
  by_cases hl : L1.length = L2.length
  case neg =>
    have hl' : ¬ (L1.length : Int) = (L2.length : Int) := by omega
    have hl2 : ((L1.length : Int) == (L2.length : Int)) = false := by simpa using hl'
    have HL := hid hl
    clear hl
    go_enter Try.func8, Try.ntmps8
    go_wp2
    go_ret
    exact ⟨⟨false, rfl, fun e => absurd (congrArg List.length e) HL.out⟩, Below.refl _ _⟩
  have HL := hid hl
  rw [← hl] at bl
  simp only [← hl]
  clear hl
  go_enter Try.func8, Try.ntmps8
  go_wp2
  go_loopw [5] (fun i wr => ∃ k : Nat, k ≤ L1.length ∧ i = .int .i64 (k : Int) ∧ Below w.heap.size w wr) (fun i _ => L1.length - (intOf i).toNat)
  case atStart => exact ⟨0, Nat.zero_le _, rfl, Below.refl _ _⟩
  case round =>
    obtain ⟨k, hk, rfl, bw⟩ := hrel
    by_cases hlt : k < L1.length
    · have hlt2 : k < L2.length := by rw [← HL.out]; exact hlt
      obtain ⟨b1, o1, c1, e1, _, _, g1⟩ := (H1.out.below bw).at k hlt
      obtain ⟨b2, o2, c2, e2, _, _, g2⟩ := (H2.out.below bw).at k hlt2
      simp only [Value.slice.injEq] at e1 e2
      obtain ⟨rfl, -, rfl⟩ := e1
      obtain ⟨rfl, -, rfl⟩ := e2
      have HEQ := hid (fun e : L1 = L2 => show L1[k] = L2[k] from by subst e; rfl)
      generalize L1[k] = x at *
      generalize L2[k] = y at *
      by_cases hxy : x = y
      · subst hxy
        clear HEQ
        go_wp2
        go_quiet (fail)
        go_wp2
        go_roundw
        case rel => exact ⟨k + 1, by omega, by go_num, below_dn bw _⟩
        case measure => simp [intOf]; omega
      · have hxy2 : (x == y) = false := by simpa using hxy
        go_wp2
        go_quiet (fail)
        go_wp2
        go_ret
        exact ⟨⟨false, rfl, fun e => absurd (HEQ.out e) hxy⟩, below_dn bw _⟩
    · obtain rfl : k = L1.length := by omega
      go_wp2
      go_ret
      exact ⟨⟨true, rfl, fun _ => rfl⟩, bw⟩
def bgtw (b : Bool) (n : Int) : Int := if b = true then n else wrap64 (-n)
theorem bought_any (w : World) (b : Bool) (n : Int) :
    Calls Try.prog 24 #[.bool b, .int .i64 n] w fun e w' => e = .returned (.int .i64 (bgtw b n)) ∧ w' = w := by
  cases b
  · have hd : bgtw false n = wrap64 (-n) := by simp [bgtw]
    rw [hd]
    go_enter Try.func24, Try.ntmps24
    go_wp2
    go_ret
    exact ⟨rfl, rfl⟩
  · have hd : bgtw true n = n := by simp [bgtw]
    rw [hd]
    go_enter Try.func24, Try.ntmps24
    go_wp2
    go_ret
    exact ⟨rfl, rfl⟩
theorem isAmong_any (w : World) (n m : Int) :
    Calls Try.prog 27 #[.int .i64 n, .int .i64 m] w fun e w' => e = .returned (.bool (amg n m)) ∧ w' = w := by
  have hd : amg n m = (decide (0 ≤ n) && decide (n < m)) := rfl
  rw [hd]
  clear hd
  go_enter Try.func27, Try.ntmps27
  go_wp2
  all_goals go_ret
  all_goals exact ⟨by first | rfl | (simp_all; done) | (simp_all; omega), rfl⟩
theorem gives_any (w : World) (v : Vr) (z : Int) :
    Calls Try.prog 14 #[.agg #[.int .i64 v.f, .int .i64 v.t, .int .i64 v.lo, .int .i64 v.hi, .int .i64 v.wo], .int .i64 z] w fun e w' => e = .returned (.int .i64 (gvs v z)) ∧ Below w.heap.size w w' := by
  have b0 := ibel w (Obj.cells #[.int .i64 v.f, .int .i64 v.t, .int .i64 v.lo, .int .i64 v.hi, .int .i64 v.wo] 48)
  have x0 := inew w (Obj.cells #[.int .i64 v.f, .int .i64 v.t, .int .i64 v.lo, .int .i64 v.hi, .int .i64 v.wo] 48)
  have z0 := ibx x0 0 _ rfl
  have z1 := ibx x0 1 _ rfl
  clear x0
  have hd : gvs v z = if z = v.t then 1 else if z = v.f then -1 else 0 := rfl
  have HD := hid hd
  clear hd
  by_cases h1 : z = v.t
  · have h1' : (z == v.t) = true := by simpa using h1
    have HE := hid (show gvs v z = 1 by rw [HD.out, if_pos h1])
    clear h1
    go_enter Try.func14, Try.ntmps14
    go_wp2
    go_ret
    exact ⟨by rw [HE.out]; rfl, b0⟩
  · have h1' : (z == v.t) = false := by simpa using h1
    by_cases h2 : z = v.f
    · have h2' : (z == v.f) = true := by simpa using h2
      have HE := hid (show gvs v z = -1 by rw [HD.out, if_neg h1, if_pos h2])
      clear h2
      go_enter Try.func14, Try.ntmps14
      go_wp2
      go_ret
      exact ⟨by rw [HE.out]; rfl, b0⟩
    · have h2' : (z == v.f) = false := by simpa using h2
      have HE := hid (show gvs v z = 0 by rw [HD.out, if_neg h1, if_neg h2])
      go_enter Try.func14, Try.ntmps14
      go_wp2
      go_ret
      exact ⟨by rw [HE.out]; rfl, b0⟩
end Go.Proofs.Ytlkcfgjhgmpbcaa
