/- order: Parse, the program's and the document's, over one plain function. -/
import Derived.Test.YthhikmlbpagknaaDoorKParse2
import Derived.Test.YthhikmlbpagknaaDoorKParse3
import Derived.Test.YthhikmlbpagknaaDoorKParse4
import Derived.Test.YthhikmlbpagknaaDoorJParse2
import Derived.Test.YthhikmlbpagknaaDoorJParse3
namespace Go.Proofs.YthhikmlbpagknaaDoor
open Go.RowKit
set_option linter.unusedVariables false
set_option maxRecDepth 100000
set_option linter.unusedSimpArgs false

theorem wordsL_ne {line : ByteArray} (h : wordsE line = 0) : wordsL line ≠ [] := by
  rw [wordsL_ok h]
  intro k
  have := congrArg List.length k
  rw [parts_len] at this
  simp at this
theorem par_cases (who line : ByteArray) (g : Gd) (P : Int × Ak → Prop) (hwords : wordsE line ≠ 0 → P (wordsE line, ak0)) (hverb : ∀ x0 R, wordsE line = 0 → wordsL line = x0 :: R → ¬ x0 = lockB → ¬ x0 = stepB → ¬ x0 = blockB → ¬ x0 = cancelB → P (90, ak0))
    (hmanylock : ∀ R, wordsE line = 0 → wordsL line = lockB :: R → R.length ≠ 1 → P (91, ak0)) (hbadlock : ∀ x1, wordsE line = 0 → wordsL line = lockB :: [x1] → ¬ lockE x1 = 0 → P (lockE x1, ak0)) (hoklock : ∀ x1, wordsE line = 0 → wordsL line = lockB :: [x1] → lockE x1 = 0 → P (0, lockA x1)) (hmanystep : ∀ R, wordsE line = 0 → wordsL line = stepB :: R → R.length ≠ 6 → P (91, ak0)) (hbadstep : ∀ x1 x2 x3 x4 x5 x6, wordsE line = 0 → wordsL line = stepB :: [x1, x2, x3, x4, x5, x6] → ¬ stepE g x1 x2 x3 x4 x5 x6 = 0 → P (stepE g x1 x2 x3 x4 x5 x6, ak0)) (hokstep : ∀ x1 x2 x3 x4 x5 x6, wordsE line = 0 → wordsL line = stepB :: [x1, x2, x3, x4, x5, x6] → stepE g x1 x2 x3 x4 x5 x6 = 0 → P (0, stepA who x1 x2 x3 x4 x5 x6)) (hmanyblock : ∀ R, wordsE line = 0 → wordsL line = blockB :: R → R.length ≠ 7 → P (91, ak0)) (hbadblock : ∀ x1 x2 x3 x4 x5 x6 x7, wordsE line = 0 → wordsL line = blockB :: [x1, x2, x3, x4, x5, x6, x7] → ¬ blockE g x1 x2 x3 x4 x5 x6 x7 = 0 → P (blockE g x1 x2 x3 x4 x5 x6 x7, ak0)) (hokblock : ∀ x1 x2 x3 x4 x5 x6 x7, wordsE line = 0 → wordsL line = blockB :: [x1, x2, x3, x4, x5, x6, x7] → blockE g x1 x2 x3 x4 x5 x6 x7 = 0 → P (0, blockA who x1 x2 x3 x4 x5 x6 x7)) (hmanycancel : ∀ R, wordsE line = 0 → wordsL line = cancelB :: R → R.length ≠ 1 → P (91, ak0)) (hbadcancel : ∀ x1, wordsE line = 0 → wordsL line = cancelB :: [x1] → ¬ cancelE x1 = 0 → P (cancelE x1, ak0)) (hokcancel : ∀ x1, wordsE line = 0 → wordsL line = cancelB :: [x1] → cancelE x1 = 0 → P (0, cancelA x1)) : P (par who line g) := by
  unfold par
  by_cases hE : wordsE line = 0
  · rw [if_pos hE]
    have hne := wordsL_ne hE
    obtain ⟨L, hL⟩ : ∃ L, wordsL line = L := ⟨_, rfl⟩
    rw [hL] at hne ⊢
    match L, hne with
    | x0 :: R, _ =>
      unfold parL
      simp only [List.getD_cons_zero]
      by_cases v_lock : x0 = lockB
      · subst v_lock
        rw [if_pos rfl]
        by_cases hn : R.length = 1
        · obtain ⟨x1, hR⟩ : ∃ x1, R = [x1] := by
            match R, hn with
            | [y1], _ => exact ⟨y1, rfl⟩
          subst hR
          dsimp only
          by_cases he : lockE x1 = 0
          · rw [if_pos he]; exact hoklock x1 hE hL he
          · rw [if_neg he]; exact hbadlock x1 hE hL he
        · split
          · rename_i hq
            have hq2 := congrArg List.length hq
            simp only [List.length_cons, List.length_nil] at hq2
            omega
          · exact hmanylock R hE hL hn
      by_cases v_step : x0 = stepB
      · subst v_step
        rw [if_neg v_lock, if_pos rfl]
        by_cases hn : R.length = 6
        · obtain ⟨x1, x2, x3, x4, x5, x6, hR⟩ : ∃ x1 x2 x3 x4 x5 x6, R = [x1, x2, x3, x4, x5, x6] := by
            match R, hn with
            | [y1, y2, y3, y4, y5, y6], _ => exact ⟨y1, y2, y3, y4, y5, y6, rfl⟩
          subst hR
          dsimp only
          by_cases he : stepE g x1 x2 x3 x4 x5 x6 = 0
          · rw [if_pos he]; exact hokstep x1 x2 x3 x4 x5 x6 hE hL he
          · rw [if_neg he]; exact hbadstep x1 x2 x3 x4 x5 x6 hE hL he
        · split
          · rename_i hq
            have hq2 := congrArg List.length hq
            simp only [List.length_cons, List.length_nil] at hq2
            omega
          · exact hmanystep R hE hL hn
      by_cases v_block : x0 = blockB
      · subst v_block
        rw [if_neg v_lock, if_neg v_step, if_pos rfl]
        by_cases hn : R.length = 7
        · obtain ⟨x1, x2, x3, x4, x5, x6, x7, hR⟩ : ∃ x1 x2 x3 x4 x5 x6 x7, R = [x1, x2, x3, x4, x5, x6, x7] := by
            match R, hn with
            | [y1, y2, y3, y4, y5, y6, y7], _ => exact ⟨y1, y2, y3, y4, y5, y6, y7, rfl⟩
          subst hR
          dsimp only
          by_cases he : blockE g x1 x2 x3 x4 x5 x6 x7 = 0
          · rw [if_pos he]; exact hokblock x1 x2 x3 x4 x5 x6 x7 hE hL he
          · rw [if_neg he]; exact hbadblock x1 x2 x3 x4 x5 x6 x7 hE hL he
        · split
          · rename_i hq
            have hq2 := congrArg List.length hq
            simp only [List.length_cons, List.length_nil] at hq2
            omega
          · exact hmanyblock R hE hL hn
      by_cases v_cancel : x0 = cancelB
      · subst v_cancel
        rw [if_neg v_lock, if_neg v_step, if_neg v_block, if_pos rfl]
        by_cases hn : R.length = 1
        · obtain ⟨x1, hR⟩ : ∃ x1, R = [x1] := by
            match R, hn with
            | [y1], _ => exact ⟨y1, rfl⟩
          subst hR
          dsimp only
          by_cases he : cancelE x1 = 0
          · rw [if_pos he]; exact hokcancel x1 hE hL he
          · rw [if_neg he]; exact hbadcancel x1 hE hL he
        · split
          · rename_i hq
            have hq2 := congrArg List.length hq
            simp only [List.length_cons, List.length_nil] at hq2
            omega
          · exact hmanycancel R hE hL hn
      rw [if_neg v_lock, if_neg v_step, if_neg v_block, if_neg v_cancel]
      exact hverb x0 R hE hL v_lock v_step v_block v_cancel
  · rw [if_neg hE]; exact hwords hE
theorem parse_any (who line : ByteArray) (g : Gd) (la : Option Addr) (ln lc : Nat) (w : World) (hm : Mx w) (hwho : who.size ≤ 1000000000) (hline : line.size ≤ 1000000000) (hzones : g.zones ≤ 9223372036854775807) (hhours : g.hours ≤ 9223372036854775807) :
    Calls Tryd.prog 8 #[.string who, .string line, .agg #[.int .i64 g.zones, .int .i64 g.hours, .slice la ln lc, .int .i64 g.low, .int .i64 g.high]] w fun r w' => (∃ q, r = .returned (.tuple #[.agg (askV (par who line g).2 q), .int .i64 (par who line g).1]) ∧ Ints w' q (par who line g).2.bq) ∧ Below w.heap.size w w' :=
  par_cases who line g (fun z => Calls Tryd.prog 8 #[.string who, .string line, .agg #[.int .i64 g.zones, .int .i64 g.hours, .slice la ln lc, .int .i64 g.low, .int .i64 g.high]] w fun r w' => (∃ q, r = .returned (.tuple #[.agg (askV z.2 q), .int .i64 z.1]) ∧ Ints w' q z.2.bq) ∧ Below w.heap.size w w')
    (fun hE => parse_words who line g la ln lc w hm hwho hline _ rfl hE) (fun x0 R hE hL h1 h2 h3 h4 => parse_verb who line g la ln lc w hm hwho hline hE x0 R hL h1 h2 h3 h4)
    (fun R hE hL hR => parse_manylock who line g la ln lc w hm hwho hline hE R hL hR) (fun x1 hE hL he => parse_badlock who line g la ln lc w hm hwho hline hE x1 hL he) (fun x1 hE hL he => parse_oklock who line g la ln lc w hm hwho hline hE x1 hL he)
    (fun R hE hL hR => parse_manystep who line g la ln lc w hm hwho hline hE R hL hR) (fun x1 x2 x3 x4 x5 x6 hE hL he => parse_badstep who line g la ln lc w hm hwho hline hE x1 x2 x3 x4 x5 x6 hL he hzones hhours) (fun x1 x2 x3 x4 x5 x6 hE hL he => parse_okstep who line g la ln lc w hm hwho hline hE x1 x2 x3 x4 x5 x6 hL he hzones hhours)
    (fun R hE hL hR => parse_manyblock who line g la ln lc w hm hwho hline hE R hL hR) (fun x1 x2 x3 x4 x5 x6 x7 hE hL he => parse_badblock who line g la ln lc w hm hwho hline hE x1 x2 x3 x4 x5 x6 x7 hL he hzones) (fun x1 x2 x3 x4 x5 x6 x7 hE hL he => parse_okblock who line g la ln lc w hm hwho hline hE x1 x2 x3 x4 x5 x6 x7 hL he hzones)
    (fun R hE hL hR => parse_manycancel who line g la ln lc w hm hwho hline hE R hL hR) (fun x1 hE hL he => parse_badcancel who line g la ln lc w hm hwho hline hE x1 hL he) (fun x1 hE hL he => parse_okcancel who line g la ln lc w hm hwho hline hE x1 hL he)
theorem jparse_any (who line : ByteArray) (g : Gd) (la : Option Addr) (ln lc : Nat) (w : World) (hwho : who.size ≤ 1000000000) (hline : line.size ≤ 1000000000) (hzones : g.zones ≤ 9223372036854775807) (hhours : g.hours ≤ 9223372036854775807) :
    Calls Tryd.prog 9 #[.string who, .string line, .agg #[.int .i64 g.zones, .int .i64 g.hours, .slice la ln lc, .int .i64 g.low, .int .i64 g.high]] w fun r w' => (∃ q, r = .returned (.tuple #[.agg (askV (par who line g).2 q), .int .i64 (par who line g).1]) ∧ Ints w' q (par who line g).2.bq) ∧ Below w.heap.size w w' :=
  par_cases who line g (fun z => Calls Tryd.prog 9 #[.string who, .string line, .agg #[.int .i64 g.zones, .int .i64 g.hours, .slice la ln lc, .int .i64 g.low, .int .i64 g.high]] w fun r w' => (∃ q, r = .returned (.tuple #[.agg (askV z.2 q), .int .i64 z.1]) ∧ Ints w' q z.2.bq) ∧ Below w.heap.size w w')
    (fun hE => jparse_words who line g la ln lc w hwho hline _ rfl hE) (fun x0 R hE hL h1 h2 h3 h4 => jparse_verb who line g la ln lc w hwho hline hE x0 R hL h1 h2 h3 h4)
    (fun R hE hL hR => jparse_manylock who line g la ln lc w hwho hline hE R hL hR) (fun x1 hE hL he => jparse_badlock who line g la ln lc w hwho hline hE x1 hL he) (fun x1 hE hL he => jparse_oklock who line g la ln lc w hwho hline hE x1 hL he)
    (fun R hE hL hR => jparse_manystep who line g la ln lc w hwho hline hE R hL hR) (fun x1 x2 x3 x4 x5 x6 hE hL he => jparse_badstep who line g la ln lc w hwho hline hE x1 x2 x3 x4 x5 x6 hL he hzones hhours) (fun x1 x2 x3 x4 x5 x6 hE hL he => jparse_okstep who line g la ln lc w hwho hline hE x1 x2 x3 x4 x5 x6 hL he hzones hhours)
    (fun R hE hL hR => jparse_manyblock who line g la ln lc w hwho hline hE R hL hR) (fun x1 x2 x3 x4 x5 x6 x7 hE hL he => jparse_badblock who line g la ln lc w hwho hline hE x1 x2 x3 x4 x5 x6 x7 hL he hzones hhours) (fun x1 x2 x3 x4 x5 x6 x7 hE hL he => jparse_okblock who line g la ln lc w hwho hline hE x1 x2 x3 x4 x5 x6 x7 hL he hzones hhours)
    (fun R hE hL hR => jparse_manycancel who line g la ln lc w hwho hline hE R hL hR) (fun x1 hE hL he => jparse_badcancel who line g la ln lc w hwho hline hE x1 hL he) (fun x1 hE hL he => jparse_okcancel who line g la ln lc w hwho hline hE x1 hL he)
end Go.Proofs.YthhikmlbpagknaaDoor
