/- market: right. -/
import Derived.Test.YtlkcfgjhgmpbcaaK15A
namespace Go.Proofs.Ytlkcfgjhgmpbcaa
open Go.RowKit
set_option linter.unusedVariables false
set_option maxRecDepth 100000
set_option linter.unusedSimpArgs false

theorem sp_new (w : World) (s : Sp) : SpAt (w.alloc (Obj.cells #[.string s.who, .int .i64 s.seq, .int .i64 s.zone, .int .i64 s.hour, .bool s.buy, .int .i64 s.qty, .int .i64 s.price] 44)) w.heap.size 0 s := by
  have x0 := inew w (Obj.cells #[.string s.who, .int .i64 s.seq, .int .i64 s.zone, .int .i64 s.hour, .bool s.buy, .int .i64 s.qty, .int .i64 s.price] 44)
  exact ⟨ibx x0 0 _ rfl, ibx x0 1 _ rfl, ibx x0 2 _ rfl, ibx x0 3 _ rfl, ibx x0 4 _ rfl, ibx x0 5 _ rfl, ibx x0 6 _ rfl⟩
def RgtE (S : List Sp) (net : List Int) (e : Ending) : Prop := ∃ R : Bool, e = .returned (.bool R) ∧ (R = true → Rgt S net)
theorem rgt_no {S : List Sp} {net : List Int} : RgtE S net (.returned (.bool false)) := ⟨false, rfl, fun h => absurd h (by decide)⟩
set_option maxHeartbeats 6400000 in
theorem right_any (w : World) (sv nv : Value) (S : List Sp) (net : List Int) (h : Sps w sv S) (hn : Ints w nv net) :
    Calls Try.prog 5 #[sv, nv] w fun e w' => RgtE S net e ∧ Below w.heap.size w w' := by
  have HS := hid h
  have HN := hid hn
  obtain ⟨sa, sc, rfl, sl, sm⟩ := h.slice
  obtain ⟨na, nc, rfl, nl, nm⟩ := hn.slice
  unfold maxLen at sm nm
  clear h hn
  go_enter Try.func5, Try.ntmps5
  go_wp2
  go_loopw [5] (fun i wr => ∃ k : Nat, k ≤ S.length ∧ i = .int .i64 (k : Int) ∧ Hid (∀ j (hj : j < S.length), j < k → rgS S[j] = true) ∧ Below w.heap.size w wr) (fun i _ => S.length - (intOf i).toNat)
  case atStart => exact ⟨0, Nat.zero_le _, rfl, hid (fun j hj h => absurd h (Nat.not_lt_zero _)), Below.refl _ _⟩
  case round =>
    obtain ⟨k, hk, rfl, HP, bw⟩ := hrel
    by_cases hlt : k < S.length
    · obtain ⟨b, o, c, e, g0, g1, g2, g3, g4, g5, g6⟩ := (HS.out.below bw).at k hlt
      simp only [Value.slice.injEq] at e
      obtain ⟨rfl, -, rfl⟩ := e
      have HNX := hid (fun hq : rgS S[k] = true => show ∀ j (hj : j < S.length), j < k + 1 → rgS S[j] = true from fun j hj h => by
        by_cases hjk : j < k
        · exact HP.out j hj hjk
        · obtain rfl : j = k := by omega
          exact hq)
      generalize S[k] = s at *
      have bX := ibel wr (Obj.cells #[.string s.who, .int .i64 s.seq, .int .i64 s.zone, .int .i64 s.hour, .bool s.buy, .int .i64 s.qty, .int .i64 s.price] 44)
      obtain ⟨p0, p1, p2, p3, p4, p5, p6⟩ := sp_new wr s
      rw [Nat.zero_add] at p5 p6
      have BX := chain2 bw bX
      have HR := hid (rgS_iff (s := s))
      generalize s.qty = q at *
      generalize s.price = p at *
      clear bX p0 p1 p2 p3 p4
      by_cases h1 : q < 1
      · go_wp2
        go_ret
        exact ⟨rgt_no, BX⟩
      by_cases h2 : 1000 < q
      · go_wp2
        go_ret
        exact ⟨rgt_no, BX⟩
      by_cases h3 : p < -100000
      · go_wp2
        go_ret
        exact ⟨rgt_no, BX⟩
      by_cases h4 : 100000 < p
      · go_wp2
        go_ret
        exact ⟨rgt_no, BX⟩
      have HP2 := hid (HNX.out (HR.out.2 (by omega)))
      clear HNX HP HR
      go_wp2
      go_roundw
      case rel => exact ⟨k + 1, by omega, by go_num, HP2, BX⟩
      case measure => simp [intOf]; omega
    · obtain rfl : k = S.length := by omega
      have HP3 := hid (fun s (hs : s ∈ S) => show rgS s = true from by
        obtain ⟨j, hj, rfl⟩ := List.getElem_of_mem hs
        exact HP.out j hj hj)
      clear HP
      go_wp2
      go_loopw [7] (fun i wr => ∃ k : Nat, k ≤ net.length ∧ i = .int .i64 (k : Int) ∧ Hid (∀ j (hj : j < net.length), j < k → rgN net[j] = true) ∧ Below w.heap.size w wr) (fun i _ => net.length - (intOf i).toNat)
      case atStart => exact ⟨0, Nat.zero_le _, rfl, hid (fun j hj h => absurd h (Nat.not_lt_zero _)), bw⟩
      case round =>
        clear bw
        obtain ⟨k, hk, rfl, HP, bw⟩ := hrel
        by_cases hlt : k < net.length
        · obtain ⟨b, o, c, e, _, _, g0⟩ := (HN.out.below bw).at k hlt
          simp only [Value.slice.injEq] at e
          obtain ⟨rfl, -, rfl⟩ := e
          have HNX := hid (fun hq : rgN net[k] = true => show ∀ j (hj : j < net.length), j < k + 1 → rgN net[j] = true from fun j hj h => by
            by_cases hjk : j < k
            · exact HP.out j hj hjk
            · obtain rfl : j = k := by omega
              exact hq)
          generalize net[k] = p at *
          have HR := hid (rgN_iff (n := p))
          by_cases h3 : p < -100000
          · go_wp2
            go_ret
            exact ⟨rgt_no, bw⟩
          by_cases h4 : 100000 < p
          · go_wp2
            go_ret
            exact ⟨rgt_no, bw⟩
          have HP2 := hid (HNX.out (HR.out.2 (by omega)))
          clear HNX HP HR
          go_wp2
          go_roundw
          case rel => exact ⟨k + 1, by omega, by go_num, HP2, bw⟩
          case measure => simp [intOf]; omega
        · obtain rfl : k = net.length := by omega
          go_wp2
          go_ret
          exact ⟨⟨true, rfl, fun _ => ⟨HP3.out, fun n hn => by
            obtain ⟨j, hj, rfl⟩ := List.getElem_of_mem hn
            exact HP.out j hj hj⟩⟩, bw⟩
end Go.Proofs.Ytlkcfgjhgmpbcaa
