/- market: ofHour, the iterator. -/
import Derived.Test.YtlkcfgjhgmpbcaaK15L
import Derived.Test.YtlkcfgjhgmpbcaaK15R
import Derived.Deep.RegionHeld3
namespace Go.Proofs.Ytlkcfgjhgmpbcaa
open Go.RowKit Go.Shelf
attribute [local go_sem] Oper.semAt_some
set_option linter.unusedVariables false
set_option maxRecDepth 100000
set_option linter.unusedSimpArgs false

theorem Sps.kq {w w' : World} {v : Value} {L : List Sp} {S : Nat → Prop} (h : Sps w v L) (k : Kq S w w') (hs : ∀ b off n c, L ≠ [] → v = .slice (some ⟨b, off, none⟩) n c → ¬ S b) : Sps w' v L := by
  obtain ⟨a, c, h1, h2, h3, h4⟩ := h
  refine ⟨a, c, h1, h2, h3, ?_⟩
  rcases h4 with h4 | ⟨b, off, h4, h5⟩
  · exact Or.inl h4
  · refine Or.inr ⟨b, off, h4, fun i hi => ?_⟩
    have hb := hs b off _ _ (fun e => by subst e; simp at hi) (by rw [h1, h4])
    obtain ⟨g0, g1, g2, g3, g4, g5, g6⟩ := h5 i hi
    exact ⟨k.cell g0 hb, k.cell g1 hb, k.cell g2 hb, k.cell g3 hb, k.cell g4 hb, k.cell g5 hb, k.cell g6 hb⟩
theorem Sps.lt {w : World} {L : List Sp} {b off n c : Nat} (h : Sps w (.slice (some ⟨b, off, none⟩) n c) L) (hne : L ≠ []) : b < w.heap.size := by
  obtain ⟨g, o, c', e, q, _⟩ := h.at 0 (List.length_pos_iff.2 hne)
  simp only [Value.slice.injEq, Option.some.injEq, Addr.mk.injEq, and_true] at e
  rw [e.1.1]
  exact World.block_lt_of_cell? _ _ q
theorem ofHour_any (w : World) (Z Hs lo hi H : Int) (la : Option Addr) (ln lc : Nat) (sa : Option Addr) (sn sc : Nat) :
    Calls Try.prog 23 #[.agg #[.int .i64 Z, .int .i64 Hs, .slice la ln lc, .int .i64 lo, .int .i64 hi], .slice sa sn sc, .int .i64 H] w fun e w' => e = .returned (.func (.func 26) #[] #[.pointer (some ⟨w.heap.size + 1, 0, none⟩), .pointer (some ⟨w.heap.size + 2, 0, none⟩), .pointer (some ⟨w.heap.size, 0, none⟩)]) ∧
      w'.cell? ⟨w.heap.size + 1, 0, none⟩ = some (.slice sa sn sc) ∧ w'.cell? ⟨w.heap.size + 2, 0, none⟩ = some (.int .i64 H) ∧ w'.cell? ⟨w.heap.size, 0, none⟩ = some (.int .i64 Z) ∧ w.heap.size + 3 ≤ w'.heap.size ∧ Below w.heap.size w w' := by
  have b1 := ibel w (Obj.cells #[.int .i64 Z, .int .i64 Hs, .slice la ln lc, .int .i64 lo, .int .i64 hi] 24)
  have x1 := ibx (inew w (Obj.cells #[.int .i64 Z, .int .i64 Hs, .slice la ln lc, .int .i64 lo, .int .i64 hi] 24)) 0 (.int .i64 Z) rfl
  have b2 := ibel (w.alloc (Obj.cells #[.int .i64 Z, .int .i64 Hs, .slice la ln lc, .int .i64 lo, .int .i64 hi] 24)) (Obj.cells #[.slice sa sn sc] 25)
  have x2 := ibx (inew (w.alloc (Obj.cells #[.int .i64 Z, .int .i64 Hs, .slice la ln lc, .int .i64 lo, .int .i64 hi] 24)) (Obj.cells #[.slice sa sn sc] 25)) 0 (.slice sa sn sc) rfl
  have b3 := ibel ((w.alloc (Obj.cells #[.int .i64 Z, .int .i64 Hs, .slice la ln lc, .int .i64 lo, .int .i64 hi] 24)).alloc (Obj.cells #[.slice sa sn sc] 25)) (Obj.cells #[.int .i64 H] 3)
  have x3 := ibx (inew ((w.alloc (Obj.cells #[.int .i64 Z, .int .i64 Hs, .slice la ln lc, .int .i64 lo, .int .i64 hi] 24)).alloc (Obj.cells #[.slice sa sn sc] 25)) (Obj.cells #[.int .i64 H] 3)) 0 (.int .i64 H) rfl
  have HX1 := hid (ikc b3 (ikc b2 x1))
  have HX2 := hid (ikc b3 x2)
  have HX3 := hid x3
  have HB := hid (chain2 (chain2 b1 b2) b3)
  simp only [World.size_alloc] at HX2 HX3
  clear b1 b2 b3 x1 x2 x3
  go_enter Try.func23, Try.ntmps23
  go_wp2
  go_ret
  refine ⟨rfl, HX2.out, HX3.out, HX1.out, by simp, HB.out⟩
def encsS (s : Sp) : Array Value := #[.agg #[.string s.who, .int .i64 s.seq, .int .i64 s.zone, .int .i64 s.hour, .bool s.buy, .int .i64 s.qty, .int .i64 s.price]]
theorem ofH_succ {Z H : Int} {S : List Sp} {k : Nat} (h : k < S.length) : ofH Z H (S.take (k + 1)) = if inH Z H S[k] = true then ofH Z H (S.take k) ++ [S[k]] else ofH Z H (S.take k) := by
  rw [List.take_succ_eq_append_getElem h]
  unfold ofH
  rw [List.filter_append]
  by_cases e : inH Z H S[k] = true
  · rw [if_pos e]; simp [e]
  · rw [if_neg e]; simp [e]
theorem ofH_pre (Z H : Int) (S : List Sp) (k : Nat) : ofH Z H (S.take k) <+: ofH Z H S := by
  have h := List.take_append_drop k S
  refine ⟨ofH Z H (S.drop k), ?_⟩
  unfold ofH
  rw [← List.filter_append, h]
set_option maxHeartbeats 6400000 in
theorem ofHour1_stops (n : Nat) (w : World) (bs bh bg b7 : Nat) (Z H : Int) (S : List Sp) (sv : Value) (hsv : Sps w sv S) (h1 : w.cell? ⟨bs, 0, none⟩ = some sv) (h2 : w.cell? ⟨bh, 0, none⟩ = some (.int .i64 H)) (h3 : w.cell? ⟨bg, 0, none⟩ = some (.int .i64 Z))
    (d1 : bs ≠ b7) (d2 : bh ≠ b7) (d3 : bg ≠ b7) (d4 : ∀ b off n c, S ≠ [] → sv = .slice (some ⟨b, off, none⟩) n c → ¬ (b = b7 ∨ w.heap.size ≤ b)) :
    SeqStopsK Fence.wide n Try.prog 26 #[.pointer (some ⟨bs, 0, none⟩), .pointer (some ⟨bh, 0, none⟩), .pointer (some ⟨bg, 0, none⟩)] encsS (Kq (fun k => k = b7 ∨ w.heap.size ≤ k)) (fun xs => xs = ofH Z H S) (fun pre => pre <+: ofH Z H S) (ofH Z H S).length w := fun l J Jx W hW hJ _ hY h0 => by
  have l1 := World.block_lt_of_cell? _ _ h1
  have l2 := World.block_lt_of_cell? _ _ h2
  have l3 := World.block_lt_of_cell? _ _ h3
  simp only at l1 l2 l3
  have HF := hid (fun (Y : World) (k : Kq (fun k => k = b7 ∨ w.heap.size ≤ k) w Y) => show Sps Y sv S ∧ Y.cell? ⟨bs, 0, none⟩ = some sv ∧ Y.cell? ⟨bh, 0, none⟩ = some (.int .i64 H) ∧ Y.cell? ⟨bg, 0, none⟩ = some (.int .i64 Z) from
    ⟨hsv.kq k d4, k.cell h1 (by simp only; omega), k.cell h2 (by simp only; omega), k.cell h3 (by simp only; omega)⟩)
  have kW : Kq (fun k => k = b7 ∨ w.heap.size ≤ k) w W := Kq.of_below hW
  obtain ⟨_, g1, _, _⟩ := HF.out W kW
  obtain ⟨sa, sc, hse, sl, sm⟩ := hsv.slice
  subst hse
  unfold maxLen at sm
  have HY := hid hY
  have HJ := hid hJ
  clear hsv h1 h2 h3 d1 d2 d3 d4 hW hY hJ l1 l2 l3
  refine callsIn_of_wp Try.func26 rfl trivial ?_ rfl
  simp only [Try.ntmps26, List.size_toArray, List.length_cons, List.length_nil, Nat.reduceAdd, Nat.reduceSub, Array.replicate_succ, Array.replicate_zero, List.push_toArray, List.append_toArray, List.nil_append, List.cons_append]
  gi_wp2
  gi_loopw [9] (fun iv wr => ∃ k : Nat, k ≤ S.length ∧ iv = .int .i64 (k : Int) ∧ J (ofH Z H (S.take k)) wr ∧ Kq (fun k => k = b7 ∨ w.heap.size ≤ k) w wr) (fun iv wr => S.length - (intOf iv).toNat)
  case atStart => exact ⟨0, Nat.zero_le _, rfl, by rw [List.take_zero]; exact h0, kW⟩
  case round =>
    obtain ⟨k, hk, rfl, hJs, kr⟩ := hrel
    obtain ⟨f0, f1, f2, f3⟩ := HF.out wr kr
    by_cases hlt : k < S.length
    · obtain ⟨b, off, c, e, q0, q1, q2, q3, q4, q5, q6⟩ := f0.at k hlt
      simp only [Value.slice.injEq] at e
      obtain ⟨rfl, -, rfl⟩ := e
      have HSU := hid (ofH_succ (Z := Z) (H := H) hlt)
      have HPR := hid (ofH_pre Z H S (k + 1))
      generalize S[k] = s at *
      have bX := ibel wr (Obj.cells #[.string s.who, .int .i64 s.seq, .int .i64 s.zone, .int .i64 s.hour, .bool s.buy, .int .i64 s.qty, .int .i64 s.price] 44)
      obtain ⟨p0, p1, p2, p3, p4, p5, p6⟩ := sp_new wr s
      simp only [Nat.zero_add] at p1 p2 p3 p4 p5 p6
      have x1 := ikc bX f1
      have x2 := ikc bX f2
      have x3 := ikc bX f3
      have hJX := HJ.out _ _ _ none hJs (⟨bX.os, bX.tape, bX.output, bX.size, fun k hk _ => bX.block k hk⟩ : wr.grownBy (wr.alloc (Obj.cells #[.string s.who, .int .i64 s.seq, .int .i64 s.zone, .int .i64 s.hour, .bool s.buy, .int .i64 s.qty, .int .i64 s.price] 44)) none) (fun r e => by cases e)
      have kX := kr.alloc (Obj.cells #[.string s.who, .int .i64 s.seq, .int .i64 s.zone, .int .i64 s.hour, .bool s.buy, .int .i64 s.qty, .int .i64 s.price] 44)
      clear bX f0 f1 f2 f3 kr hJs
      by_cases hh : s.hour = H
      case neg =>
        have hh' : (s.hour == H) = false := by simpa using hh
        have HE := hid (show ofH Z H (S.take (k + 1)) = ofH Z H (S.take k) by rw [HSU.out, if_neg (by simp [inH, hh])])
        clear HSU HPR hh
        gi_wp2
        (first | refine ⟨fun f h => (by cases h), ?_⟩ | refine ⟨trivial, ?_⟩)
        gi_wp2
        (first | refine ⟨fun f h => (by cases h), ?_⟩ | refine ⟨trivial, ?_⟩)
        gi_wp2
        go_roundw
        case rel => exact ⟨k + 1, by omega, by go_num, by rw [HE.out]; exact hJX, kX⟩
        case measure => simp [intOf]; omega
      have hh' : (s.hour == H) = true := by simpa using hh
      cases ham : amg s.zone Z with
      | false =>
        have HE := hid (show ofH Z H (S.take (k + 1)) = ofH Z H (S.take k) by rw [HSU.out, if_neg (by simp [inH, ham])])
        have HAM := hid (isAmong_any (wr.alloc (Obj.cells #[.string s.who, .int .i64 s.seq, .int .i64 s.zone, .int .i64 s.hour, .bool s.buy, .int .i64 s.qty, .int .i64 s.price] 44)) s.zone Z)
        rw [ham] at HAM
        clear HSU HPR hh ham
        gi_wp2
        refine ⟨trivial, fun h => (by cases h), ?_⟩
        refine (callsIn_wide.2 HAM.out).mono ?_
        rintro e w' ⟨rfl, rfl⟩
        gi_wp2
        (first | refine ⟨fun f h => (by cases h), ?_⟩ | refine ⟨trivial, ?_⟩)
        gi_wp2
        go_roundw
        case rel => exact ⟨k + 1, by omega, by go_num, by rw [HE.out]; exact hJX, kX⟩
        case measure => simp [intOf]; omega
      | true =>
        have HE := hid (show ofH Z H (S.take (k + 1)) = ofH Z H (S.take k) ++ [s] by rw [HSU.out, if_pos (by simp [inH, hh, ham])])
        have HAM := hid (isAmong_any (wr.alloc (Obj.cells #[.string s.who, .int .i64 s.seq, .int .i64 s.zone, .int .i64 s.hour, .bool s.buy, .int .i64 s.qty, .int .i64 s.price] 44)) s.zone Z)
        rw [ham] at HAM
        have hlen : (ofH Z H (S.take k)).length < (ofH Z H S).length := by
          have h1 := HPR.out.length_le
          rw [HE.out, List.length_append] at h1
          simp at h1
          omega
        obtain ⟨fn, tmps, assign, body, hy, hR⟩ := HY.out (ofH Z H (S.take k)) s _ hJX hlen
        dsimp only [encsS] at hy
        have HRR := hid hR
        clear HSU hh ham hlen hR
        gi_wp2
        refine ⟨trivial, fun h => (by cases h), ?_⟩
        refine (callsIn_wide.2 HAM.out).mono ?_
        rintro e w' ⟨rfl, rfl⟩
        gi_wp2
        refine ⟨fun h => (by cases h), ?_⟩
        refine HRR.out.mono ?_
        rintro e W3 (⟨rfl, hJ3, kp3⟩ | ⟨rfl, hJx3⟩)
        · gi_wp2
          go_roundw
          case rel => exact ⟨k + 1, by omega, by go_num, by rw [HE.out]; exact hJ3, kX.trans kp3⟩
          case measure => simp [intOf]; omega
        · gi_wp2
          refine bodyPost_ret (results_none rfl _ _ _) rfl ?_
          exact ⟨⟨_, rfl⟩, .inr ⟨_, by rw [← HE.out]; exact HPR.out, hJx3⟩⟩
    · obtain rfl : k = S.length := by omega
      rw [List.take_length] at hJs
      gi_wp2
      go_end0
      exact ⟨⟨_, rfl⟩, .inl ⟨_, rfl, hJs⟩⟩
/-- A region within a round: its operations defer nothing, so they are carried out as everywhere. -/
theorem wpOps_round {n : Nat} {P : Program} {ops : Array Oper} {Q : Exit → Act → World → Prop} (l : Nat) (hLO : ¬ LetsOut Q) (hd : ∀ (i : Nat) (o : Oper), ops[i]? = some o → ∀ c, o.op ≠ .defer c) :
    ∀ (is : List Nat) (a : Act) (w : World), wpOps P ops Q is a w → wpOpsIn (Fence.wide.inRound l) n P ops Q is a w
  | [], a, w, h => h
  | i :: rest, a, w, h => by
    have ih := wpOps_round (P := P) (Q := Q) (n := n) l hLO hd rest
    unfold wpOps at h
    unfold wpOpsIn
    cases ho : ops[i]? with
    | none =>
      simp only [ho] at h ⊢
      exact ih _ _ h
    | some o =>
      simp only [ho] at h ⊢
      by_cases hw : Region.wanted o (yielded ops a.tmps) = true
      · rw [if_pos hw] at h ⊢
        have h2 : o.wp P a w (wpOps P ops Q rest) Q := by
          rcases h with h | h
          · exact h
          · exact absurd h.2 hLO
        unfold Oper.wp at h2
        unfold Oper.wpIn
        refine ⟨fun _ _ => trivial, ?_⟩
        rw [Fence.inRound_round, Oper.semAt_some l _ _ (hd i o ho)]
        generalize (execOp a.eval o).run P w = r at *
        cases r with
        | ok x w' =>
          cases x with
          | value v => exact ih _ _ h2
          | skip => exact ih _ _ h2
          | defer d => exact ih _ _ h2
          | enter f args => exact ⟨fun hh => (by cases hh), CallsIn.mono (CallsIn.inRound l (callsIn_wide.2 h2)) (fun e w'' he => by cases e with
            | returned v => exact ih _ _ he
            | panicked c => exact he
            | outgrown => exact he)⟩
          | row row args => exact ⟨fun hh => (by cases hh), fun c cs _ => by
            obtain ⟨v, w'', hr, hs⟩ := h2 c cs
            exact ⟨v, w'', ih _ _ hr, stepsIn_wide.2 hs⟩⟩
          | _ => exact absurd h2 id
        | halt x w' => cases x <;> exact h2
      · rw [if_neg hw] at h ⊢
        exact ⟨fun _ _ => trivial, ih _ _ h⟩
def noDefer (o : Oper) : Bool := match o.op with | .defer _ => false | _ => true
theorem noDefer_of {ops : Array Oper} (h : ops.all noDefer = true) : ∀ (i : Nat) (o : Oper), ops[i]? = some o → ∀ c, o.op ≠ .defer c := fun i o ho c e => by
  obtain ⟨hi, rfl⟩ := Array.getElem?_eq_some_iff.1 ho
  have := Array.all_eq_true.1 h i hi
  unfold noDefer at this
  rw [e] at this
  cases this
theorem region_held_round {n : Nat} {P : Program} {ops : Array Oper} {Q : Exit → Act → World → Prop} {id : Nat} {a : Act} {w : World} {l : Nat} {S : World → Prop} (hm : P.follows .mixedOrders = true) (hd : ops.all noDefer = true) (hLO : ¬ LetsOut Q) (hS : S w.drew)
    (h : S w.drew → wpAnyH P .any ops Q S ops.size (Array.replicate ops.size false) a w.drew) : (Code.region id ops true).wpIn (Fence.wide.inRound l) n P Q a w :=
  wpIn_region_draw fun t => by
    simp only [Region.schedule, hm, Bool.true_or, if_true]
    exact wpOps_round l hLO (noDefer_of hd) _ _ _ (wpAny_sound ops.size t _ a _ (wpAny_of_held _ _ _ _ (h hS)))
end Go.Proofs.Ytlkcfgjhgmpbcaa
