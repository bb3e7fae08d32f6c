/- DiskOrders: what the call answers. -/
import Derived.Test.YtchibjdhdbkdhaaDNew
import Derived.OpenShut
namespace Go.Proofs.Ytchibjdhdbkdhaa
open Go.RowKit
set_option linter.unusedVariables false
set_option maxRecDepth 100000
set_option linter.unusedSimpArgs false

/-- A slice of integers that came in: nil, or a row of cells. -/
def IsRow (k : IntKind) (w : World) (a : Option Addr) (len cap : Nat) (zs : List Int) : Prop :=
  (a = none ∧ len = 0 ∧ cap = 0 ∧ zs = []) ∨
  ∃ x, a = some x ∧ len ≤ cap ∧ cap ≤ maxLen ∧ zs.length = cap ∧ (∀ i, i < zs.length → w.cell? (x.add i) = some (.int k (zs.getD i 0))) ∧ ∀ n ∈ zs, (Lit.int k n).wf = true
theorem IsRow.at {k : IntKind} {w : World} {a : Option Addr} {len cap : Nat} {zs : List Int} (h : IsRow k w a len cap zs) (i : Nat) (hi : i < len) :
    ∃ b off, a = some ⟨b, off, none⟩ ∧ w.cell? ⟨b, off + i, none⟩ = some (.int k (zs.getD i 0)) ∧ (Lit.int k (zs.getD i 0)).wf = true ∧ len ≤ cap ∧ cap ≤ maxLen := by
  rcases h with ⟨_, h, _⟩ | ⟨x, rfl, h1, h2, h3, h4, h5⟩
  · omega
  · have hx := h4 i (by omega)
    obtain ⟨b, off, s⟩ := x
    cases s with
    | none => exact ⟨b, off, rfl, by simpa [add_off] using hx, h5 _ (by rw [List.getD_eq_getElem?_getD, List.getElem?_eq_getElem (by omega)]; simp), h1, h2⟩
    | some q =>
      have h0 := h4 0 (by omega)
      unfold World.cell? at h0
      simp [Addr.add] at h0
      split at h0 <;> simp_all
theorem cut_zero (w : World) (B b : Nat) (D : Dsk) (n : Int) (hn : -9223372036854775808 ≤ n ∧ n < 9223372036854775808) (hB : B ≤ b) (h : DiskIs w b D) :
    Calls Try.prog 14 #[.pointer (some ⟨b, 0, none⟩), .int .i64 n, .int .u64 0] w fun e w' => e = .returned (.tuple #[]) ∧ DiskIs w' b (D.cut n 0) ∧ Kp B b w w' := by
  have := cut_any w B b D n 0 hn (by omega) hB h
  rwa [show ((0 : Nat) : Int) = 0 from rfl] at this
def bigO (C : Option Nat) : Nat := C.getD 1048576
def D0 (C F : Option Nat) : Dsk := { Dsk.new with cg := C.isSome, cl := C.getD 0, fg := F.isSome, fk := F.getD 0 }
/-- The disk when i calls were made. -/
def OrdSt (C F : Option Nat) (i : Nat) (D : Dsk) : Prop :=
  (i ≤ min (bigO C) (bigO F) ∧ D.dead = false ∧ D.fl = false ∧ D.cg = C.isSome ∧ D.cl = C.getD 0 - i ∧ D.fg = F.isSome ∧ D.fk = F.getD 0 - i ∧ D.ops = i) ∨
  (bigO C < i ∧ bigO C ≤ bigO F ∧ D.dead = true ∧ D.ops = bigO C) ∨ (bigO F < i ∧ bigO F < bigO C ∧ D.dead = false ∧ D.fl = true ∧ D.ops = bigO F)
def wantO (C F : Option Nat) (i : Nat) : Int := if bigO C ≤ i ∧ bigO C ≤ bigO F then 43 else if bigO F ≤ i then 42 else 0
theorem ord_start (C F : Option Nat) : OrdSt C F 0 (D0 C F) := Or.inl ⟨Nat.zero_le _, rfl, rfl, rfl, rfl, rfl, rfl, rfl⟩
theorem ord_step (C F : Option Nat) (i : Nat) (D : Dsk) (s : ByteArray) (hs : s.size ≤ 256) (hi : i < 40) (h : OrdSt C F i D) : (D.write i s).2 = wantO C F i ∧ OrdSt C F (i + 1) (D.write i s).1 := by
  have hw : D.write i s = if D.begin.2 = 0 then (D.begin.1.put i s, 0) else D.begin := by
    unfold Dsk.write; rw [if_neg (by omega), if_neg (by omega)]; simp
  rw [hw]
  clear hw
  rcases h with ⟨h1, h2, h3, h4, h5, h6, h7, h8⟩ | ⟨h1, h2, h3, h4⟩ | ⟨h1, h2, h3, h4, h5⟩
  · have hb : D.begin = if D.cg && D.cl == 0 then (D.lose D.keep, 43) else if D.fg && D.fk == 0 then ({ D with fl := true }, 42) else ({ D with ops := D.ops + 1, cl := D.cl - 1, fk := D.fk - 1 }, 0) := by simp [Dsk.begin, h2, h3]
    by_cases hc : bigO C = i
    · have h0 : (D.cg && D.cl == 0) = true := by
        cases C with
        | none => simp [bigO] at hc; omega
        | some n => simp [bigO] at hc; simp [h4, h5, hc]
      rw [hb, if_pos h0, if_neg (show ¬ (43 : Int) = 0 by decide)]
      refine ⟨by rw [wantO, if_pos (by omega)], Or.inr (Or.inl ⟨by omega, by omega, rfl, ?_⟩)⟩
      show D.ops = _
      omega
    · have h0 : ¬ (D.cg && D.cl == 0) = true := by
        cases C with
        | none => simp [h4]
        | some n => simp [bigO] at hc h1; simp [h5]; omega
      rw [hb, if_neg h0]
      by_cases hf : bigO F = i
      · have h9 : (D.fg && D.fk == 0) = true := by
          cases F with
          | none => simp [bigO] at hf; omega
          | some n => simp [bigO] at hf; simp [h6, h7, hf]
        rw [if_pos h9, if_neg (show ¬ (42 : Int) = 0 by decide)]
        refine ⟨by rw [wantO, if_neg (by omega), if_pos (by omega)], Or.inr (Or.inr ⟨by omega, by omega, h2, rfl, ?_⟩)⟩
        show D.ops = _
        omega
      · have h9 : ¬ (D.fg && D.fk == 0) = true := by
          cases F with
          | none => simp [h6]
          | some n => simp [bigO] at hf h1; simp [h7]; omega
        rw [if_neg h9, if_pos rfl]
        refine ⟨by rw [wantO, if_neg (by omega), if_neg (by omega)], Or.inl ⟨by omega, h2, h3, h4, ?_, h6, ?_, ?_⟩⟩
        · show D.cl - 1 = _; omega
        · show D.fk - 1 = _; omega
        · show D.ops + 1 = _; omega
  · have hb : D.begin = (D, 43) := by simp [Dsk.begin, h3]
    rw [hb, if_neg (show ¬ (43 : Int) = 0 by decide)]
    exact ⟨by rw [wantO, if_pos (by omega)], Or.inr (Or.inl ⟨by omega, h2, h3, h4⟩)⟩
  · have hb : D.begin = (D, 42) := by simp [Dsk.begin, h3, h4]
    rw [hb, if_neg (show ¬ (42 : Int) = 0 by decide)]
    exact ⟨by rw [wantO, if_neg (by omega), if_pos (by omega)], Or.inr (Or.inr ⟨by omega, h2, h3, h4, h5⟩)⟩
theorem ord_end (C F : Option Nat) (i : Nat) (D : Dsk) (h : OrdSt C F i D) : D.dead = (decide (bigO C < i) && decide (bigO C ≤ bigO F)) ∧ D.ops = min (min (bigO C) (bigO F)) i := by
  rcases h with ⟨h1, h2, h3, h4, h5, h6, h7, h8⟩ | ⟨h1, h2, h3, h4⟩ | ⟨h1, h2, h3, h4, h5⟩
  · exact ⟨by rw [h2, decide_eq_false (by omega)]; rfl, by omega⟩
  · exact ⟨by rw [h3, decide_eq_true h1, decide_eq_true h2]; rfl, by omega⟩
  · exact ⟨by rw [h3, decide_eq_false (show ¬ bigO C ≤ bigO F by omega)]; simp, by omega⟩
theorem ord_ops {C F : Option Nat} {i : Nat} {D : Dsk} (h : OrdSt C F i D) (hi : i < 50) : D.ops < 4611686018427387904 := by
  rcases h with ⟨h1, h2, h3, h4, h5, h6, h7, h8⟩ | ⟨h1, h2, h3, h4⟩ | ⟨h1, h2, h3, h4, h5⟩ <;> omega
theorem ord_cases (C F : Option Nat) (m : Nat) : (bigO C ≤ m ∧ bigO C ≤ bigO F ∧ bigO F ≤ m ∧ wantO C F m = 43) ∨ (bigO C ≤ m ∧ bigO C ≤ bigO F ∧ ¬ bigO F ≤ m ∧ wantO C F m = 43) ∨ (bigO C ≤ m ∧ ¬ bigO C ≤ bigO F ∧ bigO F ≤ m ∧ wantO C F m = 42) ∨ (¬ bigO C ≤ m ∧ ¬ bigO C ≤ bigO F ∧ bigO F ≤ m ∧ wantO C F m = 42) ∨ (¬ bigO C ≤ m ∧ 0 ≤ m ∧ ¬ bigO F ≤ m ∧ wantO C F m = 0) := by
  unfold wantO
  (repeat' split) <;> omega
theorem ret_eq {a b : Int} (h : a = b) : Ending.returned (.bool (a == b)) = .returned (.bool true) := by rw [h]; simp
theorem below_kp {B b : Nat} {w u v : World} (h : Below B w u) (k : Kp B b u v) : Below B w v := h.trans k.bel
set_option maxHeartbeats 4000000 in
theorem orders_any (a0 : Option Addr) (len0 cap0 : Nat) (z0 : List Int) (a1 : Option Addr) (len1 cap1 : Nat) (z1 : List Int) (a2 : Int) (w : World) (w0 : IsRow .i8 w a0 len0 cap0 z0) (w1 : IsRow .i8 w a1 len1 cap1 z1) (w2 : (Lit.int .u8 a2).wf = true) :
    Calls Try.prog 4 #[.slice a0 len0 cap0, .slice a1 len1 cap1, .int .u8 a2] w fun e w' => e = .returned (.bool true) ∧ Below w.heap.size w w' := by
  by_cases hl0 : 64 < len0
  · have hl0' : (64 : Int) < (len0 : Int) := by omega
    go_enter Try.func4, Try.ntmps4
    go_wp2
    go_ret
    exact ⟨rfl, Below.refl _ _⟩
  by_cases hl1 : 64 < len1
  · have hl0' : (len0 : Int) ≤ 64 := by omega
    have hl1' : (64 : Int) < (len1 : Int) := by omega
    go_enter Try.func4, Try.ntmps4
    go_wp2
    go_ret
    exact ⟨rfl, Below.refl _ _⟩
  have hl0' : (len0 : Int) ≤ 64 := by omega
  have hl1' : (len1 : Int) ≤ 64 := by omega
  go_enter Try.func4, Try.ntmps4
  go_wp2_with fail
  refine (new_any w).mono ?_
  rintro e W1 ⟨rfl, hd, hb⟩
  go_wp2
  go_loopw [8, 10] (fun c i W => ∃ (k : Nat) (C : Option Nat), k ≤ len0 ∧ i = .int .i64 k ∧ c = .int .i64 (bigO C) ∧ (∀ n, C = some n → n ≤ 127) ∧ DiskIs W w.heap.size (D0 C none) ∧ Below w.heap.size w W) (fun _ i _ => len0 - (intOf i).toNat)
  case atStart => exact ⟨0, none, Nat.zero_le _, rfl, rfl, by simp, hd, hb⟩
  case round =>
    obtain ⟨k, C, hk, rfl, rfl, hC, hd', hb'⟩ := hrel
    clear hd hb
    by_cases hlt : k < len0
    · obtain ⟨b, off, rfl, hc, hwf, hl, hm⟩ := w0.at k hlt
      have hc' := (hb'.cell (p := ⟨b, off + k, none⟩) (World.block_lt_of_cell? w _ hc)).trans hc
      unfold maxLen at hm
      have hbl : b < w.heap.size := World.block_lt_of_cell? w _ hc
      have hz := bounds_i8 hwf
      clear hc hwf
      generalize z0.getD k 0 = z at *
      have HC := hid hC
      clear hC
      rcases (show z < 0 ∨ 0 < z ∨ z ≤ 0 ∧ 0 ≤ z by omega) with hs | hs | ⟨hs, hs'⟩
      all_goals
        go_wp2_with fail
        refine (cut_zero wr w.heap.size w.heap.size (D0 C none) z (by omega) (Nat.le_refl _) hd').mono ?_
        rintro e W2 ⟨rfl, hd2, k2⟩
        have hc2 := (k2.bel.cell (p := ⟨b, off + k, none⟩) hbl).trans hc'
        have hb2 := below_kp hb' k2
        clear hc' hd' hb' k2
        go_wp2
        go_roundw
        case rel => exact ⟨k + 1, some z.toNat, by omega, by go_num, by simp only [bigO, Option.getD_some]; first | rw [show (z.toNat : Int) = 0 by omega] | rw [show (z.toNat : Int) = z by omega], by intro n hn; simp at hn; omega, hd2, hb2⟩
        case measure => simp [intOf]; omega
    · go_wp2
      clear hlt hk
      have HC := hid hC
      clear hC
      go_loopw [9, 11] (fun c i W => ∃ (j : Nat) (F : Option Nat), j ≤ len1 ∧ i = .int .i64 j ∧ c = .int .i64 (bigO F) ∧ (∀ n, F = some n → n ≤ 127) ∧ DiskIs W w.heap.size (D0 C F) ∧ Below w.heap.size w W) (fun _ i _ => len1 - (intOf i).toNat)
      case atStart => exact ⟨0, none, Nat.zero_le _, rfl, rfl, by simp, hd', hb'⟩
      case round =>
        obtain ⟨j, F, hj, rfl, rfl, hF, hd2, hb2⟩ := hrel
        clear hd' hb'
        have HF := hid hF
        clear hF
        by_cases hlt : j < len1
        · obtain ⟨b, off, rfl, hc, hwf, hl, hm⟩ := w1.at j hlt
          have hc' := (hb2.cell (p := ⟨b, off + j, none⟩) (World.block_lt_of_cell? w _ hc)).trans hc
          unfold maxLen at hm
          have hbl : b < w.heap.size := World.block_lt_of_cell? w _ hc
          have hz := bounds_i8 hwf
          clear hc hwf
          generalize z1.getD j 0 = z at *
          rcases (show z < 0 ∨ 0 < z ∨ z ≤ 0 ∧ 0 ≤ z by omega) with hs | hs | ⟨hs, hs'⟩
          all_goals
            go_wp2_with fail
            refine (fail_any _ w.heap.size w.heap.size (D0 C F) z (by omega) (Nat.le_refl _) hd2).mono ?_
            rintro e W2 ⟨rfl, hd3, k3⟩
            have hc2 := (k3.bel.cell (p := ⟨b, off + j, none⟩) hbl).trans hc'
            have hb3 := below_kp hb2 k3
            clear hc' hd2 hb2 k3
            go_wp2
            go_roundw
            case rel => exact ⟨j + 1, some z.toNat, by omega, by go_num, by simp only [bigO, Option.getD_some]; first | rw [show (z.toNat : Int) = 0 by omega] | rw [show (z.toNat : Int) = z by omega], by intro n hn; simp at hn; omega, hd3, hb3⟩
            case measure => simp [intOf]; omega
        · have ha2 := bounds_u8 w2
          have hCb : bigO C ≤ 1048576 := by
            cases C with
            | none => exact Nat.le_refl _
            | some n => have := HC.out n rfl; show n ≤ _; omega
          have hFb : bigO F ≤ 1048576 := by
            cases F with
            | none => exact Nat.le_refl _
            | some n => have := HF.out n rfl; show n ≤ _; omega
          obtain ⟨q, rfl⟩ : ∃ q : Nat, a2 = q := ⟨a2.toNat, by omega⟩
          go_wp2
          clear hlt hj
          go_loopw [12] (fun i W => ∃ (m : Nat) (D : Dsk), m ≤ q % 40 ∧ i = .int .i64 m ∧ OrdSt C F m D ∧ DiskIs W w.heap.size D ∧ Below w.heap.size w W) (fun i _ => q % 40 - (intOf i).toNat)
          case atStart => exact ⟨0, _, Nat.zero_le _, rfl, ord_start C F, hd2, hb2⟩
          case round =>
            obtain ⟨m, D, hm, rfl, hst, hd3, hb3⟩ := hrel
            clear hd2 hb2
            have HST := hid hst
            have hops := ord_ops hst (by omega)
            clear hst
            by_cases hlt : m < q % 40
            · have hstep := hid (ord_step C F m D ⟨#[120]⟩ (by decide) (by omega) HST.out)
              have hcs := ord_cases C F m
              generalize bigO C = c at *
              generalize bigO F = f at *
              rcases hcs with ⟨h1, h2, h3, hw⟩ | ⟨h1, h2, h3, hw⟩ | ⟨h1, h2, h3, hw⟩ | ⟨h1, h2, h3, hw⟩ | ⟨h1, h2, h3, hw⟩
              all_goals
                have HW := hid hw
                clear hw
                go_wp2_with fail
                refine (write_any _ w.heap.size w.heap.size D m ⟨#[120]⟩ hops (Nat.le_refl _) hd3).mono ?_
                rintro e W2 ⟨rfl, hd4, k4⟩
                rw [hstep.out.1, HW.out]
                have hb4 := below_kp hb3 k4
                have HN := hid hstep.out.2
                clear hstep HST HW
                go_wp2
                go_roundw
                case rel => exact ⟨m + 1, _, by omega, by go_num, HN.out, hd4, hb4⟩
                case measure => simp [intOf]; omega
            · have hend := ord_end C F m D HST.out
              have hm' : m = q % 40 := by omega
              rw [hm'] at hend
              have hn : q % 40 < 40 := Nat.mod_lt _ (by omega)
              have hcs : (bigO C < q % 40 ∧ bigO C ≤ bigO F ∧ D.dead = true ∧ D.ops = bigO C) ∨ (bigO C < q % 40 ∧ ¬ bigO C ≤ bigO F ∧ D.dead = false ∧ D.ops = bigO F) ∨ (¬ bigO C < q % 40 ∧ bigO F < q % 40 ∧ D.dead = false ∧ D.ops = bigO F) ∨ (¬ bigO C < q % 40 ∧ ¬ bigO F < q % 40 ∧ D.dead = false ∧ D.ops = q % 40) := by
                obtain ⟨h1, h2⟩ := hend
                rw [h1, h2]
                by_cases e1 : bigO C < q % 40
                · by_cases e2 : bigO C ≤ bigO F
                  · exact Or.inl ⟨e1, e2, by simp [e1, e2], by omega⟩
                  · exact Or.inr (Or.inl ⟨e1, e2, by simp [e2], by omega⟩)
                · by_cases e2 : bigO F < q % 40
                  · exact Or.inr (Or.inr (Or.inl ⟨e1, e2, by simp [e1], by omega⟩))
                  · exact Or.inr (Or.inr (Or.inr ⟨e1, e2, by simp [e1], by omega⟩))
              clear hend hm' HST
              generalize bigO C = c at *
              generalize bigO F = f at *
              rcases hcs with ⟨e1, e2, e3, e4⟩ | ⟨e1, e2, e3, e4⟩ | ⟨e1, e2, e3, e4⟩ | ⟨e1, e2, e3, e4⟩
              all_goals
                have H4 := hid e4
                clear e4
                go_wp2_with (first | (go_at_call 13; refine (dead_any _ _ D hd3).mono ?_; rintro e W2 ⟨rfl, rfl⟩) | (go_at_call 16; refine (ops_any _ _ D hd3).mono ?_; rintro e W2 ⟨rfl, rfl⟩))
              all_goals
                go_ret
                exact ⟨ret_eq (by have := H4.out; omega), hb3⟩
end Go.Proofs.Ytchibjdhdbkdhaa
