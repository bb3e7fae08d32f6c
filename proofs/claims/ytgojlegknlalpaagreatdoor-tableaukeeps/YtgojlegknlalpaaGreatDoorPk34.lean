/- CRow, UCheck, GTab, UHeavy. -/
import Derived.Test.YtgojlegknlalpaaGreatDoorPk33
import Derived.Test.YtgojlegknlalpaaGreatDoorPk15
import Derived.Maps.AppendAt
import Derived.Deep.RegionHeld3
/- cert: lists of fractions in memory. -/
namespace Go.Proofs.YtgojlegknlalpaaGreatDoor
open Go.RowKit
set_option linter.unusedVariables false
set_option maxRecDepth 100000
set_option linter.unusedSimpArgs false

section
variable {P : Program}
theorem wpList_store_fresh {ops : Array Oper} {rest : List Oper} {o : Oper} {a : Act} {w : World} {Q : Exit → Act → World → Prop} (hgd : o.guard = none) (t : TypeId) (x y : Operand) (ho : o.op = .store t x y)
    (c c' : Array Value) (b : Nat) (hx : a.eval x = .pointer (some ⟨b, 0, none⟩)) (hb : b = w.heap.size) (hy : a.eval y = .agg c') (n : Nat) (hi : (P.info? t).map (·.size) = some n) (hn : c'.size = n) (hs : c.size = n) (h1 : c'.all (·.oneCell') = true)
    (h : wpList P ops Q rest (a.put o.dst undef) (w.alloc (.cells c' t))) : wpList P ops Q (o :: rest) a (w.alloc (.cells c t)) :=
  wpList_plain hgd fun K hK => by
    subst hb
    rw [← hn] at hi hs
    unfold Oper.wp execOp
    simp only [ho, hx, hy, Instr.storeAt, Instr.sureAddr, Sem.run_bind, Sem.run_pure, Result.andThen_ok, run_storeVar_new w t c c' hi hs h1]
    exact hK _ _ h
end
theorem info_Rat : (Tryz.prog.info? 59).map (·.size) = some 4 := by kernel_rfl
theorem info_refRat : (Tryz.prog.info? 74).map (·.size) = some 4 := by kernel_rfl
theorem info_RatZ : (Tryz.prog.info? 59).map (fun i => (i.zero, i.size, i.bytes)) = some (some (.agg #[.slice none 0 0, .bool false, .slice none 0 0, .bool false]), 4, 64) := by kernel_rfl
theorem info_refRatZ : (Tryz.prog.info? 74).map (fun i => (i.zero, i.size, i.bytes)) = some (some (.agg #[.bool false, .slice none 0 0, .bool false, .slice none 0 0]), 4, 64) := by kernel_rfl
/-- What is of other types than t is as it was. -/
structure Kty (t1 t2 : TypeId) (w w' : World) : Prop where
  block : ∀ k, k < w.heap.size → (∀ c fz, w.heap[k]? ≠ some (.cells c t1 fz)) → (∀ c fz, w.heap[k]? ≠ some (.cells c t2 fz)) → w'.heap[k]? = w.heap[k]?
theorem Kty.of_below {t1 t2 : TypeId} {w w' : World} (b : Below w.heap.size w w') : Kty t1 t2 w w' := ⟨fun k hk _ _ => b.block k hk⟩
theorem Kty.of_grown {t1 t2 : TypeId} {w w' : World} {row : Option Nat} (hg : w.grownBy w' row) (hr : ∀ g, row = some g → ∃ c fz, w.heap[g]? = some (.cells c t1 fz)) : Kty t1 t2 w w' :=
  ⟨fun k hk h1 _ => hg.block k hk (fun e => by obtain ⟨c, fz, hc⟩ := hr k e.symm; exact h1 c fz hc)⟩
theorem Kty.of_set {t1 t2 : TypeId} {w : World} {g i : Nat} {c : Array Value} {t : TypeId} {fz : Nat × Nat} (h : w.heap[g]? = some (.cells c t fz)) (ht : t = t1 ∨ t = t2) (v : Value) : Kty t1 t2 w (w.setCell ⟨g, i, none⟩ v) :=
  ⟨fun k hk h1 h2 => Below.heap_setCell w _ v k (fun e => by
    have e' : k = g := e
    subst e'
    rcases ht with rfl | rfl
    · exact h1 _ _ h
    · exact h2 _ _ h)⟩
theorem NatIs.kty {t1 t2 : TypeId} {w w' : World} {v : Value} {n K : Nat} (h : NatIs w v n K) (k : Kty t1 t2 w w') (h1 : 121 ≠ t1) (h2 : 121 ≠ t2) : NatIs w' v n K := by
  obtain ⟨sl, L, e1, ho, r⟩ := h
  refine ⟨sl, L, e1, ⟨ho.1, ?_⟩, r⟩
  rcases ho.2 with hn | ⟨g, cap, cur, rfl, hb, hgg, rest⟩
  · exact .inl hn
  · refine .inr ⟨g, cap, cur, rfl, hb, ?_, rest⟩
    rw [k.block g (lt_of_block hgg) (fun c fz e => by rw [hgg] at e; simp only [Option.some.injEq, Obj.cells.injEq] at e; exact h1 e.2.1) (fun c fz e => by rw [hgg] at e; simp only [Option.some.injEq, Obj.cells.injEq] at e; exact h2 e.2.1)]
    exact hgg
theorem RefIs.kty {t1 t2 : TypeId} {w w' : World} {v : Value} {n K : Nat} (h : RefIs w v n K) (k : Kty t1 t2 w w') (h1 : 3 ≠ t1) (h2 : 3 ≠ t2) : RefIs w' v n K := by
  obtain ⟨sl, L, e1, ho, r⟩ := h
  refine ⟨sl, L, e1, ⟨ho.1, ?_⟩, r⟩
  rcases ho.2 with hn | ⟨g, cap, cur, rfl, hb, hgg, rest⟩
  · exact .inl hn
  · refine .inr ⟨g, cap, cur, rfl, hb, ?_, rest⟩
    rw [k.block g (lt_of_block hgg) (fun c fz e => by rw [hgg] at e; simp only [Option.some.injEq, Obj.cells.injEq] at e; exact h1 e.2.1) (fun c fz e => by rw [hgg] at e; simp only [Option.some.injEq, Obj.cells.injEq] at e; exact h2 e.2.1)]
    exact hgg
theorem QIs.kty {t1 t2 : TypeId} {w w' : World} {v : Value} {q : Rat} {K : Nat} (h : QIs w v q K) (k : Kty t1 t2 w w') (h1 : 121 ≠ t1) (h2 : 121 ≠ t2) : QIs w' v q K := by
  obtain ⟨a1, l1, c1, a2, l2, c2, e, ⟨b1, x1, y1, f1, n1⟩, ⟨b2, x2, y2, f2, n2⟩⟩ := h
  exact ⟨a1, l1, c1, a2, l2, c2, e, ⟨b1, x1, y1, f1, n1.kty k h1 h2⟩, ⟨b2, x2, y2, f2, n2.kty k h1 h2⟩⟩
theorem TIs.kty {t1 t2 : TypeId} {w w' : World} {v : Value} {q : Rat} {K : Nat} (h : TIs w v q K) (k : Kty t1 t2 w w') (h1 : 3 ≠ t1) (h2 : 3 ≠ t2) : TIs w' v q K := by
  obtain ⟨a1, l1, c1, a2, l2, c2, m, e, ⟨b1, x1, y1, f1, n1⟩, ⟨b2, x2, y2, f2, n2⟩, hd⟩ := h
  exact ⟨a1, l1, c1, a2, l2, c2, m, e, ⟨b1, x1, y1, f1, n1.kty k h1 h2⟩, ⟨b2, x2, y2, f2, n2.kty k h1 h2⟩, hd⟩
/-- Four cells each. -/
theorem four_at : ∀ (C : List (List Value)), (∀ c ∈ C, c.length = 4) → ∀ (k j : Nat) (hk : k < C.length), j < 4 → C.flatten[k * 4 + j]? = (C[k])[j]?
  | [], _, k, j, hk, _ => by simp at hk
  | x :: T, h, 0, j, _, hj => by
    rw [List.flatten_cons, Nat.zero_mul, Nat.zero_add, List.getElem?_append_left (by rw [h x List.mem_cons_self]; exact hj)]
    rfl
  | x :: T, h, k + 1, j, hk, hj => by
    have h1 : (k + 1) * 4 = k * 4 + 4 := Nat.succ_mul k 4
    have hx := h x List.mem_cons_self
    rw [List.flatten_cons, List.getElem?_append_right (by rw [hx]; omega), hx, show (k + 1) * 4 + j - 4 = k * 4 + j by omega, four_at T (fun c hc => h c (List.mem_cons_of_mem _ hc)) k j (by simpa using hk) hj]
    rfl
/-- A row of four-cell values, each of which is the number at its place. -/
structure Ls (I : World → Value → Rat → Nat → Prop) (e : TypeId) (w : World) (base : Nat) (v : Value) (C : List (List Value)) (X : List Rat) (K : Nat) : Prop where
  own : w.ownsRow base e 4 v X.length C.flatten
  len : C.length = X.length
  four : ∀ c ∈ C, c.length = 4
  is_ : ∀ i (h1 : i < C.length) (h2 : i < X.length), I w (.agg (C[i]).toArray) X[i] K
section
variable {I : World → Value → Rat → Nat → Prop} {e : TypeId} {w w' : World} {base : Nat} {v v' : Value} {C : List (List Value)} {X : List Rat} {K : Nat}
theorem Ls.below (hI : ∀ {w w' : World} {v : Value} {q : Rat} {K : Nat}, I w v q K → Below w.heap.size w w' → I w' v q K) (h : Ls I e w base v C X K) (b : Below w.heap.size w w') : Ls I e w' base v C X K :=
  ⟨⟨h.own.1, by
    rcases h.own.2 with hn | ⟨g, cap, cur, rfl, hb, hgg, rest⟩
    · exact .inl hn
    · exact .inr ⟨g, cap, cur, rfl, hb, (b.block g (lt_of_block hgg)).trans hgg, rest⟩⟩, h.len, h.four, fun i h1 h2 => hI (h.is_ i h1 h2) b⟩
theorem Ls.slice (h : Ls I e w base v C X K) : ∃ a c, v = .slice a X.length c ∧ X.length ≤ c ∧ c ≤ 9223372036854775807 := by
  rcases h.own.2 with ⟨e0, hz⟩ | ⟨g, cap, cur, e0, hb, hh, q1, q2, _⟩
  · exact ⟨none, 0, by rw [e0, hz], by omega, by omega⟩
  · unfold maxLen at q2
    exact ⟨_, cap, e0, q1, by omega⟩
theorem Ls.at (h : Ls I e w base v C X K) (i : Nat) (hi : i < X.length) : ∃ g c x0 x1 x2 x3, v = .slice (some ⟨g, 0, none⟩) X.length c ∧ base ≤ g ∧ w.cell? ⟨g, i * 4, none⟩ = some x0 ∧ w.cell? ⟨g, i * 4 + 1, none⟩ = some x1 ∧ w.cell? ⟨g, i * 4 + 2, none⟩ = some x2 ∧ w.cell? ⟨g, i * 4 + 3, none⟩ = some x3 ∧ I w (.agg #[x0, x1, x2, x3]) X[i] K := by
  have hiC : i < C.length := by rw [h.len]; exact hi
  have h4 := h.four _ (List.getElem_mem hiC)
  obtain ⟨x0, x1, x2, x3, hx⟩ : ∃ x0 x1 x2 x3, C[i] = [x0, x1, x2, x3] := by
    match hc : C[i], h4 with
    | [x0, x1, x2, x3], _ => exact ⟨x0, x1, x2, x3, rfl⟩
  have hI := h.is_ i hiC hi
  rw [hx] at hI
  rcases h.own.2 with ⟨e0, hz⟩ | ⟨g, cap, cur, e0, hb, hh, q1, q2, _⟩
  · omega
  · have key : ∀ j u, [x0, x1, x2, x3][j]? = some u → w.cell? ⟨g, i * 4 + j, none⟩ = some u := fun j u hu => by
      have hj : j < 4 := by simpa using (List.getElem?_eq_some_iff.1 hu).1
      have := h.own.cells (g := g) (by rw [e0]; rfl) (i * 4 + j) u (by rw [four_at C h.four i j hiC hj, hx]; exact hu)
      rw [add_off, Nat.zero_add] at this
      exact this
    exact ⟨g, cap, x0, x1, x2, x3, e0, hb, key 0 x0 rfl, key 1 x1 rfl, key 2 x2 rfl, key 3 x3 rfl, hI⟩
theorem Ls.push (h : Ls I e w base v C X K) {x0 x1 x2 x3 : Value} {q : Rat} (ho : w'.ownsRow base e 4 v' (X.length + 1) (C.flatten ++ [x0, x1, x2, x3])) (hI : ∀ {v : Value} {q : Rat}, I w v q K → I w' v q K) (hq : I w (.agg #[x0, x1, x2, x3]) q K) : Ls I e w' base v' (C ++ [[x0, x1, x2, x3]]) (X ++ [q]) K := by
  have hl := h.len
  refine ⟨by rw [List.length_append, List.flatten_append]; simpa using ho, by simp [hl], fun c hc => ?_, fun i h1 h2 => ?_⟩
  · rcases List.mem_append.1 hc with hc | hc
    · exact h.four c hc
    · simp only [List.mem_singleton] at hc
      subst hc; rfl
  · by_cases hi : i < X.length
    · rw [List.getElem_append_left (by omega), List.getElem_append_left hi]
      exact hI (h.is_ i (by omega) hi)
    · have hiX : i = X.length := by simp at h2; omega
      subst hiX
      rw [List.getElem_append_right (by omega), List.getElem_append_right (by omega)]
      simp only [hl, Nat.sub_self, List.getElem_cons_zero]
      exact hI hq
theorem Ls.none (w : World) (base : Nat) : Ls I e w base (.slice none 0 0) [] [] K := ⟨⟨rfl, .inl ⟨rfl, rfl⟩⟩, rfl, by simp, fun i h1 h2 => by simp at h2⟩
theorem Ls.mono {K' : Nat} (hI : ∀ {v : Value} {q : Rat}, I w v q K → I w v q K') (h : Ls I e w base v C X K) : Ls I e w base v C X K' := ⟨h.own, h.len, h.four, fun i h1 h2 => hI (h.is_ i h1 h2)⟩
end
/-- The program's list, and the document's. -/
abbrev QLs := Ls QIs 59
abbrev TLs := Ls TIs 74
end Go.Proofs.YtgojlegknlalpaaGreatDoor
/- tableau: what New looks at. -/
namespace Go.Proofs.YtgojlegknlalpaaGreatDoor
open Go.RowKit
set_option linter.unusedVariables false
set_option maxRecDepth 100000
set_option linter.unusedSimpArgs false

theorem below_drewU (w : World) : Below w.heap.size w w.drew := (Below.refl _ _).drew
theorem kcU {W X : World} {p : Addr} {a : Value} (h : Below W.heap.size W X) (h1 : W.cell? p = some a) : X.cell? p = some a := (h.cell (World.block_lt_of_cell? W _ h1)).trans h1
set_option maxHeartbeats 1600000 in
theorem ubey_any (w : World) (v : Value) (L : List Int) (h : Ints w v L) :
    Calls Tryz.prog 24 #[v] w fun e w' => e = .returned (.bool (bey L)) ∧ w' = w := by
  obtain ⟨a, c, rfl, hl, hm⟩ := h.slice
  unfold maxLen at hm
  have HI := hid h
  clear h
  obtain ⟨R, HR⟩ : ∃ R, Hid (R = bey L) := ⟨_, hid rfl⟩
  rw [← HR.out]
  go_enter Tryz.func24, Tryz.ntmps24
  go_wp2
  go_loopw [7] (fun i wr => ∃ k : Nat, k ≤ L.length ∧ i = .int .i64 (k : Int) ∧ Hid (bey (L.take k) = false) ∧ wr = w) (fun i _ => L.length - (intOf i).toNat)
  case atStart => exact ⟨0, Nat.zero_le _, rfl, rfl, rfl⟩
  case round =>
    obtain ⟨k, hk, rfl, HK, rfl⟩ := hrel
    by_cases hlt : k < L.length
    · obtain ⟨b, off, c', e, _, _, hc⟩ := HI.out.at k hlt
      simp only [Value.slice.injEq] at e
      obtain ⟨rfl, _, rfl⟩ := e
      have HT := hid (fun hh : byd L[k] = true => show R = true by rw [HR.out]; exact bey_at hlt hh)
      have HF := hid (fun hh : byd L[k] = false => bey_succ hlt HK.out hh)
      clear HK
      generalize L[k] = x at *
      by_cases h1 : 1000000000 < x
      · have h1' : decide (1000000000 < x) = true := by simpa using h1
        have HE := hid (HT.out (by unfold byd; rw [h1']; rfl))
        go_wp2
        go_ret
        exact ⟨by rw [HE.out]; rfl, rfl⟩
      have h1' : decide (1000000000 < x) = false := by simpa using h1
      by_cases h2 : x < -1000000000
      · have h2' : decide (x < -1000000000) = true := by simpa using h2
        have HE := hid (HT.out (by unfold byd; rw [h1', h2']; rfl))
        go_wp2
        go_ret
        exact ⟨by rw [HE.out]; rfl, rfl⟩
      have h2' : decide (x < -1000000000) = false := by simpa using h2
      have HE := hid (HF.out (by unfold byd; rw [h1', h2']; rfl))
      go_wp2
      go_roundw
      case rel => exact ⟨k + 1, by omega, by go_num, HE, by simp⟩
      case measure => simp [intOf]; omega
    · have hkl : k = L.length := by omega
      have HE := hid (show R = false by rw [HR.out]; have := HK.out; rwa [hkl, List.take_length] at this)
      clear hkl
      go_wp2
      go_ret
      exact ⟨by rw [HE.out]; rfl, rfl⟩
set_option maxHeartbeats 1600000 in
theorem uindex_any (w : World) (v : Value) (M : List (List Int)) (h : IntRows w v M) :
    Calls Tryz.prog 42 #[v, .func (.func 24) #[] #[]] w fun e w' => (∃ n : Int, e = .returned (.int .i64 n) ∧ decide (0 ≤ n) = M.any bey) ∧ w' = w := by
  obtain ⟨a, c, rfl, hl, hm⟩ := h.slice
  unfold maxLen at hm
  have HI := hid h
  clear h
  obtain ⟨R, HR⟩ : ∃ R, Hid (R = M.any bey) := ⟨_, hid rfl⟩
  rw [← HR.out]
  go_enter Tryz.func42, Tryz.ntmps42
  go_wp2
  go_loopw [8] (fun i wr => ∃ k : Nat, k ≤ M.length ∧ i = .int .i64 (k : Int) ∧ Hid ((M.take k).any bey = false) ∧ wr = w) (fun i _ => M.length - (intOf i).toNat)
  case atStart => exact ⟨0, Nat.zero_le _, rfl, rfl, rfl⟩
  case round =>
    obtain ⟨k, hk, rfl, HK, rfl⟩ := hrel
    by_cases hlt : k < M.length
    · obtain ⟨b, off, c', u, e, hc, hu⟩ := HI.out.at k hlt
      simp only [Value.slice.injEq] at e
      obtain ⟨rfl, _, rfl⟩ := e
      have HT := hid (fun hh : bey M[k] = true => show R = true by rw [HR.out]; exact rows_at hlt hh)
      have HF := hid (fun hh : bey M[k] = false => rows_succ hlt HK.out hh)
      have HU := hid hu
      obtain ⟨ua, uc, hue, _, _⟩ := hu.slice
      subst hue
      clear HK hu
      go_wp2_with fail
      refine (ubey_any _ _ _ HU.out).mono ?_
      rintro e X ⟨rfl, hX⟩
      subst hX
      generalize bey M[k] = g at *
      cases g with
      | true =>
        have HE := hid (HT.out rfl)
        go_wp2
        go_ret
        exact ⟨⟨_, rfl, by rw [HE.out]; simp⟩, rfl⟩
      | false =>
        have HE := hid (HF.out rfl)
        go_wp2
        go_roundw
        case rel => exact ⟨k + 1, by omega, by go_num, HE, by simp⟩
        case measure => simp [intOf]; omega
    · have hkl : k = M.length := by omega
      have HE := hid (show R = false by rw [HR.out]; have := HK.out; rwa [hkl, List.take_length] at this)
      clear hkl
      go_wp2
      go_ret
      exact ⟨⟨-1, rfl, by rw [HE.out]; rfl⟩, rfl⟩
set_option maxHeartbeats 1600000 in
theorem ucontains_any (w : World) (v : Value) (M : List (List Int)) (h : IntRows w v M) :
    Calls Tryz.prog 23 #[v, .func (.func 24) #[] #[]] w fun e w' => e = .returned (.bool (M.any bey)) ∧ w' = w := by
  have HI := hid (uindex_any w v M h)
  obtain ⟨a, c, rfl, hl, hm⟩ := h.slice
  clear h
  generalize M.any bey = R at *
  go_enter Tryz.func23, Tryz.ntmps23
  go_wp2_with fail
  refine HI.out.mono ?_
  rintro e X ⟨⟨n, rfl, hn⟩, hX⟩
  subst hX
  cases R with
  | true =>
    go_wp2
    go_ret
    exact ⟨rfl, rfl⟩
  | false =>
    go_wp2
    go_ret
    exact ⟨rfl, rfl⟩
set_option maxHeartbeats 1600000 in
theorem uwidth_any (w : World) (v : Value) (M : List (List Int)) (h : IntRows w v M) :
    Calls Tryz.prog 22 #[v] w fun e w' => e = .returned (.int .i64 (wid M)) ∧ w' = w := by
  have HI := hid h
  obtain ⟨a, c, rfl, hl, hm⟩ := h.slice
  unfold maxLen at hm
  clear h
  by_cases h0 : M.length = 0
  · have HE := hid (wid_zero h0)
    generalize wid M = m at *
    rw [h0] at *
    go_enter Tryz.func22, Tryz.ntmps22
    go_wp2
    go_ret
    exact ⟨by rw [HE.out]; rfl, rfl⟩
  · have hp : 0 < M.length := by omega
    have hn0 : ((M.length : Int) == 0) = false := beq_eq_false_iff_ne.2 (by omega)
    have HE := hid (wid_pos hp)
    obtain ⟨b, off, c', u, e, hc, hu⟩ := HI.out.at 0 hp
    simp only [Value.slice.injEq] at e
    obtain ⟨rfl, _, rfl⟩ := e
    obtain ⟨ua, uc, hue, _, hum⟩ := hu.slice
    subst hue
    unfold maxLen at hum
    clear hu HI
    rw [Nat.add_zero] at hc
    generalize wid M = m at *
    generalize M[0].length = g at *
    generalize M.length = n at *
    go_enter Tryz.func22, Tryz.ntmps22
    go_wp2
    go_ret
    exact ⟨by rw [HE.out]; rfl, rfl⟩
set_option maxHeartbeats 1600000 in
theorem ucols_any (w : World) (v : Value) (B : List Int) (h : Ints w v B) (m : Nat) (hm0 : m ≤ 1000000) :
    Calls Tryz.prog 25 #[v, .int .i64 (m : Int)] w fun e w' => e = .returned (.bool (ucl B m)) ∧ w' = w := by
  obtain ⟨a, c, rfl, hl, hm⟩ := h.slice
  unfold maxLen at hm
  have HI := hid h
  clear h
  obtain ⟨R, HR⟩ : ∃ R, Hid (R = ucl B m) := ⟨_, hid rfl⟩
  rw [← HR.out]
  go_enter Tryz.func25, Tryz.ntmps25
  go_wp2
  go_loopw [9] (fun i wr => ∃ k : Nat, k ≤ B.length ∧ i = .int .i64 (k : Int) ∧ Hid (ucl (B.take k) m = true) ∧ wr = w) (fun i _ => B.length - (intOf i).toNat)
  case atStart => exact ⟨0, Nat.zero_le _, rfl, rfl, rfl⟩
  case round =>
    obtain ⟨k, hk, rfl, HK, rfl⟩ := hrel
    by_cases hlt : k < B.length
    · obtain ⟨b, off, c', e, _, _, hc⟩ := HI.out.at k hlt
      simp only [Value.slice.injEq] at e
      obtain ⟨rfl, _, rfl⟩ := e
      have HT := hid (fun hh : B[k] < 0 ∨ (m : Int) ≤ B[k] => show R = false by rw [HR.out]; exact ucl_no hlt hh)
      have HF := hid (fun (h1 : 0 ≤ B[k]) (h2 : B[k] < (m : Int)) => ucl_succ hlt HK.out h1 h2)
      clear HK
      generalize B[k] = x at *
      by_cases h1 : x < 0
      · have h1' : decide (x < 0) = true := by simpa using h1
        have HE := hid (HT.out (Or.inl h1))
        go_wp2
        go_ret
        exact ⟨by rw [HE.out]; rfl, rfl⟩
      have h1' : decide (x < 0) = false := by simpa using h1
      by_cases h2 : (m : Int) ≤ x
      · have h2' : decide ((m : Int) ≤ x) = true := by simpa using h2
        have HE := hid (HT.out (Or.inr h2))
        go_wp2
        go_ret
        exact ⟨by rw [HE.out]; rfl, rfl⟩
      have h2' : decide ((m : Int) ≤ x) = false := by simpa using h2
      have HE := hid (HF.out (by omega) (by omega))
      go_wp2
      go_roundw
      case rel => exact ⟨k + 1, by omega, by go_num, HE, by simp⟩
      case measure => simp [intOf]; omega
    · have hkl : k = B.length := by omega
      have HE := hid (show R = true by rw [HR.out]; have := HK.out; rwa [hkl, List.take_length] at this)
      clear hkl
      go_wp2
      go_ret
      exact ⟨by rw [HE.out]; rfl, rfl⟩
set_option maxHeartbeats 1600000 in
theorem ushaped_any (w : World) (v bv : Value) (M : List (List Int)) (B : List Int) (h : IntRows w v M) (hb : Ints w bv B) :
    Calls Tryz.prog 21 #[v, bv] w fun e w' => e = .returned (.bool (ushp M B)) ∧ Below w.heap.size w w' := by
  have HI := hid h
  obtain ⟨a, c, rfl, hl, hm⟩ := h.slice
  obtain ⟨ba, bc, rfl, bl, bm⟩ := hb.slice
  unfold maxLen at hm bm
  clear h hb
  obtain ⟨R, HR⟩ : ∃ R, Hid (R = (M.all (fun r => decide (r.length = wid M)) && decide (B.length = M.length))) := ⟨_, hid rfl⟩
  have HRu := hid (show ushp M B = R from HR.out.symm)
  rw [HRu.out]
  have hwm : wid M ≤ 9223372036854775807 := by
    by_cases h0 : M.length = 0
    · rw [wid_zero h0]; omega
    · have hp : 0 < M.length := by omega
      rw [wid_pos hp]
      obtain ⟨_, _, _, _, _, _, hu⟩ := HI.out.at 0 hp
      obtain ⟨_, _, _, h1, h2⟩ := hu.slice
      unfold maxLen at h2
      omega
  have HW := hid (fun (Y : World) (bY : Below w.heap.size w Y) => uwidth_any Y _ M (HI.out.below bY))
  have b0 := Below.refl w.heap.size w
  generalize hmm : wid M = m at *
  clear hmm
  generalize B.length = nb at *
  go_enter Tryz.func21, Tryz.ntmps21
  go_wp2
  go_loopw [8] (fun i wr => ∃ k : Nat, k ≤ M.length ∧ i = .int .i64 (k : Int) ∧ Hid ((M.take k).all (fun r => decide (r.length = m)) = true) ∧ Below w.heap.size w wr) (fun i _ => M.length - (intOf i).toNat)
  case atStart => exact ⟨0, Nat.zero_le _, rfl, rfl, b0⟩
  case round =>
    obtain ⟨k, hk, rfl, HK, bw⟩ := hrel
    by_cases hlt : k < M.length
    · obtain ⟨b, off, c', u, e, hc, hu⟩ := (HI.out.below bw).at k hlt
      simp only [Value.slice.injEq] at e
      obtain ⟨rfl, _, rfl⟩ := e
      obtain ⟨ua, uc, hue, _, hum⟩ := hu.slice
      subst hue
      unfold maxLen at hum
      have HT := hid (fun hh : M[k].length ≠ m => show R = false by rw [HR.out, all_no hlt hh]; rfl)
      have HF := hid (fun hh : M[k].length = m => all_succ hlt HK.out hh)
      clear HK hu
      generalize M[k].length = g at *
      have F0 := below_drewU wr
      have HKx := hid (fun (Y : World) (k' : Below wr.heap.size wr Y) => show Y.cell? ⟨b, off + k, none⟩ = some (.slice ua g uc) from kcU k' hc)
      have hkI : (0 : Int) ≤ (k : Int) ∧ (k : Int) < (M.length : Int) := by omega
      go_wp2_with fail
      go_region_held3 (fun Z => Z.cell? ⟨b, off + k, none⟩ = some (.slice ua g uc)) (first | exact HKx.out _ F1 | exact HKx.out _ F0) (first
        | (go_at_call 22; have gk := F0; refine (HW.out _ (chain2 bw F0)).mono ?_; rintro e Yx ⟨rfl, hYx⟩; subst hYx; have F1 := F0))
      have BF := chain2 bw F1
      by_cases hg : g = m
      · subst hg
        have HE := hid (HF.out rfl)
        go_wp2
        go_roundw
        case rel => exact ⟨k + 1, by omega, by go_num, HE, BF⟩
        case measure => simp [intOf]; omega
      · have hg1 : ((g : Int) == (m : Int)) = false := beq_eq_false_iff_ne.2 (by omega)
        have hg2 : ¬ (g : Int) = (m : Int) := by omega
        have HE := hid (HT.out hg)
        go_wp2
        go_ret
        exact ⟨by rw [HE.out]; rfl, BF⟩
    · have hkl : k = M.length := by omega
      have HE := hid (show R = decide (nb = M.length) by rw [HR.out]; have := HK.out; rw [hkl, List.take_length] at this; rw [this]; rfl)
      clear hkl
      by_cases hg : nb = M.length
      · have hg0 : decide (nb = M.length) = true := by simpa using hg
        have HE2 := hid (HE.out.trans hg0)
        clear hg0
        subst hg
        go_wp2
        go_ret
        exact ⟨by rw [HE2.out]; rfl, bw⟩
      · have hg0 : decide (nb = M.length) = false := by simpa using hg
        have HE2 := hid (HE.out.trans hg0)
        have hg1 : ((nb : Int) == (M.length : Int)) = false := beq_eq_false_iff_ne.2 (by omega)
        have hg2 : ¬ (nb : Int) = (M.length : Int) := by omega
        go_wp2
        go_ret
        exact ⟨by rw [HE2.out]; rfl, bw⟩
end Go.Proofs.YtgojlegknlalpaaGreatDoor
/- tableau: the document's: Has, At. -/
namespace Go.Proofs.YtgojlegknlalpaaGreatDoor
open Go.RowKit
set_option linter.unusedVariables false
set_option maxRecDepth 100000
set_option linter.unusedSimpArgs false

/-- The document's tableau at gb: its numbers, its basis. -/
def GTb (w : World) (gb : Nat) (X : List (List Rat)) (B : List Int) (K : Nat) : Prop :=
  ∃ la lc ba bc vs, w.heap[gb]? = some (.cells #[.slice la X.length lc, .slice ba B.length bc] 67 (0, 0)) ∧ Row1 w (.slice la X.length lc) vs ∧ vs.length = X.length ∧ (∀ i (h1 : i < vs.length) (h2 : i < X.length), ∃ base C, TLs w base vs[i] C X[i] K) ∧ Ints w (.slice ba B.length bc) B
theorem GTb.below {w w' : World} {gb : Nat} {X : List (List Rat)} {B : List Int} {K : Nat} (h : GTb w gb X B K) (b : Below w.heap.size w w') : GTb w' gb X B K := by
  obtain ⟨la, lc, ba, bc, vs, h1, h2, h3, h4, h5⟩ := h
  exact ⟨la, lc, ba, bc, vs, box_below b h1 (lt_of_block h1), h2.below b, h3, fun i k1 k2 => by
    obtain ⟨base, C, h⟩ := h4 i k1 k2
    exact ⟨base, C, Ls.below (fun h b => h.below b) h b⟩, h5.below b⟩
def ghs (X : List (List Rat)) (r c : Int) : Bool := decide (0 ≤ r) && decide (r < (X.length : Int)) && decide (0 ≤ c) && decide (c < ((X[r.toNat]?.map List.length).getD 0 : Nat))
theorem ghs_yes {X : List (List Rat)} {r c : Int} (h : ghs X r c = true) : ∃ (i k : Nat) (hi : i < X.length), r = (i : Int) ∧ c = (k : Int) ∧ k < (X[i]).length := by
  unfold ghs at h
  simp only [Bool.and_eq_true, decide_eq_true_eq] at h
  obtain ⟨⟨⟨h1, h2⟩, h3⟩, h4⟩ := h
  have hi : r.toNat < X.length := by omega
  rw [List.getElem?_eq_getElem hi] at h4
  simp at h4
  exact ⟨r.toNat, c.toNat, hi, by omega, by omega, by omega⟩
set_option maxHeartbeats 3200000 in
theorem gHas_any (w : World) (gb : Nat) (X : List (List Rat)) (B : List Int) (K : Nat) (h : GTb w gb X B K) (r c : Int) :
    Calls Tryz.prog 31 #[.pointer (some ⟨gb, 0, none⟩), .int .i64 r, .int .i64 c] w fun e w' => e = .returned (.bool (ghs X r c)) ∧ w' = w := by
  obtain ⟨la, lc, ba, bc, vs, h1, h2, h3, h4, h5⟩ := h
  obtain ⟨_, _, e, k1, k2⟩ := h2.slice
  simp only [Value.slice.injEq] at e
  obtain ⟨-, -, rfl⟩ := e
  unfold maxLen at k2
  rw [h3] at k1
  have c0 := bxc h1 0 (.slice la X.length lc) rfl
  obtain ⟨R, HE⟩ : ∃ R, Hid (ghs X r c = R) := ⟨_, hid rfl⟩
  have HU := hid (show R = (decide (0 ≤ r) && decide (r < (X.length : Int)) && decide (0 ≤ c) && decide (c < ((X[r.toNat]?.map List.length).getD 0 : Nat))) by rw [← HE.out]; rfl)
  rw [HE.out]
  clear HE h1 h5
  by_cases g1 : 0 ≤ r
  case neg =>
    have d1 : decide (0 ≤ r) = false := by simpa using g1
    have HF := hid (show R = false by rw [HU.out, d1]; rfl)
    clear HU h2 h4
    go_enter Tryz.func31, Tryz.ntmps31
    go_wp2
    go_ret
    exact ⟨by rw [HF.out]; rfl, rfl⟩
  have d1 : decide (0 ≤ r) = true := by simpa using g1
  by_cases g2 : r < (X.length : Int)
  case neg =>
    have d2 : decide (r < (X.length : Int)) = false := by simpa using g2
    have HF := hid (show R = false by rw [HU.out, d1, d2]; rfl)
    clear HU h2 h4
    go_enter Tryz.func31, Tryz.ntmps31
    go_wp2
    go_ret
    exact ⟨by rw [HF.out]; rfl, rfl⟩
  have d2 : decide (r < (X.length : Int)) = true := by simpa using g2
  by_cases g3 : 0 ≤ c
  case neg =>
    have d3 : decide (0 ≤ c) = false := by simpa using g3
    have HF := hid (show R = false by rw [HU.out, d1, d2, d3]; rfl)
    clear HU h2 h4
    go_enter Tryz.func31, Tryz.ntmps31
    go_wp2
    go_ret
    exact ⟨by rw [HF.out]; rfl, rfl⟩
  have d3 : decide (0 ≤ c) = true := by simpa using g3
  obtain ⟨i, rfl⟩ : ∃ i : Nat, r = (i : Int) := ⟨r.toNat, by omega⟩
  have hi : i < X.length := by omega
  obtain ⟨g, off, c', e, _, _, hc⟩ := h2.at i (by omega)
  simp only [Value.slice.injEq] at e
  obtain ⟨rfl, -, rfl⟩ := e
  obtain ⟨base, C, hl⟩ := h4 i (by omega) hi
  obtain ⟨ta, tc, et, k3, k4⟩ := hl.slice
  rw [et] at hc
  have HF := hid (show R = decide (c < ((X[i]).length : Int)) by rw [HU.out, d1, d2, d3]; simp [List.getElem?_eq_getElem hi])
  clear HU h2 h4 hl et
  generalize (X[i]).length = m at *
  generalize X.length = n at *
  go_enter Tryz.func31, Tryz.ntmps31
  go_wp2
  go_ret
  exact ⟨by rw [HF.out]; rfl, rfl⟩
/-- s is the text of the number there, by the document. -/
def GAtP (X : List (List Rat)) (r c : Int) (s : ByteArray) : Prop :=
  (ghs X r c = false ∧ s = ByteArray.empty) ∨ ∃ (i k : Nat) (hi : i < X.length) (hk : k < (X[i]).length), r = (i : Int) ∧ c = (k : Int) ∧ TxR s ((X[i])[k])
set_option maxHeartbeats 6400000 in
theorem gAt_any (w : World) (gb : Nat) (X : List (List Rat)) (B : List Int) (K : Nat) (hK : K ≤ 1000000) (h : GTb w gb X B K) (r c : Int) :
    Calls Tryz.prog 13 #[.pointer (some ⟨gb, 0, none⟩), .int .i64 r, .int .i64 c] w fun e w' => (∃ s, e = .returned (.string s) ∧ GAtP X r c s) ∧ Below w.heap.size w w' := by
  have HH := hid (gHas_any w gb X B K h r c)
  have HT := hid h
  clear h
  go_enter Tryz.func13, Tryz.ntmps13
  go_wp2_with fail
  refine HH.out.mono ?_
  rintro e X1 ⟨rfl, hX1⟩
  subst hX1
  clear HH
  obtain ⟨u0, hu0⟩ : ∃ u0, ghs X r c = u0 := ⟨_, rfl⟩
  simp only [hu0]
  cases u0 with
  | false =>
    have HU := hid hu0
    clear hu0
    go_wp2
    go_ret
    exact ⟨⟨_, rfl, Or.inl ⟨HU.out, by first | rfl | decide⟩⟩, Below.refl _ _⟩
  | true =>
    obtain ⟨i, k, hi, rfl, rfl, hk⟩ := ghs_yes hu0
    clear hu0
    obtain ⟨la, lc, ba, bc, vs, h1, h2, h3, h4, h5⟩ := HT.out
    obtain ⟨_, _, e, k1, k2⟩ := h2.slice
    simp only [Value.slice.injEq] at e
    obtain ⟨-, -, rfl⟩ := e
    unfold maxLen at k2
    rw [h3] at k1
    have c0 := bxc h1 0 (.slice la X.length lc) rfl
    obtain ⟨g, off, c', e, _, _, hc⟩ := h2.at i (by omega)
    simp only [Value.slice.injEq] at e
    obtain ⟨rfl, -, rfl⟩ := e
    obtain ⟨base, C, hl⟩ := h4 i (by omega) hi
    obtain ⟨g', c2, x0, x1, x2, x3, et, -, q0, q1, q2, q3, hq⟩ := hl.at k hk
    obtain ⟨ta, tc, et2, k3, k4⟩ := hl.slice
    rw [et] at hc et2
    simp only [Value.slice.injEq] at et2
    obtain ⟨-, -, rfl⟩ := et2
    obtain ⟨e1, e2, e3, e4, e5, e6, e7, e8, hs⟩ := hq.form
    simp only [Value.agg.injEq, Array.mk.injEq, List.cons.injEq, and_true] at hs
    obtain ⟨rfl, rfl, rfl, rfl⟩ := hs
    have HQ := hid hq
    have HPO := hid (fun (s : ByteArray) (hs : TxR s ((X[i])[k])) => show GAtP X (i : Int) (k : Int) s from Or.inr ⟨i, k, hi, hk, rfl, rfl, hs⟩)
    clear h1 h2 h4 h5 hl et hq h3 HT
    generalize hqq : (X[i])[k] = qq at *
    clear hqq
    generalize hm : (X[i]).length = m at *
    clear hm
    go_wp2_with fail
    refine (t_text X1 _ _ K hK HQ.out).mono ?_
    rintro e X3 ⟨⟨s, rfl, ht⟩, bX3⟩
    have HS := hid (HPO.out s ht)
    clear ht
    go_wp2
    go_ret
    exact ⟨⟨s, rfl, HS.out⟩, bX3⟩
end Go.Proofs.YtgojlegknlalpaaGreatDoor
/- tableau: heavy, of the law. -/
namespace Go.Proofs.YtgojlegknlalpaaGreatDoor
open Go.RowKit
set_option linter.unusedVariables false
set_option maxRecDepth 100000
set_option linter.unusedSimpArgs false

theorem wrap_in {x : Int} (h : -9223372036854775808 ≤ x) (k : x ≤ 9223372036854775807) : wrap64 x = x := by unfold wrap64; omega
theorem wrap_rng (x : Int) : -9223372036854775808 ≤ wrap64 x ∧ wrap64 x ≤ 9223372036854775807 := by unfold wrap64; omega
theorem heavy_sum {a b c z1 z2 z3 : Int} (a0 : 0 ≤ a) (a1 : a ≤ 1152921504606846976) (b0 : 0 ≤ b) (b1 : b ≤ 1152921504606846976) (c0 : 0 ≤ c) (c1 : c ≤ 72057594037927936) (h1 : z1 = wrap64 (a + b)) (h2 : z2 = wrap64 (16 * c)) (h3 : z3 = wrap64 (z1 + z2)) : a + b + 16 * c ≤ z3 := by
  rw [wrap_in (by omega) (by omega)] at h1
  subst h1
  rw [wrap_in (by omega) (by omega)] at h2
  subst h2
  rw [wrap_in (by omega) (by omega)] at h3
  omega
/-- What heavy tells. -/
def Hvy12 (M : List (List Int)) (B : List Int) (S : Nat) (e : Ending) : Prop := ∃ R : Bool, e = .returned (.bool R) ∧ (R = false → M.length ≤ 1152921504606846976 → B.length ≤ 1152921504606846976 → S ≤ 72057594037927936 → M.length + B.length + 16 * S ≤ 256)
set_option maxHeartbeats 12800000 in
theorem heavy12_any (w : World) (v bv : Value) (la : Option Addr) (S lc : Nat) (M : List (List Int)) (B : List Int) (h : IntRows w v M) (hb : Ints w bv B) (hS : S ≤ lc) (hlc : lc ≤ 9223372036854775807) :
    Calls Tryz.prog 9 #[v, bv, .slice la S lc] w fun e w' => Hvy12 M B S e ∧ w' = w := by
  obtain ⟨ra, rc, rfl, rl, rm⟩ := h.slice
  obtain ⟨ba, bc, rfl, bl, bm⟩ := hb.slice
  unfold maxLen at rm bm
  have HI := hid h
  clear h hb
  obtain ⟨z1, HZ1⟩ : ∃ z1, Hid (z1 = wrap64 ((M.length : Int) + (B.length : Int))) := ⟨_, hid rfl⟩
  obtain ⟨z2, HZ2⟩ : ∃ z2, Hid (z2 = wrap64 (16 * (S : Int))) := ⟨_, hid rfl⟩
  obtain ⟨z3, HZ3⟩ : ∃ z3, Hid (z3 = wrap64 (z1 + z2)) := ⟨_, hid rfl⟩
  have hzr : -9223372036854775808 ≤ z3 ∧ z3 ≤ 9223372036854775807 := by rw [HZ3.out]; exact wrap_rng _
  obtain ⟨Sm, HSm⟩ : ∃ Sm : Prop, Hid ((M.length ≤ 1152921504606846976 ∧ B.length ≤ 1152921504606846976 ∧ S ≤ 72057594037927936) ↔ Sm) := ⟨_, hid Iff.rfl⟩
  obtain ⟨q, HQ⟩ : ∃ q : Int, Hid (q = (M.length : Int) + (B.length : Int) + 16 * (S : Int)) := ⟨_, hid rfl⟩
  have HZ0 := hid (show Sm → q ≤ z3 from fun hs => by obtain ⟨k1, k2, k3⟩ := HSm.out.2 hs; rw [HQ.out]; exact heavy_sum (by omega) (by omega) (by omega) (by omega) (by omega) (by omega) HZ1.out HZ2.out HZ3.out)
  go_enter Tryz.func9, Tryz.ntmps9
  go_wp2
  rw [← HZ1.out, ← HZ2.out, ← HZ3.out]
  clear HZ1 HZ2 HZ3
  go_loopw [7, 8] (fun m i wr => ∃ (k : Nat) (z : Int), k ≤ M.length ∧ i = .int .i64 (k : Int) ∧ m = .int .i64 z ∧ (-9223372036854775808 ≤ z ∧ z ≤ 9223372036854775807) ∧ Hid (Sm → q ≤ z) ∧ wr = w) (fun _ i _ => M.length - (intOf i).toNat)
  case atStart => exact ⟨0, z3, Nat.zero_le _, rfl, rfl, hzr, HZ0, rfl⟩
  case round =>
    clear hzr HZ0
    obtain ⟨k, z, hk, rfl, rfl, hz, HZ, hwr⟩ := hrel
    have hwr2 := hwr.symm
    clear hwr
    subst hwr2
    by_cases hgo : k < M.length ∧ z ≤ 256
    · obtain ⟨hlt, hzle⟩ := hgo
      have hz256 : decide (z ≤ 256) = true := by simpa using hzle
      obtain ⟨rb, ro, rcap, ru, re, rcell, hru⟩ := HI.out.at k hlt
      simp only [Value.slice.injEq] at re
      obtain ⟨rfl, -, rfl⟩ := re
      obtain ⟨ua, uc, hue, _, hum⟩ := hru.slice
      subst hue
      unfold maxLen at hum
      clear hru
      generalize M[k].length = XX at *
      obtain ⟨A, hA, hA2, hA3⟩ : ∃ A : Nat, A = min XX 1048576 ∧ (min (XX : Int) 1048576) = (A : Int) ∧ (if (1048576 : Int) < (XX : Int) then (1048576 : Int) else (XX : Int)) = (A : Int) := ⟨_, rfl, by omega, by split <;> omega⟩
      have lA : A ≤ 1048576 := by omega
      have HA := hid hA
      clear hA
      have hw : wrap64 (z + (A : Int)) = z + (A : Int) := wrap_in (by omega) (by omega)
      have hw2 : IntKind.i64.wrap (z + (A : Int)) = z + (A : Int) := by rw [IntKind.wrap_i64]; omega
      have HN := hid (show Sm → q ≤ z + (A : Int) from fun hs => by have := HZ.out hs; omega)
      go_wp2
      go_roundw
      case rel => exact ⟨k + 1, z + (A : Int), by omega, by go_num, by first | rfl | rw [hw] | rw [hw2], by omega, HN, by simp⟩
      case measure => simp [intOf]; omega
    · have hex : (¬ (k : Int) < (M.length : Int) ∧ (decide (z ≤ 256) = decide (z ≤ 256))) ∨ ((k : Int) < (M.length : Int) ∧ decide (z ≤ 256) = false) := by
        by_cases h1 : k < M.length
        · right; exact ⟨by omega, by simp; omega⟩
        · left; exact ⟨by omega, rfl⟩
      rcases hex with ⟨h, -⟩ | ⟨h, hz256⟩
      all_goals
        go_wp2
        go_ret
        exact ⟨⟨_, rfl, fun h1 k1 k2 k3 => by have h4 := HZ.out (HSm.out.1 ⟨k1, k2, k3⟩); rw [HQ.out] at h4; simp at h1; omega⟩, rfl⟩
end Go.Proofs.YtgojlegknlalpaaGreatDoor
