/- cert: Check of the program and of the document. -/
import Derived.Test.YtlkcfgjhgmpbcaaLBase
import Derived.BigQuiet
import Derived.Deep.QuietTactic
namespace Go.Proofs.Ytlkcfgjhgmpbcaa
open Go.RowKit
set_option linter.unusedVariables false
set_option maxRecDepth 100000
set_option linter.unusedSimpArgs false

/-- A problem. -/
structure Prb where
  rows : List (List Int)
  rel : List Int
  b : List Int
  c : List Int
def byd (n : Int) : Bool := decide (1000000000 < n) || decide (n < -1000000000)
def bey (L : List Int) : Bool := L.any byd
def shp (P : Prb) : Bool := decide (P.rel.length = P.rows.length) && decide (P.b.length = P.rows.length) && P.rows.all (fun r => decide (r.length = P.c.length))
def chk (P : Prb) : Int :=
  if shp P = false then 120
  else if 64 < P.rows.length ∨ 64 < P.c.length then 82
  else if bey P.b = true ∨ bey P.c = true ∨ P.rows.any bey = true then 82
  else 0
/-- A slice of slices of numbers. -/
def IntRows (w : World) (v : Value) (M : List (List Int)) : Prop :=
  ∃ vs : List Value, Row1 w v vs ∧ vs.length = M.length ∧ ∀ i (h1 : i < vs.length) (h2 : i < M.length), Ints w vs[i] M[i]
theorem IntRows.below {w w' : World} {v : Value} {M : List (List Int)} (h : IntRows w v M) (b : Below w.heap.size w w') : IntRows w' v M := by
  obtain ⟨vs, h1, h2, h3⟩ := h
  exact ⟨vs, h1.below b, h2, fun i k1 k2 => (h3 i k1 k2).below b⟩
theorem IntRows.slice {w : World} {v : Value} {M : List (List Int)} (h : IntRows w v M) : ∃ a c, v = .slice a M.length c ∧ M.length ≤ c ∧ c ≤ maxLen := by
  obtain ⟨vs, h1, h2, _⟩ := h
  rw [← h2]
  exact h1.slice
theorem IntRows.at {w : World} {v : Value} {M : List (List Int)} (h : IntRows w v M) (i : Nat) (hi : i < M.length) : ∃ b off c u, v = .slice (some ⟨b, off, none⟩) M.length c ∧ w.cell? ⟨b, off + i, none⟩ = some u ∧ Ints w u M[i] := by
  obtain ⟨vs, h1, h2, h3⟩ := h
  obtain ⟨b, off, c, e, _, _, hc⟩ := h1.at i (by omega)
  exact ⟨b, off, c, _, by rw [e, h2], hc, h3 i (by omega) hi⟩
structure IsPrb (w : World) (rv ev bv cv : Value) (P : Prb) : Prop where
  rows : IntRows w rv P.rows
  rel : Ints w ev P.rel
  b : Ints w bv P.b
  c : Ints w cv P.c
theorem IsPrb.below {w w' : World} {rv ev bv cv : Value} {P : Prb} (h : IsPrb w rv ev bv cv P) (k : Below w.heap.size w w') : IsPrb w' rv ev bv cv P :=
  ⟨h.rows.below k, h.rel.below k, h.b.below k, h.c.below k⟩
theorem bxc {w : World} {b : Nat} {C : Array Value} {t : TypeId} {fz : Nat × Nat} (h : w.heap[b]? = some (.cells C t fz)) (k : Nat) (v : Value) (hk : C[k]? = some v) : w.cell? ⟨b, k, none⟩ = some v := by
  rw [cell_of_row _ _ k _ _ _ h]; exact hk
theorem bey_at {L : List Int} {k : Nat} (hk : k < L.length) (h : byd L[k] = true) : bey L = true := List.any_eq_true.2 ⟨_, List.getElem_mem hk, h⟩
theorem bey_succ {L : List Int} {k : Nat} (hk : k < L.length) (h0 : bey (L.take k) = false) (h : byd L[k] = false) : bey (L.take (k + 1)) = false := by
  unfold bey at h0 ⊢
  rw [List.take_succ_eq_append_getElem hk, List.any_append, h0]
  simp [h]
set_option maxHeartbeats 1600000 in
theorem hasBeyond_any (w : World) (v : Value) (L : List Int) (h : Ints w v L) :
    Calls Try.prog 17 #[v] w fun e w' => e = .returned (.bool (bey L)) ∧ w' = w := by
  obtain ⟨a, c, rfl, hl, hm⟩ := h.slice
  unfold maxLen at hm
  have HI := hid h
  clear h
  obtain ⟨R, HR⟩ : ∃ R, Hid (R = bey L) := ⟨_, hid rfl⟩
  rw [← HR.out]
  go_enter Try.func17, Try.ntmps17
  go_wp2
  go_loopw [7] (fun i wr => ∃ k : Nat, k ≤ L.length ∧ i = .int .i64 (k : Int) ∧ Hid (bey (L.take k) = false) ∧ wr = w) (fun i _ => L.length - (intOf i).toNat)
  case atStart => exact ⟨0, Nat.zero_le _, rfl, rfl, rfl⟩
  case round =>
    obtain ⟨k, hk, rfl, HK, rfl⟩ := hrel
    by_cases hlt : k < L.length
    · obtain ⟨b, off, c', e, _, _, hc⟩ := HI.out.at k hlt
      simp only [Value.slice.injEq] at e
      obtain ⟨rfl, _, rfl⟩ := e
      have HT := hid (fun hh : byd L[k] = true => show R = true by rw [HR.out]; exact bey_at hlt hh)
      have HF := hid (fun hh : byd L[k] = false => bey_succ hlt HK.out hh)
      clear HK
      generalize L[k] = x at *
      by_cases h1 : 1000000000 < x
      · have h1' : decide (1000000000 < x) = true := by simpa using h1
        have HE := hid (HT.out (by unfold byd; rw [h1']; rfl))
        go_wp2
        go_ret
        exact ⟨by rw [HE.out]; rfl, rfl⟩
      have h1' : decide (1000000000 < x) = false := by simpa using h1
      by_cases h2 : x < -1000000000
      · have h2' : decide (x < -1000000000) = true := by simpa using h2
        have HE := hid (HT.out (by unfold byd; rw [h1', h2']; rfl))
        go_wp2
        go_ret
        exact ⟨by rw [HE.out]; rfl, rfl⟩
      have h2' : decide (x < -1000000000) = false := by simpa using h2
      have HE := hid (HF.out (by unfold byd; rw [h1', h2']; rfl))
      go_wp2
      go_roundw
      case rel => exact ⟨k + 1, by omega, by go_num, HE, by simp⟩
      case measure => simp [intOf]; omega
    · have hkl : k = L.length := by omega
      have HE := hid (show R = false by rw [HR.out]; have := HK.out; rwa [hkl, List.take_length] at this)
      clear hkl
      go_wp2
      go_ret
      exact ⟨by rw [HE.out]; rfl, rfl⟩
set_option maxHeartbeats 1600000 in
theorem hgreat_any (w : World) (v : Value) (L : List Int) (h : Ints w v L) :
    Calls Try.prog 19 #[v] w fun e w' => e = .returned (.bool (bey L)) ∧ w' = w := by
  obtain ⟨a, c, rfl, hl, hm⟩ := h.slice
  unfold maxLen at hm
  have HI := hid h
  clear h
  obtain ⟨R, HR⟩ : ∃ R, Hid (R = bey L) := ⟨_, hid rfl⟩
  rw [← HR.out]
  go_enter Try.func19, Try.ntmps19
  go_wp2
  go_loopw [3] (fun i wr => ∃ k : Nat, k ≤ L.length ∧ i = .int .i64 (k : Int) ∧ Hid (bey (L.take k) = false) ∧ wr = w) (fun i _ => L.length - (intOf i).toNat)
  case atStart => exact ⟨0, Nat.zero_le _, rfl, rfl, rfl⟩
  case round =>
    obtain ⟨k, hk, rfl, HK, rfl⟩ := hrel
    by_cases hlt : k < L.length
    · obtain ⟨b, off, c', e, _, _, hc⟩ := HI.out.at k hlt
      simp only [Value.slice.injEq] at e
      obtain ⟨rfl, _, rfl⟩ := e
      have HT := hid (fun hh : byd L[k] = true => show R = true by rw [HR.out]; exact bey_at hlt hh)
      have HF := hid (fun hh : byd L[k] = false => bey_succ hlt HK.out hh)
      clear HK
      generalize L[k] = x at *
      by_cases h1 : 1000000000 < x
      · have h1' : decide (1000000000 < x) = true := by simpa using h1
        have HE := hid (HT.out (by unfold byd; rw [h1']; rfl))
        go_wp2
        go_ret
        exact ⟨by rw [HE.out]; rfl, rfl⟩
      have h1' : decide (1000000000 < x) = false := by simpa using h1
      by_cases h2 : x < -1000000000
      · have h2' : decide (x < -1000000000) = true := by simpa using h2
        have HE := hid (HT.out (by unfold byd; rw [h1', h2']; rfl))
        go_wp2
        go_ret
        exact ⟨by rw [HE.out]; rfl, rfl⟩
      have h2' : decide (x < -1000000000) = false := by simpa using h2
      have HE := hid (HF.out (by unfold byd; rw [h1', h2']; rfl))
      go_wp2
      go_roundw
      case rel => exact ⟨k + 1, by omega, by go_num, HE, by simp⟩
      case measure => simp [intOf]; omega
    · have hkl : k = L.length := by omega
      have HE := hid (show R = false by rw [HR.out]; have := HK.out; rwa [hkl, List.take_length] at this)
      clear hkl
      go_wp2
      go_ret
      exact ⟨by rw [HE.out]; rfl, rfl⟩
theorem rows_at {M : List (List Int)} {k : Nat} (hk : k < M.length) (h : bey M[k] = true) : M.any bey = true := List.any_eq_true.2 ⟨_, List.getElem_mem hk, h⟩
theorem rows_succ {M : List (List Int)} {k : Nat} (hk : k < M.length) (h0 : (M.take k).any bey = false) (h : bey M[k] = false) : (M.take (k + 1)).any bey = false := by
  rw [List.take_succ_eq_append_getElem hk, List.any_append, h0]
  simp [h]
set_option maxHeartbeats 1600000 in
theorem indexInts_any (w : World) (v : Value) (M : List (List Int)) (h : IntRows w v M) :
    Calls Try.prog 25 #[v, .func (.func 17) #[] #[]] w fun e w' => (∃ n : Int, e = .returned (.int .i64 n) ∧ decide (0 ≤ n) = M.any bey) ∧ w' = w := by
  obtain ⟨a, c, rfl, hl, hm⟩ := h.slice
  unfold maxLen at hm
  have HI := hid h
  clear h
  obtain ⟨R, HR⟩ : ∃ R, Hid (R = M.any bey) := ⟨_, hid rfl⟩
  rw [← HR.out]
  go_enter Try.func25, Try.ntmps25
  go_wp2
  go_loopw [8] (fun i wr => ∃ k : Nat, k ≤ M.length ∧ i = .int .i64 (k : Int) ∧ Hid ((M.take k).any bey = false) ∧ wr = w) (fun i _ => M.length - (intOf i).toNat)
  case atStart => exact ⟨0, Nat.zero_le _, rfl, rfl, rfl⟩
  case round =>
    obtain ⟨k, hk, rfl, HK, rfl⟩ := hrel
    by_cases hlt : k < M.length
    · obtain ⟨b, off, c', u, e, hc, hu⟩ := HI.out.at k hlt
      simp only [Value.slice.injEq] at e
      obtain ⟨rfl, _, rfl⟩ := e
      have HT := hid (fun hh : bey M[k] = true => show R = true by rw [HR.out]; exact rows_at hlt hh)
      have HF := hid (fun hh : bey M[k] = false => rows_succ hlt HK.out hh)
      have HU := hid hu
      obtain ⟨ua, uc, hue, _, _⟩ := hu.slice
      subst hue
      clear HK hu
      go_wp2_with fail
      refine (hasBeyond_any _ _ _ HU.out).mono ?_
      rintro e X ⟨rfl, hX⟩
      subst hX
      generalize bey M[k] = g at *
      cases g with
      | true =>
        have HE := hid (HT.out rfl)
        go_wp2
        go_ret
        exact ⟨⟨_, rfl, by rw [HE.out]; simp⟩, rfl⟩
      | false =>
        have HE := hid (HF.out rfl)
        go_wp2
        go_roundw
        case rel => exact ⟨k + 1, by omega, by go_num, HE, by simp⟩
        case measure => simp [intOf]; omega
    · have hkl : k = M.length := by omega
      have HE := hid (show R = false by rw [HR.out]; have := HK.out; rwa [hkl, List.take_length] at this)
      clear hkl
      go_wp2
      go_ret
      exact ⟨⟨-1, rfl, by rw [HE.out]; rfl⟩, rfl⟩
set_option maxHeartbeats 1600000 in
theorem containsInts_any (w : World) (v : Value) (M : List (List Int)) (h : IntRows w v M) :
    Calls Try.prog 18 #[v, .func (.func 17) #[] #[]] w fun e w' => e = .returned (.bool (M.any bey)) ∧ w' = w := by
  have HI := hid (indexInts_any w v M h)
  obtain ⟨a, c, rfl, hl, hm⟩ := h.slice
  clear h
  generalize M.any bey = R at *
  go_enter Try.func18, Try.ntmps18
  go_wp2_with fail
  refine HI.out.mono ?_
  rintro e X ⟨⟨n, rfl, hn⟩, hX⟩
  subst hX
  cases R with
  | true =>
    go_wp2
    go_ret
    exact ⟨rfl, rfl⟩
  | false =>
    go_wp2
    go_ret
    exact ⟨rfl, rfl⟩
theorem all_succ {M : List (List Int)} {n k : Nat} (hk : k < M.length) (h0 : (M.take k).all (fun r => decide (r.length = n)) = true) (h : M[k].length = n) : (M.take (k + 1)).all (fun r => decide (r.length = n)) = true := by
  rw [List.take_succ_eq_append_getElem hk, List.all_append, h0]
  simp [h]
theorem all_no {M : List (List Int)} {n k : Nat} (hk : k < M.length) (h : M[k].length ≠ n) : M.all (fun r => decide (r.length = n)) = false := by
  cases hb : M.all (fun r => decide (r.length = n)) with
  | false => rfl
  | true => exact absurd (by simpa using List.all_eq_true.1 hb _ (List.getElem_mem hk)) h
set_option maxHeartbeats 3200000 in
theorem isShaped_any (w : World) (rv ev bv cv : Value) (P : Prb) (h : IsPrb w rv ev bv cv P) :
    Calls Try.prog 16 #[.agg #[rv, ev, bv, cv]] w fun e w' => e = .returned (.bool (shp P)) ∧ Below w.heap.size w w' := by
  have HI := hid h
  obtain ⟨ra, rc, rfl, rl, rm⟩ := h.rows.slice
  obtain ⟨ea, ec, rfl, el, em⟩ := h.rel.slice
  obtain ⟨ba, bc, rfl, bl, bm⟩ := h.b.slice
  obtain ⟨ca, cc, rfl, cl, cm⟩ := h.c.slice
  unfold maxLen at rm em bm cm
  clear h
  have b1 := (Below.refl w.heap.size w).alloc (Nat.le_refl _) (Obj.cells #[.slice ra P.rows.length rc, .slice ea P.rel.length ec, .slice ba P.b.length bc, .slice ca P.c.length cc] 32)
  have HB := hid b1
  have HR := hid (HI.out.rows.below b1)
  have HS := hid (show shp P = (decide (P.rel.length = P.rows.length) && decide (P.b.length = P.rows.length) && P.rows.all (fun r => decide (r.length = P.c.length))) from rfl)
  generalize shp P = R at *
  clear b1 HI
  generalize P.rows = M at *
  generalize P.rel.length = n1 at *
  generalize P.b.length = n2 at *
  generalize P.c.length = n3 at *
  go_enter Try.func16, Try.ntmps16
  by_cases h1 : n1 = M.length
  case neg =>
    have h1' : ((n1 : Int) == (M.length : Int)) = false := beq_eq_false_iff_ne.2 (by omega)
    have h1'' : ¬ (n1 : Int) = (M.length : Int) := by omega
    have HE := hid (show R = false by rw [HS.out]; simp [h1])
    go_wp2
    go_ret
    exact ⟨by rw [HE.out]; rfl, HB.out⟩
  subst h1
  by_cases h2 : n2 = M.length
  case neg =>
    have h1' : ((n2 : Int) == (M.length : Int)) = false := beq_eq_false_iff_ne.2 (by omega)
    have h1'' : ¬ (n2 : Int) = (M.length : Int) := by omega
    have HE := hid (show R = false by rw [HS.out]; simp [h2])
    go_wp2
    go_ret
    exact ⟨by rw [HE.out]; rfl, HB.out⟩
  subst h2
  have HS2 := hid (show R = M.all (fun r => decide (r.length = n3)) by rw [HS.out]; simp)
  clear HS
  have e1 := heap_alloc_new w (Obj.cells #[.slice ra M.length rc, .slice ea M.length ec, .slice ba M.length bc, .slice ca n3 cc] 32)
  have c3 := bxc e1 3 (.slice ca n3 cc) rfl
  clear e1
  go_wp2
  generalize w.alloc (Obj.cells #[.slice ra M.length rc, .slice ea M.length ec, .slice ba M.length bc, .slice ca n3 cc] 32) = W at *
  go_loopw [24] (fun i wr => ∃ k : Nat, k ≤ M.length ∧ i = .int .i64 (k : Int) ∧ Hid ((M.take k).all (fun r => decide (r.length = n3)) = true) ∧ wr = W) (fun i _ => M.length - (intOf i).toNat)
  case atStart => exact ⟨0, Nat.zero_le _, rfl, rfl, rfl⟩
  case round =>
    obtain ⟨k, hk, rfl, HK, rfl⟩ := hrel
    by_cases hlt : k < M.length
    · obtain ⟨b, off, c', u, e, hc, hu⟩ := HR.out.at k hlt
      simp only [Value.slice.injEq] at e
      obtain ⟨rfl, _, rfl⟩ := e
      obtain ⟨ua, uc, hue, _, hum⟩ := hu.slice
      subst hue
      unfold maxLen at hum
      have HT := hid (fun hh : M[k].length ≠ n3 => show R = false by rw [HS2.out]; exact all_no hlt hh)
      have HF := hid (fun hh : M[k].length = n3 => all_succ hlt HK.out hh)
      clear HK hu
      generalize M[k].length = g at *
      by_cases hg : g = n3
      · subst hg
        have HE := hid (HF.out rfl)
        go_wp2
        go_roundw
        case rel => exact ⟨k + 1, by omega, by go_num, HE, by simp⟩
        case measure => simp [intOf]; omega
      · have hg1 : ((g : Int) == (n3 : Int)) = false := beq_eq_false_iff_ne.2 (by omega)
        have hg2 : ¬ (g : Int) = (n3 : Int) := by omega
        have HE := hid (HT.out hg)
        go_wp2
        go_ret
        exact ⟨by rw [HE.out]; rfl, HB.out⟩
    · have hkl : k = M.length := by omega
      have HE := hid (show R = true by rw [HS2.out]; have := HK.out; rwa [hkl, List.take_length] at this)
      clear hkl
      go_wp2
      go_ret
      exact ⟨by rw [HE.out]; rfl, HB.out⟩
set_option maxHeartbeats 3200000 in
theorem cCheck_any (w : World) (rv ev bv cv : Value) (P : Prb) (h : IsPrb w rv ev bv cv P) :
    Calls Try.prog 9 #[.agg #[rv, ev, bv, cv]] w fun e w' => e = .returned (.int .i64 (chk P)) ∧ Below w.heap.size w w' := by
  have HI := hid h
  obtain ⟨ra, rc, rfl, rl, rm⟩ := h.rows.slice
  obtain ⟨ea, ec, rfl, el, em⟩ := h.rel.slice
  obtain ⟨ba, bc, rfl, bl, bm⟩ := h.b.slice
  obtain ⟨ca, cc, rfl, cl, cm⟩ := h.c.slice
  unfold maxLen at rm em bm cm
  clear h
  have b1 := (Below.refl w.heap.size w).alloc (Nat.le_refl _) (Obj.cells #[.slice ra P.rows.length rc, .slice ea P.rel.length ec, .slice ba P.b.length bc, .slice ca P.c.length cc] 32)
  have e1 := heap_alloc_new w (Obj.cells #[.slice ra P.rows.length rc, .slice ea P.rel.length ec, .slice ba P.b.length bc, .slice ca P.c.length cc] 32)
  have c0 := bxc e1 0 (.slice ra P.rows.length rc) rfl
  have c1 := bxc e1 1 (.slice ea P.rel.length ec) rfl
  have c2 := bxc e1 2 (.slice ba P.b.length bc) rfl
  have c3 := bxc e1 3 (.slice ca P.c.length cc) rfl
  have HB := hid b1
  have HE := hid e1
  have HI1 := hid (HI.out.below b1)
  have HS := hid (show chk P = if shp P = false then 120 else if 64 < P.rows.length ∨ 64 < P.c.length then 82 else if bey P.b = true ∨ bey P.c = true ∨ P.rows.any bey = true then 82 else 0 from rfl)
  generalize chk P = R at *
  clear b1 e1 HI
  go_enter Try.func9, Try.ntmps9
  go_wp2_with fail
  refine (isShaped_any _ _ _ _ _ P HI1.out).mono ?_
  rintro e X ⟨rfl, bX⟩
  have BX := hid (chain2 HB.out bX)
  have EX := (bX.block w.heap.size (lt_of_block HE.out)).trans HE.out
  have d0 := bxc EX 0 (.slice ra P.rows.length rc) rfl
  have d2 := bxc EX 2 (.slice ba P.b.length bc) rfl
  have d3 := bxc EX 3 (.slice ca P.c.length cc) rfl
  have HI2 := hid (HI1.out.below bX)
  clear c0 c1 c2 c3 bX EX HE HI1 HB
  generalize hsp : shp P = sp at *
  have HSP := hid hsp
  clear hsp
  cases sp with
  | false =>
    have HE := hid (show R = 120 by rw [HS.out, if_pos rfl])
    go_wp2
    go_ret
    exact ⟨by rw [HE.out]; rfl, BX.out⟩
  | true =>
    have HS2 := hid (show R = if 64 < P.rows.length ∨ 64 < P.c.length then 82 else if bey P.b = true ∨ bey P.c = true ∨ P.rows.any bey = true then 82 else 0 by rw [HS.out, if_neg (by decide)])
    clear HS
    by_cases h1 : 64 < P.rows.length
    · have h1' : decide ((64 : Int) < (P.rows.length : Int)) = true := by simp; omega
      have HE := hid (show R = 82 by rw [HS2.out, if_pos (Or.inl h1)])
      go_wp2
      go_ret
      exact ⟨by rw [HE.out]; rfl, BX.out⟩
    have h1' : decide ((64 : Int) < (P.rows.length : Int)) = false := by simp; omega
    by_cases h2 : 64 < P.c.length
    · have h2' : decide ((64 : Int) < (P.c.length : Int)) = true := by simp; omega
      have HE := hid (show R = 82 by rw [HS2.out, if_pos (Or.inr h2)])
      go_wp2
      go_ret
      exact ⟨by rw [HE.out]; rfl, BX.out⟩
    have h2' : decide ((64 : Int) < (P.c.length : Int)) = false := by simp; omega
    have HS3 := hid (show R = if bey P.b = true ∨ bey P.c = true ∨ P.rows.any bey = true then 82 else 0 by rw [HS2.out, if_neg (by omega)])
    clear HS2
    go_wp2_with fail
    refine (hasBeyond_any _ _ _ HI2.out.b).mono ?_
    rintro e X1 ⟨rfl, hX1⟩
    subst hX1
    generalize hb : bey P.b = xb at *
    cases xb with
    | true =>
      have HE := hid (show R = 82 by rw [HS3.out, if_pos (Or.inl rfl)])
      clear hb
      go_wp2
      go_ret
      exact ⟨by rw [HE.out]; rfl, BX.out⟩
    | false =>
    clear hb
    go_wp2_with fail
    refine (hasBeyond_any _ _ _ HI2.out.c).mono ?_
    rintro e X1 ⟨rfl, hX1⟩
    subst hX1
    generalize hb : bey P.c = xb at *
    cases xb with
    | true =>
      have HE := hid (show R = 82 by rw [HS3.out, if_pos (Or.inr (Or.inl rfl))])
      clear hb
      go_wp2
      go_ret
      exact ⟨by rw [HE.out]; rfl, BX.out⟩
    | false =>
    clear hb
    go_wp2_with fail
    refine (containsInts_any _ _ _ HI2.out.rows).mono ?_
    rintro e X1 ⟨rfl, hX1⟩
    subst hX1
    generalize hb : P.rows.any bey = xb at *
    cases xb with
    | true =>
      have HE := hid (show R = 82 by rw [HS3.out, if_pos (Or.inr (Or.inr rfl))])
      clear hb
      go_wp2
      go_ret
      exact ⟨by rw [HE.out]; rfl, BX.out⟩
    | false =>
      have HE := hid (show R = 0 by rw [HS3.out, if_neg (by simp)])
      clear hb
      go_wp2
      go_ret
      exact ⟨by rw [HE.out]; rfl, BX.out⟩
end Go.Proofs.Ytlkcfgjhgmpbcaa
