/- The law BookLocks. -/
import Derived.Test.YtfneiilookoipaaBCancel
import Derived.Test.YtfneiilookoipaaBTell
namespace Go.Proofs.Ytfneiilookoipaa
open Go.RowKit Go.MapKept
set_option linter.unusedVariables false
set_option maxRecDepth 100000
set_option linter.unusedSimpArgs false

def whoL : ByteArray := ⟨#[119, 104, 111]⟩
def othL : ByteArray := ⟨#[111, 116, 104, 101, 114]⟩
theorem whoL_size : whoL.size ≤ 1099511627776 := by decide
theorem othL_size : othL.size ≤ 1099511627776 := by decide
theorem oth_ne : othL ≠ whoL := by decide
theorem names_perm (N : List ByteArray) : (namesS N).Perm N := by
  have h1 : (namesS N).Perm ((N.map bytesOf').map fun l => ⟨l.toArray⟩) := (List.mergeSort_perm _ _).map _
  have h2 : ((N.map bytesOf').map fun l => (⟨l.toArray⟩ : ByteArray)) = N := by
    rw [List.map_map]
    conv => rhs; rw [← List.map_id N]
    apply List.map_congr_left
    intro x _
    cases x
    simp [bytesOf', Function.comp]
  rw [h2] at h1
  exact h1
theorem allO_len (kd : Int) (N : List ByteArray) (S : ByteArray → Ps) : (allO kd N S).length = (N.flatMap (ofWho kd S)).length := ((names_perm N).flatMap_right _).length_eq
theorem ofWho_len (kd : Int) (S : ByteArray → Ps) (who : ByteArray) : (ofWho kd S who).length ≤ (S who).orders.length := by
  unfold ofWho selO
  rw [List.length_map]
  exact List.length_filter_le _ _
/-- A participant that has so much locked, and no orders. -/
structure Bare (p : Ps) (lk : Int) : Prop where
  locked : p.locked = lk
  asks : 0 ≤ p.asks ∧ p.asks ≤ 1
  seqs : p.seqs = []
  live : p.live = fun _ => none
theorem bare0 : Bare ps0 0 := ⟨rfl, by simp [ps0], rfl, rfl⟩
theorem Bare.lock {lk : Int} : Bare (lockP ps0 lk) lk := ⟨by simp [lockP, ps0], by simp [lockP, ps0], rfl, rfl⟩
theorem Bare.orders {p : Ps} {lk : Int} (h : Bare p lk) : p.orders = [] := by unfold Ps.orders; rw [h.seqs]; rfl
theorem Bare.may {p : Ps} {lk c : Int} {z : Kb} (h : Bare p lk) (hk : z.kind = 2) (hc : (kbO z).cost = c) (h0 : 0 ≤ c ∧ c ≤ 1000000) : mayE p z = if lk < c then 221 else 0 := by
  have hs : p.seqs.contains (seqK z) = false := by rw [h.seqs]; rfl
  have ha := h.asks
  have hm : mostK z.kind = 8 := by rw [hk]; rfl
  have hp : parK z = 0 := by unfold parK; rw [if_neg (by omega)]
  have hw : wrap64 (owesW p.orders + (kbO z).cost) = c := by
    rw [h.orders, hc]
    show wrap64 (0 + c) = c
    unfold wrap64; omega
  have hn : cntO p.orders z.kind = 0 := by rw [h.orders]; rfl
  unfold mayE
  rw [if_neg (by omega), if_neg (by omega), if_neg (by omega), if_neg (by omega)]
  unfold ordE
  rw [hs, hn, hm, hp, hw, h.locked]
  simp
theorem Bare.ord {p : Ps} {lk c : Int} {z : Kb} (h : Bare p lk) (hc : (kbO z).cost = c) (h0 : 0 ≤ c ∧ c ≤ 1000000) : (ordP p z).orders = [kbO z] ∧ owesW (ordP p z).orders = c := by
  have h1 : (ordP p z).seqs = [seqK z] := by unfold ordP; simp only; rw [h.seqs]; rfl
  have h2 : (ordP p z).live (seqK z) = some (kbO z) := if_pos rfl
  have h3 : (ordP p z).orders = [kbO z] := by
    unfold Ps.orders
    rw [h1]
    simp [h2]
  refine ⟨h3, ?_⟩
  rw [h3]
  show wrap64 (0 + (kbO z).cost) = c
  rw [hc]; unfold wrap64; omega
/-- What is asked at the end. -/
def Fin (w : World) (v : Value) (ow : Int) : Prop := ∃ O N S, Bk O w v N S ∧ N.length ≤ 2 ∧ owesW (S whoL).orders = ow ∧ owesW (S othL).orders = 0 ∧ (allO 2 N S).length ≤ 1
theorem Fin.below {w w' : World} {v : Value} {ow : Int} (h : Fin w v ow) (b : Below w.heap.size w w') : Fin w' v ow := by
  obtain ⟨O, N, S, h1, h2⟩ := h
  exact ⟨O, N, S, h1.below b, h2⟩
theorem fin_owes {w : World} {v : Value} {ow : Int} (h : Fin w v ow) : Calls Try.prog 12 #[v, .string ⟨#[119, 104, 111]⟩] w fun e w' => e = .returned (.int .i64 ow) ∧ Below w.heap.size w w' := by
  obtain ⟨O, N, S, h1, h2, h3, h4, h5⟩ := h
  have := owes_any h1 whoL whoL_size
  rw [h3] at this
  exact this
theorem fin_other {w : World} {v : Value} {ow : Int} (h : Fin w v ow) : Calls Try.prog 12 #[v, .string ⟨#[111, 116, 104, 101, 114]⟩] w fun e w' => e = .returned (.int .i64 0) ∧ Below w.heap.size w w' := by
  obtain ⟨O, N, S, h1, h2, h3, h4, h5⟩ := h
  have := owes_any h1 othL othL_size
  rw [h4] at this
  exact this
theorem fin_steps {w : World} {v : Value} {ow : Int} (h : Fin w v ow) : Calls Try.prog 13 #[v] w fun e w' => (∃ a n c, e = .returned (.slice a n c) ∧ n ≤ 1) ∧ Below w.heap.size w w' := by
  obtain ⟨O, N, S, h1, h2, h3, h4, h5⟩ := h
  refine (steps_any h1 (by omega)).mono ?_
  rintro e w' ⟨r, base, T, rfl, _, hT, hTl, b⟩
  obtain ⟨a, c, rfl⟩ := own_slice hT.own
  refine ⟨⟨a, T.length, c, rfl, ?_⟩, b⟩
  rw [← hTl] at h5
  simpa using h5
def stK (b : Bool) (q p : Int) : Kb := ⟨2, 0, 0, ⟨#[]⟩, 1, 0, 0, b, q, p, ⟨#[]⟩, 0, 0, false, 0, .slice none 0 0, [], 0, 0⟩
theorem stK_fits (w : World) (b : Bool) (q p : Int) (hq : In64 q) (hp : In64 p) : KbFits w (stK b q p) :=
  ⟨by unfold In64 stK; simp, by unfold In64 stK; simp, by unfold In64 stK; simp, by unfold In64 stK; simp, by unfold In64 stK; simp, by unfold In64 stK; simp, hq, hp, by unfold In64 stK; simp, by unfold In64 stK; simp, by unfold In64 stK; simp, by unfold In64 stK; simp, by unfold In64 stK; simp, Row1.nil w, by simp [stK]⟩
/-- The state ahead of the step. -/
def Pre (O : Nat → Prop) (w : World) (v : Value) (lk : Int) : Prop := ∃ N S, Bk O w v N S ∧ (N = [othL] ∨ N = [othL, whoL]) ∧ Bare (S whoL) lk ∧ Bare (S othL) 1000000
theorem Pre.below {O : Nat → Prop} {w w' : World} {v : Value} {lk : Int} (h : Pre O w v lk) (b : Below w.heap.size w w') : Pre O w' v lk := by
  obtain ⟨N, S, h1, h2⟩ := h
  exact ⟨N, S, h1.below b, h2⟩
theorem pre_step {O : Nat → Prop} {w : World} {v : Value} {lk c : Int} (h : Pre O w v lk) (b : Bool) (q p : Int) (hq : In64 q) (hp : In64 p) (hc : dear b p q = c) (h0 : 0 ≤ c ∧ c ≤ 1000000) (hl : 0 ≤ lk) :
    Calls Try.prog 9 #[v, .string ⟨#[119, 104, 111]⟩, .agg (kbC (stK b q p))] w fun e w' => e = .returned (.int .i64 (if lk < c then 221 else 0)) ∧ Kx O w w' ∧ Fin w' v (if lk < c then 0 else c) := by
  obtain ⟨N, S, h1, h2, h3, h4⟩ := h
  have hcost : (kbO (stK b q p)).cost = c := hc
  have hm := h3.may (z := stK b q p) rfl hcost h0
  have hfit := stK_fits w b q p hq hp
  have hN : N.length ≤ 2 := by rcases h2 with rfl | rfl <;> simp
  have hall : ∀ (N' : List ByteArray) (S' : ByteArray → Ps), (N' = [othL] ∨ N' = [othL, whoL]) → (S' othL).orders = [] → (S' whoL).orders.length ≤ 1 → (allO 2 N' S').length ≤ 1 := by
    intro N' S' e1 e2 e3
    rw [allO_len]
    have a1 := ofWho_len 2 S' othL
    have a2 := ofWho_len 2 S' whoL
    rw [e2] at a1
    simp only [List.length_nil, Nat.le_zero] at a1
    rcases e1 with rfl | rfl
    · simp [List.flatMap_cons, a1]
    · simp [List.flatMap_cons, a1]; omega
  by_cases hx : lk < c
  · rw [if_pos hx] at hm
    rw [if_pos hx, if_pos hx, ← hm]
    refine (add_no h1 whoL whoL_size (stK b q p) hfit (by rw [hm]; decide)).mono ?_
    rintro e w' ⟨rfl, bb⟩
    exact ⟨rfl, Kx.of_below bb, O, N, S, h1.below bb, hN, by rw [h3.orders]; rfl, by rw [h4.orders]; rfl, hall N S h2 h4.orders (by rw [h3.orders]; simp)⟩
  · rw [if_neg hx] at hm
    rw [if_neg hx, if_neg hx]
    refine (add_step h1 whoL whoL_size (stK b q p) rfl hfit (by simp [stK]) hm).mono ?_
    rintro e w' ⟨rfl, k, hb⟩
    have ho := h3.ord (z := stK b q p) hcost h0
    have hN2 : addN N whoL = [othL, whoL] := by
      rcases h2 with rfl | rfl
      · have : ([othL].any fun y => decide (y = whoL)) = false := by decide
        unfold addN; rw [this]; rfl
      · have : ([othL, whoL].any fun y => decide (y = whoL)) = true := by decide
        unfold addN; rw [this]; rfl
    refine ⟨rfl, k, _, _, _, hb, by rw [hN2]; simp, by rw [upd_same]; exact ho.2, by rw [upd_other _ _ oth_ne, h4.orders]; rfl, ?_⟩
    rw [hN2]
    exact hall _ _ (Or.inr rfl) (by rw [upd_other _ _ oth_ne]; exact h4.orders) (by rw [upd_same, ho.1]; simp)
theorem pre_lock {O : Nat → Prop} {w : World} {v : Value} {lk : Int} (h : ∃ N S, Bk O w v N S ∧ N = [othL] ∧ S whoL = ps0 ∧ Bare (S othL) 1000000) (hl : 0 ≤ lk ∧ lk ≤ 65535) :
    Calls Try.prog 9 #[v, .string ⟨#[119, 104, 111]⟩, .agg #[.int .i64 1, .int .i64 lk, .int .i64 0, .string ⟨#[]⟩, .int .i64 0, .int .i64 0, .int .i64 0, .bool false, .int .i64 0, .int .i64 0, .string ⟨#[]⟩, .int .i64 0, .int .i64 0, .bool false, .int .i64 0, .slice none 0 0, .int .i64 0, .int .i64 0]] w fun e w' => e = .returned (.int .i64 (if 0 < lk then 0 else 1)) ∧ Kx O w w' ∧ Pre O w' v lk := by
  obtain ⟨N, S, h1, h2, h3, h4⟩ := h
  have ha : (S whoL).asks < 24 := by rw [h3]; decide
  by_cases hx : 0 < lk
  · rw [if_pos hx]
    refine (add_lock h1 whoL whoL_size lk 0 (.string ⟨#[]⟩) (.int .i64 0) (.int .i64 0) (.int .i64 0) (.bool false) (.int .i64 0) (.int .i64 0) (.string ⟨#[]⟩) (.int .i64 0) (.int .i64 0) (.bool false) (.int .i64 0) (.slice none 0 0) (.int .i64 0) (.int .i64 0) ha (by omega)).mono ?_
    rintro e w' ⟨rfl, k, hb⟩
    refine ⟨rfl, k, _, _, hb, Or.inr ?_, by rw [upd_same, h3]; exact Bare.lock, by rw [upd_other _ _ oth_ne]; exact h4⟩
    have : ([othL].any fun y => decide (y = whoL)) = false := by decide
    rw [h2]; unfold addN; rw [this]; rfl
  · rw [if_neg hx]
    have h0 : lk = 0 := by omega
    subst h0
    refine (add_refused v (.string whoL) w 1 1 0 0 (.string ⟨#[]⟩) (.int .i64 0) (.int .i64 0) (.int .i64 0) (.bool false) (.int .i64 0) (.int .i64 0) (.string ⟨#[]⟩) (.int .i64 0) (.int .i64 0) (.bool false) (.int .i64 0) (.slice none 0 0) (.int .i64 0) (.int .i64 0) (by decide) (fun W b => may_lock (h1.below b) whoL whoL_size 0 0 (.string ⟨#[]⟩) (.int .i64 0) (.int .i64 0) (.int .i64 0) (.bool false) (.int .i64 0) (.int .i64 0) (.string ⟨#[]⟩) (.int .i64 0) (.int .i64 0) (.bool false) (.int .i64 0) (.slice none 0 0) (.int .i64 0) (.int .i64 0) ha)).mono ?_
    rintro e w' ⟨rfl, b⟩
    exact ⟨rfl, Kx.of_below b, N, S, h1.below b, Or.inl h2, by rw [h3]; exact bare0, h4⟩
theorem pre_other {O : Nat → Prop} {w : World} {v : Value} (h : Bk O w v [] (fun _ => ps0)) :
    Calls Try.prog 9 #[v, .string ⟨#[111, 116, 104, 101, 114]⟩, .agg #[.int .i64 1, .int .i64 1000000, .int .i64 0, .string ⟨#[]⟩, .int .i64 0, .int .i64 0, .int .i64 0, .bool false, .int .i64 0, .int .i64 0, .string ⟨#[]⟩, .int .i64 0, .int .i64 0, .bool false, .int .i64 0, .slice none 0 0, .int .i64 0, .int .i64 0]] w fun e w' => e = .returned (.int .i64 0) ∧ Kx O w w' ∧ ∃ N S, Bk O w' v N S ∧ N = [othL] ∧ S whoL = ps0 ∧ Bare (S othL) 1000000 := by
  refine (add_lock h othL othL_size 1000000 0 (.string ⟨#[]⟩) (.int .i64 0) (.int .i64 0) (.int .i64 0) (.bool false) (.int .i64 0) (.int .i64 0) (.string ⟨#[]⟩) (.int .i64 0) (.int .i64 0) (.bool false) (.int .i64 0) (.slice none 0 0) (.int .i64 0) (.int .i64 0) (by decide) (by omega)).mono ?_
  rintro e w' ⟨rfl, k, hb⟩
  exact ⟨rfl, k, _, _, hb, rfl, upd_other _ _ (fun e => oth_ne e.symm), by rw [upd_same]; exact Bare.lock⟩
theorem pre_locked {O : Nat → Prop} {w : World} {v : Value} {lk : Int} (h : Pre O w v lk) : Calls Try.prog 11 #[v, .string ⟨#[119, 104, 111]⟩] w fun e w' => e = .returned (.int .i64 lk) ∧ w' = w := by
  obtain ⟨N, S, h1, h2, h3, h4⟩ := h
  rw [← h3.locked]
  exact locked_any h1 whoL whoL_size
set_option maxHeartbeats 6400000 in
theorem bookLocks_true (lk qy pr c : Int) (w : World) (hl : 0 ≤ lk ∧ lk ≤ 65535) (hq : 0 ≤ qy ∧ qy ≤ 255) (hp : 0 ≤ pr ∧ pr ≤ 255) (hc : wrap64 (qy * pr) = c) (hd : dear true pr qy = c) (h0 : 0 ≤ c ∧ c ≤ 1000000) :
    Calls Try.prog 4 #[.int .u16 lk, .int .u8 qy, .int .u8 pr, .bool true] w fun e w' => e = .returned (.bool true) ∧ Below w.heap.size w w' := by
  have g1 : wrap64 lk = lk := by unfold wrap64; omega
  have g2 : wrap64 qy = qy := by unfold wrap64; omega
  have g3 : wrap64 pr = pr := by unfold wrap64; omega
  have g4 : wrap64 (-pr) = -pr := by unfold wrap64; omega
  have HQ := hid (show In64 qy by unfold In64; omega)
  have HPR := hid (show In64 pr by unfold In64; omega)
  have HD := hid hd
  have HL := hid hl
  have H0 := hid h0
  clear hd
  go_enter Try.func4, Try.ntmps4
  go_wp2_with fail
  refine (new_any w).mono ?_
  rintro e w1 ⟨v, rfl, b1, hbk⟩
  go_wp2_with (first | (refine wpList_store_new rfl 32 _ _ rfl _ _ _ rfl (by simp) rfl 18 info_Ask (by rfl) (by rfl) (by simp [Value.oneCell']) ?_) | fail)
  obtain ⟨e1, e2, b2⟩ := two_blocks w1 (Obj.cells #[.int .i64 2, .int .i64 0, .int .i64 0, .string ⟨#[]⟩, .int .i64 1, .int .i64 0, .int .i64 0, .bool true, .int .i64 qy, .int .i64 pr, .string ⟨#[]⟩, .int .i64 0, .int .i64 0, .bool false, .int .i64 0, .slice none 0 0, .int .i64 0, .int .i64 0] 32) (Obj.cells #[.int .i64 1, .int .i64 1000000, .int .i64 0, .string ⟨#[]⟩, .int .i64 0, .int .i64 0, .int .i64 0, .bool false, .int .i64 0, .int .i64 0, .string ⟨#[]⟩, .int .i64 0, .int .i64 0, .bool false, .int .i64 0, .slice none 0 0, .int .i64 0, .int .i64 0] 32)
  have hbk2 := hbk.below b2
  have hOb : ∀ i, (w.heap.size ≤ i ∧ i < w1.heap.size) → w.heap.size ≤ i := fun i hi => hi.1
  have hOn : ¬ (w.heap.size ≤ w1.heap.size ∧ w1.heap.size < w1.heap.size) := by omega
  generalize (w1.alloc (Obj.cells #[.int .i64 2, .int .i64 0, .int .i64 0, .string ⟨#[]⟩, .int .i64 1, .int .i64 0, .int .i64 0, .bool true, .int .i64 qy, .int .i64 pr, .string ⟨#[]⟩, .int .i64 0, .int .i64 0, .bool false, .int .i64 0, .slice none 0 0, .int .i64 0, .int .i64 0] 32)).alloc (Obj.cells #[.int .i64 1, .int .i64 1000000, .int .i64 0, .string ⟨#[]⟩, .int .i64 0, .int .i64 0, .int .i64 0, .bool false, .int .i64 0, .int .i64 0, .string ⟨#[]⟩, .int .i64 0, .int .i64 0, .bool false, .int .i64 0, .slice none 0 0, .int .i64 0, .int .i64 0] 32) = W2 at *
  obtain ⟨O, hOO⟩ : ∃ O : Nat → Prop, Hid (O = fun i => w.heap.size ≤ i ∧ i < w1.heap.size) := ⟨_, hid rfl⟩
  have hbk2 : Bk O W2 v [] (fun _ => ps0) := by rw [hOO.out]; exact hbk2
  have hOb : ∀ i, O i → w.heap.size ≤ i := by rw [hOO.out]; exact hOb
  have hOn : ¬ O w1.heap.size := by rw [hOO.out]; exact hOn
  have HB2 := hid (chain2 b1 b2)
  clear hbk b1 b2 hOO
  have a0 := blk_cell e2 0 (.int .i64 1) rfl
  have a1 := blk_cell e2 1 (.int .i64 1000000) rfl
  have a2 := blk_cell e2 2 (.int .i64 0) rfl
  have a3 := blk_cell e2 3 (.string ⟨#[]⟩) rfl
  have a4 := blk_cell e2 4 (.int .i64 0) rfl
  have a5 := blk_cell e2 5 (.int .i64 0) rfl
  have a6 := blk_cell e2 6 (.int .i64 0) rfl
  have a7 := blk_cell e2 7 (.bool false) rfl
  have a8 := blk_cell e2 8 (.int .i64 0) rfl
  have a9 := blk_cell e2 9 (.int .i64 0) rfl
  have a10 := blk_cell e2 10 (.string ⟨#[]⟩) rfl
  have a11 := blk_cell e2 11 (.int .i64 0) rfl
  have a12 := blk_cell e2 12 (.int .i64 0) rfl
  have a13 := blk_cell e2 13 (.bool false) rfl
  have a14 := blk_cell e2 14 (.int .i64 0) rfl
  have a15 := blk_cell e2 15 (.slice none 0 0) rfl
  have a16 := blk_cell e2 16 (.int .i64 0) rfl
  have a17 := blk_cell e2 17 (.int .i64 0) rfl
  go_wp2_with fail
  refine (pre_other hbk2).mono ?_
  rintro e W3 ⟨rfl, k3, st3⟩
  clear a0 a1 a2 a3 a4 a5 a6 a7 a8 a9 a10 a11 a12 a13 a14 a15 a16 a17
  have f3 := k3.blk e1 hOn
  clear e1 e2
  have b4 := (Below.refl W3.heap.size W3).alloc (Nat.le_refl _) (Obj.cells #[.int .i64 1, .int .i64 lk, .int .i64 0, .string ⟨#[]⟩, .int .i64 0, .int .i64 0, .int .i64 0, .bool false, .int .i64 0, .int .i64 0, .string ⟨#[]⟩, .int .i64 0, .int .i64 0, .bool false, .int .i64 0, .slice none 0 0, .int .i64 0, .int .i64 0] 32)
  have e4 := heap_alloc_last W3 (Obj.cells #[.int .i64 1, .int .i64 lk, .int .i64 0, .string ⟨#[]⟩, .int .i64 0, .int .i64 0, .int .i64 0, .bool false, .int .i64 0, .int .i64 0, .string ⟨#[]⟩, .int .i64 0, .int .i64 0, .bool false, .int .i64 0, .slice none 0 0, .int .i64 0, .int .i64 0] 32)
  have f4 := blk_below f3 b4
  have st4 : ∃ N S, Bk O (W3.alloc (Obj.cells #[.int .i64 1, .int .i64 lk, .int .i64 0, .string ⟨#[]⟩, .int .i64 0, .int .i64 0, .int .i64 0, .bool false, .int .i64 0, .int .i64 0, .string ⟨#[]⟩, .int .i64 0, .int .i64 0, .bool false, .int .i64 0, .slice none 0 0, .int .i64 0, .int .i64 0] 32)) v N S ∧ N = [othL] ∧ S whoL = ps0 ∧ Bare (S othL) 1000000 := by
    obtain ⟨N, S, q1, q2⟩ := st3
    exact ⟨N, S, q1.below b4, q2⟩
  have HK3 := hid (k3.trans (Kx.of_below b4))
  have ST4 := hid st4
  clear st3 st4 k3 f3 b4
  go_wp2_with (first | (refine wpList_store_new rfl 32 _ _ rfl _ _ _ rfl (by simp) rfl 18 info_Ask (by rfl) (by rfl) (by simp [Value.oneCell']) ?_) | fail)
  generalize W3.alloc (Obj.cells #[.int .i64 1, .int .i64 lk, .int .i64 0, .string ⟨#[]⟩, .int .i64 0, .int .i64 0, .int .i64 0, .bool false, .int .i64 0, .int .i64 0, .string ⟨#[]⟩, .int .i64 0, .int .i64 0, .bool false, .int .i64 0, .slice none 0 0, .int .i64 0, .int .i64 0] 32) = W4 at *
  refine (pre_lock ST4.out HL.out).mono ?_
  rintro e W5 ⟨rfl, k5, st5⟩
  have f5 := k5.blk f4 hOn
  have HK5 := hid (HK3.out.trans k5)
  have ST5 := hid st5
  clear st5 k5 f4 e4
  have a0 := blk_cell f5 0 (.int .i64 2) rfl
  have a1 := blk_cell f5 1 (.int .i64 0) rfl
  have a2 := blk_cell f5 2 (.int .i64 0) rfl
  have a3 := blk_cell f5 3 (.string ⟨#[]⟩) rfl
  have a4 := blk_cell f5 4 (.int .i64 1) rfl
  have a5 := blk_cell f5 5 (.int .i64 0) rfl
  have a6 := blk_cell f5 6 (.int .i64 0) rfl
  have a7 := blk_cell f5 7 (.bool true) rfl
  have a8 := blk_cell f5 8 (.int .i64 qy) rfl
  have a9 := blk_cell f5 9 (.int .i64 pr) rfl
  have a10 := blk_cell f5 10 (.string ⟨#[]⟩) rfl
  have a11 := blk_cell f5 11 (.int .i64 0) rfl
  have a12 := blk_cell f5 12 (.int .i64 0) rfl
  have a13 := blk_cell f5 13 (.bool false) rfl
  have a14 := blk_cell f5 14 (.int .i64 0) rfl
  have a15 := blk_cell f5 15 (.slice none 0 0) rfl
  have a16 := blk_cell f5 16 (.int .i64 0) rfl
  have a17 := blk_cell f5 17 (.int .i64 0) rfl
  have hA := pre_step ST5.out true qy pr HQ.out HPR.out HD.out H0.out HL.out.1
  unfold kbC stK at hA
  simp only at hA
  have hLk := pre_locked ST5.out
  have HA := hid hA
  have HLK := hid hLk
  clear hA hLk
  by_cases hx : 0 < lk
  · rw [if_pos hx]
    have hx1 : decide (0 < lk) = true := by simpa using hx
    go_wp2_with fail
    refine HLK.out.mono ?_
    rintro e X5 ⟨rfl, hX5⟩
    subst hX5
    go_wp2_with fail
    refine HA.out.mono ?_
    rintro e X6 ⟨rfl, k6, fin6⟩
    clear a0 a1 a2 a3 a4 a5 a6 a7 a8 a9 a10 a11 a12 a13 a14 a15 a16 a17
    have HK6 := hid (HK5.out.trans k6)
    have hbz := hid (show w.heap.size ≤ W2.heap.size from HB2.out.size)
    have HB6 := hid (HB2.out.trans (HK6.out.below hbz.out hOb))
    clear k6 f5
    by_cases hy : lk < c
    · rw [if_pos hy] at fin6
      rw [if_pos hy]
      have hy1 : decide (c ≤ lk) = false := by simp; omega
      have hy2 : ((0 : Int) == c) = false := by simp; omega
      have hy3 : (c == (0 : Int)) = false := by simp; omega
      have hy4 : ¬ c = 0 := by omega
      have hy5 : ¬ (0 : Int) = c := by omega
      have HF := hid fin6
      clear fin6
      go_wp2_with fail
      refine (fin_owes HF.out).mono ?_
      rintro e X7 ⟨rfl, b7⟩
      have HF7 := hid (HF.out.below b7)
      go_wp2_with fail
      refine (fin_steps HF7.out).mono ?_
      rintro e X8 ⟨⟨ra, rn, rc, rfl, hrn⟩, b8⟩
      have HF8 := hid (HF7.out.below b8)
      have hrn' : (rn : Int) ≤ 1 := by omega
      go_wp2_with fail
      refine (fin_other HF8.out).mono ?_
      rintro e X9 ⟨rfl, b9⟩
      go_wp2
      go_ret
      exact ⟨rfl, HB6.out.trans ((chain2 b7 (chain2 b8 b9)).mono HB6.out.size)⟩
    · rw [if_neg hy] at fin6
      rw [if_neg hy]
      have hy1 : decide (c ≤ lk) = true := by simp; omega
      have hy2 : (c == c) = true := by simp
      skip
      skip
      skip
      have HF := hid fin6
      clear fin6
      go_wp2_with fail
      refine (fin_owes HF.out).mono ?_
      rintro e X7 ⟨rfl, b7⟩
      have HF7 := hid (HF.out.below b7)
      go_wp2_with fail
      refine (fin_steps HF7.out).mono ?_
      rintro e X8 ⟨⟨ra, rn, rc, rfl, hrn⟩, b8⟩
      have HF8 := hid (HF7.out.below b8)
      have hrn' : (rn : Int) ≤ 1 := by omega
      go_wp2_with fail
      refine (fin_other HF8.out).mono ?_
      rintro e X9 ⟨rfl, b9⟩
      go_wp2
      go_ret
      exact ⟨rfl, HB6.out.trans ((chain2 b7 (chain2 b8 b9)).mono HB6.out.size)⟩
  · rw [if_neg hx]
    have hx1 : decide (0 < lk) = false := by simpa using hx
    go_wp2_with fail
    refine HLK.out.mono ?_
    rintro e X5 ⟨rfl, hX5⟩
    subst hX5
    go_wp2_with fail
    refine HA.out.mono ?_
    rintro e X6 ⟨rfl, k6, fin6⟩
    clear a0 a1 a2 a3 a4 a5 a6 a7 a8 a9 a10 a11 a12 a13 a14 a15 a16 a17
    have HK6 := hid (HK5.out.trans k6)
    have hbz := hid (show w.heap.size ≤ W2.heap.size from HB2.out.size)
    have HB6 := hid (HB2.out.trans (HK6.out.below hbz.out hOb))
    clear k6 f5
    by_cases hy : lk < c
    · rw [if_pos hy] at fin6
      rw [if_pos hy]
      have hy1 : decide (c ≤ lk) = false := by simp; omega
      have hy2 : ((0 : Int) == c) = false := by simp; omega
      have hy3 : (c == (0 : Int)) = false := by simp; omega
      have hy4 : ¬ c = 0 := by omega
      have hy5 : ¬ (0 : Int) = c := by omega
      have HF := hid fin6
      clear fin6
      go_wp2_with fail
      refine (fin_owes HF.out).mono ?_
      rintro e X7 ⟨rfl, b7⟩
      have HF7 := hid (HF.out.below b7)
      go_wp2_with fail
      refine (fin_steps HF7.out).mono ?_
      rintro e X8 ⟨⟨ra, rn, rc, rfl, hrn⟩, b8⟩
      have HF8 := hid (HF7.out.below b8)
      have hrn' : (rn : Int) ≤ 1 := by omega
      go_wp2_with fail
      refine (fin_other HF8.out).mono ?_
      rintro e X9 ⟨rfl, b9⟩
      go_wp2
      go_ret
      exact ⟨rfl, HB6.out.trans ((chain2 b7 (chain2 b8 b9)).mono HB6.out.size)⟩
    · rw [if_neg hy] at fin6
      rw [if_neg hy]
      have hy1 : decide (c ≤ lk) = true := by simp; omega
      have hy2 : (c == c) = true := by simp
      skip
      skip
      skip
      have HF := hid fin6
      clear fin6
      go_wp2_with fail
      refine (fin_owes HF.out).mono ?_
      rintro e X7 ⟨rfl, b7⟩
      have HF7 := hid (HF.out.below b7)
      go_wp2_with fail
      refine (fin_steps HF7.out).mono ?_
      rintro e X8 ⟨⟨ra, rn, rc, rfl, hrn⟩, b8⟩
      have HF8 := hid (HF7.out.below b8)
      have hrn' : (rn : Int) ≤ 1 := by omega
      go_wp2_with fail
      refine (fin_other HF8.out).mono ?_
      rintro e X9 ⟨rfl, b9⟩
      go_wp2
      go_ret
      exact ⟨rfl, HB6.out.trans ((chain2 b7 (chain2 b8 b9)).mono HB6.out.size)⟩
set_option maxHeartbeats 6400000 in
theorem bookLocks_false (lk qy pr c : Int) (w : World) (hl : 0 ≤ lk ∧ lk ≤ 65535) (hq : 0 ≤ qy ∧ qy ≤ 255) (hp : 0 ≤ pr ∧ pr ≤ 255) (hc : wrap64 (qy * pr) = c) (hd : dear false (-pr) qy = c) (h0 : 0 ≤ c ∧ c ≤ 1000000) :
    Calls Try.prog 4 #[.int .u16 lk, .int .u8 qy, .int .u8 pr, .bool false] w fun e w' => e = .returned (.bool true) ∧ Below w.heap.size w w' := by
  have g1 : wrap64 lk = lk := by unfold wrap64; omega
  have g2 : wrap64 qy = qy := by unfold wrap64; omega
  have g3 : wrap64 pr = pr := by unfold wrap64; omega
  have g4 : wrap64 (-pr) = -pr := by unfold wrap64; omega
  have HQ := hid (show In64 qy by unfold In64; omega)
  have HPR := hid (show In64 (-pr) by unfold In64; omega)
  have HD := hid hd
  have HL := hid hl
  have H0 := hid h0
  clear hd
  go_enter Try.func4, Try.ntmps4
  go_wp2_with fail
  refine (new_any w).mono ?_
  rintro e w1 ⟨v, rfl, b1, hbk⟩
  go_wp2_with (first | (refine wpList_store_new rfl 32 _ _ rfl _ _ _ rfl (by simp) rfl 18 info_Ask (by rfl) (by rfl) (by simp [Value.oneCell']) ?_) | fail)
  obtain ⟨e1, e2, b2⟩ := two_blocks w1 (Obj.cells #[.int .i64 2, .int .i64 0, .int .i64 0, .string ⟨#[]⟩, .int .i64 1, .int .i64 0, .int .i64 0, .bool false, .int .i64 qy, .int .i64 (-pr), .string ⟨#[]⟩, .int .i64 0, .int .i64 0, .bool false, .int .i64 0, .slice none 0 0, .int .i64 0, .int .i64 0] 32) (Obj.cells #[.int .i64 1, .int .i64 1000000, .int .i64 0, .string ⟨#[]⟩, .int .i64 0, .int .i64 0, .int .i64 0, .bool false, .int .i64 0, .int .i64 0, .string ⟨#[]⟩, .int .i64 0, .int .i64 0, .bool false, .int .i64 0, .slice none 0 0, .int .i64 0, .int .i64 0] 32)
  have hbk2 := hbk.below b2
  have hOb : ∀ i, (w.heap.size ≤ i ∧ i < w1.heap.size) → w.heap.size ≤ i := fun i hi => hi.1
  have hOn : ¬ (w.heap.size ≤ w1.heap.size ∧ w1.heap.size < w1.heap.size) := by omega
  generalize (w1.alloc (Obj.cells #[.int .i64 2, .int .i64 0, .int .i64 0, .string ⟨#[]⟩, .int .i64 1, .int .i64 0, .int .i64 0, .bool false, .int .i64 qy, .int .i64 (-pr), .string ⟨#[]⟩, .int .i64 0, .int .i64 0, .bool false, .int .i64 0, .slice none 0 0, .int .i64 0, .int .i64 0] 32)).alloc (Obj.cells #[.int .i64 1, .int .i64 1000000, .int .i64 0, .string ⟨#[]⟩, .int .i64 0, .int .i64 0, .int .i64 0, .bool false, .int .i64 0, .int .i64 0, .string ⟨#[]⟩, .int .i64 0, .int .i64 0, .bool false, .int .i64 0, .slice none 0 0, .int .i64 0, .int .i64 0] 32) = W2 at *
  obtain ⟨O, hOO⟩ : ∃ O : Nat → Prop, Hid (O = fun i => w.heap.size ≤ i ∧ i < w1.heap.size) := ⟨_, hid rfl⟩
  have hbk2 : Bk O W2 v [] (fun _ => ps0) := by rw [hOO.out]; exact hbk2
  have hOb : ∀ i, O i → w.heap.size ≤ i := by rw [hOO.out]; exact hOb
  have hOn : ¬ O w1.heap.size := by rw [hOO.out]; exact hOn
  have HB2 := hid (chain2 b1 b2)
  clear hbk b1 b2 hOO
  have a0 := blk_cell e2 0 (.int .i64 1) rfl
  have a1 := blk_cell e2 1 (.int .i64 1000000) rfl
  have a2 := blk_cell e2 2 (.int .i64 0) rfl
  have a3 := blk_cell e2 3 (.string ⟨#[]⟩) rfl
  have a4 := blk_cell e2 4 (.int .i64 0) rfl
  have a5 := blk_cell e2 5 (.int .i64 0) rfl
  have a6 := blk_cell e2 6 (.int .i64 0) rfl
  have a7 := blk_cell e2 7 (.bool false) rfl
  have a8 := blk_cell e2 8 (.int .i64 0) rfl
  have a9 := blk_cell e2 9 (.int .i64 0) rfl
  have a10 := blk_cell e2 10 (.string ⟨#[]⟩) rfl
  have a11 := blk_cell e2 11 (.int .i64 0) rfl
  have a12 := blk_cell e2 12 (.int .i64 0) rfl
  have a13 := blk_cell e2 13 (.bool false) rfl
  have a14 := blk_cell e2 14 (.int .i64 0) rfl
  have a15 := blk_cell e2 15 (.slice none 0 0) rfl
  have a16 := blk_cell e2 16 (.int .i64 0) rfl
  have a17 := blk_cell e2 17 (.int .i64 0) rfl
  go_wp2_with fail
  refine (pre_other hbk2).mono ?_
  rintro e W3 ⟨rfl, k3, st3⟩
  clear a0 a1 a2 a3 a4 a5 a6 a7 a8 a9 a10 a11 a12 a13 a14 a15 a16 a17
  have f3 := k3.blk e1 hOn
  clear e1 e2
  have b4 := (Below.refl W3.heap.size W3).alloc (Nat.le_refl _) (Obj.cells #[.int .i64 1, .int .i64 lk, .int .i64 0, .string ⟨#[]⟩, .int .i64 0, .int .i64 0, .int .i64 0, .bool false, .int .i64 0, .int .i64 0, .string ⟨#[]⟩, .int .i64 0, .int .i64 0, .bool false, .int .i64 0, .slice none 0 0, .int .i64 0, .int .i64 0] 32)
  have e4 := heap_alloc_last W3 (Obj.cells #[.int .i64 1, .int .i64 lk, .int .i64 0, .string ⟨#[]⟩, .int .i64 0, .int .i64 0, .int .i64 0, .bool false, .int .i64 0, .int .i64 0, .string ⟨#[]⟩, .int .i64 0, .int .i64 0, .bool false, .int .i64 0, .slice none 0 0, .int .i64 0, .int .i64 0] 32)
  have f4 := blk_below f3 b4
  have st4 : ∃ N S, Bk O (W3.alloc (Obj.cells #[.int .i64 1, .int .i64 lk, .int .i64 0, .string ⟨#[]⟩, .int .i64 0, .int .i64 0, .int .i64 0, .bool false, .int .i64 0, .int .i64 0, .string ⟨#[]⟩, .int .i64 0, .int .i64 0, .bool false, .int .i64 0, .slice none 0 0, .int .i64 0, .int .i64 0] 32)) v N S ∧ N = [othL] ∧ S whoL = ps0 ∧ Bare (S othL) 1000000 := by
    obtain ⟨N, S, q1, q2⟩ := st3
    exact ⟨N, S, q1.below b4, q2⟩
  have HK3 := hid (k3.trans (Kx.of_below b4))
  have ST4 := hid st4
  clear st3 st4 k3 f3 b4
  go_wp2_with (first | (refine wpList_store_new rfl 32 _ _ rfl _ _ _ rfl (by simp) rfl 18 info_Ask (by rfl) (by rfl) (by simp [Value.oneCell']) ?_) | fail)
  generalize W3.alloc (Obj.cells #[.int .i64 1, .int .i64 lk, .int .i64 0, .string ⟨#[]⟩, .int .i64 0, .int .i64 0, .int .i64 0, .bool false, .int .i64 0, .int .i64 0, .string ⟨#[]⟩, .int .i64 0, .int .i64 0, .bool false, .int .i64 0, .slice none 0 0, .int .i64 0, .int .i64 0] 32) = W4 at *
  refine (pre_lock ST4.out HL.out).mono ?_
  rintro e W5 ⟨rfl, k5, st5⟩
  have f5 := k5.blk f4 hOn
  have HK5 := hid (HK3.out.trans k5)
  have ST5 := hid st5
  clear st5 k5 f4 e4
  have a0 := blk_cell f5 0 (.int .i64 2) rfl
  have a1 := blk_cell f5 1 (.int .i64 0) rfl
  have a2 := blk_cell f5 2 (.int .i64 0) rfl
  have a3 := blk_cell f5 3 (.string ⟨#[]⟩) rfl
  have a4 := blk_cell f5 4 (.int .i64 1) rfl
  have a5 := blk_cell f5 5 (.int .i64 0) rfl
  have a6 := blk_cell f5 6 (.int .i64 0) rfl
  have a7 := blk_cell f5 7 (.bool false) rfl
  have a8 := blk_cell f5 8 (.int .i64 qy) rfl
  have a9 := blk_cell f5 9 (.int .i64 (-pr)) rfl
  have a10 := blk_cell f5 10 (.string ⟨#[]⟩) rfl
  have a11 := blk_cell f5 11 (.int .i64 0) rfl
  have a12 := blk_cell f5 12 (.int .i64 0) rfl
  have a13 := blk_cell f5 13 (.bool false) rfl
  have a14 := blk_cell f5 14 (.int .i64 0) rfl
  have a15 := blk_cell f5 15 (.slice none 0 0) rfl
  have a16 := blk_cell f5 16 (.int .i64 0) rfl
  have a17 := blk_cell f5 17 (.int .i64 0) rfl
  have hA := pre_step ST5.out false qy (-pr) HQ.out HPR.out HD.out H0.out HL.out.1
  unfold kbC stK at hA
  simp only at hA
  have hLk := pre_locked ST5.out
  have HA := hid hA
  have HLK := hid hLk
  clear hA hLk
  by_cases hx : 0 < lk
  · rw [if_pos hx]
    have hx1 : decide (0 < lk) = true := by simpa using hx
    go_wp2_with fail
    refine HLK.out.mono ?_
    rintro e X5 ⟨rfl, hX5⟩
    subst hX5
    go_wp2_with fail
    refine HA.out.mono ?_
    rintro e X6 ⟨rfl, k6, fin6⟩
    clear a0 a1 a2 a3 a4 a5 a6 a7 a8 a9 a10 a11 a12 a13 a14 a15 a16 a17
    have HK6 := hid (HK5.out.trans k6)
    have hbz := hid (show w.heap.size ≤ W2.heap.size from HB2.out.size)
    have HB6 := hid (HB2.out.trans (HK6.out.below hbz.out hOb))
    clear k6 f5
    by_cases hy : lk < c
    · rw [if_pos hy] at fin6
      rw [if_pos hy]
      have hy1 : decide (c ≤ lk) = false := by simp; omega
      have hy2 : ((0 : Int) == c) = false := by simp; omega
      have hy3 : (c == (0 : Int)) = false := by simp; omega
      have hy4 : ¬ c = 0 := by omega
      have hy5 : ¬ (0 : Int) = c := by omega
      have HF := hid fin6
      clear fin6
      go_wp2_with fail
      refine (fin_owes HF.out).mono ?_
      rintro e X7 ⟨rfl, b7⟩
      have HF7 := hid (HF.out.below b7)
      go_wp2_with fail
      refine (fin_steps HF7.out).mono ?_
      rintro e X8 ⟨⟨ra, rn, rc, rfl, hrn⟩, b8⟩
      have HF8 := hid (HF7.out.below b8)
      have hrn' : (rn : Int) ≤ 1 := by omega
      go_wp2_with fail
      refine (fin_other HF8.out).mono ?_
      rintro e X9 ⟨rfl, b9⟩
      go_wp2
      go_ret
      exact ⟨rfl, HB6.out.trans ((chain2 b7 (chain2 b8 b9)).mono HB6.out.size)⟩
    · rw [if_neg hy] at fin6
      rw [if_neg hy]
      have hy1 : decide (c ≤ lk) = true := by simp; omega
      have hy2 : (c == c) = true := by simp
      skip
      skip
      skip
      have HF := hid fin6
      clear fin6
      go_wp2_with fail
      refine (fin_owes HF.out).mono ?_
      rintro e X7 ⟨rfl, b7⟩
      have HF7 := hid (HF.out.below b7)
      go_wp2_with fail
      refine (fin_steps HF7.out).mono ?_
      rintro e X8 ⟨⟨ra, rn, rc, rfl, hrn⟩, b8⟩
      have HF8 := hid (HF7.out.below b8)
      have hrn' : (rn : Int) ≤ 1 := by omega
      go_wp2_with fail
      refine (fin_other HF8.out).mono ?_
      rintro e X9 ⟨rfl, b9⟩
      go_wp2
      go_ret
      exact ⟨rfl, HB6.out.trans ((chain2 b7 (chain2 b8 b9)).mono HB6.out.size)⟩
  · rw [if_neg hx]
    have hx1 : decide (0 < lk) = false := by simpa using hx
    go_wp2_with fail
    refine HLK.out.mono ?_
    rintro e X5 ⟨rfl, hX5⟩
    subst hX5
    go_wp2_with fail
    refine HA.out.mono ?_
    rintro e X6 ⟨rfl, k6, fin6⟩
    clear a0 a1 a2 a3 a4 a5 a6 a7 a8 a9 a10 a11 a12 a13 a14 a15 a16 a17
    have HK6 := hid (HK5.out.trans k6)
    have hbz := hid (show w.heap.size ≤ W2.heap.size from HB2.out.size)
    have HB6 := hid (HB2.out.trans (HK6.out.below hbz.out hOb))
    clear k6 f5
    by_cases hy : lk < c
    · rw [if_pos hy] at fin6
      rw [if_pos hy]
      have hy1 : decide (c ≤ lk) = false := by simp; omega
      have hy2 : ((0 : Int) == c) = false := by simp; omega
      have hy3 : (c == (0 : Int)) = false := by simp; omega
      have hy4 : ¬ c = 0 := by omega
      have hy5 : ¬ (0 : Int) = c := by omega
      have HF := hid fin6
      clear fin6
      go_wp2_with fail
      refine (fin_owes HF.out).mono ?_
      rintro e X7 ⟨rfl, b7⟩
      have HF7 := hid (HF.out.below b7)
      go_wp2_with fail
      refine (fin_steps HF7.out).mono ?_
      rintro e X8 ⟨⟨ra, rn, rc, rfl, hrn⟩, b8⟩
      have HF8 := hid (HF7.out.below b8)
      have hrn' : (rn : Int) ≤ 1 := by omega
      go_wp2_with fail
      refine (fin_other HF8.out).mono ?_
      rintro e X9 ⟨rfl, b9⟩
      go_wp2
      go_ret
      exact ⟨rfl, HB6.out.trans ((chain2 b7 (chain2 b8 b9)).mono HB6.out.size)⟩
    · rw [if_neg hy] at fin6
      rw [if_neg hy]
      have hy1 : decide (c ≤ lk) = true := by simp; omega
      have hy2 : (c == c) = true := by simp
      skip
      skip
      skip
      have HF := hid fin6
      clear fin6
      go_wp2_with fail
      refine (fin_owes HF.out).mono ?_
      rintro e X7 ⟨rfl, b7⟩
      have HF7 := hid (HF.out.below b7)
      go_wp2_with fail
      refine (fin_steps HF7.out).mono ?_
      rintro e X8 ⟨⟨ra, rn, rc, rfl, hrn⟩, b8⟩
      have HF8 := hid (HF7.out.below b8)
      have hrn' : (rn : Int) ≤ 1 := by omega
      go_wp2_with fail
      refine (fin_other HF8.out).mono ?_
      rintro e X9 ⟨rfl, b9⟩
      go_wp2
      go_ret
      exact ⟨rfl, HB6.out.trans ((chain2 b7 (chain2 b8 b9)).mono HB6.out.size)⟩
theorem bookLocks_any (lk qy pr : Int) (buy : Bool) (w : World) (hl : (Lit.int .u16 lk).wf = true) (hq : (Lit.int .u8 qy).wf = true) (hp : (Lit.int .u8 pr).wf = true) :
    Calls Try.prog 4 #[.int .u16 lk, .int .u8 qy, .int .u8 pr, .bool buy] w fun e w' => e = .returned (.bool true) ∧ Below w.heap.size w w' := by
  have hl := bounds_u16 hl
  have hq := bounds_u8 hq
  have hp := bounds_u8 hp
  have h1 : 0 ≤ qy * pr ∧ qy * pr ≤ 255 * 255 := ⟨Int.mul_nonneg hq.1 hp.1, Int.mul_le_mul hq.2 hp.2 hp.1 (by omega)⟩
  have h2 : wrap64 (qy * pr) = qy * pr := by unfold wrap64; omega
  have h3 : wrap64 (-(-pr)) = pr := by unfold wrap64; omega
  have h4 : max pr 0 = pr := by omega
  cases buy
  · refine bookLocks_false lk qy pr (qy * pr) w hl hq hp h2 ?_ (by omega)
    show wrap64 (max (if false = true then -pr else wrap64 (-(-pr))) 0 * qy) = _
    rw [if_neg (by decide), h3, h4, Int.mul_comm, h2]
  · refine bookLocks_true lk qy pr (qy * pr) w hl hq hp h2 ?_ (by omega)
    show wrap64 (max (if true = true then pr else wrap64 (-pr)) 0 * qy) = _
    rw [if_pos rfl, h4, Int.mul_comm, h2]
end Go.Proofs.Ytfneiilookoipaa
