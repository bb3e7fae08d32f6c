/- BookOrder: the document's list of Adds, and what one participant's state is of it. -/
import Derived.Test.YtbkobimbdiogfaaBGood
namespace Go.Proofs.Ytbkobimbdiogfaa
open Go.RowKit Go.MapKept
set_option linter.unusedVariables false
set_option linter.unusedSimpArgs false

/-- One's Adds that were taken, and whether each is gone. -/
abbrev Rf := List (Kb × Bool)
def isOrd (z : Kb) : Bool := decide (z.kind = 2) || decide (z.kind = 3)
theorem isOrd_iff {z : Kb} : isOrd z = true ↔ z.kind = 2 ∨ z.kind = 3 := by unfold isOrd; simp
def hitR (s : Int) (e : Kb × Bool) : Bool := isOrd e.1 && decide (seqK e.1 = s)
def getR (R : Rf) (s : Int) : Option (Kb × Bool) := R.find? (hitR s)
def alv (e : Kb × Bool) : Bool := isOrd e.1 && !e.2
def liveR (R : Rf) : List Od := (R.filter alv).map (fun e => kbO e.1)
def lockR (R : Rf) : Int := (R.map (fun e => if e.1.kind = 1 then e.1.cents else 0)).sum
def liveOf (e : Option (Kb × Bool)) : Option Od := e.bind (fun e => if e.2 = true then none else some (kbO e.1))
structure Ref (R : Rf) (p : Ps) : Prop where
  asks : p.asks = (R.length : Int)
  locked : p.locked = lockR R
  seqs : ∀ s, s ∈ p.seqs ↔ (getR R s).isSome = true
  live : ∀ s, p.live s = liveOf (getR R s)
  perm : p.orders.Perm (liveR R)
  par : ∀ o ∈ p.orders, 0 < o.parent → isBlk (p.live o.parent) = true
theorem ref0 : Ref [] ps0 := ⟨rfl, rfl, by simp [ps0, getR], by simp [ps0, getR, liveOf], by simp [ps0, Ps.orders, liveR], by simp [ps0, Ps.orders]⟩
/-- The document's answers. -/
def canR (R : Rf) (s : Int) : Int := match getR R s with
  | none => 102
  | some e => if e.2 = true then 102 else if 0 < s ∧ e.1.kind = 3 ∧ (liveR R).any (fun o => o.parent == s) = true then 103 else 0
def badPar (R : Rf) (s : Int) : Bool := match getR R s with
  | none => true
  | some e => e.2 || !decide (e.1.kind = 3)
def ordR (R : Rf) (z : Kb) : Int :=
  if (getR R (seqK z)).isSome = true then 100
  else if mostK z.kind ≤ ((cntO (liveR R) z.kind : Nat) : Int) then 101
  else if z.kind = 3 ∧ 0 < z.parent ∧ badPar R z.parent = true then 103
  else if lockR R < wrap64 (owesW (liveR R) + (kbO z).cost) then 221
  else 0
def mayR (R : Rf) (z : Kb) : Int :=
  if z.kind < 1 ∨ 4 < z.kind then 1
  else if 24 ≤ (R.length : Int) then 101
  else if z.kind = 1 then lockE z.cents
  else if z.kind = 4 then canR R z.seq
  else ordR R z
def setG : Rf → Int → Rf
  | [], _ => []
  | e :: R, s => if hitR s e = true then (e.1, true) :: R else e :: setG R s
def addR (R : Rf) (z : Kb) : Rf := if z.kind = 4 then setG R z.seq ++ [(z, false)] else R ++ [(z, false)]

theorem getR_hit {R : Rf} {s : Int} {e : Kb × Bool} (h : getR R s = some e) : isOrd e.1 = true ∧ seqK e.1 = s := by
  have := List.find?_some h
  unfold hitR at this
  simpa using this
theorem wrap_comm (a x y : Int) : wrap64 (wrap64 (a + x) + y) = wrap64 (wrap64 (a + y) + x) := by unfold wrap64; omega
theorem owesW_perm {L M : List Od} (h : L.Perm M) : owesW L = owesW M := by
  unfold owesW
  exact h.foldl_eq' (fun x _ y _ a => wrap_comm a x.cost y.cost) 0
theorem cntO_perm {L M : List Od} (h : L.Perm M) (k : Int) : cntO L k = cntO M k := h.countP_eq _
theorem isBlk_kbO {z : Kb} (h : isOrd z = true) : isBlk (some (kbO z)) = decide (z.kind = 3) := by
  rcases isOrd_iff.1 h with h | h
  · rw [kbO_step h, h]; rfl
  · rw [kbO_block h, h]; rfl
theorem badPar_eq {R : Rf} {p : Ps} (h : Ref R p) (s : Int) : badPar R s = !isBlk (p.live s) := by
  rw [h.live s]
  unfold badPar liveOf
  cases hg : getR R s with
  | none => rfl
  | some e =>
    obtain ⟨h1, h2⟩ := getR_hit hg
    simp only [Option.bind_some]
    cases he : e.2 with
    | true => simp [isBlk]
    | false =>
      simp only [Bool.false_or]
      rw [if_neg (by decide), isBlk_kbO h1]
theorem any_perm {L M : List Od} (h : L.Perm M) (f : Od → Bool) : L.any f = M.any f := by
  rw [Bool.eq_iff_iff, List.any_eq_true, List.any_eq_true]
  exact ⟨fun ⟨x, hx, hf⟩ => ⟨x, h.mem_iff.1 hx, hf⟩, fun ⟨x, hx, hf⟩ => ⟨x, h.mem_iff.2 hx, hf⟩⟩
theorem canR_eq {R : Rf} {p : Ps} (h : Ref R p) (s : Int) : canR R s = canE p s := by
  unfold canR canE
  have hl := h.live s
  cases hg : getR R s with
  | none =>
    rw [hg] at hl
    rw [show p.live s = none from hl]
  | some e =>
    obtain ⟨h1, h2⟩ := getR_hit hg
    rw [hg] at hl
    unfold liveOf at hl
    simp only [Option.bind_some] at hl
    cases he : e.2 with
    | true =>
      rw [he, if_pos rfl] at hl
      rw [hl]
      simp [he]
    | false =>
      rw [he, if_neg (by decide)] at hl
      rw [hl]
      simp only [he]
      rw [if_neg (by decide)]
      have key : (0 < s ∧ e.1.kind = 3 ∧ (liveR R).any (fun o => o.parent == s) = true) ↔ isPar p s = true := by
        unfold isPar
        rw [any_perm h.perm]
        simp only [Bool.and_eq_true, decide_eq_true_eq]
        constructor
        · exact fun hh => ⟨hh.1, hh.2.2⟩
        · rintro ⟨h3, h4⟩
          refine ⟨h3, ?_, h4⟩
          obtain ⟨o, ho, hop⟩ := List.any_eq_true.1 h4
          have hos : o.parent = s := by simpa using hop
          have := h.par o (h.perm.mem_iff.2 ho) (by omega)
          rw [hos, hl, isBlk_kbO h1] at this
          simpa using this
      by_cases hp : isPar p s = true
      · rw [if_pos hp, if_pos (key.2 hp)]
      · rw [if_neg hp, if_neg (fun hh => hp (key.1 hh))]
theorem ordR_eq {R : Rf} {p : Ps} (h : Ref R p) (z : Kb) (hk : z.kind = 2 ∨ z.kind = 3) : ordR R z = ordE p z := by
  unfold ordR ordE
  have e1 : (getR R (seqK z)).isSome = true ↔ p.seqs.contains (seqK z) = true := by rw [← h.seqs, List.contains_iff_mem]
  have e2 : cntO (liveR R) z.kind = cntO p.orders z.kind := (cntO_perm h.perm _).symm
  have e3 : (z.kind = 3 ∧ 0 < z.parent ∧ badPar R z.parent = true) ↔ (0 < parK z ∧ isBlk (p.live (parK z)) = false) := by
    rw [badPar_eq h]
    unfold parK
    by_cases h3 : z.kind = 3
    · rw [if_pos h3]; simp [h3]
    · rw [if_neg h3]; simp [h3]
  have e4 : owesW (liveR R) = owesW p.orders := (owesW_perm h.perm).symm
  rw [e2, e4, ← h.locked]
  simp only [e1, e3]
/-- The program's answer is the document's. -/
theorem mayR_eq {R : Rf} {p : Ps} (h : Ref R p) (z : Kb) : mayR R z = mayE p z := by
  unfold mayR mayE
  rw [← h.asks]
  by_cases e0 : z.kind < 1 ∨ 4 < z.kind
  · rw [if_pos e0, if_pos e0]
  rw [if_neg e0, if_neg e0]
  by_cases e1 : 24 ≤ p.asks
  · rw [if_pos e1, if_pos e1]
  rw [if_neg e1, if_neg e1]
  by_cases e2 : z.kind = 1
  · rw [if_pos e2, if_pos e2]
  rw [if_neg e2, if_neg e2]
  by_cases e3 : z.kind = 4
  · rw [if_pos e3, if_pos e3, canR_eq h]
  rw [if_neg e3, if_neg e3, ordR_eq h z (by omega)]
theorem getR_add (R : Rf) (z : Kb) (s : Int) : getR (R ++ [(z, false)]) s = (getR R s).or (if isOrd z = true ∧ seqK z = s then some (z, false) else none) := by
  unfold getR
  rw [List.find?_append]
  congr 1
  rw [List.find?_cons]
  unfold hitR
  by_cases h : isOrd z = true ∧ seqK z = s
  · rw [if_pos h]; simp [h.1, h.2]
  · rw [if_neg h]
    have : (isOrd z && decide (seqK z = s)) = false := by
      cases hb : (isOrd z && decide (seqK z = s)) with
      | false => rfl
      | true => exact absurd (by simpa using hb) h
    simp only [this]
    rfl
theorem getR_not (R : Rf) (z : Kb) (s : Int) (h : isOrd z = false) : getR (R ++ [(z, false)]) s = getR R s := by
  rw [getR_add, if_neg (by rw [h]; simp)]; simp
theorem liveR_add (R : Rf) (z : Kb) : liveR (R ++ [(z, false)]) = liveR R ++ (if isOrd z = true then [kbO z] else []) := by
  unfold liveR
  rw [List.filter_append, List.map_append]
  congr 1
  cases h : isOrd z <;> simp [List.filter, alv, h]
theorem lockR_add (R : Rf) (z : Kb) : lockR (R ++ [(z, false)]) = lockR R + if z.kind = 1 then z.cents else 0 := by
  unfold lockR
  rw [List.map_append, List.sum_append_int]; simp
theorem setG_len (s : Int) : ∀ R : Rf, (setG R s).length = R.length
  | [] => rfl
  | e :: R => by unfold setG; split <;> simp [setG_len s R]
theorem setG_lock (s : Int) : ∀ R : Rf, lockR (setG R s) = lockR R
  | [] => rfl
  | e :: R => by
    have ih := setG_lock s R
    unfold lockR at ih
    unfold setG lockR
    split
    · simp
    · simp [ih]
theorem setG_get (s x : Int) : ∀ R : Rf, getR (setG R s) x = if x = s then (getR R s).map (fun e => (e.1, true)) else getR R x
  | [] => by simp [setG, getR]
  | e :: R => by
    have ih := setG_get s x R
    unfold getR at ih ⊢
    unfold setG
    by_cases hh : hitR s e = true
    · rw [if_pos hh]
      by_cases hx : x = s
      · subst hx
        rw [if_pos rfl, List.find?_cons, List.find?_cons, show hitR x (e.1, true) = hitR x e from rfl, hh]; rfl
      · rw [if_neg hx, List.find?_cons, List.find?_cons, show hitR x (e.1, true) = hitR x e from rfl]
        have : hitR x e = false := by
          cases hb : hitR x e with
          | false => rfl
          | true =>
            unfold hitR at hb hh
            simp at hb hh
            omega
        rw [this]
    · rw [if_neg hh]
      have hh' : hitR s e = false := by simpa using hh
      by_cases hx : x = s
      · subst hx
        rw [if_pos rfl] at ih ⊢
        rw [List.find?_cons, List.find?_cons, hh']
        exact ih
      · rw [if_neg hx] at ih ⊢
        rw [List.find?_cons, List.find?_cons, ih]
theorem setG_live (s : Int) : ∀ (R : Rf) (e : Kb × Bool), getR R s = some e → e.2 = false → (liveR R).Perm (kbO e.1 :: liveR (setG R s))
  | [], e, h, _ => by simp [getR] at h
  | a :: R, e, h, h2 => by
    unfold getR at h
    rw [List.find?_cons] at h
    unfold setG
    cases hh : hitR s a with
    | true =>
      rw [hh] at h
      simp only [Option.some.injEq] at h
      subst h
      rw [if_pos rfl]
      have ho : isOrd a.1 = true := by unfold hitR at hh; simp at hh; exact hh.1
      have e1 : liveR (a :: R) = kbO a.1 :: liveR R := by
        unfold liveR; rw [List.filter_cons, if_pos (by simp [alv, ho, h2])]; rfl
      have e2 : liveR ((a.1, true) :: R) = liveR R := by
        unfold liveR; rw [List.filter_cons, if_neg (by simp [alv])]
      rw [e1, e2]
    | false =>
      rw [hh] at h
      rw [if_neg (by decide)]
      have ih := setG_live s R e h h2
      have e1 : ∀ M : Rf, liveR (a :: M) = (if alv a = true then [kbO a.1] else []) ++ liveR M := fun M => by
        unfold liveR; rw [List.filter_cons]; split <;> simp
      rw [e1, e1]
      split
      · exact (ih.cons _).trans (List.Perm.swap _ _ _)
      · exact ih
theorem fm_skip {L : List Int} {f : Int → Option Od} {s : Int} (h : s ∉ L) : L.filterMap (fun x => if x = s then none else f x) = L.filterMap f := by
  induction L with
  | nil => rfl
  | cons a L ih =>
    have ha : a ≠ s := fun e => h (by simp [e])
    rw [List.filterMap_cons, List.filterMap_cons, if_neg ha, ih (fun hm => h (by simp [hm]))]
theorem fm_drop {f : Int → Option Od} {s : Int} {o : Od} (hf : f s = some o) : ∀ L : List Int, L.Pairwise (· < ·) → s ∈ L → (L.filterMap f).Perm (o :: L.filterMap (fun x => if x = s then none else f x))
  | [], _, h => by cases h
  | a :: L, hp, h => by
    have hp' := List.pairwise_cons.1 hp
    by_cases ha : a = s
    · subst ha
      have hn : a ∉ L := fun hm => by have := hp'.1 a hm; omega
      have : L.filterMap (fun x => if x = a then none else f x) = L.filterMap f := fm_skip hn
      rw [List.filterMap_cons, List.filterMap_cons, hf, if_pos rfl, this]
    · have hm : s ∈ L := by
        rcases List.mem_cons.1 h with h | h
        · exact absurd h.symm ha
        · exact h
      have ih := fm_drop hf L hp'.2 hm
      rw [List.filterMap_cons, List.filterMap_cons, if_neg ha]
      cases f a with
      | none => exact ih
      | some y => exact (ih.cons _).trans (List.Perm.swap _ _ _)
theorem ref_lock {R : Rf} {p : Ps} (h : Ref R p) (z : Kb) (hk : z.kind = 1) : Ref (R ++ [(z, false)]) (lockP p z.cents) := by
  have ho : isOrd z = false := by unfold isOrd; simp [hk]
  refine ⟨?_, ?_, ?_, ?_, ?_, h.par⟩
  · simp only [lockP, h.asks, List.length_append]; simp
  · simp only [lockP, h.locked, lockR_add, if_pos hk]
  · intro s; rw [getR_not _ _ _ ho]; exact h.seqs s
  · intro s; rw [getR_not _ _ _ ho]; exact h.live s
  · rw [liveR_add, if_neg (by rw [ho]; decide), List.append_nil]; exact h.perm
theorem ref_ord {R : Rf} {p : Ps} (h : Ref R p) (hs : Sane p) (z : Kb) (hk : z.kind = 2 ∨ z.kind = 3) (hE : ordE p z = 0) : Ref (R ++ [(z, false)]) (ordP p z) := by
  have ho : isOrd z = true := isOrd_iff.2 hk
  have hn0 := ordE_zero hE
  have hn : seqK z ∉ p.seqs := fun hm => by
    have := List.contains_iff_mem.2 hm
    rw [hn0] at this; cases this
  have hgn : getR R (seqK z) = none := by
    cases hg : getR R (seqK z) with
    | none => rfl
    | some e => exact absurd ((h.seqs _).2 (by rw [hg]; rfl)) hn
  have hln : p.live (seqK z) = none := by rw [h.live, hgn]; rfl
  have hpar : 0 < parK z → isBlk (p.live (parK z)) = true := fun h0 => by
    unfold ordE at hE
    rw [if_neg (by rw [hn0]; decide)] at hE
    by_cases e1 : mostK z.kind ≤ ((cntO p.orders z.kind : Nat) : Int)
    · rw [if_pos e1] at hE; cases hE
    rw [if_neg e1] at hE
    by_cases e2 : 0 < parK z ∧ isBlk (p.live (parK z)) = false
    · rw [if_pos e2] at hE; cases hE
    cases hb : isBlk (p.live (parK z)) with
    | true => rfl
    | false => exact absurd ⟨h0, hb⟩ e2
  have hperm := ord_perm hn
  have hkeep : ∀ s, isBlk (p.live s) = true → isBlk ((ordP p z).live s) = true := fun s hb => by
    have : s ≠ seqK z := fun e => by rw [e, hln] at hb; cases hb
    simp only [ordP, if_neg this]; exact hb
  refine ⟨?_, ?_, ?_, ?_, ?_, ?_⟩
  · simp only [ordP, h.asks, List.length_append]; simp
  · rw [lockR_add, if_neg (by omega), ← h.locked]; simp [ordP]
  · intro s
    rw [getR_add]
    simp only [ordP]
    rw [mem_ins, h.seqs]
    by_cases e : seqK z = s
    · subst e
      rw [if_pos ⟨ho, rfl⟩, hgn]; simp
    · rw [if_neg (fun hh => e hh.2)]
      simp only [Option.or_none]
      constructor
      · rintro (h1 | h1)
        · exact absurd h1.symm e
        · exact h1
      · exact Or.inr
  · intro s
    rw [getR_add]
    simp only [ordP]
    by_cases e : s = seqK z
    · subst e
      rw [if_pos rfl, if_pos ⟨ho, rfl⟩, hgn]; rfl
    · rw [if_neg e, if_neg (fun hh => e hh.2.symm), h.live]
      simp only [Option.or_none]
  · rw [liveR_add, if_pos ho]
    exact hperm.trans ((h.perm.cons _).trans (List.perm_append_singleton _ _).symm)
  · intro o hm h0
    rcases List.mem_cons.1 (hperm.mem_iff.1 hm) with rfl | hm
    · rw [parK_O hk] at h0 ⊢
      exact hkeep _ (hpar h0)
    · exact hkeep _ (h.par o hm h0)
theorem ref_can {R : Rf} {p : Ps} (h : Ref R p) (hs : Sane p) (z : Kb) (hk : z.kind = 4) (hE : canE p z.seq = 0) : Ref (setG R z.seq ++ [(z, false)]) (canP p z.seq) := by
  have ho : isOrd z = false := by unfold isOrd; simp [hk]
  unfold canE at hE
  cases hl : p.live z.seq with
  | none => rw [hl] at hE; cases hE
  | some o =>
    rw [hl] at hE
    simp only at hE
    have hp : isPar p z.seq = false := by
      cases hp : isPar p z.seq with
      | false => rfl
      | true => rw [hp] at hE; simp at hE
    have hg0 := h.live z.seq
    rw [hl] at hg0
    obtain ⟨e, hg, he2, heo⟩ : ∃ e, getR R z.seq = some e ∧ e.2 = false ∧ o = kbO e.1 := by
      cases hg : getR R z.seq with
      | none => rw [hg] at hg0; cases hg0
      | some e =>
        rw [hg] at hg0
        unfold liveOf at hg0
        simp only [Option.bind_some] at hg0
        cases h2 : e.2 with
        | true => rw [h2, if_pos rfl] at hg0; cases hg0
        | false => rw [h2, if_neg (by decide)] at hg0; exact ⟨e, rfl, h2, by simpa using hg0⟩
    have hdrop : p.orders.Perm (o :: (canP p z.seq).orders) := fm_drop hl p.seqs hs.rise (hs.lives _ _ hl).1
    refine ⟨?_, ?_, ?_, ?_, ?_, ?_⟩
    · simp only [canP, h.asks, List.length_append, setG_len]; simp
    · rw [lockR_add, if_neg (by omega), setG_lock, ← h.locked]; simp [canP]
    · intro s
      rw [getR_not _ _ _ ho, setG_get]
      simp only [canP]
      rw [h.seqs]
      by_cases e0 : s = z.seq
      · rw [if_pos e0, e0, hg]; simp
      · rw [if_neg e0]
    · intro s
      rw [getR_not _ _ _ ho, setG_get]
      simp only [canP]
      by_cases e0 : s = z.seq
      · rw [if_pos e0, if_pos e0, hg]; simp [liveOf]
      · rw [if_neg e0, if_neg e0]; exact h.live s
    · rw [liveR_add, if_neg (by rw [ho]; decide), List.append_nil]
      have h1 := hdrop.symm.trans (h.perm.trans (setG_live z.seq R e hg he2))
      rw [← heo] at h1
      exact h1.cons_inv
    · intro x hx h0
      have hxo : x ∈ p.orders := hdrop.mem_iff.2 (List.mem_cons_of_mem _ hx)
      have hb := h.par x hxo h0
      have hne : x.parent ≠ z.seq := fun e0 => by
        have : isPar p z.seq = true := by
          unfold isPar
          simp only [Bool.and_eq_true, decide_eq_true_eq]
          exact ⟨by omega, List.any_eq_true.2 ⟨x, hxo, by simp [e0]⟩⟩
        rw [this] at hp; cases hp
      simp only [canP, if_neg hne]; exact hb
/-- What the document keeps of an Add that is taken is what the program keeps. -/
theorem ref_add {R : Rf} {p : Ps} (h : Ref R p) (hs : Sane p) (z : Kb) (hE : mayE p z = 0) : Ref (addR R z) (addP p z) := by
  have hkind : 1 ≤ z.kind ∧ z.kind ≤ 4 := by
    apply Classical.byContradiction
    intro hc
    unfold mayE at hE
    rw [if_pos (by omega)] at hE
    cases hE
  unfold mayE at hE
  rw [if_neg (by omega)] at hE
  by_cases e2 : 24 ≤ p.asks
  · rw [if_pos e2] at hE; cases hE
  rw [if_neg e2] at hE
  unfold addP addR
  by_cases e1 : z.kind = 1
  · rw [if_pos e1, if_neg (by omega)]
    exact ref_lock h z e1
  rw [if_neg e1] at hE ⊢
  by_cases e4 : z.kind = 4
  · rw [if_pos e4] at hE
    rw [if_pos e4, if_pos e4]
    exact ref_can h hs z e4 hE
  rw [if_neg e4] at hE
  rw [if_neg e4, if_neg e4]
  exact ref_ord h hs z (by omega) hE
end Go.Proofs.Ytbkobimbdiogfaa
