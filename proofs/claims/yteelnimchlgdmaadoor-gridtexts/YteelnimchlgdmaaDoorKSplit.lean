/- A drawn region whose last operations store: what comes ahead of them is walked under one condition on the world, the stores behind it without. -/
import Derived.Test.YteelnimchlgdmaaDoorLBase
import Derived.Deep.RegionHeld3
namespace Go.Proofs.YteelnimchlgdmaaDoor
open Go.RowKit
set_option linter.unusedVariables false
set_option maxRecDepth 100000
set_option linter.unusedSimpArgs false

def splitQ (Q : Exit → Act → World → Prop) (R : Act → World → Prop) : Exit → Act → World → Prop
  | .normal, a, w => R a w
  | .ret, a, w => Q .ret a w
  | .exit c, a, w => Q (.exit c) a w
  | .goto c, a, w => Q (.goto c) a w
  | .panic c, a, w => Q (.panic c) a w
  | .outgrown, a, w => Q .outgrown a w
section
variable {P : Program} {ops : Array Oper} {Q : Exit → Act → World → Prop} {md : Region.Mode} {S : World → Prop} {R : Act → World → Prop}
theorem wpOp_split {i : Nat} {K K' : Act → World → Prop} {a : Act} {w : World} (h : wpOp P ops (splitQ Q R) i K a w) (hk : ∀ a w, K a w → K' a w) : wpOp P ops Q i K' a w := by
  unfold wpOp at h ⊢
  cases ho : ops[i]? with
  | none => simp only [ho] at h ⊢; exact hk _ _ h
  | some o =>
    simp only [ho] at h ⊢
    by_cases hw : Region.wanted o (yielded ops a.tmps) = true
    · rw [if_pos hw] at h ⊢
      rcases h with h | ⟨h1, x, y, h2⟩
      · refine Or.inl ?_
        unfold Oper.wp at h ⊢
        generalize (execOp a.eval o).run P w = r at *
        cases r with
        | ok x w' =>
          cases x with
          | value v => exact hk _ _ h
          | skip => exact hk _ _ h
          | defer d => exact hk _ _ h
          | enter f args => exact Calls.mono h (fun e w'' he => by cases e with
            | returned v => exact hk _ _ he
            | panicked c => exact he
            | outgrown =>
              obtain ⟨x, y, he⟩ := he
              exact ⟨x, y, he⟩)
          | row row args =>
            exact (fun c cs => (h c cs).elim fun v hv => hv.elim fun w'' hh => ⟨v, w'', hk _ _ hh.1, hh.2⟩ : Rows P row args w' (fun v w'' => K' (a.put o.dst v) w''))
          | _ => exact absurd h id
        | halt x w' => cases x <;> first | exact h | exact absurd h id
      · exact Or.inr ⟨h1, x, y, h2⟩
    · rw [if_neg hw] at h ⊢
      exact hk _ _ h
def onsOf (md : Region.Mode) (o : Oper) : List Nat := (o.after.toList.filter (fun e => Region.binds md e)).map (fun e => e.on)
def reachOf (md : Region.Mode) (ops : Array Oper) : Nat → List Nat → List Nat
  | 0, xs => xs
  | k + 1, xs => reachOf md ops k (xs ++ xs.flatMap (fun j => ((ops[j]?).map (onsOf md)).getD []))
/-- The late ones wait for all others. -/
def lateOk (md : Region.Mode) (ops : Array Oper) (late : Nat → Bool) (k : Nat) : Bool :=
  (List.range ops.size).all (fun j => ((ops[j]?).map (fun o =>
    if late j then (onsOf md o).any late || (List.range ops.size).all (fun i => late i || (reachOf md ops k (onsOf md o)).contains i)
    else (onsOf md o).all (fun i => decide (i < j) && !late i))).getD true)
def ClL (md : Region.Mode) (ops : Array Oper) (L : Array Bool) : Prop := ∀ j o, ops[j]? = some o → L.getD j false = true → ∀ i ∈ onsOf md o, L.getD i false = true
theorem mem_ons {o : Oper} {e : Edge} (h : e ∈ o.after) (hb : Region.binds md e = true) : e.on ∈ onsOf md o := by
  unfold onsOf
  exact List.mem_map.2 ⟨e, List.mem_filter.2 ⟨Array.mem_toList_iff.2 h, hb⟩, rfl⟩
theorem ons_mem {o : Oper} {i : Nat} (h : i ∈ onsOf md o) : ∃ e ∈ o.after, Region.binds md e = true ∧ e.on = i := by
  unfold onsOf at h
  obtain ⟨e, he, rfl⟩ := List.mem_map.1 h
  obtain ⟨h1, h2⟩ := List.mem_filter.1 he
  exact ⟨e, Array.mem_toList_iff.1 h1, h2, rfl⟩
theorem reach_listed {L : Array Bool} (hc : ClL md ops L) : ∀ k xs, (∀ j ∈ xs, L.getD j false = true) → ∀ j ∈ reachOf md ops k xs, L.getD j false = true
  | 0, xs, h, j, hj => h j hj
  | k + 1, xs, h, j, hj => by
    refine reach_listed hc k _ (fun i hi => ?_) j hj
    rcases List.mem_append.1 hi with hi | hi
    · exact h i hi
    · obtain ⟨x, hx, hx2⟩ := List.mem_flatMap.1 hi
      cases ho : ops[x]? with
      | none => rw [ho] at hx2; simp at hx2
      | some o =>
        rw [ho] at hx2
        exact hc x o ho (h x hx) i (by simpa using hx2)
def maskOf (late : Nat → Bool) (L : Array Bool) : Array Bool := L.mapIdx (fun j b => b || late j)
theorem getD_mask (late : Nat → Bool) (L : Array Bool) (j : Nat) (d : Bool) : (maskOf late L).getD j d = if j < L.size then (L.getD j d || late j) else d := by
  unfold maskOf
  simp only [Array.getD_eq_getD_getElem?, Array.getElem?_mapIdx]
  by_cases h : j < L.size
  · rw [if_pos h]; simp [h]
  · rw [if_neg h]; simp [Array.getElem?_eq_none (Nat.le_of_not_lt h)]
theorem getD_put (L : Array Bool) (i j : Nat) (d : Bool) : (L.setIfInBounds i true).getD j d = if i = j ∧ i < L.size then true else L.getD j d := by
  simp only [Array.getD_eq_getD_getElem?, Array.getElem?_setIfInBounds]
  by_cases h : i = j
  · by_cases h2 : i < L.size
    · rw [if_pos h, if_pos h2, if_pos ⟨h, h2⟩]; rfl
    · rw [if_pos h, if_neg h2, if_neg (fun k => h2 k.2)]
      subst h
      simp [Array.getElem?_eq_none (Nat.le_of_not_lt h2)]
  · rw [if_neg h, if_neg (fun k => h k.1)]
theorem mask_put (late : Nat → Bool) (L : Array Bool) (i : Nat) : (maskOf late L).setIfInBounds i true = maskOf late (L.setIfInBounds i true) := by
  apply Array.ext_getElem?
  intro j
  simp only [maskOf, Array.getElem?_setIfInBounds, Array.getElem?_mapIdx, Array.size_mapIdx]
  by_cases h : i = j
  · subst h
    by_cases h2 : i < L.size
    · simp [h2]
    · simp [h2]
  · simp [h]
theorem lateOk_at {late : Nat → Bool} {k : Nat} (h : lateOk md ops late k = true) {j : Nat} {o : Oper} (ho : ops[j]? = some o) :
    (late j = true → (∃ i ∈ onsOf md o, late i = true) ∨ ∀ i, i < ops.size → late i = false → i ∈ reachOf md ops k (onsOf md o)) ∧ (late j = false → ∀ i ∈ onsOf md o, i < j ∧ late i = false) := by
  have hj : j < ops.size := (Array.getElem?_eq_some_iff.1 ho).1
  have h1 := List.all_eq_true.1 h j (List.mem_range.2 hj)
  rw [ho] at h1
  simp only [Option.map_some, Option.getD_some] at h1
  constructor
  · intro hl
    rw [if_pos hl, Bool.or_eq_true] at h1
    rcases h1 with h1 | h1
    · obtain ⟨i, hi, hi2⟩ := List.any_eq_true.1 h1
      exact Or.inl ⟨i, hi, hi2⟩
    · refine Or.inr fun i hi hli => ?_
      have := List.all_eq_true.1 h1 i (List.mem_range.2 hi)
      rw [hli] at this
      simpa using this
  · intro hl i hi
    rw [if_neg (by rw [hl]; decide)] at h1
    have := List.all_eq_true.1 h1 i hi
    simpa using this
/-- What comes ahead of the late ones under S; then they. -/
theorem wpAny_split {late : Nat → Bool} {k m : Nat} {last : Array Bool} (hok : lateOk md ops late k = true) (hlast : last = (Array.replicate ops.size false).mapIdx (fun j _ => !late j))
    (hR : ∀ a w, R a w → ∀ r, wpAny P md ops Q (r + m) last a w) :
    ∀ (f : Nat) (L : Array Bool) (a : Act) (w : World), L.size = ops.size → ClL md ops L → (∀ j, late j = true → L.getD j false = false) → wpAnyH P md ops (splitQ Q R) S f (maskOf late L) a w → wpAny P md ops Q (f + m) L a w := by
  -- nothing may come up: all that are not late are listed
  have full : ∀ L : Array Bool, L.size = ops.size → (∀ j, late j = true → L.getD j false = false) → Region.ready md ops (maskOf late L) = [] → L = last := by
    intro L hs hl hr
    have key : ∀ n j, j < n → j < ops.size → late j = false → L.getD j false = true := by
      intro n
      induction n with
      | zero => intro j h; omega
      | succ n ih =>
        intro j hjn hj hlj
        cases hL : L.getD j false with
        | true => rfl
        | false =>
          exfalso
          have hjr : j ∈ Region.ready md ops (maskOf late L) := by
            refine mem_ready.2 ⟨?_, ops[j], by simp [hj], fun e he hb => ?_⟩
            · rw [getD_mask, if_pos (by omega), hlj]
              have : L.getD j true = L.getD j false := by simp [Array.getD_eq_getD_getElem?, show j < L.size by omega]
              rw [this, hL]; rfl
            · obtain ⟨_, h2⟩ := lateOk_at hok (show ops[j]? = some ops[j] by simp [hj])
              obtain ⟨h3, h4⟩ := h2 hlj e.on (mem_ons he hb)
              rw [getD_mask, if_pos (by omega), ih e.on (by omega) (by omega) h4]; rfl
          rw [hr] at hjr
          cases hjr
    rw [hlast]
    apply Array.ext
    · simp [hs]
    · intro j h1 h2
      have hj : j < ops.size := by omega
      have e : L[j] = L.getD j false := by simp [Array.getD_eq_getD_getElem?, h1]
      rw [e]
      simp only [Array.getElem_mapIdx]
      cases hlj : late j with
      | true => rw [hl j hlj]; rfl
      | false => rw [key (j + 1) j (by omega) hj hlj]; rfl
  intro f
  induction f with
  | zero =>
    intro L a w hs hc hl h
    obtain ⟨h1, h2⟩ := h
    rw [full L hs hl h1]
    exact hR _ _ h2 0
  | succ f ih =>
    intro L a w hs hc hl h
    by_cases hr : Region.ready md ops (maskOf late L) = []
    · rw [full L hs hl hr]
      exact hR _ _ (h.1 hr) (f + 1)
    · rw [Nat.add_right_comm]
      have up : ∀ i, i ∈ Region.ready md ops (maskOf late L) → i ∈ Region.ready md ops L ∧ late i = false := by
        intro i hi
        obtain ⟨h1, o, ho, h2⟩ := mem_ready.1 hi
        have hi2 : i < ops.size := (Array.getElem?_eq_some_iff.1 ho).1
        rw [getD_mask, if_pos (by omega), Bool.or_eq_false_iff] at h1
        refine ⟨mem_ready.2 ⟨h1.1, o, ho, fun e he hb => ?_⟩, h1.2⟩
        have h3 := h2 e he hb
        obtain ⟨h4, h5⟩ := (lateOk_at hok ho).2 h1.2 e.on (mem_ons he hb)
        rw [getD_mask, if_pos (by omega), h5, Bool.or_false] at h3
        exact h3
      have down : ∀ i, i ∈ Region.ready md ops L → i ∈ Region.ready md ops (maskOf late L) ∧ late i = false := by
        intro i hi
        obtain ⟨h1, o, ho, h2⟩ := mem_ready.1 hi
        have hi2 : i < ops.size := (Array.getElem?_eq_some_iff.1 ho).1
        have hli : late i = false := by
          cases hli : late i with
          | false => rfl
          | true =>
            exfalso
            rcases (lateOk_at hok ho).1 hli with ⟨x, hx, hx2⟩ | hall
            · obtain ⟨e, he, hb, rfl⟩ := ons_mem hx
              have h3 := h2 e he hb
              rw [hl _ hx2] at h3
              cases h3
            · apply hr
              have hlis : ∀ j, j < ops.size → late j = false → L.getD j false = true := fun j hj hlj =>
                reach_listed hc k _ (fun x hx => by
                  obtain ⟨e, he, hb, rfl⟩ := ons_mem hx
                  exact h2 e he hb) j (hall j hj hlj)
              apply List.eq_nil_iff_forall_not_mem.2
              intro j hj
              obtain ⟨q1, o', ho', _⟩ := mem_ready.1 hj
              have hj2 : j < ops.size := (Array.getElem?_eq_some_iff.1 ho').1
              rw [getD_mask, if_pos (by omega), Bool.or_eq_false_iff] at q1
              have q2 := hlis j hj2 q1.2
              have : L.getD j true = L.getD j false := by simp [Array.getD_eq_getD_getElem?, show j < L.size by omega]
              rw [this, q2] at q1
              exact absurd q1.1 (by decide)
        refine ⟨mem_ready.2 ⟨?_, o, ho, fun e he hb => ?_⟩, hli⟩
        · rw [getD_mask, if_pos (by omega), h1, hli]; rfl
        · obtain ⟨h4, h5⟩ := (lateOk_at hok ho).2 hli e.on (mem_ons he hb)
          rw [getD_mask, if_pos (by omega), h2 e he hb]; rfl
      refine ⟨fun h0 => ?_, fun i hi => ?_⟩
      · exfalso
        apply hr
        apply List.eq_nil_iff_forall_not_mem.2
        intro j hj
        have := (up j hj).1
        rw [h0] at this
        cases this
      · obtain ⟨hi2, hli⟩ := down i hi
        obtain ⟨q1, o, ho, q2⟩ := mem_ready.1 hi
        have hi3 : i < ops.size := (Array.getElem?_eq_some_iff.1 ho).1
        refine wpOp_split (h.2 i hi2) (fun a' w' hk => ?_)
        refine ih _ _ _ (by simp [hs]) ?_ ?_ (by rw [← mask_put]; exact hk.2)
        · intro j o' ho' hj x hx
          rw [getD_put] at hj ⊢
          by_cases e : i = x ∧ i < L.size
          · rw [if_pos e]
          · rw [if_neg e]
            by_cases e2 : i = j ∧ i < L.size
            · obtain ⟨rfl, _⟩ := e2
              rw [ho] at ho'
              cases ho'
              obtain ⟨ed, he, hb, rfl⟩ := ons_mem hx
              exact q2 ed he hb
            · rw [if_neg e2] at hj
              exact hc j o' ho' hj x hx
        · intro j hj
          rw [getD_put, if_neg (fun e => by rw [e.1, hj] at hli; cases hli)]
          exact hl j hj
theorem region_split {late : Nat → Bool} {k m : Nat} {last mask : Array Bool} {id : Nat} {a : Act} {w : World} (hm : P.follows .mixedOrders = true) (hok : lateOk .any ops late k = true) (hlast : last = (Array.replicate ops.size false).mapIdx (fun j _ => !late j)) (hmask : mask = maskOf late (Array.replicate ops.size false))
    (f : Nat) (hf : ops.size = f + m) (hS : S w.drew) (h : S w.drew → wpAnyH P .any ops (splitQ Q (fun a w => ∀ r, wpAny P .any ops Q (r + m) last a w)) S f mask a w.drew) : (Code.region id ops true).wp P Q a w := by
  refine wp_region_any hm ?_
  rw [show wpAny P .any ops Q ops.size = wpAny P .any ops Q (f + m) by rw [hf]]
  refine wpAny_split (S := S) (R := fun a w => ∀ r, wpAny P .any ops Q (r + m) last a w) hok hlast (fun a w h => h) f (Array.replicate ops.size false) a w.drew (by simp) ?_ ?_ (by rw [← hmask]; exact h hS)
  · intro j o ho hj
    exfalso
    have : (Array.replicate ops.size false).getD j false = false := by
      simp only [Array.getD_eq_getD_getElem?, Array.getElem?_replicate]
      split <;> rfl
    rw [this] at hj
    cases hj
  · intro j _
    simp only [Array.getD_eq_getD_getElem?, Array.getElem?_replicate]
    split <;> rfl
end
end Go.Proofs.YteelnimchlgdmaaDoor
