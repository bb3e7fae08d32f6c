/- book: what each Add keeps, of orders whose Qty are at least 0. -/
import Derived.Test.YtbkobimbdiogfaaBCancel
import Derived.Test.YtbkobimbdiogfaaBTell
namespace Go.Proofs.Ytbkobimbdiogfaa
open Go.RowKit Go.MapKept
set_option linter.unusedVariables false
set_option maxRecDepth 100000
set_option linter.unusedSimpArgs false

theorem wrapIn (x : Int) (h1 : -9223372036854775808 ≤ x) (h2 : x < 9223372036854775808) : wrap64 x = x := by unfold wrap64; omega
def costMax : Int := 16000000000000
/-- What all of them may cost. -/
def sumC (L : List Od) : Int := (L.map Od.cost).sum
theorem sumC_cons (o : Od) (L : List Od) : sumC (o :: L) = o.cost + sumC L := by simp [sumC]
theorem sumC_perm {L M : List Od} (h : L.Perm M) : sumC L = sumC M := by
  induction h with
  | nil => rfl
  | cons x _ ih => rw [sumC_cons, sumC_cons, ih]
  | swap x y l => rw [sumC_cons, sumC_cons, sumC_cons, sumC_cons]; omega
  | trans _ _ i1 i2 => rw [i1, i2]
theorem sumC_bound : ∀ (L : List Od), (∀ o ∈ L, 0 ≤ o.cost ∧ o.cost ≤ costMax) → 0 ≤ sumC L ∧ sumC L ≤ costMax * L.length
  | [], _ => by simp [sumC]
  | o :: L, h => by
    have h1 := h o (by simp)
    have h2 := sumC_bound L (fun x hx => h x (by simp [hx]))
    rw [sumC_cons]
    unfold costMax at *
    simp only [List.length_cons]
    omega
theorem sumC_sub {L M : List Od} (h : L.Sublist M) (hc : ∀ o ∈ M, 0 ≤ o.cost ∧ o.cost ≤ costMax) : sumC L ≤ sumC M := by
  induction h with
  | slnil => exact Int.le_refl _
  | cons x _ ih =>
    have h1 := hc x (by simp)
    have := ih (fun o ho => hc o (by simp [ho]))
    rw [sumC_cons]; omega
  | cons_cons x _ ih =>
    have := ih (fun o ho => hc o (by simp [ho]))
    rw [sumC_cons, sumC_cons]; omega
theorem owesW_sum : ∀ (L : List Od) (a : Int), (∀ o ∈ L, 0 ≤ o.cost ∧ o.cost ≤ costMax) → 0 ≤ a → a + costMax * L.length ≤ 1000000000000000 → L.foldl (fun a o => wrap64 (a + o.cost)) a = a + sumC L
  | [], a, _, _, _ => by simp [sumC]
  | o :: L, a, h, h0, h1 => by
    have h2 := h o (by simp)
    have h3 : wrap64 (a + o.cost) = a + o.cost := wrapIn _ (by omega) (by
      unfold costMax at *; simp only [List.length_cons] at h1; omega)
    rw [List.foldl_cons, h3, owesW_sum L (a + o.cost) (fun x hx => h x (by simp [hx])) (by omega) (by unfold costMax at *; simp only [List.length_cons] at h1; omega), sumC_cons]
    omega
structure Good (p : Ps) : Prop where
  steps : cntO p.orders 2 ≤ 8
  blocks : cntO p.orders 3 ≤ 3
  costs : ∀ o ∈ p.orders, 0 ≤ o.cost ∧ o.cost ≤ costMax
  owe : sumC p.orders ≤ p.locked
  par : ∀ o ∈ p.orders, 0 < o.parent → ∃ o' ∈ p.orders, o'.kind = 3 ∧ o'.seq = o.parent
theorem good0 : Good ps0 := ⟨by simp [ps0, Ps.orders, cntO], by simp [ps0, Ps.orders, cntO], by simp [ps0, Ps.orders], by simp [ps0, Ps.orders, sumC], by simp [ps0, Ps.orders]⟩
theorem Good.owesW {p : Ps} (h : Good p) (hs : Sane p) : owesW p.orders = sumC p.orders := by
  have := owesW_sum p.orders 0 h.costs (Int.le_refl _) (by have := orders_len hs; unfold costMax; omega)
  unfold Go.Proofs.Ytbkobimbdiogfaa.owesW
  rw [this]; omega
theorem good_lock {p : Ps} {c : Int} (h : Good p) (hc : 0 ≤ c) : Good (lockP p c) := by
  obtain ⟨h1, h2, h3, h4, h5⟩ := h
  exact ⟨h1, h2, h3, by show sumC p.orders ≤ p.locked + c; omega, h5⟩
theorem mem_orders {p : Ps} {o : Od} : o ∈ p.orders ↔ ∃ s ∈ p.seqs, p.live s = some o := by unfold Ps.orders; exact List.mem_filterMap
theorem can_sub (p : Ps) (s : Int) : (canP p s).orders.Sublist p.orders := by
  unfold Ps.orders canP
  simp only
  induction p.seqs with
  | nil => exact List.Sublist.slnil
  | cons a L ih =>
    simp only [List.filterMap_cons]
    by_cases e : a = s
    · rw [if_pos e]
      simp only
      cases p.live a with
      | none => exact ih
      | some o => exact List.Sublist.cons _ ih
    · rw [if_neg e]
      cases p.live a with
      | none => exact ih
      | some o => exact List.Sublist.cons_cons _ ih
theorem good_can {p : Ps} {s : Int} (h : Good p) (hs : Sane p) (hp : isPar p s = false) : Good (canP p s) := by
  have hsub := can_sub p s
  refine ⟨Nat.le_trans (hsub.countP_le) h.steps, Nat.le_trans (hsub.countP_le) h.blocks, fun o ho => h.costs o (hsub.subset ho), ?_, ?_⟩
  · have := sumC_sub hsub h.costs
    have := h.owe
    show sumC _ ≤ p.locked
    omega
  · intro o ho hpar
    obtain ⟨o', ho', hk, hq⟩ := h.par o (hsub.subset ho) hpar
    refine ⟨o', ?_, hk, hq⟩
    obtain ⟨s', hs', hl'⟩ := mem_orders.1 ho'
    have hseq := (hs.lives s' o' hl').2
    refine mem_orders.2 ⟨s', hs', ?_⟩
    show (if s' = s then none else p.live s') = some o'
    rw [if_neg, hl']
    intro e
    have h1 : o.parent = s := by rw [← hq, hseq, e]
    unfold isPar at hp
    have h2 : p.orders.any (fun o => o.parent == s) = true := List.any_eq_true.2 ⟨o, hsub.subset ho, by simp [h1]⟩
    rw [h2, ← h1] at hp
    simp [hpar] at hp
theorem filterMap_if {L : List Int} {f : Int → Option Od} {s : Int} {o : Od} (h : s ∉ L) : L.filterMap (fun x => if x = s then some o else f x) = L.filterMap f := by
  induction L with
  | nil => rfl
  | cons a L ih =>
    have ha : a ≠ s := fun e => h (by simp [e])
    rw [List.filterMap_cons, List.filterMap_cons, if_neg ha, ih (fun hm => h (by simp [hm]))]
theorem ord_perm {p : Ps} {z : Kb} (hn : seqK z ∉ p.seqs) : (ordP p z).orders.Perm (kbO z :: p.orders) := by
  unfold Ps.orders ordP
  simp only
  unfold ins
  have h1 : seqK z ∉ p.seqs.take (placeOf p.seqs (seqK z)) := fun hm => hn (List.mem_of_mem_take hm)
  have h2 : seqK z ∉ p.seqs.drop (placeOf p.seqs (seqK z)) := fun hm => hn (List.mem_of_mem_drop hm)
  rw [List.filterMap_append, List.filterMap_cons, if_pos rfl, filterMap_if h1, filterMap_if h2]
  simp only
  have h3 : p.seqs.filterMap p.live = (p.seqs.take (placeOf p.seqs (seqK z))).filterMap p.live ++ (p.seqs.drop (placeOf p.seqs (seqK z))).filterMap p.live := by
    rw [← List.filterMap_append, List.take_append_drop]
  rw [h3]
  exact List.perm_middle
theorem good_ord {p : Ps} {z : Kb} (h : Good p) (hs : Sane p) (hk : z.kind = 2 ∨ z.kind = 3) (hE : ordE p z = 0) (hc : 0 ≤ (kbO z).cost ∧ (kbO z).cost ≤ costMax) : Good (ordP p z) := by
  have hn0 := ordE_zero hE
  have hn : seqK z ∉ p.seqs := fun hm => by
    have := List.contains_iff_mem.2 hm
    rw [hn0] at this; cases this
  have hperm := ord_perm hn
  unfold ordE at hE
  rw [if_neg (by rw [hn0]; decide)] at hE
  by_cases e1 : mostK z.kind ≤ ((cntO p.orders z.kind : Nat) : Int)
  · rw [if_pos e1] at hE; cases hE
  rw [if_neg e1] at hE
  by_cases e2 : 0 < parK z ∧ isBlk (p.live (parK z)) = false
  · rw [if_pos e2] at hE; cases hE
  rw [if_neg e2] at hE
  by_cases e3 : p.locked < wrap64 (owesW p.orders + (kbO z).cost)
  · rw [if_pos e3] at hE; cases hE
  have how := h.owesW hs
  have hb := sumC_bound p.orders h.costs
  have hol := orders_len hs
  have hlk := hs.locked
  have hasks := hs.asks
  rw [how, wrapIn _ (by unfold costMax at *; omega) (by unfold costMax at *; omega)] at e3
  have hcnt : ∀ kd, cntO (ordP p z).orders kd = cntO p.orders kd + if z.kind = kd then 1 else 0 := fun kd => by
    unfold cntO
    rw [hperm.countP_eq, List.countP_cons, kind_O hk]
    simp
  refine ⟨?_, ?_, ?_, ?_, ?_⟩
  · rw [hcnt]
    split
    · rename_i e
      rw [e] at e1
      have : mostK 2 = 8 := rfl
      omega
    · have := h.steps; omega
  · rw [hcnt]
    split
    · rename_i e
      rw [e] at e1
      have : mostK 3 = 3 := rfl
      omega
    · have := h.blocks; omega
  · intro o ho
    rcases List.mem_cons.1 (hperm.mem_iff.1 ho) with rfl | ho
    · exact hc
    · exact h.costs o ho
  · rw [sumC_perm hperm, sumC_cons]
    show _ ≤ p.locked
    omega
  · intro o ho hpar
    rcases List.mem_cons.1 (hperm.mem_iff.1 ho) with rfl | ho
    · rw [parK_O hk] at hpar ⊢
      have hib : isBlk (p.live (parK z)) = true := by
        cases hx : isBlk (p.live (parK z)) with
        | true => rfl
        | false => exact absurd ⟨hpar, hx⟩ e2
      cases hl : p.live (parK z) with
      | none => rw [hl] at hib; cases hib
      | some o' =>
        rw [hl] at hib
        have h6 := hs.lives _ _ hl
        refine ⟨o', hperm.mem_iff.2 (List.mem_cons.2 (Or.inr (mem_orders.2 ⟨_, h6.1, hl⟩))), ?_, h6.2⟩
        cases o' with
        | step => cases hib
        | block => rfl
    · obtain ⟨o', ho', hk', hq'⟩ := h.par o ho hpar
      exact ⟨o', hperm.mem_iff.2 (List.mem_cons.2 (Or.inr ho')), hk', hq'⟩
theorem orders_rise {p : Ps} (h : Sane p) : p.orders.Pairwise (fun a b => a.seq < b.seq) := by
  unfold Ps.orders
  rw [List.pairwise_filterMap]
  refine List.Pairwise.imp_of_mem ?_ h.rise
  intro a b ha hb hab o ho o' ho'
  rw [(h.lives a o ho).2, (h.lives b o' ho').2]
  exact hab
/-- Numbers that are not too great, and no Qty below 0. -/
structure Fine (z : Kb) : Prop where
  sq : 0 ≤ z.sqty ∧ z.sqty ≤ 1000000
  sp : -1000000 ≤ z.sprice ∧ z.sprice ≤ 1000000
  bp : -1000000 ≤ z.bprice ∧ z.bprice ≤ 1000000
  len : z.Q.length ≤ 16
  q : ∀ x ∈ z.Q, 0 ≤ x ∧ x ≤ 1000000
theorem dear_fine (b : Bool) (p q : Int) (hp : -1000000 ≤ p ∧ p ≤ 1000000) (hq : 0 ≤ q ∧ q ≤ 16000000) : 0 ≤ dear b p q ∧ dear b p q ≤ costMax := by
  unfold dear
  rw [wrapIn (-p) (by omega) (by omega)]
  have hr : 0 ≤ max (if b then p else -p) 0 ∧ max (if b then p else -p) 0 ≤ 1000000 := by cases b <;> simp <;> omega
  have h1 : 0 ≤ max (if b then p else -p) 0 * q ∧ max (if b then p else -p) 0 * q ≤ 1000000 * 16000000 := ⟨Int.mul_nonneg hr.1 hq.1, Int.mul_le_mul hr.2 hq.2 hq.1 (by omega)⟩
  rw [wrapIn _ (by omega) (by omega)]
  unfold costMax
  omega
theorem sumW_fine : ∀ (L : List Int) (a : Int), (∀ x ∈ L, 0 ≤ x ∧ x ≤ 1000000) → 0 ≤ a → a + 1000000 * L.length ≤ 100000000 → 0 ≤ L.foldl (fun a x => wrap64 (a + x)) a ∧ L.foldl (fun a x => wrap64 (a + x)) a ≤ a + 1000000 * L.length
  | [], a, _, h0, _ => by simp; omega
  | x :: L, a, h, h0, h1 => by
    have h2 := h x (by simp)
    simp only [List.length_cons] at h1 ⊢
    rw [List.foldl_cons, wrapIn (a + x) (by omega) (by omega)]
    have := sumW_fine L (a + x) (fun y hy => h y (by simp [hy])) (by omega) (by omega)
    omega
theorem cost_fine {z : Kb} (h : Fine z) (hk : z.kind = 2 ∨ z.kind = 3) : 0 ≤ (kbO z).cost ∧ (kbO z).cost ≤ costMax := by
  rcases hk with hk | hk
  · rw [kbO_step hk]
    exact dear_fine _ _ _ h.sp (by have := h.sq; omega)
  · rw [kbO_block hk]
    have h1 := sumW_fine z.Q 0 h.q (Int.le_refl _) (by have := h.len; omega)
    exact dear_fine _ _ _ h.bp (by unfold sumW; have := h.len; omega)
theorem good_add {p : Ps} {z : Kb} (h : Good p) (hs : Sane p) (hf : Fine z) (hE : mayE p z = 0) : Good (addP p z) := by
  have hkind : 1 ≤ z.kind ∧ z.kind ≤ 4 := by
    apply Classical.byContradiction
    intro hc
    unfold mayE at hE
    rw [if_pos (by omega)] at hE
    cases hE
  unfold mayE at hE
  rw [if_neg (by omega)] at hE
  by_cases e2 : 24 ≤ p.asks
  · rw [if_pos e2] at hE; cases hE
  rw [if_neg e2] at hE
  unfold addP
  by_cases e1 : z.kind = 1
  · rw [if_pos e1] at hE ⊢
    refine good_lock h ?_
    apply Classical.byContradiction
    intro hc
    unfold lockE at hE
    rw [if_pos (by omega)] at hE
    cases hE
  rw [if_neg e1] at hE ⊢
  by_cases e4 : z.kind = 4
  · rw [if_pos e4] at hE ⊢
    refine good_can h hs ?_
    unfold canE at hE
    cases hl : p.live z.seq with
    | none => rw [hl] at hE; cases hE
    | some o =>
      rw [hl] at hE
      simp only at hE
      cases hp : isPar p z.seq with
      | false => rfl
      | true => rw [hp] at hE; simp at hE
  rw [if_neg e4] at hE ⊢
  exact good_ord h hs (by omega) hE (cost_fine hf (by omega))
end Go.Proofs.Ytbkobimbdiogfaa
