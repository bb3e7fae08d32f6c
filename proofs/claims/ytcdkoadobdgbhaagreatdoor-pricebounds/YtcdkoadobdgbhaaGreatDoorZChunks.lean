/- chunks: a number's digits to the base of a thousand million. -/
import Derived.Test.YtcdkoadobdgbhaaGreatDoorPk7
import Derived.Test.YtcdkoadobdgbhaaGreatDoorPk23
import Derived.Test.YtcdkoadobdgbhaaGreatDoorPk5
import Derived.Maps.AppendAt
import Derived.Test.YtcdkoadobdgbhaaGreatDoorPk24
namespace Go.Proofs.YtcdkoadobdgbhaaGreatDoor
open Go.RowKit
set_option linter.unusedVariables false
set_option maxRecDepth 100000
set_option linter.unusedSimpArgs false

/-- trim, and where what is left lies. -/
theorem trim_keep (w : World) (base g cap : Nat) (L : List Nat) (hb : Bd L) (h : w.ownsRow base 213 1 (.slice (some ⟨g, 0, none⟩) L.length cap) L.length (u32s L)) :
    Calls Tryz.prog 173 #[.slice (some ⟨g, 0, none⟩) L.length cap] w fun e w' => (∃ ao c M, e = .returned (.slice ao M.length c) ∧ (ao = none ∨ ao = some ⟨g, 0, none⟩) ∧ w.ownsRow base 213 1 (.slice ao M.length c) M.length (u32s M) ∧ Bd M ∧ Top M ∧ val M = val L ∧ M.length ≤ L.length) ∧ w' = w := by
  have h0 : Limbs w _ L := ownsRow_base0 h
  rcases h0.form with ⟨h', _⟩ | ⟨g', cap', hv, h1, h2, _⟩
  · simp at h'
  simp only [Value.slice.injEq, Option.some.injEq, Addr.mk.injEq, and_true, true_and] at hv
  obtain ⟨rfl, rfl⟩ := hv
  refine (trim_some w base g cap L h1 h2 h).mono ?_
  rintro e w' ⟨⟨k, hk, hz, hn, rfl⟩, rfl⟩
  have hlen : (L.take k).length = k := by simp; omega
  by_cases e : k = 0
  · subst e
    exact ⟨⟨none, 0, [], by simp, Or.inl rfl, by simpa [u32s] using World.ownsRow_nil _ _ _ _, by intro j; simp [lg], by intro h; simp at h, by have := take_val L 0 hk hz; simpa using this, by simp⟩, rfl⟩
  · refine ⟨⟨some ⟨g, 0, none⟩, cap, L.take k, by rw [if_neg e, hlen], Or.inr rfl, ?_, Bd_take hb k, Top_take L k hk hn, take_val L k hk hz, by simp; omega⟩, rfl⟩
    have := ownsRow_take h hk
    rw [hlen, u32s_take]
    exact this
def ChRel (m : Nat) (C L : List Nat) : Prop := R.Bd C ∧ Bd L ∧ Top L ∧ m = R.pv C C.length + val L * 1000000000 ^ C.length ∧ (val L = 0 → Top C)
theorem val_pos {L : List Nat} (ht : Top L) (hl : L.length ≠ 0) : 0 < val L := by
  have h := ht hl
  obtain ⟨n, hn⟩ : ∃ n, L.length = n + 1 := ⟨L.length - 1, by omega⟩
  rw [hn] at h
  unfold val; rw [hn]; simp only [pv]
  have : 1 * 4294967296 ^ n ≤ lg L n * 4294967296 ^ n := Nat.mul_le_mul_right _ (by simp at h; omega)
  have := Nat.pow_pos (n := n) (show 0 < 4294967296 by omega)
  omega
theorem lg_app_old (D : List Nat) (x j : Nat) (h : j < D.length) : lg (D ++ [x]) j = lg D j := by simp [lg, List.getD, List.getElem?_append_left h]
theorem lg_app_new (D : List Nat) (x : Nat) : lg (D ++ [x]) D.length = x := by simp [lg, List.getD]
theorem ChRel.step {m : Nat} {C L L' : List Nat} (h : ChRel m C L) (hv : 0 < val L) (hb : Bd L') (ht : Top L') (hv' : val L' = val L / 1000000000) : ChRel m (C ++ [val L % 1000000000]) L' := by
  obtain ⟨h1, h2, h3, h4, h5⟩ := h
  refine ⟨fun j => ?_, hb, ht, ?_, fun hz hn => ?_⟩
  · rcases Nat.lt_trichotomy j C.length with e | e | e
    · rw [lg_app_old C _ j e]; exact h1 j
    · subst e; rw [lg_app_new]; omega
    · rw [lg_past _ j (by simp; omega)]; omega
  · rw [List.length_append, List.length_singleton]
    have e1 : R.pv (C ++ [val L % 1000000000]) (C.length + 1) = R.pv C C.length + val L % 1000000000 * 1000000000 ^ C.length := by
      simp only [R.pv]
      rw [R.pv_congr (M := C) (fun j hj => lg_app_old C _ j hj), lg_app_new]
    rw [e1, h4, hv', Nat.pow_succ]
    have hd := Nat.div_add_mod (val L) 1000000000
    generalize val L / 1000000000 = q at *
    generalize val L % 1000000000 = r at *
    generalize 1000000000 ^ C.length = p at *
    rw [← hd, Nat.add_mul, Nat.mul_comm p, ← Nat.mul_assoc, Nat.mul_comm q]
    omega
  · simp only [List.length_append, List.length_singleton, Nat.add_sub_cancel]
    rw [lg_app_new]
    omega
theorem ChRel.short {m N : Nat} {C L : List Nat} (h : ChRel m C L) (hv : 0 < val L) (hm : m < 1000000000 ^ N) : C.length < N := by
  obtain ⟨h1, h2, h3, h4, h5⟩ := h
  rcases Nat.lt_or_ge C.length N with e | e
  · exact e
  · have h6 : 1000000000 ^ N ≤ 1000000000 ^ C.length := Nat.pow_le_pow_right (by omega) e
    have h7 : 1 * 1000000000 ^ C.length ≤ val L * 1000000000 ^ C.length := Nat.mul_le_mul_right _ hv
    omega
theorem own_down {w : World} {b b' : Nat} {e : TypeId} {size : Nat} {v : Value} {n : Nat} {xs : List Value} (h : w.ownsRow b e size v n xs) (hb : b' ≤ b) : w.ownsRow b' e size v n xs := by
  obtain ⟨h1, h2⟩ := h
  refine ⟨h1, ?_⟩
  rcases h2 with h2 | ⟨g, cap, cur, hv, hg, r⟩
  · exact Or.inl h2
  · exact Or.inr ⟨g, cap, cur, hv, Nat.le_trans hb hg, r⟩
def lenOf : Value → Nat | .slice _ n _ => n | _ => 0
theorem lenOf_owns {w : World} {base : Nat} {e : TypeId} {size n : Nat} {v : Value} {xs : List Value} (h : w.ownsRow base e size v n xs) : lenOf v = n := by
  rcases h.2 with ⟨rfl, rfl⟩ | ⟨g, cap, cur, rfl, _⟩ <;> rfl
set_option maxHeartbeats 1600000 in
theorem chunks_walk (w : World) (aa : Option Addr) (na ca m N : Nat) (A : List Nat) (hA : Bd A) (hT : Top A) (hna : na ≤ 1000000000) (hAl : A.length = na) (hm : val A = m) (hN : m < 1000000000 ^ N) (hN2 : N ≤ 3000000000) (oa : Limbs w (.slice aa na ca) A) :
    Calls Tryz.prog 182 #[.agg #[.slice aa na ca]] w fun e w' => (∃ v C, e = .returned v ∧ w'.ownsRow w.heap.size 213 1 v C.length (u32s C) ∧ R.Bd C ∧ Top C ∧ R.val C = m ∧ C.length ≤ N) ∧ Below w.heap.size w w' := by
  obtain ⟨i0, hi, hz0, hz1, hz2⟩ := info_parts Tryz.info213
  have HA := hid (And.intro hAl hm)
  have HN := hid hN
  clear hAl hm hN
  have oa1 := oa.alloc (Obj.cells #[Value.slice aa na ca] 69)
  have hb0 : Below w.heap.size w (w.alloc (Obj.cells #[Value.slice aa na ca] 69)) := (Below.refl _ _).alloc (Nat.le_refl _) _
  have hs0 : w.heap.size + 1 = (w.alloc (Obj.cells #[Value.slice aa na ca] 69)).heap.size := by simp
  go_enter Tryz.func182, Tryz.ntmps182
  go_wp2_with fail
  generalize w.alloc (Obj.cells #[Value.slice aa na ca] 69) = W at *
  refine (clone_any W _ A (by have := HA.out.1; omega) oa1).mono ?_
  rintro e w1 ⟨⟨v1, rfl, o1⟩, hb1⟩
  obtain ⟨ar, cr, hv1⟩ := Limbs.slice (ownsRow_base0 o1)
  rw [hv1] at o1 ⊢
  clear hv1
  rw [← hs0] at o1
  have hw1 := chain2 hb0 hb1
  have hsz : w.heap.size + 1 ≤ w1.heap.size := by have := hb1.size; omega
  clear hb0 hb1 hs0 oa oa1
  go_wp2
  go_loopw [3, 4] (fun vc vr wr => ∃ (C L : List Nat) (ao : Option Addr) (cp : Nat), vr = .slice ao L.length cp ∧ ChRel m C L ∧ L.length ≤ 1000000000 ∧ wr.ownsRow (w.heap.size + 1) 213 1 vc C.length (u32s C) ∧ wr.ownsRow (w.heap.size + 1) 213 1 (.slice ao L.length cp) L.length (u32s L) ∧
      (∀ g, ao = some ⟨g, 0, none⟩ → vc.ownBlock ≠ some g) ∧ Below w.heap.size w wr ∧ w.heap.size + 1 ≤ wr.heap.size) (fun vc _ _ => N - lenOf vc)
  case atStart => exact ⟨[], A, ar, cr, rfl, ⟨by intro j; simp [lg], hA, hT, by simp [R.pv, HA.out.2], fun _ h => by simp at h⟩, by have := HA.out.1; omega, World.ownsRow_nil _ _ _ _, o1, fun g _ h => by simp [Value.ownBlock] at h, hw1, hsz⟩
  case round =>
    obtain ⟨C, L, ao, cp, rfl, hR, hll, oC, oL, hne, hbw, hsw⟩ := hrel
    have HR := hid hR
    have HLen := hid (lenOf_owns oC)
    clear hR o1 hw1 hsz
    by_cases hlt : 0 < L.length
    · have hv := val_pos HR.out.2.2.1 (by omega)
      have hCN := HR.out.short hv HN.out
      rcases Limbs.form (ownsRow_base0 oL) with ⟨_, h0⟩ | ⟨g, cp', hv1, l1, l2, l3⟩
      · rw [h0] at hlt; simp at hlt
      simp only [Value.slice.injEq, true_and] at hv1
      obtain ⟨rfl, rfl⟩ := hv1
      have hne' := hne g rfl
      go_wp2_with fail
      refine (divl_any wr (w.heap.size + 1) g L.length cp L HR.out.2.1 rfl l1 l2 oL 1000000000 (by omega) (by omega)).mono ?_
      rintro e w2 ⟨rfl, ⟨L1, q1, q2, q3, oL1⟩, hg2⟩
      have oC2 := oC.kept hg2 (Or.inr hne')
      have hb2 : Below w.heap.size w w2 := hbw.grown hg2 (by omega) (by intro k hk; simp at hk; have := (oL.lt g rfl).1; omega)
      have hs2 : w.heap.size + 1 ≤ w2.heap.size := by have := hg2.size; omega
      have hg : g < w2.heap.size := by have := hg2.size; omega
      have hr9 : val L % 1000000000 < 1000000000 := Nat.mod_lt _ (by omega)
      clear hg2 oL oC hbw hne
      generalize hr : val L % 1000000000 = r at *
      go_wp2_with (at_builtin; refine wpList_append_own_at _ rfl _ _ 67 rfl (w.heap.size + 1) 213 i0 (.int .u32 0) 1 4 Tryz.underlying67 hi hz0 hz1 hz2 rfl (by decide) _ _ _ rfl (oC2.alloc _) ⟨w2.heap.size, 0, none⟩ 1 1 [.int .u32 (r : Int)] rfl rfl (by intro j u hu; match j, hu with | 0, hu => simp at hu; subst hu; simp [Addr.add]) (by intro u hu; simp at hu; subst hu; rfl) (by unfold maxLen; omega) (by omega) (by simp; omega) ?_)
      intro v' w3 oC3 hg3 hnil hat
      have hb3 : Below w.heap.size w w3 := (below_alloc' hb2 (Nat.le_refl _) _).grown hg3 (by have := hb2.size; simp; omega) (fun q hq => by have := (oC2.lt q hq).1; omega)
      have oL3 := (oL1.alloc (Obj.cells #[Value.int .u32 (r : Int)] 213)).kept hg3 (Or.inr (by simp only [Value.ownBlock]; exact fun h => hne' h.symm))
      have hs3 : w.heap.size + 1 ≤ w3.heap.size := by have := hg3.size; simp at this; omega
      have oC4 : w3.ownsRow (w.heap.size + 1) 213 1 v' (C ++ [r]).length (u32s (C ++ [r])) := by simpa [u32s] using oC3
      have hne3 : v'.ownBlock ≠ some g := by
        rcases hat with h | h
        · rw [h]; exact hne'
        · rw [h]; simp; omega
      have hlen := lenOf_owns oC4
      have HE := hid (And.intro hne3 hlen)
      clear oC2 oC3 hg3 hnil hat oL1 hb2 hne' hne3 hlen
      have Q := hid (And.intro q1 (And.intro q2 q3))
      clear q1 q2 q3
      go_wp2_with fail
      rw [show L.length = L1.length from Q.out.1.symm] at oL3 ⊢
      refine (trim_keep w3 (w.heap.size + 1) g cp L1 Q.out.2.1 oL3).mono ?_
      rintro e w4 ⟨⟨ao', c', M, rfl, ha', oM, bM, tM, vM, lM⟩, rfl⟩
      have HR2 := hid (HR.out.step hv bM tM (by rw [vM]; exact Q.out.2.2))
      rw [hr] at HR2
      have HM := hid (show M.length ≤ 1000000000 from by have := Q.out.1; omega)
      have HG := hid (show ∀ g', ao' = some ⟨g', 0, none⟩ → v'.ownBlock ≠ some g' from fun g' hg' => by
        rcases ha' with h | h
        · rw [h] at hg'; simp at hg'
        · rw [h] at hg'; simp at hg'; rw [← hg']; exact HE.out.1)
      clear vM lM ha' hr
      go_wp2
      go_roundw
      case rel => exact ⟨C ++ [r], M, ao', c', rfl, HR2.out, HM.out, oC4, oM, HG.out, hb3, hs3⟩
      case measure => 
        have e1 := HE.out.2
        have e2 := HLen.out
        simp at e1 ⊢
        rw [e1, e2]; omega
    · have hl0 : L.length = 0 := by omega
      have hL0 : L = [] := List.eq_nil_of_length_eq_zero hl0
      have hfin : R.Bd C ∧ Top C ∧ R.val C = m ∧ C.length ≤ N := by
        obtain ⟨h1, h2, h3, h4, h5⟩ := HR.out
        have hz : val L = 0 := by rw [hL0]; rfl
        rw [hz, Nat.zero_mul, Nat.add_zero] at h4
        refine ⟨h1, h5 hz, h4.symm, ?_⟩
        rcases Nat.lt_or_ge N C.length with e | e
        · exfalso
          have t := h5 hz (by omega)
          have p : 1000000000 ^ N ≤ 1000000000 ^ (C.length - 1) := Nat.pow_le_pow_right (by omega) (by omega)
          have q : R.pv C C.length = R.pv C (C.length - 1) + lg C (C.length - 1) * 1000000000 ^ (C.length - 1) := by
            obtain ⟨c, hc⟩ : ∃ c, C.length = c + 1 := ⟨C.length - 1, by omega⟩
            rw [hc]; rfl
          have r' : 1 * 1000000000 ^ (C.length - 1) ≤ lg C (C.length - 1) * 1000000000 ^ (C.length - 1) := Nat.mul_le_mul_right _ (by omega)
          have := HN.out
          omega
        · exact e
      have HFin := hid hfin
      clear hfin hL0 hl0
      obtain ⟨ac, cc, hvc⟩ := Limbs.slice (ownsRow_base0 oC)
      have hl0' : ((L.length : Nat) : Int) ≤ 0 := by omega
      go_wp2
      go_ret
      exact ⟨⟨_, C, rfl, own_down oC (by omega), HFin.out.1, HFin.out.2.1, HFin.out.2.2.1, HFin.out.2.2.2⟩, hbw⟩
end Go.Proofs.YtcdkoadobdgbhaaGreatDoor
