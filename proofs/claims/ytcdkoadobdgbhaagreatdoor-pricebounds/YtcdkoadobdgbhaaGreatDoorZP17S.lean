/- price: shares. -/
import Derived.Test.YtcdkoadobdgbhaaGreatDoorPk46
import Derived.Test.YtcdkoadobdgbhaaGreatDoorPk44
namespace Go.Proofs.YtcdkoadobdgbhaaGreatDoor
open Go.RowKit
set_option linter.unusedVariables false
set_option maxRecDepth 100000
set_option linter.unusedSimpArgs false

theorem kparts {o : Option TypeInfo} {z : Value} {s b : Nat} (h : o.map (fun i => (i.zero, i.size, i.bytes)) = some (some z, s, b)) : ∃ i, o = some i ∧ i.zero = some z ∧ i.size = s ∧ i.bytes = b := by
  cases o with
  | none => cases h
  | some i =>
    simp only [Option.map_some, Option.some.injEq, Prod.mk.injEq] at h
    exact ⟨i, rfl, h.1, h.2.1, h.2.2⟩
theorem kown_form {w : World} {base size : Nat} {e : TypeId} {v : Value} {n : Nat} {xs : List Value} (h : w.ownsRow base e size v n xs) : ∃ sa sc, v = .slice sa n sc := by
  rcases h.2 with ⟨rfl, rfl⟩ | ⟨g, cap, cur, rfl, _⟩
  · exact ⟨none, 0, rfl⟩
  · exact ⟨_, cap, rfl⟩
abbrev V4 := Value × Value × Value × Value
def shV (x : Sp × V4) : List Value := [.string x.1.who, .int .i64 x.1.seq, .int .i64 x.1.zone, .int .i64 x.1.hour, .bool x.1.buy, .int .i64 x.1.qty, .int .i64 x.1.price, x.2.1, x.2.2.1, x.2.2.2.1, x.2.2.2.2]
def v4 (x : V4) : Value := .agg #[x.1, x.2.1, x.2.2.1, x.2.2.2]
theorem shV_len (x : Sp × V4) : (shV x).length = 11 := rfl
theorem info_share17 : (Tryz.prog.info? 156).map (fun i => (i.zero, i.size, i.bytes)) = some (some (.agg #[.string ByteArray.empty, .int .i64 0, .int .i64 0, .int .i64 0, .bool false, .int .i64 0, .int .i64 0, .slice none 0 0, .bool false, .slice none 0 0, .bool false]), 11, 128) := by kernel_rfl
/-- Steps, and how much of each is taken. -/
structure Shs (w : World) (base : Nat) (v : Value) (D : List (Sp × V4)) (Q : List Rat) : Prop where
  row : Wr shV 11 156 w base v D
  len : Q.length = D.length
  is_ : ∀ i (h1 : i < D.length) (h2 : i < Q.length), QIs w (v4 D[i].2) Q[i] 40
theorem Shs.below {w w' : World} {base : Nat} {v : Value} {D : List (Sp × V4)} {Q : List Rat} (h : Shs w base v D Q) (b : Below w.heap.size w w') : Shs w' base v D Q :=
  ⟨h.row.below b, h.len, fun i h1 h2 => (h.is_ i h1 h2).below b⟩
theorem Shs.none (w : World) (base : Nat) : Shs w base (.slice none 0 0) [] [] := ⟨Wr.none shV_len w base, rfl, fun i h1 h2 => by simp at h2⟩
theorem Shs.push {w w' : World} {base : Nat} {v v' : Value} {D : List (Sp × V4)} {Q : List Rat} (h : Shs w base v D Q) {x : Sp × V4} {q : Rat} (ho : w'.ownsRow base 156 11 v' (D.length + 1) ((D.map shV).flatten ++ shV x)) (hI : ∀ {v : Value} {q : Rat}, QIs w v q 40 → QIs w' v q 40) (hq : QIs w (v4 x.2) q 40) : Shs w' base v' (D ++ [x]) (Q ++ [q]) := by
  refine ⟨h.row.push ho, by simp [h.len], fun i h1 h2 => ?_⟩
  by_cases e : i < D.length
  · have e2 : i < Q.length := by rw [h.len]; exact e
    rw [List.getElem_append_left e, List.getElem_append_left e2]
    exact hI (h.is_ i e e2)
  · have e1 : i = D.length := by rw [List.length_append] at h1; simp at h1; omega
    subst e1
    rw [List.getElem_append_right (Nat.le_refl _), List.getElem_append_right (by rw [h.len]; exact Nat.le_refl _)]
    simp only [Nat.sub_self, List.getElem_cons_zero, h.len]
    exact hI hq
theorem Takes.push {S : List Sp} {Q : List Rat} {k : Nat} {q : Rat} (h : Takes (S.take k) Q) (hk : k < S.length) (h0 : 0 ≤ q) (h1 : q ≤ (S[k].qty : Rat)) : Takes (S.take (k + 1)) (Q ++ [q]) := by
  have hl : Q.length = k := by rw [h.len, List.length_take]; omega
  refine ⟨by rw [List.length_append, hl, List.length_take]; simp; omega, fun i h2 h3 => ?_⟩
  by_cases e : i < k
  · have hi : i < Q.length := by omega
    have hi2 : i < (S.take k).length := by rw [List.length_take]; omega
    have := h.is_ i hi2 hi
    rw [List.getElem_append_left hi]
    simpa using this
  · have e1 : i = k := by rw [List.length_append, hl] at h3; simp at h3; omega
    subst e1
    rw [List.getElem_append_right (by omega)]
    simp only [hl, Nat.sub_self, List.getElem_cons_zero, List.getElem_take]
    exact ⟨h0, h1⟩
theorem takes_no {X : List ByteArray} {S : List Sp} {k : Nat} {q : Rat} (hk : k < X.length) (hs : k < S.length) (hc : CanR X[k] q) (h : ¬ (0 ≤ q ∧ q ≤ (S[k].qty : Rat))) : ¬ ∃ Q, Nums X Q ∧ Takes S Q := fun ⟨Q, hN, hT⟩ => by
  have hq : k < Q.length := by rw [hN.len]; exact hk
  have := hT.is_ k hs hq
  rw [← CanR.inj hc (hN.is_ k hk hq)] at this
  exact h this
theorem sgnR_neg {q : Rat} : sgnR q < 0 ↔ ¬ 0 ≤ q := by
  unfold sgnR
  by_cases h : q < 0
  · rw [if_pos h]; exact ⟨fun _ => Rat.not_le.2 h, fun _ => by decide⟩
  · rw [if_neg h]
    refine ⟨fun k => ?_, fun k => absurd (Rat.not_le.1 k) h⟩
    split at k <;> omega
theorem cmpR_pos {p q : Rat} : 0 < cmpR p q ↔ ¬ p ≤ q := by
  unfold cmpR
  by_cases h : p < q
  · rw [if_pos h]; exact ⟨fun k => by omega, fun k => absurd (Rat.le_of_lt h) k⟩
  · rw [if_neg h]
    by_cases h2 : q < p
    · rw [if_pos h2]; exact ⟨fun _ => Rat.not_le.2 h2, fun _ => by decide⟩
    · rw [if_neg h2]; exact ⟨fun k => by omega, fun k => absurd (Rat.not_lt.1 h2) k⟩
set_option maxHeartbeats 12800000 in
theorem shares_any (w : World) (sv xv : Value) (S : List Sp) (X : List ByteArray) (hs : Sps w sv S) (hx : Strs w xv X) (hsz : ∀ s ∈ X, s.size ≤ 256) (hq64 : ∀ s ∈ S, In64 s.qty) (hS : S.length ≤ 1000) (hmx : Mx w) (htab : Tab w) :
    Calls Tryz.prog 61 #[sv, xv] w fun e w' =>
      ((∃ Q v D, Nums X Q ∧ Takes S Q ∧ e = .returned (.tuple #[v, .bool true]) ∧ Shs w' w.heap.size v D Q ∧ D.map Prod.fst = S) ∨ ((¬ ∃ Q, Nums X Q ∧ Takes S Q) ∧ e = .returned (.tuple #[.slice none 0 0, .bool false]))) ∧ Below w.heap.size w w' := by
  obtain ⟨i0, hi0, iz0, iz1, iz2⟩ := kparts info_share17
  obtain ⟨sa, sc, rfl, sl, sm⟩ := hs.slice
  obtain ⟨xa, xc, rfl, xl, xm⟩ := hx.slice
  unfold maxLen at sm xm
  have HS := hid hs
  have HX := hid hx
  have HSZ := hid hsz
  have HQ64 := hid hq64
  have HMX := hid hmx
  have HTAB := hid htab
  clear hs hx hsz hq64 hmx htab
  by_cases hlen : X.length = S.length
  case neg =>
    have hne : ((X.length : Int) != (S.length : Int)) = true := by simp; omega
    have hne2 : (X.length != S.length) = true := by simp; omega
    have hne3 : ((X.length : Int) == (S.length : Int)) = false := by simp; omega
    have hne4 : (X.length == S.length) = false := by simp; omega
    have HNO := hid (show ¬ ∃ Q, Nums X Q ∧ Takes S Q from fun ⟨Q, h1, h2⟩ => hlen (by rw [← h1.len, h2.len]))
    go_enter Tryz.func61, Tryz.ntmps61
    go_wp2_with fail
    go_ret2
    exact ⟨Or.inr ⟨HNO.out, rfl⟩, Below.refl _ _⟩
  have hne : ((X.length : Int) != (S.length : Int)) = false := by simp [hlen]
  have hne2 : (X.length != S.length) = false := by simp [hlen]
  have hne3 : ((X.length : Int) == (S.length : Int)) = true := by simp [hlen]
  have hne4 : (X.length == S.length) = true := by simp [hlen]
  have HLEN := hid hlen
  clear hlen
  go_enter Tryz.func61, Tryz.ntmps61
  go_wp2_with fail
  clear hne hne2 hne3 hne4
  go_loopw [6, 18] (fun l i wr => ∃ (k : Nat) (D : List (Sp × V4)) (Q : List Rat), k ≤ S.length ∧ i = .int .i64 (k : Int) ∧ Hid (Nums (X.take k) Q) ∧ Hid (Takes (S.take k) Q) ∧ Hid (D.map Prod.fst = S.take k) ∧ Hid (Shs wr w.heap.size l D Q) ∧ Hid (Below w.heap.size w wr)) (fun _ i _ => S.length - (intOf i).toNat)
  case atStart => exact ⟨0, [], [], Nat.zero_le _, rfl, Nums.nil, hid ⟨rfl, fun i h1 h2 => by simp at h2⟩, hid rfl, Shs.none w _, hid (Below.refl _ _)⟩
  case round =>
    obtain ⟨k, D, Q, hk, rfl, HNU, HTK, HMP, HSH, HBW⟩ := hrel
    obtain ⟨ra, rc, rfl⟩ := kown_form HSH.out.row.own
    have HDL := hid (show D.length = k by have := congrArg List.length HMP.out; rw [List.length_map, List.length_take] at this; omega)
    by_cases hlt : k < S.length
    · have HXK := hid (show k < X.length by rw [HLEN.out]; exact hlt)
      obtain ⟨sb, so, sc', e, g0, g1, g2, g3, g4, g5, g6⟩ := (HS.out.below HBW.out).at k hlt
      simp only [Value.slice.injEq] at e
      obtain ⟨rfl, -, rfl⟩ := e
      obtain ⟨tb, toff, tcp, te, _, _, hc, _⟩ := (HX.out.below HBW.out).at k HXK.out
      simp only [Value.slice.injEq] at te
      obtain ⟨rfl, -, rfl⟩ := te
      have HZ := hid (HSZ.out _ (List.getElem_mem HXK.out))
      have HQT := hid (HQ64.out _ (List.getElem_mem hlt))
      have HNM := hid (fun q (hq : CanR X[k] q) => HNU.out.push HXK.out hq)
      have HNN := hid (fun (hno : ∀ q, ¬ CanR X[k] q) => (fun ⟨P, h1, _⟩ => nums_no HXK.out hno ⟨P, h1⟩ : ¬ ∃ Q, Nums X Q ∧ Takes S Q))
      have HNT := hid (fun q (hq : CanR X[k] q) (h : ¬ (0 ≤ q ∧ q ≤ (S[k].qty : Rat))) => takes_no HXK.out hlt hq h)
      have HTP := hid (fun q (h0 : 0 ≤ q) (h1 : q ≤ (S[k].qty : Rat)) => HTK.out.push hlt h0 h1)
      have HT1 := hid (List.take_succ_eq_append_getElem hlt)
      have hk64 : k < 9223372036854775807 := by omega
      have hli : (0 : Int) ≤ (k : Int) ∧ (k : Int) < (S.length : Int) := by omega
      have hlx : (k : Int) < (X.length : Int) := by have := HXK.out; omega
      have hD64 : D.length ≤ 1000 := by rw [HDL.out]; omega
      generalize S[k] = s at *
      generalize X[k] = t at *
      have bS := ibel wr (Obj.cells #[.string s.who, .int .i64 s.seq, .int .i64 s.zone, .int .i64 s.hour, .bool s.buy, .int .i64 s.qty, .int .i64 s.price] 27)
      have xS := inew wr (Obj.cells #[.string s.who, .int .i64 s.seq, .int .i64 s.zone, .int .i64 s.hour, .bool s.buy, .int .i64 s.qty, .int .i64 s.price] 27)
      have HTC := hid (ikc bS hc)
      have u0 := ibx xS 0 _ rfl
      have u1 := ibx xS 1 _ rfl
      have u2 := ibx xS 2 _ rfl
      have u3 := ibx xS 3 _ rfl
      have u4 := ibx xS 4 _ rfl
      have u5 := ibx xS 5 _ rfl
      have u6 := ibx xS 6 _ rfl
      have HBS := hid (HBW.out.trans (bS.mono HBW.out.size))
      have hcc := HTC.out
      clear hc xS
      go_wp2_with fail
      have HPA := hid (q_parse t (wr.alloc (Obj.cells #[.string s.who, .int .i64 s.seq, .int .i64 s.zone, .int .i64 s.hour, .bool s.buy, .int .i64 s.qty, .int .i64 s.price] 27)) (by have := HZ.out; omega) (HMX.out.below HBS.out) (HTAB.out.below HBS.out))
      refine HPA.out.mono ?_
      rintro e Y1 ⟨hr, bY1⟩
      clear HPA hcc g0 g1 g2 g3 g4 g5 g6
      rcases hr with ⟨q, v, hcan, rfl, hq⟩ | ⟨hno, rfl⟩
      · obtain ⟨s1, s2, s3, s4, s5, s6, s7, s8, rfl⟩ := hq.form
        replace hq := hq.mono (show t.size / 9 + 8 ≤ 40 by have := HZ.out; omega)
        have HCN := hid hcan
        clear hcan
        have bA := ibel Y1 (Obj.cells #[.slice s1 s2 s3, .bool s4, .slice s5 s6 s7, .bool s8] 73)
        have xA := inew Y1 (Obj.cells #[.slice s1 s2 s3, .bool s4, .slice s5 s6 s7, .bool s8] 73)
        have bY := chain2 bS bY1
        have bYA := chain2 bY bA
        have HBY := hid bYA
        have HBA2 := hid bA
        have HQI := hid (hq.below bA)
        have HC := hid (fun (Y : World) (b : Below (Y1.alloc (Obj.cells #[.slice s1 s2 s3, .bool s4, .slice s5 s6 s7, .bool s8] 73)).heap.size (Y1.alloc (Obj.cells #[.slice s1 s2 s3, .bool s4, .slice s5 s6 s7, .bool s8] 73)) Y) => (⟨ikc b (ikc bA (ikc bY1 u5)), ikc b (ibx xA 0 _ rfl), ikc b (ibx xA 1 _ rfl), ikc b (ibx xA 2 _ rfl), ikc b (ibx xA 3 _ rfl)⟩ : Y.cell? ⟨wr.heap.size, 5, none⟩ = some (.int .i64 s.qty) ∧ Y.cell? ⟨Y1.heap.size, 0, none⟩ = some (.slice s1 s2 s3) ∧ Y.cell? ⟨Y1.heap.size, 1, none⟩ = some (.bool s4) ∧ Y.cell? ⟨Y1.heap.size, 2, none⟩ = some (.slice s5 s6 s7) ∧ Y.cell? ⟨Y1.heap.size, 3, none⟩ = some (.bool s8)))

        have HU := hid (⟨u0, u1, u2, u3, u4, u5, u6⟩ : ((wr.alloc (Obj.cells #[.string s.who, .int .i64 s.seq, .int .i64 s.zone, .int .i64 s.hour, .bool s.buy, .int .i64 s.qty, .int .i64 s.price] 27)).cell? ⟨wr.heap.size, 0, none⟩ = some (.string s.who) ∧ (wr.alloc (Obj.cells #[.string s.who, .int .i64 s.seq, .int .i64 s.zone, .int .i64 s.hour, .bool s.buy, .int .i64 s.qty, .int .i64 s.price] 27)).cell? ⟨wr.heap.size, 1, none⟩ = some (.int .i64 s.seq) ∧ (wr.alloc (Obj.cells #[.string s.who, .int .i64 s.seq, .int .i64 s.zone, .int .i64 s.hour, .bool s.buy, .int .i64 s.qty, .int .i64 s.price] 27)).cell? ⟨wr.heap.size, 2, none⟩ = some (.int .i64 s.zone) ∧ (wr.alloc (Obj.cells #[.string s.who, .int .i64 s.seq, .int .i64 s.zone, .int .i64 s.hour, .bool s.buy, .int .i64 s.qty, .int .i64 s.price] 27)).cell? ⟨wr.heap.size, 3, none⟩ = some (.int .i64 s.hour) ∧ (wr.alloc (Obj.cells #[.string s.who, .int .i64 s.seq, .int .i64 s.zone, .int .i64 s.hour, .bool s.buy, .int .i64 s.qty, .int .i64 s.price] 27)).cell? ⟨wr.heap.size, 4, none⟩ = some (.bool s.buy) ∧ (wr.alloc (Obj.cells #[.string s.who, .int .i64 s.seq, .int .i64 s.zone, .int .i64 s.hour, .bool s.buy, .int .i64 s.qty, .int .i64 s.price] 27)).cell? ⟨wr.heap.size, 5, none⟩ = some (.int .i64 s.qty) ∧ (wr.alloc (Obj.cells #[.string s.who, .int .i64 s.seq, .int .i64 s.zone, .int .i64 s.hour, .bool s.buy, .int .i64 s.qty, .int .i64 s.price] 27)).cell? ⟨wr.heap.size, 6, none⟩ = some (.int .i64 s.price)))
        have HBYY := hid bY1
        clear u0 u1 u2 u3 u4 u5 u6 xA bYA bY bA bS hq bY1
        have HBWA := hid (HBW.out.trans (HBY.out.mono HBW.out.size))
        generalize HW1 : wr.alloc (Obj.cells #[.string s.who, .int .i64 s.seq, .int .i64 s.zone, .int .i64 s.hour, .bool s.buy, .int .i64 s.qty, .int .i64 s.price] 27) = W1 at *
        clear HW1
        go_wp2_with (first | (refine wpList_store_fresh rfl 73 _ _ rfl _ _ _ rfl (by simp) rfl 4 info_Rat (by rfl) (by rfl) (by simp [Value.oneCell']) ?_) | fail)
        generalize HW2 : Y1.alloc (Obj.cells #[.slice s1 s2 s3, .bool s4, .slice s5 s6 s7, .bool s8] 73) = W2 at *
        clear HW2
        have F0 : Below W2.heap.size W2 W2.drew := (Below.refl _ _).drew
        have HSG := hid (sgnR_neg (q := q))
        have HCM := hid (cmpR_pos (p := q) (q := (s.qty : Rat)))
        obtain ⟨sg, HSGE⟩ : ∃ z, Hid (sgnR q = z) := ⟨_, hid rfl⟩
        obtain ⟨cm, HCME⟩ : ∃ z, Hid (cmpR q (s.qty : Rat) = z) := ⟨_, hid rfl⟩
        have hsgr := HSGE.out
        have hcmr := HCME.out
        by_cases h1 : sg < 0
        · have h1' : decide (sg < 0) = true := decide_eq_true h1
          have HNO := hid (HNT.out q HCN.out (fun hh => HSG.out.1 (by rw [hsgr]; exact h1) hh.1))
          go_wp2_with fail
          refine wp_region_noPanic ?_
          refine wp_region_held_drew (S := fun Y => Y.cell? ⟨wr.heap.size, 5, none⟩ = some (.int .i64 s.qty) ∧ Y.cell? ⟨Y1.heap.size, 0, none⟩ = some (.slice s1 s2 s3) ∧ Y.cell? ⟨Y1.heap.size, 1, none⟩ = some (.bool s4) ∧ Y.cell? ⟨Y1.heap.size, 2, none⟩ = some (.slice s5 s6 s7) ∧ Y.cell? ⟨Y1.heap.size, 3, none⟩ = some (.bool s8)) (by kernel_rfl) (HC.out _ F0) (fun hHeld => ?_)
          refine wpAnyH_take (i := 0) (v := ?_) rfl (by kernel_rfl) (by kernel_rfl) (by kernel_rfl) (fun _ _ _ h => h) (Or.inl ⟨by rfl, ?_⟩) (by assumption) ?_
          rotate_left
          · intro w hSw
            (try dsimp only at hSw)
            go_simp
            (try with_reducible rfl)
          (try simp only [List.getElem_toArray, List.getElem_cons_zero, List.getElem_cons_succ, Act.put, List.setIfInBounds_toArray, List.set_cons_zero, List.set_cons_succ])
          refine wpAnyH_take (i := 1) (v := ?_) rfl (by kernel_rfl) (by kernel_rfl) (by kernel_rfl) (fun _ _ _ h => h) (Or.inl ⟨by rfl, ?_⟩) (by assumption) ?_
          rotate_left
          · intro w hSw
            (try dsimp only at hSw)
            go_simp
            (try with_reducible rfl)
          (try simp only [List.getElem_toArray, List.getElem_cons_zero, List.getElem_cons_succ, Act.put, List.setIfInBounds_toArray, List.set_cons_zero, List.set_cons_succ])
          refine wpAnyH_take (i := 2) (v := ?_) rfl (by kernel_rfl) (by kernel_rfl) (by kernel_rfl) (fun _ _ _ h => h) (Or.inl ⟨by rfl, ?_⟩) (by assumption) ?_
          rotate_left
          · intro w hSw
            (try dsimp only at hSw)
            go_simp
            (try with_reducible rfl)
          (try simp only [List.getElem_toArray, List.getElem_cons_zero, List.getElem_cons_succ, Act.put, List.setIfInBounds_toArray, List.set_cons_zero, List.set_cons_succ])
          refine wpAnyH_take (i := 3) (v := ?_) rfl (by kernel_rfl) (by kernel_rfl) (by kernel_rfl) (fun _ _ _ h => h) (Or.inl ⟨by rfl, ?_⟩) (by assumption) ?_
          rotate_left
          · intro w hSw
            (try dsimp only at hSw)
            go_simp
            (try with_reducible rfl)
          (try simp only [List.getElem_toArray, List.getElem_cons_zero, List.getElem_cons_succ, Act.put, List.setIfInBounds_toArray, List.set_cons_zero, List.set_cons_succ])
          refine wpAnyH_ready (rs := [4]) (by kernel_rfl) (by simp) ?_
          refine AllReadyH.cons (o := _) rfl (fun Kc hKc => ?_) AllReadyH.nil
          go_simp
          go_at_call 90
          refine (q_sign _ _ q 40 (by decide) (HQI.out.below F0)).mono ?_
          rintro e w' ⟨he, hb⟩
          rw [hsgr] at he
          subst he
          have F1 := chain2 F0 hb
          dsimp only
          refine hKc.out _ _ (HC.out _ F1) (fun hHeld => ?_)
          clear hKc Kc
          (try simp only [List.getElem_toArray, List.getElem_cons_zero, List.getElem_cons_succ, Act.put, List.setIfInBounds_toArray, List.set_cons_zero, List.set_cons_succ])
          refine wpAnyH_take (i := 5) (v := ?_) rfl (by kernel_rfl) (by kernel_rfl) (by kernel_rfl) (fun _ _ _ h => h) (Or.inl ⟨by rfl, ?_⟩) (by assumption) ?_
          rotate_left
          · intro w hSw
            (try dsimp only at hSw)
            go_simp
            (try with_reducible rfl)
          (try simp only [List.getElem_toArray, List.getElem_cons_zero, List.getElem_cons_succ, Act.put, List.setIfInBounds_toArray, List.set_cons_zero, List.set_cons_succ])
          refine wpAnyH_take (i := 6) (v := ?_) rfl (by kernel_rfl) (by kernel_rfl) (by kernel_rfl) (fun _ _ _ h => h) (Or.inl ⟨by rfl, ?_⟩) (by assumption) ?_
          rotate_left
          · intro w hSw
            (try dsimp only at hSw)
            go_simp
            (try with_reducible rfl)
          (try simp only [List.getElem_toArray, List.getElem_cons_zero, List.getElem_cons_succ, Act.put, List.setIfInBounds_toArray, List.set_cons_zero, List.set_cons_succ])
          refine wpAnyH_take (i := 7) (v := ?_) rfl (by kernel_rfl) (by kernel_rfl) (by kernel_rfl) (fun _ _ _ h => h) (Or.inl ⟨by rfl, ?_⟩) (by assumption) ?_
          rotate_left
          · intro w hSw
            (try dsimp only at hSw)
            go_simp
            (try with_reducible rfl)
          (try simp only [List.getElem_toArray, List.getElem_cons_zero, List.getElem_cons_succ, Act.put, List.setIfInBounds_toArray, List.set_cons_zero, List.set_cons_succ])
          refine wpAnyH_take (i := 8) (v := undef) rfl (by kernel_rfl) (by kernel_rfl) (by kernel_rfl) (fun _ _ _ h => h) (Or.inr ⟨by rfl, rfl⟩) (by assumption) ?_
          (try simp only [List.getElem_toArray, List.getElem_cons_zero, List.getElem_cons_succ, Act.put, List.setIfInBounds_toArray, List.set_cons_zero, List.set_cons_succ])
          refine wpAnyH_take (i := 9) (v := undef) rfl (by kernel_rfl) (by kernel_rfl) (by kernel_rfl) (fun _ _ _ h => h) (Or.inr ⟨by rfl, rfl⟩) (by assumption) ?_
          (try simp only [List.getElem_toArray, List.getElem_cons_zero, List.getElem_cons_succ, Act.put, List.setIfInBounds_toArray, List.set_cons_zero, List.set_cons_succ])
          refine wpAnyH_take (i := 10) (v := undef) rfl (by kernel_rfl) (by kernel_rfl) (by kernel_rfl) (fun _ _ _ h => h) (Or.inr ⟨by rfl, rfl⟩) (by assumption) ?_
          (try simp only [List.getElem_toArray, List.getElem_cons_zero, List.getElem_cons_succ, Act.put, List.setIfInBounds_toArray, List.set_cons_zero, List.set_cons_succ])
          refine wpAnyH_take (i := 11) (v := undef) rfl (by kernel_rfl) (by kernel_rfl) (by kernel_rfl) (fun _ _ _ h => h) (Or.inr ⟨by rfl, rfl⟩) (by assumption) ?_
          (try simp only [List.getElem_toArray, List.getElem_cons_zero, List.getElem_cons_succ, Act.put, List.setIfInBounds_toArray, List.set_cons_zero, List.set_cons_succ])
          refine wpAnyH_take (i := 12) (v := undef) rfl (by kernel_rfl) (by kernel_rfl) (by kernel_rfl) (fun _ _ _ h => h) (Or.inr ⟨by rfl, rfl⟩) (by assumption) ?_
          (try simp only [List.getElem_toArray, List.getElem_cons_zero, List.getElem_cons_succ, Act.put, List.setIfInBounds_toArray, List.set_cons_zero, List.set_cons_succ])
          refine wpAnyH_take (i := 13) (v := undef) rfl (by kernel_rfl) (by kernel_rfl) (by kernel_rfl) (fun _ _ _ h => h) (Or.inr ⟨by rfl, rfl⟩) (by assumption) ?_
          (try simp only [List.getElem_toArray, List.getElem_cons_zero, List.getElem_cons_succ, Act.put, List.setIfInBounds_toArray, List.set_cons_zero, List.set_cons_succ])
          refine wpAnyH_take (i := 14) (v := ?_) rfl (by kernel_rfl) (by kernel_rfl) (by kernel_rfl) (fun _ _ _ h => h) (Or.inl ⟨by rfl, ?_⟩) (by assumption) ?_
          rotate_left
          · intro w hSw
            (try dsimp only at hSw)
            go_simp
            (try with_reducible rfl)
          (try simp only [List.getElem_toArray, List.getElem_cons_zero, List.getElem_cons_succ, Act.put, List.setIfInBounds_toArray, List.set_cons_zero, List.set_cons_succ])
          refine wpAnyH_done (by kernel_rfl) ?_ _
          refine NoPanic.normal ?_

          have HBF := hid (HBWA.out.trans (F1.mono HBWA.out.size))
          go_wp2_with fail
          go_ret2
          exact ⟨Or.inr ⟨HNO.out, rfl⟩, HBF.out⟩
        · have h1' : decide (sg < 0) = false := decide_eq_false h1
          have H0 := hid (show 0 ≤ q from Decidable.byContradiction (fun hh => h1 (by rw [← hsgr]; exact HSG.out.2 hh)))
          by_cases h2 : 0 < cm
          · have h2' : decide (0 < cm) = true := decide_eq_true h2
            have HNO := hid (HNT.out q HCN.out (fun hh => HCM.out.1 (by rw [hcmr]; exact h2) hh.2))
            go_wp2_with fail
            refine wp_region_noPanic ?_
            refine wp_region_held_drew (S := fun Y => Y.cell? ⟨wr.heap.size, 5, none⟩ = some (.int .i64 s.qty) ∧ Y.cell? ⟨Y1.heap.size, 0, none⟩ = some (.slice s1 s2 s3) ∧ Y.cell? ⟨Y1.heap.size, 1, none⟩ = some (.bool s4) ∧ Y.cell? ⟨Y1.heap.size, 2, none⟩ = some (.slice s5 s6 s7) ∧ Y.cell? ⟨Y1.heap.size, 3, none⟩ = some (.bool s8)) (by kernel_rfl) (HC.out _ F0) (fun hHeld => ?_)
            refine wpAnyH_take (i := 0) (v := ?_) rfl (by kernel_rfl) (by kernel_rfl) (by kernel_rfl) (fun _ _ _ h => h) (Or.inl ⟨by rfl, ?_⟩) (by assumption) ?_
            rotate_left
            · intro w hSw
              (try dsimp only at hSw)
              go_simp
              (try with_reducible rfl)
            (try simp only [List.getElem_toArray, List.getElem_cons_zero, List.getElem_cons_succ, Act.put, List.setIfInBounds_toArray, List.set_cons_zero, List.set_cons_succ])
            refine wpAnyH_take (i := 1) (v := ?_) rfl (by kernel_rfl) (by kernel_rfl) (by kernel_rfl) (fun _ _ _ h => h) (Or.inl ⟨by rfl, ?_⟩) (by assumption) ?_
            rotate_left
            · intro w hSw
              (try dsimp only at hSw)
              go_simp
              (try with_reducible rfl)
            (try simp only [List.getElem_toArray, List.getElem_cons_zero, List.getElem_cons_succ, Act.put, List.setIfInBounds_toArray, List.set_cons_zero, List.set_cons_succ])
            refine wpAnyH_take (i := 2) (v := ?_) rfl (by kernel_rfl) (by kernel_rfl) (by kernel_rfl) (fun _ _ _ h => h) (Or.inl ⟨by rfl, ?_⟩) (by assumption) ?_
            rotate_left
            · intro w hSw
              (try dsimp only at hSw)
              go_simp
              (try with_reducible rfl)
            (try simp only [List.getElem_toArray, List.getElem_cons_zero, List.getElem_cons_succ, Act.put, List.setIfInBounds_toArray, List.set_cons_zero, List.set_cons_succ])
            refine wpAnyH_take (i := 3) (v := ?_) rfl (by kernel_rfl) (by kernel_rfl) (by kernel_rfl) (fun _ _ _ h => h) (Or.inl ⟨by rfl, ?_⟩) (by assumption) ?_
            rotate_left
            · intro w hSw
              (try dsimp only at hSw)
              go_simp
              (try with_reducible rfl)
            (try simp only [List.getElem_toArray, List.getElem_cons_zero, List.getElem_cons_succ, Act.put, List.setIfInBounds_toArray, List.set_cons_zero, List.set_cons_succ])
            refine wpAnyH_ready (rs := [4]) (by kernel_rfl) (by simp) ?_
            refine AllReadyH.cons (o := _) rfl (fun Kc hKc => ?_) AllReadyH.nil
            go_simp
            go_at_call 90
            refine (q_sign _ _ q 40 (by decide) (HQI.out.below F0)).mono ?_
            rintro e w' ⟨he, hb⟩
            rw [hsgr] at he
            subst he
            have F1 := chain2 F0 hb
            dsimp only
            refine hKc.out _ _ (HC.out _ F1) (fun hHeld => ?_)
            clear hKc Kc
            (try simp only [List.getElem_toArray, List.getElem_cons_zero, List.getElem_cons_succ, Act.put, List.setIfInBounds_toArray, List.set_cons_zero, List.set_cons_succ])
            refine wpAnyH_take (i := 5) (v := ?_) rfl (by kernel_rfl) (by kernel_rfl) (by kernel_rfl) (fun _ _ _ h => h) (Or.inl ⟨by rfl, ?_⟩) (by assumption) ?_
            rotate_left
            · intro w hSw
              (try dsimp only at hSw)
              go_simp
              (try with_reducible rfl)
            (try simp only [List.getElem_toArray, List.getElem_cons_zero, List.getElem_cons_succ, Act.put, List.setIfInBounds_toArray, List.set_cons_zero, List.set_cons_succ])
            refine wpAnyH_take (i := 6) (v := ?_) rfl (by kernel_rfl) (by kernel_rfl) (by kernel_rfl) (fun _ _ _ h => h) (Or.inl ⟨by rfl, ?_⟩) (by assumption) ?_
            rotate_left
            · intro w hSw
              (try dsimp only at hSw)
              go_simp
              (try with_reducible rfl)
            (try simp only [List.getElem_toArray, List.getElem_cons_zero, List.getElem_cons_succ, Act.put, List.setIfInBounds_toArray, List.set_cons_zero, List.set_cons_succ])
            refine wpAnyH_take (i := 7) (v := ?_) rfl (by kernel_rfl) (by kernel_rfl) (by kernel_rfl) (fun _ _ _ h => h) (Or.inl ⟨by rfl, ?_⟩) (by assumption) ?_
            rotate_left
            · intro w hSw
              (try dsimp only at hSw)
              go_simp
              (try with_reducible rfl)
            (try simp only [List.getElem_toArray, List.getElem_cons_zero, List.getElem_cons_succ, Act.put, List.setIfInBounds_toArray, List.set_cons_zero, List.set_cons_succ])
            refine wpAnyH_take (i := 8) (v := ?_) rfl (by kernel_rfl) (by kernel_rfl) (by kernel_rfl) (fun _ _ _ h => h) (Or.inl ⟨by rfl, ?_⟩) (by assumption) ?_
            rotate_left
            · intro w hSw
              (try dsimp only at hSw)
              go_simp
              (try with_reducible rfl)
            (try simp only [List.getElem_toArray, List.getElem_cons_zero, List.getElem_cons_succ, Act.put, List.setIfInBounds_toArray, List.set_cons_zero, List.set_cons_succ])
            refine wpAnyH_take (i := 9) (v := ?_) rfl (by kernel_rfl) (by kernel_rfl) (by kernel_rfl) (fun _ _ _ h => h) (Or.inl ⟨by rfl, ?_⟩) (by assumption) ?_
            rotate_left
            · intro w hSw
              (try dsimp only at hSw)
              go_simp
              (try with_reducible rfl)
            (try simp only [List.getElem_toArray, List.getElem_cons_zero, List.getElem_cons_succ, Act.put, List.setIfInBounds_toArray, List.set_cons_zero, List.set_cons_succ])
            refine wpAnyH_take (i := 10) (v := ?_) rfl (by kernel_rfl) (by kernel_rfl) (by kernel_rfl) (fun _ _ _ h => h) (Or.inl ⟨by rfl, ?_⟩) (by assumption) ?_
            rotate_left
            · intro w hSw
              (try dsimp only at hSw)
              go_simp
              (try with_reducible rfl)
            (try simp only [List.getElem_toArray, List.getElem_cons_zero, List.getElem_cons_succ, Act.put, List.setIfInBounds_toArray, List.set_cons_zero, List.set_cons_succ])
            refine wpAnyH_ready (rs := [11]) (by kernel_rfl) (by simp) ?_
            refine AllReadyH.cons (o := _) rfl (fun Kc hKc => ?_) AllReadyH.nil
            go_simp
            go_at_call 84
            refine (q_of _ s.qty HQT.out.1 HQT.out.2).mono ?_
            rintro e w' ⟨v1, rfl, nv1, hb⟩
            have F2 := chain2 F1 hb
            replace nv1 := nv1.mono (show 2 ≤ 40 by decide)
            dsimp only
            refine hKc.out _ _ (HC.out _ F2) (fun hHeld => ?_)
            clear hKc Kc
            (try simp only [List.getElem_toArray, List.getElem_cons_zero, List.getElem_cons_succ, Act.put, List.setIfInBounds_toArray, List.set_cons_zero, List.set_cons_succ])
            refine wpAnyH_ready (rs := [12]) (by kernel_rfl) (by simp) ?_
            refine AllReadyH.cons (o := _) rfl (fun Kc hKc => ?_) AllReadyH.nil
            go_simp
            go_at_call 92
            refine (q_cmp _ _ _ q (s.qty : Rat) 40 (by decide) (HQI.out.below F2) nv1).mono ?_
            rintro e w' ⟨he, hb⟩
            rw [hcmr] at he
            subst he
            have F3 := chain2 F2 hb
            dsimp only
            refine hKc.out _ _ (HC.out _ F3) (fun hHeld => ?_)
            clear hKc Kc
            (try simp only [List.getElem_toArray, List.getElem_cons_zero, List.getElem_cons_succ, Act.put, List.setIfInBounds_toArray, List.set_cons_zero, List.set_cons_succ])
            refine wpAnyH_take (i := 13) (v := ?_) rfl (by kernel_rfl) (by kernel_rfl) (by kernel_rfl) (fun _ _ _ h => h) (Or.inl ⟨by rfl, ?_⟩) (by assumption) ?_
            rotate_left
            · intro w hSw
              (try dsimp only at hSw)
              go_simp
              (try with_reducible rfl)
            (try simp only [List.getElem_toArray, List.getElem_cons_zero, List.getElem_cons_succ, Act.put, List.setIfInBounds_toArray, List.set_cons_zero, List.set_cons_succ])
            refine wpAnyH_take (i := 14) (v := ?_) rfl (by kernel_rfl) (by kernel_rfl) (by kernel_rfl) (fun _ _ _ h => h) (Or.inl ⟨by rfl, ?_⟩) (by assumption) ?_
            rotate_left
            · intro w hSw
              (try dsimp only at hSw)
              go_simp
              (try with_reducible rfl)
            (try simp only [List.getElem_toArray, List.getElem_cons_zero, List.getElem_cons_succ, Act.put, List.setIfInBounds_toArray, List.set_cons_zero, List.set_cons_succ])
            refine wpAnyH_done (by kernel_rfl) ?_ _
            refine NoPanic.normal ?_

            have HBF := hid (HBWA.out.trans (F3.mono HBWA.out.size))
            go_wp2_with fail
            go_ret2
            exact ⟨Or.inr ⟨HNO.out, rfl⟩, HBF.out⟩
          · have h2' : decide (0 < cm) = false := decide_eq_false h2
            have HTY := hid (HTP.out q H0.out (Decidable.byContradiction (fun hh => h2 (by rw [← hcmr]; exact HCM.out.2 hh))))
            have HNY := hid (HNM.out q HCN.out)
            go_wp2_with fail
            refine wp_region_noPanic ?_
            refine wp_region_held_drew (S := fun Y => Y.cell? ⟨wr.heap.size, 5, none⟩ = some (.int .i64 s.qty) ∧ Y.cell? ⟨Y1.heap.size, 0, none⟩ = some (.slice s1 s2 s3) ∧ Y.cell? ⟨Y1.heap.size, 1, none⟩ = some (.bool s4) ∧ Y.cell? ⟨Y1.heap.size, 2, none⟩ = some (.slice s5 s6 s7) ∧ Y.cell? ⟨Y1.heap.size, 3, none⟩ = some (.bool s8)) (by kernel_rfl) (HC.out _ F0) (fun hHeld => ?_)
            refine wpAnyH_take (i := 0) (v := ?_) rfl (by kernel_rfl) (by kernel_rfl) (by kernel_rfl) (fun _ _ _ h => h) (Or.inl ⟨by rfl, ?_⟩) (by assumption) ?_
            rotate_left
            · intro w hSw
              (try dsimp only at hSw)
              go_simp
              (try with_reducible rfl)
            (try simp only [List.getElem_toArray, List.getElem_cons_zero, List.getElem_cons_succ, Act.put, List.setIfInBounds_toArray, List.set_cons_zero, List.set_cons_succ])
            refine wpAnyH_take (i := 1) (v := ?_) rfl (by kernel_rfl) (by kernel_rfl) (by kernel_rfl) (fun _ _ _ h => h) (Or.inl ⟨by rfl, ?_⟩) (by assumption) ?_
            rotate_left
            · intro w hSw
              (try dsimp only at hSw)
              go_simp
              (try with_reducible rfl)
            (try simp only [List.getElem_toArray, List.getElem_cons_zero, List.getElem_cons_succ, Act.put, List.setIfInBounds_toArray, List.set_cons_zero, List.set_cons_succ])
            refine wpAnyH_take (i := 2) (v := ?_) rfl (by kernel_rfl) (by kernel_rfl) (by kernel_rfl) (fun _ _ _ h => h) (Or.inl ⟨by rfl, ?_⟩) (by assumption) ?_
            rotate_left
            · intro w hSw
              (try dsimp only at hSw)
              go_simp
              (try with_reducible rfl)
            (try simp only [List.getElem_toArray, List.getElem_cons_zero, List.getElem_cons_succ, Act.put, List.setIfInBounds_toArray, List.set_cons_zero, List.set_cons_succ])
            refine wpAnyH_take (i := 3) (v := ?_) rfl (by kernel_rfl) (by kernel_rfl) (by kernel_rfl) (fun _ _ _ h => h) (Or.inl ⟨by rfl, ?_⟩) (by assumption) ?_
            rotate_left
            · intro w hSw
              (try dsimp only at hSw)
              go_simp
              (try with_reducible rfl)
            (try simp only [List.getElem_toArray, List.getElem_cons_zero, List.getElem_cons_succ, Act.put, List.setIfInBounds_toArray, List.set_cons_zero, List.set_cons_succ])
            refine wpAnyH_ready (rs := [4]) (by kernel_rfl) (by simp) ?_
            refine AllReadyH.cons (o := _) rfl (fun Kc hKc => ?_) AllReadyH.nil
            go_simp
            go_at_call 90
            refine (q_sign _ _ q 40 (by decide) (HQI.out.below F0)).mono ?_
            rintro e w' ⟨he, hb⟩
            rw [hsgr] at he
            subst he
            have F1 := chain2 F0 hb
            dsimp only
            refine hKc.out _ _ (HC.out _ F1) (fun hHeld => ?_)
            clear hKc Kc
            (try simp only [List.getElem_toArray, List.getElem_cons_zero, List.getElem_cons_succ, Act.put, List.setIfInBounds_toArray, List.set_cons_zero, List.set_cons_succ])
            refine wpAnyH_take (i := 5) (v := ?_) rfl (by kernel_rfl) (by kernel_rfl) (by kernel_rfl) (fun _ _ _ h => h) (Or.inl ⟨by rfl, ?_⟩) (by assumption) ?_
            rotate_left
            · intro w hSw
              (try dsimp only at hSw)
              go_simp
              (try with_reducible rfl)
            (try simp only [List.getElem_toArray, List.getElem_cons_zero, List.getElem_cons_succ, Act.put, List.setIfInBounds_toArray, List.set_cons_zero, List.set_cons_succ])
            refine wpAnyH_take (i := 6) (v := ?_) rfl (by kernel_rfl) (by kernel_rfl) (by kernel_rfl) (fun _ _ _ h => h) (Or.inl ⟨by rfl, ?_⟩) (by assumption) ?_
            rotate_left
            · intro w hSw
              (try dsimp only at hSw)
              go_simp
              (try with_reducible rfl)
            (try simp only [List.getElem_toArray, List.getElem_cons_zero, List.getElem_cons_succ, Act.put, List.setIfInBounds_toArray, List.set_cons_zero, List.set_cons_succ])
            refine wpAnyH_take (i := 7) (v := ?_) rfl (by kernel_rfl) (by kernel_rfl) (by kernel_rfl) (fun _ _ _ h => h) (Or.inl ⟨by rfl, ?_⟩) (by assumption) ?_
            rotate_left
            · intro w hSw
              (try dsimp only at hSw)
              go_simp
              (try with_reducible rfl)
            (try simp only [List.getElem_toArray, List.getElem_cons_zero, List.getElem_cons_succ, Act.put, List.setIfInBounds_toArray, List.set_cons_zero, List.set_cons_succ])
            refine wpAnyH_take (i := 8) (v := ?_) rfl (by kernel_rfl) (by kernel_rfl) (by kernel_rfl) (fun _ _ _ h => h) (Or.inl ⟨by rfl, ?_⟩) (by assumption) ?_
            rotate_left
            · intro w hSw
              (try dsimp only at hSw)
              go_simp
              (try with_reducible rfl)
            (try simp only [List.getElem_toArray, List.getElem_cons_zero, List.getElem_cons_succ, Act.put, List.setIfInBounds_toArray, List.set_cons_zero, List.set_cons_succ])
            refine wpAnyH_take (i := 9) (v := ?_) rfl (by kernel_rfl) (by kernel_rfl) (by kernel_rfl) (fun _ _ _ h => h) (Or.inl ⟨by rfl, ?_⟩) (by assumption) ?_
            rotate_left
            · intro w hSw
              (try dsimp only at hSw)
              go_simp
              (try with_reducible rfl)
            (try simp only [List.getElem_toArray, List.getElem_cons_zero, List.getElem_cons_succ, Act.put, List.setIfInBounds_toArray, List.set_cons_zero, List.set_cons_succ])
            refine wpAnyH_take (i := 10) (v := ?_) rfl (by kernel_rfl) (by kernel_rfl) (by kernel_rfl) (fun _ _ _ h => h) (Or.inl ⟨by rfl, ?_⟩) (by assumption) ?_
            rotate_left
            · intro w hSw
              (try dsimp only at hSw)
              go_simp
              (try with_reducible rfl)
            (try simp only [List.getElem_toArray, List.getElem_cons_zero, List.getElem_cons_succ, Act.put, List.setIfInBounds_toArray, List.set_cons_zero, List.set_cons_succ])
            refine wpAnyH_ready (rs := [11]) (by kernel_rfl) (by simp) ?_
            refine AllReadyH.cons (o := _) rfl (fun Kc hKc => ?_) AllReadyH.nil
            go_simp
            go_at_call 84
            refine (q_of _ s.qty HQT.out.1 HQT.out.2).mono ?_
            rintro e w' ⟨v1, rfl, nv1, hb⟩
            have F2 := chain2 F1 hb
            replace nv1 := nv1.mono (show 2 ≤ 40 by decide)
            dsimp only
            refine hKc.out _ _ (HC.out _ F2) (fun hHeld => ?_)
            clear hKc Kc
            (try simp only [List.getElem_toArray, List.getElem_cons_zero, List.getElem_cons_succ, Act.put, List.setIfInBounds_toArray, List.set_cons_zero, List.set_cons_succ])
            refine wpAnyH_ready (rs := [12]) (by kernel_rfl) (by simp) ?_
            refine AllReadyH.cons (o := _) rfl (fun Kc hKc => ?_) AllReadyH.nil
            go_simp
            go_at_call 92
            refine (q_cmp _ _ _ q (s.qty : Rat) 40 (by decide) (HQI.out.below F2) nv1).mono ?_
            rintro e w' ⟨he, hb⟩
            rw [hcmr] at he
            subst he
            have F3 := chain2 F2 hb
            dsimp only
            refine hKc.out _ _ (HC.out _ F3) (fun hHeld => ?_)
            clear hKc Kc
            (try simp only [List.getElem_toArray, List.getElem_cons_zero, List.getElem_cons_succ, Act.put, List.setIfInBounds_toArray, List.set_cons_zero, List.set_cons_succ])
            refine wpAnyH_take (i := 13) (v := ?_) rfl (by kernel_rfl) (by kernel_rfl) (by kernel_rfl) (fun _ _ _ h => h) (Or.inl ⟨by rfl, ?_⟩) (by assumption) ?_
            rotate_left
            · intro w hSw
              (try dsimp only at hSw)
              go_simp
              (try with_reducible rfl)
            (try simp only [List.getElem_toArray, List.getElem_cons_zero, List.getElem_cons_succ, Act.put, List.setIfInBounds_toArray, List.set_cons_zero, List.set_cons_succ])
            refine wpAnyH_take (i := 14) (v := ?_) rfl (by kernel_rfl) (by kernel_rfl) (by kernel_rfl) (fun _ _ _ h => h) (Or.inl ⟨by rfl, ?_⟩) (by assumption) ?_
            rotate_left
            · intro w hSw
              (try dsimp only at hSw)
              go_simp
              (try with_reducible rfl)
            (try simp only [List.getElem_toArray, List.getElem_cons_zero, List.getElem_cons_succ, Act.put, List.setIfInBounds_toArray, List.set_cons_zero, List.set_cons_succ])
            refine wpAnyH_done (by kernel_rfl) ?_ _
            refine NoPanic.normal ?_

            obtain ⟨u0, u1, u2, u3, u4, u5, u6⟩ := HU.out
            have HBX := hid (chain2 HBYY.out (chain2 HBA2.out F3))
            replace u0 := ikc HBX.out u0
            replace u1 := ikc HBX.out u1
            replace u2 := ikc HBX.out u2
            replace u3 := ikc HBX.out u3
            replace u4 := ikc HBX.out u4
            replace u5 := ikc HBX.out u5
            replace u6 := ikc HBX.out u6
            obtain ⟨-, r0, r1, r2, r3⟩ := HC.out _ F3
            have HBF := hid (HBWA.out.trans (F3.mono HBWA.out.size))
            have HQF := hid (HQI.out.below F3)
            have HSF := hid (HSH.out.below (HBY.out.trans (F3.mono HBY.out.size)))
            clear hHeld F0 F1 F2 nv1 hb h1 h2 h1' h2' hsgr hcmr
            generalize HW9 : w' = W9 at *
            clear HW9
            have own := HSF.out.row.own
            have hbs : w.heap.size ≤ (W9.alloc (Obj.cells #[.string s.who, .int .i64 s.seq, .int .i64 s.zone, .int .i64 s.hour, .bool s.buy, .int .i64 s.qty, .int .i64 s.price, .slice s1 s2 s3, .bool s4, .slice s5 s6 s7, .bool s8] 156)).heap.size := by have := HBF.out.size; simp; omega
            have hfn : ∀ j u, [.string s.who, .int .i64 s.seq, .int .i64 s.zone, .int .i64 s.hour, .bool s.buy, .int .i64 s.qty, .int .i64 s.price, .slice s1 s2 s3, .bool s4, .slice s5 s6 s7, .bool s8][j]? = some u → (W9.alloc (Obj.cells #[.string s.who, .int .i64 s.seq, .int .i64 s.zone, .int .i64 s.hour, .bool s.buy, .int .i64 s.qty, .int .i64 s.price, .slice s1 s2 s3, .bool s4, .slice s5 s6 s7, .bool s8] 156)).cell? ((⟨W9.heap.size, 0, none⟩ : Addr).add j) = some u := by
              intro j u hj
              rw [add_off, Nat.zero_add]
              exact cell_at (L := [.string s.who, .int .i64 s.seq, .int .i64 s.zone, .int .i64 s.hour, .bool s.buy, .int .i64 s.qty, .int .i64 s.price, .slice s1 s2 s3, .bool s4, .slice s5 s6 s7, .bool s8]) (inew W9 _) j u hj
            have owa := own_below own (ibel W9 (Obj.cells #[.string s.who, .int .i64 s.seq, .int .i64 s.zone, .int .i64 s.hour, .bool s.buy, .int .i64 s.qty, .int .i64 s.price, .slice s1 s2 s3, .bool s4, .slice s5 s6 s7, .bool s8] 156))
            go_wp2_with (first | (at_builtin; refine wpList_append_own_at _ rfl _ _ 109 rfl w.heap.size 156 i0 (.agg #[.string ByteArray.empty, .int .i64 0, .int .i64 0, .int .i64 0, .bool false, .int .i64 0, .int .i64 0, .slice none 0 0, .bool false, .slice none 0 0, .bool false]) 11 128 Tryz.underlying109 hi0 iz0 iz1 iz2 rfl (by decide) (.slice ra D.length rc) D.length (D.map shV).flatten rfl owa ⟨W9.heap.size, 0, none⟩ 1 1 [.string s.who, .int .i64 s.seq, .int .i64 s.zone, .int .i64 s.hour, .bool s.buy, .int .i64 s.qty, .int .i64 s.price, .slice s1 s2 s3, .bool s4, .slice s5 s6 s7, .bool s8] rfl rfl hfn (by intro u hu; simp at hu; rcases hu with rfl | rfl | rfl | rfl | rfl | rfl | rfl | rfl | rfl | rfl | rfl <;> rfl) (by unfold maxLen; omega) (by omega) hbs ?_) | fail)
            intro v' Y5 o5 hg5 _ hat5
            have kg : Kty 156 156 _ Y5 := Kty.of_grown hg5 (fun g hg => own_ty owa g hg)
            have HPU := hid (Shs.push (HSF.out.below (ibel W9 _)) (w' := Y5) (v' := v') (x := (s, (.slice s1 s2 s3, .bool s4, .slice s5 s6 s7, .bool s8))) (q := q) o5 (fun h => QIs.kty h kg (by decide) (by decide)) (HQF.out.below (ibel W9 _)))
            have HB5 := hid ((HBF.out.trans ((ibel W9 _).mono HBF.out.size)).grown hg5 hbs (fun g hg => (owa.lt g hg).1))
            have HMP2 := hid (show (D ++ [(s, ((.slice s1 s2 s3, .bool s4, .slice s5 s6 s7, .bool s8) : V4))]).map Prod.fst = S.take (k + 1) by rw [List.map_append, HMP.out, HT1.out]; rfl)
            clear kg own owa hfn o5 hg5 hat5 hbs u0 u1 u2 u3 u4 u5 u6 r0 r1 r2 r3
            go_wp2_with fail
            go_roundw
            case rel => exact ⟨k + 1, _, _, by omega, by go_num, HNY, HTY, HMP2, HPU, HB5⟩
            case measure => simp [intOf]; omega
      · have HNO := hid (HNN.out hno)
        have bA := ibel Y1 (Obj.cells #[.slice none 0 0, .bool false, .slice none 0 0, .bool false] 73)
        have HBF := hid (HBS.out.trans ((chain2 bY1 bA).mono HBS.out.size))
        clear hno bA bY1
        go_wp2_with fail
        refine wp_region_noPanic ?_
        refine wp_region_held_drew (S := fun Y => True) (by kernel_rfl) (trivial) (fun hHeld => ?_)
        refine wpAnyH_take (i := 0) (v := ?_) rfl (by kernel_rfl) (by kernel_rfl) (by kernel_rfl) (fun _ _ _ h => h) (Or.inl ⟨by rfl, ?_⟩) (by assumption) ?_
        rotate_left
        · intro w hSw
          (try dsimp only at hSw)
          go_simp
          (try with_reducible rfl)
        (try simp only [List.getElem_toArray, List.getElem_cons_zero, List.getElem_cons_succ, Act.put, List.setIfInBounds_toArray, List.set_cons_zero, List.set_cons_succ])
        refine wpAnyH_take (i := 1) (v := ?_) rfl (by kernel_rfl) (by kernel_rfl) (by kernel_rfl) (fun _ _ _ h => h) (Or.inl ⟨by rfl, ?_⟩) (by assumption) ?_
        rotate_left
        · intro w hSw
          (try dsimp only at hSw)
          go_simp
          (try with_reducible rfl)
        (try simp only [List.getElem_toArray, List.getElem_cons_zero, List.getElem_cons_succ, Act.put, List.setIfInBounds_toArray, List.set_cons_zero, List.set_cons_succ])
        refine wpAnyH_take (i := 2) (v := ?_) rfl (by kernel_rfl) (by kernel_rfl) (by kernel_rfl) (fun _ _ _ h => h) (Or.inl ⟨by rfl, ?_⟩) (by assumption) ?_
        rotate_left
        · intro w hSw
          (try dsimp only at hSw)
          go_simp
          (try with_reducible rfl)
        (try simp only [List.getElem_toArray, List.getElem_cons_zero, List.getElem_cons_succ, Act.put, List.setIfInBounds_toArray, List.set_cons_zero, List.set_cons_succ])
        refine wpAnyH_take (i := 3) (v := undef) rfl (by kernel_rfl) (by kernel_rfl) (by kernel_rfl) (fun _ _ _ h => h) (Or.inr ⟨by rfl, rfl⟩) (by assumption) ?_
        (try simp only [List.getElem_toArray, List.getElem_cons_zero, List.getElem_cons_succ, Act.put, List.setIfInBounds_toArray, List.set_cons_zero, List.set_cons_succ])
        refine wpAnyH_take (i := 4) (v := undef) rfl (by kernel_rfl) (by kernel_rfl) (by kernel_rfl) (fun _ _ _ h => h) (Or.inr ⟨by rfl, rfl⟩) (by assumption) ?_
        (try simp only [List.getElem_toArray, List.getElem_cons_zero, List.getElem_cons_succ, Act.put, List.setIfInBounds_toArray, List.set_cons_zero, List.set_cons_succ])
        refine wpAnyH_take (i := 5) (v := undef) rfl (by kernel_rfl) (by kernel_rfl) (by kernel_rfl) (fun _ _ _ h => h) (Or.inr ⟨by rfl, rfl⟩) (by assumption) ?_
        (try simp only [List.getElem_toArray, List.getElem_cons_zero, List.getElem_cons_succ, Act.put, List.setIfInBounds_toArray, List.set_cons_zero, List.set_cons_succ])
        refine wpAnyH_take (i := 6) (v := ?_) rfl (by kernel_rfl) (by kernel_rfl) (by kernel_rfl) (fun _ _ _ h => h) (Or.inl ⟨by rfl, ?_⟩) (by assumption) ?_
        rotate_left
        · intro w hSw
          (try dsimp only at hSw)
          go_simp
          (try with_reducible rfl)
        (try simp only [List.getElem_toArray, List.getElem_cons_zero, List.getElem_cons_succ, Act.put, List.setIfInBounds_toArray, List.set_cons_zero, List.set_cons_succ])
        refine wpAnyH_take (i := 7) (v := ?_) rfl (by kernel_rfl) (by kernel_rfl) (by kernel_rfl) (fun _ _ _ h => h) (Or.inl ⟨by rfl, ?_⟩) (by assumption) ?_
        rotate_left
        · intro w hSw
          (try dsimp only at hSw)
          go_simp
          (try with_reducible rfl)
        (try simp only [List.getElem_toArray, List.getElem_cons_zero, List.getElem_cons_succ, Act.put, List.setIfInBounds_toArray, List.set_cons_zero, List.set_cons_succ])
        refine wpAnyH_take (i := 8) (v := undef) rfl (by kernel_rfl) (by kernel_rfl) (by kernel_rfl) (fun _ _ _ h => h) (Or.inr ⟨by rfl, rfl⟩) (by assumption) ?_
        (try simp only [List.getElem_toArray, List.getElem_cons_zero, List.getElem_cons_succ, Act.put, List.setIfInBounds_toArray, List.set_cons_zero, List.set_cons_succ])
        refine wpAnyH_take (i := 9) (v := undef) rfl (by kernel_rfl) (by kernel_rfl) (by kernel_rfl) (fun _ _ _ h => h) (Or.inr ⟨by rfl, rfl⟩) (by assumption) ?_
        (try simp only [List.getElem_toArray, List.getElem_cons_zero, List.getElem_cons_succ, Act.put, List.setIfInBounds_toArray, List.set_cons_zero, List.set_cons_succ])
        refine wpAnyH_take (i := 10) (v := undef) rfl (by kernel_rfl) (by kernel_rfl) (by kernel_rfl) (fun _ _ _ h => h) (Or.inr ⟨by rfl, rfl⟩) (by assumption) ?_
        (try simp only [List.getElem_toArray, List.getElem_cons_zero, List.getElem_cons_succ, Act.put, List.setIfInBounds_toArray, List.set_cons_zero, List.set_cons_succ])
        refine wpAnyH_take (i := 11) (v := undef) rfl (by kernel_rfl) (by kernel_rfl) (by kernel_rfl) (fun _ _ _ h => h) (Or.inr ⟨by rfl, rfl⟩) (by assumption) ?_
        (try simp only [List.getElem_toArray, List.getElem_cons_zero, List.getElem_cons_succ, Act.put, List.setIfInBounds_toArray, List.set_cons_zero, List.set_cons_succ])
        refine wpAnyH_take (i := 12) (v := undef) rfl (by kernel_rfl) (by kernel_rfl) (by kernel_rfl) (fun _ _ _ h => h) (Or.inr ⟨by rfl, rfl⟩) (by assumption) ?_
        (try simp only [List.getElem_toArray, List.getElem_cons_zero, List.getElem_cons_succ, Act.put, List.setIfInBounds_toArray, List.set_cons_zero, List.set_cons_succ])
        refine wpAnyH_take (i := 13) (v := undef) rfl (by kernel_rfl) (by kernel_rfl) (by kernel_rfl) (fun _ _ _ h => h) (Or.inr ⟨by rfl, rfl⟩) (by assumption) ?_
        (try simp only [List.getElem_toArray, List.getElem_cons_zero, List.getElem_cons_succ, Act.put, List.setIfInBounds_toArray, List.set_cons_zero, List.set_cons_succ])
        refine wpAnyH_take (i := 14) (v := ?_) rfl (by kernel_rfl) (by kernel_rfl) (by kernel_rfl) (fun _ _ _ h => h) (Or.inl ⟨by rfl, ?_⟩) (by assumption) ?_
        rotate_left
        · intro w hSw
          (try dsimp only at hSw)
          go_simp
          (try with_reducible rfl)
        (try simp only [List.getElem_toArray, List.getElem_cons_zero, List.getElem_cons_succ, Act.put, List.setIfInBounds_toArray, List.set_cons_zero, List.set_cons_succ])
        refine wpAnyH_done (by kernel_rfl) ?_ _
        refine NoPanic.normal ?_

        go_wp2_with fail
        go_ret2
        exact ⟨Or.inr ⟨HNO.out, rfl⟩, HBF.out.drew⟩
    · obtain rfl : k = S.length := by omega
      rw [List.take_length] at HMP HTK
      rw [show S.length = X.length from HLEN.out.symm, List.take_length] at HNU
      have HD := hid (show D.map Prod.fst = S from HMP.out)
      go_wp2_with fail
      go_ret2
      exact ⟨Or.inl ⟨Q, _, D, HNU.out, HTK.out, rfl, HSH.out, HD.out⟩, HBW.out⟩
end Go.Proofs.YtcdkoadobdgbhaaGreatDoor
