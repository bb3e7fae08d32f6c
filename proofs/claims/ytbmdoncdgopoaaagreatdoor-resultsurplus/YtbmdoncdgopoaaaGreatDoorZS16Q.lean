/- result: the document's Surplus. -/
import Derived.Test.YtbmdoncdgopoaaaGreatDoorPk39
import Derived.Deep.RegionWith
import Derived.Deep.RegionHeld3
namespace Go.Proofs.YtbmdoncdgopoaaaGreatDoor
open Go.RowKit
set_option linter.unusedVariables false
set_option maxRecDepth 100000
set_option linter.unusedSimpArgs false

/-- What is shown behind a region, for each of its orders. -/
structure Tl (p : Prop) : Prop where
  out : p
/-- What Parse answers. -/
def TR (w : World) (s : ByteArray) (v : Value) (en : Int) (K : Nat) : Prop := (en = 0 ∧ ∃ q, CanR s q ∧ TIs w v q K) ∨ (en = 10 ∧ ∀ q, ¬ CanR s q)
theorem t_parse2 (s : ByteArray) (w : World) (hs : s.size ≤ 256) :
    Calls Tryz.prog 65 #[.string s] w fun e w' => ∃ a1 a2 a3 a4 a5 a6 a7 a8 en, e = .returned (.tuple #[.agg #[.bool a1, .slice a2 a3 a4, .bool a5, .slice a6 a7 a8], .int .i64 en]) ∧ TR w' s (.agg #[.bool a1, .slice a2 a3 a4, .bool a5, .slice a6 a7 a8]) en 100 ∧ Below w.heap.size w w' := by
  refine (t_parse s w (by omega)).mono ?_
  rintro e w' ⟨⟨q, v, h1, rfl, h3⟩ | ⟨h1, rfl⟩, b⟩
  · obtain ⟨a1, a2, a3, a4, a5, a6, a7, a8, rfl⟩ := h3.form
    exact ⟨a1, a2, a3, a4, a5, a6, a7, a8, 0, rfl, Or.inl ⟨rfl, q, h1, h3.mono (by omega)⟩, b⟩
  · exact ⟨_, _, _, _, _, _, _, _, 10, rfl, Or.inr ⟨rfl, h1⟩, b⟩
theorem TR.below {w w' : World} {s : ByteArray} {v : Value} {en : Int} {K : Nat} (h : TR w s v en K) (b : Below w.heap.size w w') : TR w' s v en K := by
  rcases h with ⟨h1, q, h2, h3⟩ | h
  · exact Or.inl ⟨h1, q, h2, h3.below b⟩
  · exact Or.inr h
theorem TR.kty {w w' : World} {s : ByteArray} {v : Value} {en : Int} {K : Nat} (h : TR w s v en K) (k : Kty 35 35 w w') : TR w' s v en K := by
  rcases h with ⟨h1, q, h2, h3⟩ | h
  · exact Or.inl ⟨h1, q, h2, h3.kty k (by decide) (by decide)⟩
  · exact Or.inr h
theorem TIs.sum {w : World} {v : Value} {X : List Rat} {K : Nat} (n : TIs w v (smR X) K) (h : ∀ x ∈ X, Lt10 700 x) (hl : X.length ≤ 256) : TIs w v (smR X) 20000 := (n.fit (smR_fit h hl)).mono (by decide)
theorem set4_at5 {w : World} {r : Nat} {p : Addr} {v : Value} (hne : p.block ≠ r) (hp : w.cell? p = some v) (x0 x1 x2 x3 : Value) : ((((w.setCell ⟨r, 0, none⟩ x0).setCell ⟨r, 1, none⟩ x1).setCell ⟨r, 2, none⟩ x2).setCell ⟨r, 3, none⟩ x3).cell? p = some v := by
  rw [← hp]
  exact World.cell?_of_block (set4_heap hne x0 x1 x2 x3)
set_option maxHeartbeats 25600000 in
theorem hSurplus_any (w : World) (bwho : ByteArray) (bseq bzone : Int) (bbuy : Bool) (bprice : Int) (bqa : Option Addr) (bqc : Nat) (Q : List Int) (bparent bgroup : Int) (pv : Value) (P : List (List ByteArray)) (hq : Ints w (.slice bqa Q.length bqc) Q) (hp : Sss w pv P)
    (hpr : In64 bprice) (hQ : ∀ q ∈ Q, In64 q) (hsz : ∀ r ∈ P, ∀ s ∈ r, s.size ≤ 256) (hQl : Q.length ≤ 256) :
    Calls Tryz.prog 20 #[.agg #[.string bwho, .int .i64 bseq, .int .i64 bzone, .bool bbuy, .int .i64 bprice, .slice bqa Q.length bqc, .int .i64 bparent, .int .i64 bgroup], pv] w fun e w' => (∃ s en, e = .returned (.tuple #[.string s, .int .i64 en]) ∧ SurS bbuy bprice bzone Q P s en) ∧ Below w.heap.size w w' := by
  obtain ⟨pa, pc, rfl, pl, pm⟩ := hp.slice
  obtain ⟨qa', qc', e, ql, qm⟩ := hq.slice
  simp only [Value.slice.injEq] at e
  obtain ⟨rfl, -, rfl⟩ := e
  unfold maxLen at pm qm
  have bA := ibel w (Obj.cells #[.string bwho, .int .i64 bseq, .int .i64 bzone, .bool bbuy, .int .i64 bprice, .slice bqa Q.length bqc, .int .i64 bparent, .int .i64 bgroup] 54)
  have xA := inew w (Obj.cells #[.string bwho, .int .i64 bseq, .int .i64 bzone, .bool bbuy, .int .i64 bprice, .slice bqa Q.length bqc, .int .i64 bparent, .int .i64 bgroup] 54)
  have x2 := ibx xA 2 _ rfl
  have x3 := ibx xA 3 _ rfl
  have x4 := ibx xA 4 _ rfl
  have x5 := ibx xA 5 _ rfl
  have HQ := hid (hq.below bA)
  have HP := hid (hp.below bA)
  have HQ0 := hid hq
  have HB0 := hid bA
  have HPR := hid hpr
  have HQQ := hid hQ
  have HSZ := hid hsz
  have hbx : w.heap.size < (w.alloc (Obj.cells #[.string bwho, .int .i64 bseq, .int .i64 bzone, .bool bbuy, .int .i64 bprice, .slice bqa Q.length bqc, .int .i64 bparent, .int .i64 bgroup] 54)).heap.size := by simp
  clear hq hp hpr hQ hsz xA bA
  by_cases hl : P.length = Q.length
  case neg =>
    have hl2 : ((P.length : Int) == (Q.length : Int)) = false := by
      have : ¬ (P.length : Int) = (Q.length : Int) := by omega
      simpa using this
    have HS := hid (show SurS bbuy bprice bzone Q P ⟨#[]⟩ 120 from Or.inl ⟨fun h => hl h.1, rfl, rfl⟩)
    clear hl
    go_enter Tryz.func20, Tryz.ntmps20
    go_wp2_with fail
    go_ret2
    exact ⟨⟨_, _, rfl, HS.out⟩, HB0.out⟩
  have HL := hid hl
  have hl2 : ((P.length : Int) == (Q.length : Int)) = true := by rw [hl]; simp
  have hl3 : ((P.length : Int) != (Q.length : Int)) = false := by rw [bne, hl2]; rfl
  clear hl
  go_enter Tryz.func20, Tryz.ntmps20
  go_wp2_with fail
  clear hl2 hl3
  generalize w.alloc (Obj.cells #[.string bwho, .int .i64 bseq, .int .i64 bzone, .bool bbuy, .int .i64 bprice, .slice bqa Q.length bqc, .int .i64 bparent, .int .i64 bgroup] 54) = W0 at *
  go_loopw [6] (fun i wr => ∃ k : Nat, k ≤ P.length ∧ i = .int .i64 (k : Int) ∧ Hid ((∀ j (h : j < P.length), j < k → 0 ≤ bzone ∧ bzone < (P[j].length : Int)) ∧ Below W0.heap.size W0 wr)) (fun i _ => P.length - (intOf i).toNat)
  case atStart => exact ⟨0, Nat.zero_le _, rfl, hid ⟨fun j _ h => absurd h (Nat.not_lt_zero _), Below.refl _ _⟩⟩
  case round =>
    obtain ⟨k, hk, rfl, HI⟩ := hrel
    have BW := HB0.out.trans (HI.out.2.mono HB0.out.size)
    have z2 := ikc HI.out.2 x2
    have z3 := ikc HI.out.2 x3
    have z4 := ikc HI.out.2 x4
    have z5 := ikc HI.out.2 x5
    by_cases hlt : k < P.length
    · obtain ⟨pb, po, _, ua, uc, e, gk, hu, ul, um⟩ := (HP.out.below HI.out.2).at k hlt
      simp only [Value.slice.injEq] at e
      obtain ⟨rfl, -, rfl⟩ := e
      unfold maxLen at um
      have HYE := hid (fun (h : 0 ≤ bzone ∧ bzone < (P[k].length : Int)) => show ∀ j (hj : j < P.length), j < k + 1 → 0 ≤ bzone ∧ bzone < (P[j].length : Int) from fun j hj hjk => by
        by_cases hjj : j < k
        · exact HI.out.1 j hj hjj
        · obtain rfl : j = k := by omega
          exact h)
      have HNO := hid (fun (h : ¬ (0 ≤ bzone ∧ bzone < (P[k].length : Int))) => show SurS bbuy bprice bzone Q P ⟨#[]⟩ 120 from Or.inl ⟨fun q => h (q.2 k hlt), rfl, rfl⟩)
      have HBI := hid HI.out.2
      have HBW := hid BW
      have hki : (0 : Int) ≤ (k : Int) ∧ (k : Int) < (P.length : Int) := by omega
      have HKF : Hid (Below wr.heap.size wr wr.drew) := hid (Below.refl _ _).drew
      clear hu HI BW
      generalize P[k].length = un at *
      have HKx := hid (fun (Y : World) (kz : Below wr.heap.size wr Y) => show Y.cell? ⟨pb, po + k, none⟩ = some (.slice ua un uc) ∧ Y.cell? ⟨w.heap.size, 2, none⟩ = some (.int .i64 bzone) from ⟨ikc kz gk, ikc kz z2⟩)
      by_cases hz0 : bzone < 0
      · have hd : decide (bzone < 0) = true := decide_eq_true hz0
        have HQ1 := hid (HNO.out (by omega))
        clear HYE HNO hz0
        go_wp2_with fail
        refine wp_region_noPanic ?_
        refine wp_region_held_drew (S := fun Y => Y.cell? ⟨pb, po + k, none⟩ = some (.slice ua un uc) ∧ Y.cell? ⟨w.heap.size, 2, none⟩ = some (.int .i64 bzone)) (by kernel_rfl) (HKx.out _ HKF.out) (fun hHeld => ?_)
        refine wpAnyH_take (i := 0) (v := ?_) rfl (by kernel_rfl) (by kernel_rfl) (by kernel_rfl) (fun _ _ _ h => h) (Or.inl ⟨by rfl, ?_⟩) (by assumption) ?_
        rotate_left
        · intro w hSw
          (try dsimp only at hSw)
          go_simp
          (try with_reducible rfl)
        (try simp only [List.getElem_toArray, List.getElem_cons_zero, List.getElem_cons_succ, Act.put, List.setIfInBounds_toArray, List.set_cons_zero, List.set_cons_succ])
        refine wpAnyH_take (i := 1) (v := ?_) rfl (by kernel_rfl) (by kernel_rfl) (by kernel_rfl) (fun _ _ _ h => h) (Or.inl ⟨by rfl, ?_⟩) (by assumption) ?_
        rotate_left
        · intro w hSw
          (try dsimp only at hSw)
          go_simp
          (try with_reducible rfl)
        (try simp only [List.getElem_toArray, List.getElem_cons_zero, List.getElem_cons_succ, Act.put, List.setIfInBounds_toArray, List.set_cons_zero, List.set_cons_succ])
        refine wpAnyH_take (i := 2) (v := ?_) rfl (by kernel_rfl) (by kernel_rfl) (by kernel_rfl) (fun _ _ _ h => h) (Or.inl ⟨by rfl, ?_⟩) (by assumption) ?_
        rotate_left
        · intro w hSw
          (try dsimp only at hSw)
          go_simp
          (try with_reducible rfl)
        (try simp only [List.getElem_toArray, List.getElem_cons_zero, List.getElem_cons_succ, Act.put, List.setIfInBounds_toArray, List.set_cons_zero, List.set_cons_succ])
        refine wpAnyH_take (i := 3) (v := ?_) rfl (by kernel_rfl) (by kernel_rfl) (by kernel_rfl) (fun _ _ _ h => h) (Or.inl ⟨by rfl, ?_⟩) (by assumption) ?_
        rotate_left
        · intro w hSw
          (try dsimp only at hSw)
          go_simp
          (try with_reducible rfl)
        (try simp only [List.getElem_toArray, List.getElem_cons_zero, List.getElem_cons_succ, Act.put, List.setIfInBounds_toArray, List.set_cons_zero, List.set_cons_succ])
        refine wpAnyH_take (i := 4) (v := undef) rfl (by kernel_rfl) (by kernel_rfl) (by kernel_rfl) (fun _ _ _ h => h) (Or.inr ⟨by rfl, rfl⟩) (by assumption) ?_
        (try simp only [List.getElem_toArray, List.getElem_cons_zero, List.getElem_cons_succ, Act.put, List.setIfInBounds_toArray, List.set_cons_zero, List.set_cons_succ])
        refine wpAnyH_take (i := 5) (v := undef) rfl (by kernel_rfl) (by kernel_rfl) (by kernel_rfl) (fun _ _ _ h => h) (Or.inr ⟨by rfl, rfl⟩) (by assumption) ?_
        (try simp only [List.getElem_toArray, List.getElem_cons_zero, List.getElem_cons_succ, Act.put, List.setIfInBounds_toArray, List.set_cons_zero, List.set_cons_succ])
        refine wpAnyH_take (i := 6) (v := undef) rfl (by kernel_rfl) (by kernel_rfl) (by kernel_rfl) (fun _ _ _ h => h) (Or.inr ⟨by rfl, rfl⟩) (by assumption) ?_
        (try simp only [List.getElem_toArray, List.getElem_cons_zero, List.getElem_cons_succ, Act.put, List.setIfInBounds_toArray, List.set_cons_zero, List.set_cons_succ])
        refine wpAnyH_take (i := 7) (v := undef) rfl (by kernel_rfl) (by kernel_rfl) (by kernel_rfl) (fun _ _ _ h => h) (Or.inr ⟨by rfl, rfl⟩) (by assumption) ?_
        (try simp only [List.getElem_toArray, List.getElem_cons_zero, List.getElem_cons_succ, Act.put, List.setIfInBounds_toArray, List.set_cons_zero, List.set_cons_succ])
        refine wpAnyH_take (i := 8) (v := undef) rfl (by kernel_rfl) (by kernel_rfl) (by kernel_rfl) (fun _ _ _ h => h) (Or.inr ⟨by rfl, rfl⟩) (by assumption) ?_
        (try simp only [List.getElem_toArray, List.getElem_cons_zero, List.getElem_cons_succ, Act.put, List.setIfInBounds_toArray, List.set_cons_zero, List.set_cons_succ])
        refine wpAnyH_take (i := 9) (v := undef) rfl (by kernel_rfl) (by kernel_rfl) (by kernel_rfl) (fun _ _ _ h => h) (Or.inr ⟨by rfl, rfl⟩) (by assumption) ?_
        (try simp only [List.getElem_toArray, List.getElem_cons_zero, List.getElem_cons_succ, Act.put, List.setIfInBounds_toArray, List.set_cons_zero, List.set_cons_succ])
        refine wpAnyH_take (i := 10) (v := undef) rfl (by kernel_rfl) (by kernel_rfl) (by kernel_rfl) (fun _ _ _ h => h) (Or.inr ⟨by rfl, rfl⟩) (by assumption) ?_
        (try simp only [List.getElem_toArray, List.getElem_cons_zero, List.getElem_cons_succ, Act.put, List.setIfInBounds_toArray, List.set_cons_zero, List.set_cons_succ])
        refine wpAnyH_take (i := 11) (v := undef) rfl (by kernel_rfl) (by kernel_rfl) (by kernel_rfl) (fun _ _ _ h => h) (Or.inr ⟨by rfl, rfl⟩) (by assumption) ?_
        (try simp only [List.getElem_toArray, List.getElem_cons_zero, List.getElem_cons_succ, Act.put, List.setIfInBounds_toArray, List.set_cons_zero, List.set_cons_succ])
        refine wpAnyH_take (i := 12) (v := ?_) rfl (by kernel_rfl) (by kernel_rfl) (by kernel_rfl) (fun _ _ _ h => h) (Or.inl ⟨by rfl, ?_⟩) (by assumption) ?_
        rotate_left
        · intro w hSw
          (try dsimp only at hSw)
          go_simp
          (try with_reducible rfl)
        (try simp only [List.getElem_toArray, List.getElem_cons_zero, List.getElem_cons_succ, Act.put, List.setIfInBounds_toArray, List.set_cons_zero, List.set_cons_succ])
        refine wpAnyH_done (by kernel_rfl) ?_ _
        refine NoPanic.normal ?_

        go_wp2_with fail
        go_ret2
        exact ⟨⟨_, _, rfl, HQ1.out⟩, HBW.out.trans (HKF.out.mono HBW.out.size)⟩
      have hd : decide (bzone < 0) = false := decide_eq_false hz0
      by_cases hz1 : (un : Int) ≤ bzone
      · have hd1 : decide ((un : Int) ≤ bzone) = true := decide_eq_true hz1
        have HQ1 := hid (HNO.out (by omega))
        clear HYE HNO hz0 hz1
        go_wp2_with fail
        refine wp_region_noPanic ?_
        refine wp_region_held_drew (S := fun Y => Y.cell? ⟨pb, po + k, none⟩ = some (.slice ua un uc) ∧ Y.cell? ⟨w.heap.size, 2, none⟩ = some (.int .i64 bzone)) (by kernel_rfl) (HKx.out _ HKF.out) (fun hHeld => ?_)
        refine wpAnyH_take (i := 0) (v := ?_) rfl (by kernel_rfl) (by kernel_rfl) (by kernel_rfl) (fun _ _ _ h => h) (Or.inl ⟨by rfl, ?_⟩) (by assumption) ?_
        rotate_left
        · intro w hSw
          (try dsimp only at hSw)
          go_simp
          (try with_reducible rfl)
        (try simp only [List.getElem_toArray, List.getElem_cons_zero, List.getElem_cons_succ, Act.put, List.setIfInBounds_toArray, List.set_cons_zero, List.set_cons_succ])
        refine wpAnyH_take (i := 1) (v := ?_) rfl (by kernel_rfl) (by kernel_rfl) (by kernel_rfl) (fun _ _ _ h => h) (Or.inl ⟨by rfl, ?_⟩) (by assumption) ?_
        rotate_left
        · intro w hSw
          (try dsimp only at hSw)
          go_simp
          (try with_reducible rfl)
        (try simp only [List.getElem_toArray, List.getElem_cons_zero, List.getElem_cons_succ, Act.put, List.setIfInBounds_toArray, List.set_cons_zero, List.set_cons_succ])
        refine wpAnyH_take (i := 2) (v := ?_) rfl (by kernel_rfl) (by kernel_rfl) (by kernel_rfl) (fun _ _ _ h => h) (Or.inl ⟨by rfl, ?_⟩) (by assumption) ?_
        rotate_left
        · intro w hSw
          (try dsimp only at hSw)
          go_simp
          (try with_reducible rfl)
        (try simp only [List.getElem_toArray, List.getElem_cons_zero, List.getElem_cons_succ, Act.put, List.setIfInBounds_toArray, List.set_cons_zero, List.set_cons_succ])
        refine wpAnyH_take (i := 3) (v := ?_) rfl (by kernel_rfl) (by kernel_rfl) (by kernel_rfl) (fun _ _ _ h => h) (Or.inl ⟨by rfl, ?_⟩) (by assumption) ?_
        rotate_left
        · intro w hSw
          (try dsimp only at hSw)
          go_simp
          (try with_reducible rfl)
        (try simp only [List.getElem_toArray, List.getElem_cons_zero, List.getElem_cons_succ, Act.put, List.setIfInBounds_toArray, List.set_cons_zero, List.set_cons_succ])
        refine wpAnyH_take (i := 4) (v := ?_) rfl (by kernel_rfl) (by kernel_rfl) (by kernel_rfl) (fun _ _ _ h => h) (Or.inl ⟨by rfl, ?_⟩) (by assumption) ?_
        rotate_left
        · intro w hSw
          (try dsimp only at hSw)
          go_simp
          (try with_reducible rfl)
        (try simp only [List.getElem_toArray, List.getElem_cons_zero, List.getElem_cons_succ, Act.put, List.setIfInBounds_toArray, List.set_cons_zero, List.set_cons_succ])
        refine wpAnyH_take (i := 5) (v := ?_) rfl (by kernel_rfl) (by kernel_rfl) (by kernel_rfl) (fun _ _ _ h => h) (Or.inl ⟨by rfl, ?_⟩) (by assumption) ?_
        rotate_left
        · intro w hSw
          (try dsimp only at hSw)
          go_simp
          (try with_reducible rfl)
        (try simp only [List.getElem_toArray, List.getElem_cons_zero, List.getElem_cons_succ, Act.put, List.setIfInBounds_toArray, List.set_cons_zero, List.set_cons_succ])
        refine wpAnyH_take (i := 6) (v := ?_) rfl (by kernel_rfl) (by kernel_rfl) (by kernel_rfl) (fun _ _ _ h => h) (Or.inl ⟨by rfl, ?_⟩) (by assumption) ?_
        rotate_left
        · intro w hSw
          (try dsimp only at hSw)
          go_simp
          (try with_reducible rfl)
        (try simp only [List.getElem_toArray, List.getElem_cons_zero, List.getElem_cons_succ, Act.put, List.setIfInBounds_toArray, List.set_cons_zero, List.set_cons_succ])
        refine wpAnyH_take (i := 7) (v := ?_) rfl (by kernel_rfl) (by kernel_rfl) (by kernel_rfl) (fun _ _ _ h => h) (Or.inl ⟨by rfl, ?_⟩) (by assumption) ?_
        rotate_left
        · intro w hSw
          (try dsimp only at hSw)
          go_simp
          (try with_reducible rfl)
        (try simp only [List.getElem_toArray, List.getElem_cons_zero, List.getElem_cons_succ, Act.put, List.setIfInBounds_toArray, List.set_cons_zero, List.set_cons_succ])
        refine wpAnyH_take (i := 8) (v := ?_) rfl (by kernel_rfl) (by kernel_rfl) (by kernel_rfl) (fun _ _ _ h => h) (Or.inl ⟨by rfl, ?_⟩) (by assumption) ?_
        rotate_left
        · intro w hSw
          (try dsimp only at hSw)
          go_simp
          (try with_reducible rfl)
        (try simp only [List.getElem_toArray, List.getElem_cons_zero, List.getElem_cons_succ, Act.put, List.setIfInBounds_toArray, List.set_cons_zero, List.set_cons_succ])
        refine wpAnyH_take (i := 9) (v := ?_) rfl (by kernel_rfl) (by kernel_rfl) (by kernel_rfl) (fun _ _ _ h => h) (Or.inl ⟨by rfl, ?_⟩) (by assumption) ?_
        rotate_left
        · intro w hSw
          (try dsimp only at hSw)
          go_simp
          (try with_reducible rfl)
        (try simp only [List.getElem_toArray, List.getElem_cons_zero, List.getElem_cons_succ, Act.put, List.setIfInBounds_toArray, List.set_cons_zero, List.set_cons_succ])
        refine wpAnyH_take (i := 10) (v := ?_) rfl (by kernel_rfl) (by kernel_rfl) (by kernel_rfl) (fun _ _ _ h => h) (Or.inl ⟨by rfl, ?_⟩) (by assumption) ?_
        rotate_left
        · intro w hSw
          (try dsimp only at hSw)
          go_simp
          (try with_reducible rfl)
        (try simp only [List.getElem_toArray, List.getElem_cons_zero, List.getElem_cons_succ, Act.put, List.setIfInBounds_toArray, List.set_cons_zero, List.set_cons_succ])
        refine wpAnyH_take (i := 11) (v := ?_) rfl (by kernel_rfl) (by kernel_rfl) (by kernel_rfl) (fun _ _ _ h => h) (Or.inl ⟨by rfl, ?_⟩) (by assumption) ?_
        rotate_left
        · intro w hSw
          (try dsimp only at hSw)
          go_simp
          (try with_reducible rfl)
        (try simp only [List.getElem_toArray, List.getElem_cons_zero, List.getElem_cons_succ, Act.put, List.setIfInBounds_toArray, List.set_cons_zero, List.set_cons_succ])
        refine wpAnyH_take (i := 12) (v := ?_) rfl (by kernel_rfl) (by kernel_rfl) (by kernel_rfl) (fun _ _ _ h => h) (Or.inl ⟨by rfl, ?_⟩) (by assumption) ?_
        rotate_left
        · intro w hSw
          (try dsimp only at hSw)
          go_simp
          (try with_reducible rfl)
        (try simp only [List.getElem_toArray, List.getElem_cons_zero, List.getElem_cons_succ, Act.put, List.setIfInBounds_toArray, List.set_cons_zero, List.set_cons_succ])
        refine wpAnyH_done (by kernel_rfl) ?_ _
        refine NoPanic.normal ?_

        go_wp2_with fail
        go_ret2
        exact ⟨⟨_, _, rfl, HQ1.out⟩, HBW.out.trans (HKF.out.mono HBW.out.size)⟩
      · have hd1 : decide ((un : Int) ≤ bzone) = false := decide_eq_false hz1
        have HQ1 := hid (HYE.out (by omega))
        clear HYE HNO hz0 hz1
        go_wp2_with fail
        refine wp_region_noPanic ?_
        refine wp_region_held_drew (S := fun Y => Y.cell? ⟨pb, po + k, none⟩ = some (.slice ua un uc) ∧ Y.cell? ⟨w.heap.size, 2, none⟩ = some (.int .i64 bzone)) (by kernel_rfl) (HKx.out _ HKF.out) (fun hHeld => ?_)
        refine wpAnyH_take (i := 0) (v := ?_) rfl (by kernel_rfl) (by kernel_rfl) (by kernel_rfl) (fun _ _ _ h => h) (Or.inl ⟨by rfl, ?_⟩) (by assumption) ?_
        rotate_left
        · intro w hSw
          (try dsimp only at hSw)
          go_simp
          (try with_reducible rfl)
        (try simp only [List.getElem_toArray, List.getElem_cons_zero, List.getElem_cons_succ, Act.put, List.setIfInBounds_toArray, List.set_cons_zero, List.set_cons_succ])
        refine wpAnyH_take (i := 1) (v := ?_) rfl (by kernel_rfl) (by kernel_rfl) (by kernel_rfl) (fun _ _ _ h => h) (Or.inl ⟨by rfl, ?_⟩) (by assumption) ?_
        rotate_left
        · intro w hSw
          (try dsimp only at hSw)
          go_simp
          (try with_reducible rfl)
        (try simp only [List.getElem_toArray, List.getElem_cons_zero, List.getElem_cons_succ, Act.put, List.setIfInBounds_toArray, List.set_cons_zero, List.set_cons_succ])
        refine wpAnyH_take (i := 2) (v := ?_) rfl (by kernel_rfl) (by kernel_rfl) (by kernel_rfl) (fun _ _ _ h => h) (Or.inl ⟨by rfl, ?_⟩) (by assumption) ?_
        rotate_left
        · intro w hSw
          (try dsimp only at hSw)
          go_simp
          (try with_reducible rfl)
        (try simp only [List.getElem_toArray, List.getElem_cons_zero, List.getElem_cons_succ, Act.put, List.setIfInBounds_toArray, List.set_cons_zero, List.set_cons_succ])
        refine wpAnyH_take (i := 3) (v := ?_) rfl (by kernel_rfl) (by kernel_rfl) (by kernel_rfl) (fun _ _ _ h => h) (Or.inl ⟨by rfl, ?_⟩) (by assumption) ?_
        rotate_left
        · intro w hSw
          (try dsimp only at hSw)
          go_simp
          (try with_reducible rfl)
        (try simp only [List.getElem_toArray, List.getElem_cons_zero, List.getElem_cons_succ, Act.put, List.setIfInBounds_toArray, List.set_cons_zero, List.set_cons_succ])
        refine wpAnyH_take (i := 4) (v := ?_) rfl (by kernel_rfl) (by kernel_rfl) (by kernel_rfl) (fun _ _ _ h => h) (Or.inl ⟨by rfl, ?_⟩) (by assumption) ?_
        rotate_left
        · intro w hSw
          (try dsimp only at hSw)
          go_simp
          (try with_reducible rfl)
        (try simp only [List.getElem_toArray, List.getElem_cons_zero, List.getElem_cons_succ, Act.put, List.setIfInBounds_toArray, List.set_cons_zero, List.set_cons_succ])
        refine wpAnyH_take (i := 5) (v := ?_) rfl (by kernel_rfl) (by kernel_rfl) (by kernel_rfl) (fun _ _ _ h => h) (Or.inl ⟨by rfl, ?_⟩) (by assumption) ?_
        rotate_left
        · intro w hSw
          (try dsimp only at hSw)
          go_simp
          (try with_reducible rfl)
        (try simp only [List.getElem_toArray, List.getElem_cons_zero, List.getElem_cons_succ, Act.put, List.setIfInBounds_toArray, List.set_cons_zero, List.set_cons_succ])
        refine wpAnyH_take (i := 6) (v := ?_) rfl (by kernel_rfl) (by kernel_rfl) (by kernel_rfl) (fun _ _ _ h => h) (Or.inl ⟨by rfl, ?_⟩) (by assumption) ?_
        rotate_left
        · intro w hSw
          (try dsimp only at hSw)
          go_simp
          (try with_reducible rfl)
        (try simp only [List.getElem_toArray, List.getElem_cons_zero, List.getElem_cons_succ, Act.put, List.setIfInBounds_toArray, List.set_cons_zero, List.set_cons_succ])
        refine wpAnyH_take (i := 7) (v := ?_) rfl (by kernel_rfl) (by kernel_rfl) (by kernel_rfl) (fun _ _ _ h => h) (Or.inl ⟨by rfl, ?_⟩) (by assumption) ?_
        rotate_left
        · intro w hSw
          (try dsimp only at hSw)
          go_simp
          (try with_reducible rfl)
        (try simp only [List.getElem_toArray, List.getElem_cons_zero, List.getElem_cons_succ, Act.put, List.setIfInBounds_toArray, List.set_cons_zero, List.set_cons_succ])
        refine wpAnyH_take (i := 8) (v := ?_) rfl (by kernel_rfl) (by kernel_rfl) (by kernel_rfl) (fun _ _ _ h => h) (Or.inl ⟨by rfl, ?_⟩) (by assumption) ?_
        rotate_left
        · intro w hSw
          (try dsimp only at hSw)
          go_simp
          (try with_reducible rfl)
        (try simp only [List.getElem_toArray, List.getElem_cons_zero, List.getElem_cons_succ, Act.put, List.setIfInBounds_toArray, List.set_cons_zero, List.set_cons_succ])
        refine wpAnyH_take (i := 9) (v := ?_) rfl (by kernel_rfl) (by kernel_rfl) (by kernel_rfl) (fun _ _ _ h => h) (Or.inl ⟨by rfl, ?_⟩) (by assumption) ?_
        rotate_left
        · intro w hSw
          (try dsimp only at hSw)
          go_simp
          (try with_reducible rfl)
        (try simp only [List.getElem_toArray, List.getElem_cons_zero, List.getElem_cons_succ, Act.put, List.setIfInBounds_toArray, List.set_cons_zero, List.set_cons_succ])
        refine wpAnyH_take (i := 10) (v := ?_) rfl (by kernel_rfl) (by kernel_rfl) (by kernel_rfl) (fun _ _ _ h => h) (Or.inl ⟨by rfl, ?_⟩) (by assumption) ?_
        rotate_left
        · intro w hSw
          (try dsimp only at hSw)
          go_simp
          (try with_reducible rfl)
        (try simp only [List.getElem_toArray, List.getElem_cons_zero, List.getElem_cons_succ, Act.put, List.setIfInBounds_toArray, List.set_cons_zero, List.set_cons_succ])
        refine wpAnyH_take (i := 11) (v := ?_) rfl (by kernel_rfl) (by kernel_rfl) (by kernel_rfl) (fun _ _ _ h => h) (Or.inl ⟨by rfl, ?_⟩) (by assumption) ?_
        rotate_left
        · intro w hSw
          (try dsimp only at hSw)
          go_simp
          (try with_reducible rfl)
        (try simp only [List.getElem_toArray, List.getElem_cons_zero, List.getElem_cons_succ, Act.put, List.setIfInBounds_toArray, List.set_cons_zero, List.set_cons_succ])
        refine wpAnyH_take (i := 12) (v := ?_) rfl (by kernel_rfl) (by kernel_rfl) (by kernel_rfl) (fun _ _ _ h => h) (Or.inl ⟨by rfl, ?_⟩) (by assumption) ?_
        rotate_left
        · intro w hSw
          (try dsimp only at hSw)
          go_simp
          (try with_reducible rfl)
        (try simp only [List.getElem_toArray, List.getElem_cons_zero, List.getElem_cons_succ, Act.put, List.setIfInBounds_toArray, List.set_cons_zero, List.set_cons_succ])
        refine wpAnyH_done (by kernel_rfl) ?_ _
        refine NoPanic.normal ?_

        go_wp2_with fail
        go_roundw
        case rel => exact ⟨k + 1, by omega, by go_num, hid ⟨HQ1.out, HBI.out.trans (HKF.out.mono HBI.out.size)⟩⟩
        case measure => simp [intOf]; omega
    · obtain rfl : k = P.length := by omega
      have HSH : Hid (Shp bzone Q.length P) := hid ⟨HL.out, fun j hj => HI.out.1 j hj hj⟩
      have HBI := hid HI.out.2
      have HBW := hid BW
      clear HI BW
      generalize hW1 : wr = W1 at *
      clear hW1
      have hQP : Q.length = P.length := HL.out.symm
      have HQP := hid hQP
      clear hQP
      go_wp2_with fail
      refine (t_of W1 0 (by omega) (by omega)).mono ?_
      rintro e U1 ⟨v1, rfl, n1, bU⟩
      obtain ⟨s1, s2, s3, s4, s5, s6, s7, s8, rfl⟩ := n1.form
      have HBU := hid (bU.trans ((ibel U1 (Obj.cells #[.bool s1, .slice s2 s3 s4, .bool s5, .slice s6 s7 s8] 35)).mono bU.size))
      have HZ0 := hid (box_new U1 (Obj.cells #[.bool s1, .slice s2 s3 s4, .bool s5, .slice s6 s7 s8] 35))
      have HT0 : Hid (TIs (U1.alloc (Obj.cells #[.bool s1, .slice s2 s3 s4, .bool s5, .slice s6 s7 s8] 35)) (.agg #[.bool s1, .slice s2 s3 s4, .bool s5, .slice s6 s7 s8]) (smR (gns bbuy bprice [] (Q.take 0))) 20000) := hid (by have := (n1.below (ibel U1 (Obj.cells #[.bool s1, .slice s2 s3 s4, .bool s5, .slice s6 s7 s8] 35))).mono (show 3 ≤ 20000 by omega); simpa [gns, smR] using this)
      have HNB := hid bU.size
      have y2 := z2
      have y3 := z3
      have y4 := z4
      have y5 := z5
      clear n1 bU z2 z3 z4 z5
      go_wp2_with fail
      have hbx1 : w.heap.size < W1.heap.size := by have := HBI.out.size; omega
      have HCE := hid (fun (Y : World) (kz : Below W1.heap.size W1 Y) => show Y.cell? ⟨w.heap.size, 2, none⟩ = some (.int .i64 bzone) ∧ Y.cell? ⟨w.heap.size, 3, none⟩ = some (.bool bbuy) ∧ Y.cell? ⟨w.heap.size, 4, none⟩ = some (.int .i64 bprice) ∧ Y.cell? ⟨w.heap.size, 5, none⟩ = some (.slice bqa Q.length bqc) from ⟨ikc kz y2, ikc kz y3, ikc kz y4, ikc kz y5⟩)
      clear y2 y3 y4 y5
      have HXL := hid (fun (X : List Rat) (k : Nat) (hk : k ≤ P.length) (hX : Nums ((col P bzone).take k) X) => show ∀ x ∈ X, Lt10 300 x from fun x hx => by
        obtain ⟨i, hi, rfl⟩ := List.getElem_of_mem hx
        have hiC : i < ((col P bzone).take k).length := by rw [← hX.len]; exact hi
        have h0 := hX.is_ i hiC hi
        refine (canr_lt h0).mono ?_
        rw [List.getElem_take]
        have hiP : i < P.length := by rw [List.length_take, col_len] at hiC; omega
        obtain ⟨z, hz⟩ : ∃ z : Nat, bzone = (z : Int) := Int.eq_ofNat_of_zero_le (HSH.out.2 i hiP).1
        subst hz
        have hzl : z < P[i].length := by have := (HSH.out.2 i hiP).2; omega
        rw [col_at (z := z) hiP hzl]
        have := HSZ.out _ (List.getElem_mem hiP) _ (List.getElem_mem hzl)
        omega)
      generalize U1.heap.size = nb at *
      generalize U1.alloc (Obj.cells #[.bool s1, .slice s2 s3 s4, .bool s5, .slice s6 s7 s8] 35) = W2 at *
      go_loopw [8] (fun iv wr => ∃ (k : Nat) (X : List Rat) (s1 : Bool) (s2 : Option Addr) (s3 s4 : Nat) (s5 : Bool) (s6 : Option Addr) (s7 s8 : Nat), k ≤ P.length ∧ iv = .int .i64 (k : Int) ∧ Hid (Nums ((col P bzone).take k) X) ∧ Hid (wr.heap[nb]? = some (Obj.cells #[.bool s1, .slice s2 s3 s4, .bool s5, .slice s6 s7 s8] 35)) ∧ Hid (TIs wr (.agg #[.bool s1, .slice s2 s3 s4, .bool s5, .slice s6 s7 s8]) (smR (gns bbuy bprice X (Q.take k))) 20000) ∧ Hid (Below W1.heap.size W1 wr)) (fun iv _ => P.length - (intOf iv).toNat)
      case atStart => exact ⟨0, [], s1, s2, s3, s4, s5, s6, s7, s8, Nat.zero_le _, rfl, hid Nums.nil, HZ0, HT0, HBU⟩
      case round =>
        clear HT0 HZ0
        obtain ⟨k, X, s1, s2, s3, s4, s5, s6, s7, s8, hk, rfl, HN, HZB, HTZ, HBX⟩ := hrel
        have hXk : X.length = k := by rw [HN.out.len, List.length_take, col_len]; omega
        have HXK := hid hXk
        clear hXk
        have BIX := HBI.out.trans (HBX.out.mono HBI.out.size)
        have BWX := HBW.out.trans (HBX.out.mono HBW.out.size)
        obtain ⟨z2, z3, z4, z5⟩ := HCE.out wr HBX.out
        by_cases hlt : k < P.length
        · have hltQ : k < Q.length := by rw [HQP.out]; exact hlt
          obtain ⟨z, hz⟩ : ∃ z : Nat, bzone = (z : Int) := Int.eq_ofNat_of_zero_le (HSH.out.2 k hlt).1
          subst hz
          have hzl : z < P[k].length := by have := (HSH.out.2 k hlt).2; omega
          obtain ⟨pb, po, _, ua, uc, e, gk, hu, ul, um⟩ := (HP.out.below BIX).at k hlt
          simp only [Value.slice.injEq] at e
          obtain ⟨rfl, -, rfl⟩ := e
          obtain ⟨ub, uo, _, e, _, _, gz, hss⟩ := hu.at z hzl
          simp only [Value.slice.injEq] at e
          obtain ⟨rfl, -, rfl⟩ := e
          obtain ⟨qb, qo, _, e, _, _, gq0⟩ := HQ0.out.at k hltQ
          simp only [Value.slice.injEq] at e
          obtain ⟨rfl, -, rfl⟩ := e
          have hqbw : qb < w.heap.size := World.block_lt_of_cell? w _ gq0
          have gq := ikc BWX gq0
          unfold maxLen at um
          have hqk := HQQ.out _ (List.getElem_mem hltQ)
          have hs256 := HSZ.out _ (List.getElem_mem hlt) _ (List.getElem_mem hzl)
          have hcol : k < (col P (z : Int)).length := by rw [col_len]; exact hlt
          have hct := col_at (z := z) hlt hzl
          have HPU := hid (fun q (hq : CanR P[k][z] q) => HN.out.push (q := q) hcol (by rw [hct]; exact hq))
          have HNO := hid (fun (hq : ∀ q, ¬ CanR P[k][z] q) => show SurS bbuy bprice (z : Int) Q P ⟨#[]⟩ 10 from Or.inr (Or.inl ⟨HSH.out, fun ⟨Y, hY⟩ => hq _ (by have := hY.is_ k hcol (by rw [hY.len]; exact hcol); rwa [hct] at this), rfl, rfl⟩))
          have HCL := hid (fun (q : Rat) (hq : CanR P[k][z] q) => show Lt10 300 q from (canr_lt hq).mono (by omega))
          have HSM := hid (fun (q : Rat) (hq : CanR P[k][z] q) (Y : World) (u : Value) (K : Nat) (h : TIs Y u (smR (gns bbuy bprice X (Q.take k)) + gainR bbuy bprice q * ((Q[k] : Int) : Rat)) K) => show TIs Y u (smR (gns bbuy bprice (X ++ [q]) (Q.take (k + 1)))) 20000 from by
            have e1 := gns_push (buy := bbuy) (own := bprice) HXK.out hltQ q
            have e2 : smR (gns bbuy bprice (X ++ [q]) (Q.take (k + 1))) = smR (gns bbuy bprice X (Q.take k)) + gainR bbuy bprice q * ((Q[k] : Int) : Rat) := by rw [e1, smR_app]; simp [smR, Rat.add_zero]
            rw [← e2] at h
            refine h.sum ?_ ?_
            · refine gns_lt HPR.out.1 HPR.out.2 (fun x hx => ?_) (fun y hy => HQQ.out y (List.mem_of_mem_take hy))
              rcases List.mem_append.1 hx with hx | hx
              · exact HXL.out X k (by omega) HN.out x hx
              · simp only [List.mem_singleton] at hx
                subst hx
                exact (canr_lt hq).mono (by omega)
            · have hxl := HXK.out
              rw [gns_len (by rw [List.length_append, List.length_take, List.length_singleton]; omega), List.length_append, List.length_singleton]; omega)
          have hzi : (0 : Int) ≤ (z : Int) ∧ (z : Int) < (P[k].length : Int) := by omega
          have hki : (0 : Int) ≤ (k : Int) ∧ (k : Int) < (P.length : Int) := by omega
          have HNQ : Hid (qb ≠ nb) := hid (by have := HNB.out; have := HBW.out.size; omega)
          have HN0 : Hid (w.heap.size ≠ nb) := hid (by have := HNB.out; omega)
          clear hu hct hcol hqbw gq0
          generalize P[k][z] = s at *
          clear hzl
          generalize P[k].length = un at *
          generalize Q[k] = qk at *
          go_wp2_with fail
          have HKF : Hid (Below wr.heap.size wr wr.drew) := hid (Below.refl _ _).drew
          have HKx := hid (fun (Y : World) (kz : Below wr.heap.size wr Y) => show Y.cell? ⟨pb, po + k, none⟩ = some (.slice (some ⟨ub, uo, none⟩) un uc) ∧ Y.cell? ⟨ub, uo + z, none⟩ = some (.string s) ∧ Y.cell? ⟨w.heap.size, 2, none⟩ = some (.int .i64 (z : Int)) from ⟨ikc kz gk, ikc kz gz, ikc kz z2⟩)
          have HPA := hid (fun (Y : World) (kz : Below wr.heap.size wr Y) => t_parse2 s Y hs256)
          have HWB := hid BWX
          have HIX := hid BIX
          generalize hWr : wr = W at *
          clear hWr
          refine (fun (TAIL12 : Tl (?T12 : Prop)) => ?goal12) ?tail12
          case goal12 =>
            refine wp_region_noPanic ?_
            refine wp_region_held_drew (S := fun Y => Y.cell? ⟨pb, po + k, none⟩ = some (.slice (some ⟨ub, uo, none⟩) un uc) ∧ Y.cell? ⟨ub, uo + z, none⟩ = some (.string s) ∧ Y.cell? ⟨w.heap.size, 2, none⟩ = some (.int .i64 (z : Int))) (by kernel_rfl) (HKx.out _ HKF.out) (fun hHeld => ?_)
            refine wpAnyH_take (i := 0) (v := ?_) rfl (by kernel_rfl) (by kernel_rfl) (by kernel_rfl) (fun _ _ _ h => h) (Or.inl ⟨by rfl, ?_⟩) (by assumption) ?_
            rotate_left
            · intro w hSw
              (try dsimp only at hSw)
              go_simp
              (try with_reducible rfl)
            (try simp only [List.getElem_toArray, List.getElem_cons_zero, List.getElem_cons_succ, Act.put, List.setIfInBounds_toArray, List.set_cons_zero, List.set_cons_succ])
            refine wpAnyH_take (i := 1) (v := ?_) rfl (by kernel_rfl) (by kernel_rfl) (by kernel_rfl) (fun _ _ _ h => h) (Or.inl ⟨by rfl, ?_⟩) (by assumption) ?_
            rotate_left
            · intro w hSw
              (try dsimp only at hSw)
              go_simp
              (try with_reducible rfl)
            (try simp only [List.getElem_toArray, List.getElem_cons_zero, List.getElem_cons_succ, Act.put, List.setIfInBounds_toArray, List.set_cons_zero, List.set_cons_succ])
            refine wpAnyH_take (i := 2) (v := ?_) rfl (by kernel_rfl) (by kernel_rfl) (by kernel_rfl) (fun _ _ _ h => h) (Or.inl ⟨by rfl, ?_⟩) (by assumption) ?_
            rotate_left
            · intro w hSw
              (try dsimp only at hSw)
              go_simp
              (try with_reducible rfl)
            (try simp only [List.getElem_toArray, List.getElem_cons_zero, List.getElem_cons_succ, Act.put, List.setIfInBounds_toArray, List.set_cons_zero, List.set_cons_succ])
            refine wpAnyH_take (i := 3) (v := ?_) rfl (by kernel_rfl) (by kernel_rfl) (by kernel_rfl) (fun _ _ _ h => h) (Or.inl ⟨by rfl, ?_⟩) (by assumption) ?_
            rotate_left
            · intro w hSw
              (try dsimp only at hSw)
              go_simp
              (try with_reducible rfl)
            (try simp only [List.getElem_toArray, List.getElem_cons_zero, List.getElem_cons_succ, Act.put, List.setIfInBounds_toArray, List.set_cons_zero, List.set_cons_succ])
            refine wpAnyH_take (i := 4) (v := ?_) rfl (by kernel_rfl) (by kernel_rfl) (by kernel_rfl) (fun _ _ _ h => h) (Or.inl ⟨by rfl, ?_⟩) (by assumption) ?_
            rotate_left
            · intro w hSw
              (try dsimp only at hSw)
              go_simp
              (try with_reducible rfl)
            (try simp only [List.getElem_toArray, List.getElem_cons_zero, List.getElem_cons_succ, Act.put, List.setIfInBounds_toArray, List.set_cons_zero, List.set_cons_succ])
            refine wpAnyH_take (i := 5) (v := ?_) rfl (by kernel_rfl) (by kernel_rfl) (by kernel_rfl) (fun _ _ _ h => h) (Or.inl ⟨by rfl, ?_⟩) (by assumption) ?_
            rotate_left
            · intro w hSw
              (try dsimp only at hSw)
              go_simp
              (try with_reducible rfl)
            (try simp only [List.getElem_toArray, List.getElem_cons_zero, List.getElem_cons_succ, Act.put, List.setIfInBounds_toArray, List.set_cons_zero, List.set_cons_succ])
            refine wpAnyH_take (i := 6) (v := ?_) rfl (by kernel_rfl) (by kernel_rfl) (by kernel_rfl) (fun _ _ _ h => h) (Or.inl ⟨by rfl, ?_⟩) (by assumption) ?_
            rotate_left
            · intro w hSw
              (try dsimp only at hSw)
              go_simp
              (try with_reducible rfl)
            (try simp only [List.getElem_toArray, List.getElem_cons_zero, List.getElem_cons_succ, Act.put, List.setIfInBounds_toArray, List.set_cons_zero, List.set_cons_succ])
            refine wpAnyH_take (i := 7) (v := ?_) rfl (by kernel_rfl) (by kernel_rfl) (by kernel_rfl) (fun _ _ _ h => h) (Or.inl ⟨by rfl, ?_⟩) (by assumption) ?_
            rotate_left
            · intro w hSw
              (try dsimp only at hSw)
              go_simp
              (try with_reducible rfl)
            (try simp only [List.getElem_toArray, List.getElem_cons_zero, List.getElem_cons_succ, Act.put, List.setIfInBounds_toArray, List.set_cons_zero, List.set_cons_succ])
            refine wpAnyH_ready (rs := [8, 12]) (by kernel_rfl) (by simp) ?_
            refine AllReadyH.cons (o := _) rfl (fun Kc hKc => ?_) (AllReadyH.cons (o := _) rfl (fun Kc hKc => ?_) (AllReadyH.nil))
            · go_simp
              (go_at_call 65; refine (HPA.out _ HKF.out).mono ?_; rintro e Y1 ⟨a1, a2, a3, a4, a5, a6, a7, a8, en, rfl, hpr, bb⟩; have F1 : Below W.heap.size W Y1 := (by first | exact bb | exact ⟨bb.os, bb.tape, bb.output, bb.size, bb.block⟩))
              dsimp only
              refine hKc.out _ _ (HKx.out _ F1) (fun hHeld => ?_)
              clear hKc Kc
              (try simp only [List.getElem_toArray, List.getElem_cons_zero, List.getElem_cons_succ, Act.put, List.setIfInBounds_toArray, List.set_cons_zero, List.set_cons_succ])
              refine wpAnyH_take (i := 9) (v := ?_) rfl (by kernel_rfl) (by kernel_rfl) (by kernel_rfl) (fun _ _ _ h => h) (Or.inl ⟨by rfl, ?_⟩) (by assumption) ?_
              rotate_left
              · intro w hSw
                (try dsimp only at hSw)
                go_simp
                (try with_reducible rfl)
              (try simp only [List.getElem_toArray, List.getElem_cons_zero, List.getElem_cons_succ, Act.put, List.setIfInBounds_toArray, List.set_cons_zero, List.set_cons_succ])
              refine wpAnyH_take (i := 10) (v := ?_) rfl (by kernel_rfl) (by kernel_rfl) (by kernel_rfl) (fun _ _ _ h => h) (Or.inl ⟨by rfl, ?_⟩) (by assumption) ?_
              rotate_left
              · intro w hSw
                (try dsimp only at hSw)
                go_simp
                (try with_reducible rfl)
              (try simp only [List.getElem_toArray, List.getElem_cons_zero, List.getElem_cons_succ, Act.put, List.setIfInBounds_toArray, List.set_cons_zero, List.set_cons_succ])
              refine wpAnyH_take (i := 11) (v := ?_) rfl (by kernel_rfl) (by kernel_rfl) (by kernel_rfl) (fun _ _ _ h => h) (Or.inl ⟨by rfl, ?_⟩) (by assumption) ?_
              rotate_left
              · intro w hSw
                (try dsimp only at hSw)
                go_simp
                (try with_reducible rfl)
              (try simp only [List.getElem_toArray, List.getElem_cons_zero, List.getElem_cons_succ, Act.put, List.setIfInBounds_toArray, List.set_cons_zero, List.set_cons_succ])
              refine wpAnyH_ready (rs := [12]) (by kernel_rfl) (by simp) ?_
              refine AllReadyH.cons (o := _) rfl (fun Kc hKc => ?_) AllReadyH.nil
              go_simp
              refine hKc.out _ _ (HKx.out _ (F1.trans ((ibel Y1 (Obj.cells #[.bool false, .slice none 0 0, .bool false, .slice none 0 0] 35)).mono F1.size))) (fun hHeld => ?_)
              clear hKc Kc
              (try simp only [List.getElem_toArray, List.getElem_cons_zero, List.getElem_cons_succ, Act.put, List.setIfInBounds_toArray, List.set_cons_zero, List.set_cons_succ])
              have F9 := F1.trans ((ibel Y1 (Obj.cells #[.bool false, .slice none 0 0, .bool false, .slice none 0 0] 35)).mono F1.size)
              have zr := box_new Y1 (Obj.cells #[.bool false, .slice none 0 0, .bool false, .slice none 0 0] 35)
              obtain ⟨i0, i1, i2, i3⟩ := four_cell zr
              have fr := free_four zr
              refine wpAnyH_ready (rs := [13]) (by kernel_rfl) (by simp) ?_
              refine AllReadyH.cons (o := _) rfl (fun Kc hKc => ?_) AllReadyH.nil
              go_simp
              refine hKc.out _ _ (HKx.out _ (F1.trans ((ibel Y1 (Obj.cells #[.bool a1, .slice a2 a3 a4, .bool a5, .slice a6 a7 a8] 35)).mono F1.size))) (fun hHeld => ?_)
              clear hKc Kc
              (try simp only [List.getElem_toArray, List.getElem_cons_zero, List.getElem_cons_succ, Act.put, List.setIfInBounds_toArray, List.set_cons_zero, List.set_cons_succ])
              refine wpAnyH_take (i := 14) (v := ?_) rfl (by kernel_rfl) (by kernel_rfl) (by kernel_rfl) (fun _ _ _ h => h) (Or.inl ⟨by rfl, ?_⟩) (by assumption) ?_
              rotate_left
              · intro w hSw
                (try dsimp only at hSw)
                go_simp
                (try with_reducible rfl)
              (try simp only [List.getElem_toArray, List.getElem_cons_zero, List.getElem_cons_succ, Act.put, List.setIfInBounds_toArray, List.set_cons_zero, List.set_cons_succ])
              refine wpAnyH_done (by kernel_rfl) ?_ _
              refine NoPanic.normal ?_
              have HBOX := hid (box_new Y1 (Obj.cells #[.bool a1, .slice a2 a3 a4, .bool a5, .slice a6 a7 a8] 35))
              have HPRE := hid (hpr.below (ibel Y1 (Obj.cells #[.bool a1, .slice a2 a3 a4, .bool a5, .slice a6 a7 a8] 35)))
              have HB2 := hid (F1.trans ((ibel Y1 (Obj.cells #[.bool a1, .slice a2 a3 a4, .bool a5, .slice a6 a7 a8] 35)).mono F1.size))
              clear zr i0 i1 i2 i3 fr hpr F1 F9 bb
              clear hHeld
              generalize Y1.alloc (Obj.cells #[.bool a1, .slice a2 a3 a4, .bool a5, .slice a6 a7 a8] 35) = X2 at HBOX HPRE HB2 ⊢
              generalize Y1.heap.size = gb at HBOX ⊢
              revert HB2
              revert HPRE
              revert HBOX
              revert gb
              revert X2
              revert en
              revert a8
              revert a7
              revert a6
              revert a5
              revert a4
              revert a3
              revert a2
              revert a1
              exact TAIL12.out
            · go_simp
              have FA : Below W.heap.size W (W.drew.alloc (Obj.cells #[.bool false, .slice none 0 0, .bool false, .slice none 0 0] 35)) := HKF.out.alloc HKF.out.size (Obj.cells #[.bool false, .slice none 0 0, .bool false, .slice none 0 0] 35)
              have zb : (W.drew.alloc (Obj.cells #[.bool false, .slice none 0 0, .bool false, .slice none 0 0] 35)).heap[W.heap.size]? = some (Obj.cells #[.bool false, .slice none 0 0, .bool false, .slice none 0 0] 35) := box_new W.drew (Obj.cells #[.bool false, .slice none 0 0, .bool false, .slice none 0 0] 35)
              refine hKc.out _ _ (HKx.out _ FA) (fun hHeld => ?_)
              clear hKc Kc
              (try simp only [List.getElem_toArray, List.getElem_cons_zero, List.getElem_cons_succ, Act.put, List.setIfInBounds_toArray, List.set_cons_zero, List.set_cons_succ])
              refine wpAnyH_ready (rs := [8]) (by kernel_rfl) (by simp) ?_
              refine AllReadyH.cons (o := _) rfl (fun Kc hKc => ?_) AllReadyH.nil
              go_simp
              (go_at_call 65; refine (HPA.out _ FA).mono ?_; rintro e Y1 ⟨a1, a2, a3, a4, a5, a6, a7, a8, en, rfl, hpr, bb⟩; have F1 : Below W.heap.size W Y1 := FA.trans (bb.mono FA.size))
              dsimp only
              refine hKc.out _ _ (HKx.out _ F1) (fun hHeld => ?_)
              clear hKc Kc
              (try simp only [List.getElem_toArray, List.getElem_cons_zero, List.getElem_cons_succ, Act.put, List.setIfInBounds_toArray, List.set_cons_zero, List.set_cons_succ])
              refine wpAnyH_take (i := 9) (v := ?_) rfl (by kernel_rfl) (by kernel_rfl) (by kernel_rfl) (fun _ _ _ h => h) (Or.inl ⟨by rfl, ?_⟩) (by assumption) ?_
              rotate_left
              · intro w hSw
                (try dsimp only at hSw)
                go_simp
                (try with_reducible rfl)
              (try simp only [List.getElem_toArray, List.getElem_cons_zero, List.getElem_cons_succ, Act.put, List.setIfInBounds_toArray, List.set_cons_zero, List.set_cons_succ])
              refine wpAnyH_take (i := 10) (v := ?_) rfl (by kernel_rfl) (by kernel_rfl) (by kernel_rfl) (fun _ _ _ h => h) (Or.inl ⟨by rfl, ?_⟩) (by assumption) ?_
              rotate_left
              · intro w hSw
                (try dsimp only at hSw)
                go_simp
                (try with_reducible rfl)
              (try simp only [List.getElem_toArray, List.getElem_cons_zero, List.getElem_cons_succ, Act.put, List.setIfInBounds_toArray, List.set_cons_zero, List.set_cons_succ])
              refine wpAnyH_take (i := 11) (v := ?_) rfl (by kernel_rfl) (by kernel_rfl) (by kernel_rfl) (fun _ _ _ h => h) (Or.inl ⟨by rfl, ?_⟩) (by assumption) ?_
              rotate_left
              · intro w hSw
                (try dsimp only at hSw)
                go_simp
                (try with_reducible rfl)
              (try simp only [List.getElem_toArray, List.getElem_cons_zero, List.getElem_cons_succ, Act.put, List.setIfInBounds_toArray, List.set_cons_zero, List.set_cons_succ])
              have zr := box_below bb zb (lt_of_block zb)
              obtain ⟨i0, i1, i2, i3⟩ := four_cell zr
              have fr := free_four zr
              refine wpAnyH_ready (rs := [13]) (by kernel_rfl) (by simp) ?_
              refine AllReadyH.cons (o := _) rfl (fun Kc hKc => ?_) AllReadyH.nil
              go_simp
              refine hKc.out _ _ (HKx.out _ (set4_below (o := 0) F1 (Nat.le_refl _) (.bool a1) (.slice a2 a3 a4) (.bool a5) (.slice a6 a7 a8))) (fun hHeld => ?_)
              clear hKc Kc
              (try simp only [List.getElem_toArray, List.getElem_cons_zero, List.getElem_cons_succ, Act.put, List.setIfInBounds_toArray, List.set_cons_zero, List.set_cons_succ])
              refine wpAnyH_take (i := 14) (v := ?_) rfl (by kernel_rfl) (by kernel_rfl) (by kernel_rfl) (fun _ _ _ h => h) (Or.inl ⟨by rfl, ?_⟩) (by assumption) ?_
              rotate_left
              · intro w hSw
                (try dsimp only at hSw)
                go_simp
                (try with_reducible rfl)
              (try simp only [List.getElem_toArray, List.getElem_cons_zero, List.getElem_cons_succ, Act.put, List.setIfInBounds_toArray, List.set_cons_zero, List.set_cons_succ])
              refine wpAnyH_done (by kernel_rfl) ?_ _
              refine NoPanic.normal ?_
              have HBOX := hid (set4g zr (.bool a1) (.slice a2 a3 a4) (.bool a5) (.slice a6 a7 a8))
              have HPRE := hid (TR.kty hpr (set4_kty (o := 0) (t1 := 35) (t2 := 35) zr (Or.inl rfl) (.bool a1) (.slice a2 a3 a4) (.bool a5) (.slice a6 a7 a8)))
              have HB2 := hid (set4_below (o := 0) F1 (Nat.le_refl _) (.bool a1) (.slice a2 a3 a4) (.bool a5) (.slice a6 a7 a8))
              clear zr zb i0 i1 i2 i3 fr hpr F1 FA bb
              simp only [Nat.zero_add] at HPRE HB2
              exact TAIL12.out a1 a2 a3 a4 a5 a6 a7 a8 en _ _ HBOX HPRE HB2

          case tail12 =>
            refine ⟨?_⟩
            intro a1 a2 a3 a4 a5 a6 a7 a8 en X2 gb HBOX HPRE HB2
            rcases HPRE.out with ⟨hen, q, hcq, hqv⟩ | ⟨hen, hnc⟩
            · subst hen
              have HNX := hid (HPU.out q hcq)
              have HLT := hid (gain2_lt (buy := bbuy) HPR.out.1 HPR.out.2 hqk.1 hqk.2 (HCL.out q hcq))
              have HSU := hid (fun (Y : World) (u : Value) (K : Nat) (h : TIs Y u (smR (gns bbuy bprice X (Q.take k)) + gainR bbuy bprice q * (qk : Rat)) K) => show TIs Y u (smR (gns bbuy bprice (X ++ [q]) (Q.take (k + 1)))) 20000 from HSM.out q hcq Y u K h)
              have z3 := ikc HB2.out z3
              have z4 := ikc HB2.out z4
              have HTV := hid hqv
              have HK2 : Hid (Below X2.heap.size X2 X2.drew) := hid (Below.refl _ _).drew
              have HKy := hid (fun (Y : World) (kz : Below X2.heap.size X2 Y) => show Y.cell? ⟨gb, 0, none⟩ = some (.bool a1) ∧ Y.cell? ⟨gb, 1, none⟩ = some (.slice a2 a3 a4) ∧ Y.cell? ⟨gb, 2, none⟩ = some (.bool a5) ∧ Y.cell? ⟨gb, 3, none⟩ = some (.slice a6 a7 a8) ∧ Y.cell? ⟨w.heap.size, 4, none⟩ = some (.int .i64 bprice) from by
                obtain ⟨u0, u1, u2, u3⟩ := four_cell (box_below kz HBOX.out (lt_of_block HBOX.out))
                exact ⟨u0, u1, u2, u3, ikc kz z4⟩)
              clear HPU HNO HCL hcq HPA HKF HKx HPRE hqv HSM
              go_wp2_with fail
              refine (fun (TAIL15 : Tl (?T15 : Prop)) => ?goal15) ?tail15
              case goal15 =>
                refine wp_region_noPanic ?_
                refine wp_region_held_drew (S := fun Y => Y.cell? ⟨gb, 0, none⟩ = some (.bool a1) ∧ Y.cell? ⟨gb, 1, none⟩ = some (.slice a2 a3 a4) ∧ Y.cell? ⟨gb, 2, none⟩ = some (.bool a5) ∧ Y.cell? ⟨gb, 3, none⟩ = some (.slice a6 a7 a8) ∧ Y.cell? ⟨w.heap.size, 4, none⟩ = some (.int .i64 bprice)) (by kernel_rfl) (HKy.out _ HK2.out) (fun hHeld => ?_)
                refine wpAnyH_take (i := 0) (v := ?_) rfl (by kernel_rfl) (by kernel_rfl) (by kernel_rfl) (fun _ _ _ h => h) (Or.inl ⟨by rfl, ?_⟩) (by assumption) ?_
                rotate_left
                · intro w hSw
                  (try dsimp only at hSw)
                  go_simp
                  (try with_reducible rfl)
                (try simp only [List.getElem_toArray, List.getElem_cons_zero, List.getElem_cons_succ, Act.put, List.setIfInBounds_toArray, List.set_cons_zero, List.set_cons_succ])
                refine wpAnyH_take (i := 1) (v := ?_) rfl (by kernel_rfl) (by kernel_rfl) (by kernel_rfl) (fun _ _ _ h => h) (Or.inl ⟨by rfl, ?_⟩) (by assumption) ?_
                rotate_left
                · intro w hSw
                  (try dsimp only at hSw)
                  go_simp
                  (try with_reducible rfl)
                (try simp only [List.getElem_toArray, List.getElem_cons_zero, List.getElem_cons_succ, Act.put, List.setIfInBounds_toArray, List.set_cons_zero, List.set_cons_succ])
                refine wpAnyH_take (i := 2) (v := ?_) rfl (by kernel_rfl) (by kernel_rfl) (by kernel_rfl) (fun _ _ _ h => h) (Or.inl ⟨by rfl, ?_⟩) (by assumption) ?_
                rotate_left
                · intro w hSw
                  (try dsimp only at hSw)
                  go_simp
                  (try with_reducible rfl)
                (try simp only [List.getElem_toArray, List.getElem_cons_zero, List.getElem_cons_succ, Act.put, List.setIfInBounds_toArray, List.set_cons_zero, List.set_cons_succ])
                refine wpAnyH_ready (rs := [3, 5]) (by kernel_rfl) (by simp) ?_
                refine AllReadyH.cons (o := _) rfl (fun Kc hKc => ?_) (AllReadyH.cons (o := _) rfl (fun Kc hKc => ?_) (AllReadyH.nil))
                · go_simp
                  (go_at_call 8; refine (t_of _ bprice HPR.out.1 HPR.out.2).mono ?_; rintro e Y1 ⟨v1, rfl, n1, bb⟩; have F1 : Below X2.heap.size X2 Y1 := (by first | exact bb | exact ⟨bb.os, bb.tape, bb.output, bb.size, bb.block⟩); replace n1 := n1.mono (show 3 ≤ 100 by omega))
                  dsimp only
                  refine hKc.out _ _ (HKy.out _ F1) (fun hHeld => ?_)
                  clear hKc Kc
                  (try simp only [List.getElem_toArray, List.getElem_cons_zero, List.getElem_cons_succ, Act.put, List.setIfInBounds_toArray, List.set_cons_zero, List.set_cons_succ])
                  refine wpAnyH_ready (rs := [4, 5]) (by kernel_rfl) (by simp) ?_
                  refine AllReadyH.cons (o := _) rfl (fun Kc hKc => ?_) (AllReadyH.cons (o := _) rfl (fun Kc hKc => ?_) (AllReadyH.nil))
                  · go_simp
                    (have gk := F1; go_at_call 66; refine (t_sub _ _ _ q (bprice : Rat) 100 (by omega) (HTV.out.below F1) n1 (by omega)).mono ?_; rintro e Y2 ⟨v2, rfl, n2, bb2⟩; have F2 := F1.trans (bb2.mono F1.size); obtain ⟨d1, d2, d3, d4, d5, d6, d7, d8, rfl⟩ := n2.form)
                    dsimp only
                    refine hKc.out _ _ (HKy.out _ F2) (fun hHeld => ?_)
                    clear hKc Kc
                    (try simp only [List.getElem_toArray, List.getElem_cons_zero, List.getElem_cons_succ, Act.put, List.setIfInBounds_toArray, List.set_cons_zero, List.set_cons_succ])
                    refine wpAnyH_ready (rs := [5]) (by kernel_rfl) (by simp) ?_
                    refine AllReadyH.cons (o := _) rfl (fun Kc hKc => ?_) AllReadyH.nil
                    go_simp
                    refine hKc.out _ _ (HKy.out _ (F2.trans ((ibel Y2 (Obj.cells #[.bool false, .slice none 0 0, .bool false, .slice none 0 0] 35)).mono F2.size))) (fun hHeld => ?_)
                    clear hKc Kc
                    (try simp only [List.getElem_toArray, List.getElem_cons_zero, List.getElem_cons_succ, Act.put, List.setIfInBounds_toArray, List.set_cons_zero, List.set_cons_succ])
                    have F9 := F2.trans ((ibel Y2 (Obj.cells #[.bool false, .slice none 0 0, .bool false, .slice none 0 0] 35)).mono F2.size)
                    have zr := box_new Y2 (Obj.cells #[.bool false, .slice none 0 0, .bool false, .slice none 0 0] 35)
                    obtain ⟨i0, i1, i2, i3⟩ := four_cell zr
                    have fr := free_four zr
                    refine wpAnyH_ready (rs := [6]) (by kernel_rfl) (by simp) ?_
                    refine AllReadyH.cons (o := _) rfl (fun Kc hKc => ?_) AllReadyH.nil
                    go_simp
                    refine hKc.out _ _ (HKy.out _ (F2.trans ((ibel Y2 (Obj.cells #[.bool d1, .slice d2 d3 d4, .bool d5, .slice d6 d7 d8] 35)).mono F2.size))) (fun hHeld => ?_)
                    clear hKc Kc
                    (try simp only [List.getElem_toArray, List.getElem_cons_zero, List.getElem_cons_succ, Act.put, List.setIfInBounds_toArray, List.set_cons_zero, List.set_cons_succ])
                    refine wpAnyH_done (by kernel_rfl) ?_ _
                    refine NoPanic.normal ?_
                    have HBD := hid (box_new Y2 (Obj.cells #[.bool d1, .slice d2 d3 d4, .bool d5, .slice d6 d7 d8] 35))
                    have HTD := hid (n2.below (ibel Y2 (Obj.cells #[.bool d1, .slice d2 d3 d4, .bool d5, .slice d6 d7 d8] 35)))
                    have HB3 := hid (F2.trans ((ibel Y2 (Obj.cells #[.bool d1, .slice d2 d3 d4, .bool d5, .slice d6 d7 d8] 35)).mono F2.size))
                    have HY2 := hid F2.size
                    clear zr i0 i1 i2 i3 fr n1 n2 F1 F2 F9 bb bb2
                    clear hHeld
                    have HG2 := hid (show X2.heap.size ≤ Y2.heap.size from HY2.out)
                    generalize Y2.alloc (Obj.cells #[.bool d1, .slice d2 d3 d4, .bool d5, .slice d6 d7 d8] 35) = X3 at HBD HTD HB3 ⊢
                    generalize Y2.heap.size = g2 at HBD HG2 ⊢
                    revert HG2
                    revert HB3
                    revert HTD
                    revert HBD
                    revert g2
                    revert X3
                    revert d8
                    revert d7
                    revert d6
                    revert d5
                    revert d4
                    revert d3
                    revert d2
                    revert d1
                    revert v1
                    exact TAIL15.out
                  · go_simp
                    have FA := F1.trans ((ibel Y1 (Obj.cells #[.bool false, .slice none 0 0, .bool false, .slice none 0 0] 35)).mono F1.size)
                    have zb := box_new Y1 (Obj.cells #[.bool false, .slice none 0 0, .bool false, .slice none 0 0] 35)
                    replace n1 := n1.below (ibel Y1 (Obj.cells #[.bool false, .slice none 0 0, .bool false, .slice none 0 0] 35))
                    refine hKc.out _ _ (HKy.out _ FA) (fun hHeld => ?_)
                    clear hKc Kc
                    (try simp only [List.getElem_toArray, List.getElem_cons_zero, List.getElem_cons_succ, Act.put, List.setIfInBounds_toArray, List.set_cons_zero, List.set_cons_succ])
                    refine wpAnyH_ready (rs := [4]) (by kernel_rfl) (by simp) ?_
                    refine AllReadyH.cons (o := _) rfl (fun Kc hKc => ?_) AllReadyH.nil
                    go_simp
                    (have gk := F1; go_at_call 66; refine (t_sub _ _ _ q (bprice : Rat) 100 (by omega) (HTV.out.below FA) n1 (by omega)).mono ?_; rintro e Y2 ⟨v2, rfl, n2, bb2⟩; have F2 := FA.trans (bb2.mono FA.size); obtain ⟨d1, d2, d3, d4, d5, d6, d7, d8, rfl⟩ := n2.form)
                    dsimp only
                    refine hKc.out _ _ (HKy.out _ F2) (fun hHeld => ?_)
                    clear hKc Kc
                    (try simp only [List.getElem_toArray, List.getElem_cons_zero, List.getElem_cons_succ, Act.put, List.setIfInBounds_toArray, List.set_cons_zero, List.set_cons_succ])
                    have zr := box_below bb2 zb (lt_of_block zb)
                    obtain ⟨i0, i1, i2, i3⟩ := four_cell zr
                    have fr := free_four zr
                    refine wpAnyH_ready (rs := [6]) (by kernel_rfl) (by simp) ?_
                    refine AllReadyH.cons (o := _) rfl (fun Kc hKc => ?_) AllReadyH.nil
                    go_simp
                    refine hKc.out _ _ (HKy.out _ (set4_below (o := 0) F2 F1.size (.bool d1) (.slice d2 d3 d4) (.bool d5) (.slice d6 d7 d8))) (fun hHeld => ?_)
                    clear hKc Kc
                    (try simp only [List.getElem_toArray, List.getElem_cons_zero, List.getElem_cons_succ, Act.put, List.setIfInBounds_toArray, List.set_cons_zero, List.set_cons_succ])
                    refine wpAnyH_done (by kernel_rfl) ?_ _
                    refine NoPanic.normal ?_
                    have HBD := hid (set4g zr (.bool d1) (.slice d2 d3 d4) (.bool d5) (.slice d6 d7 d8))
                    have HTD := hid (TIs.kty n2 (set4_kty (o := 0) (t1 := 35) (t2 := 35) zr (Or.inl rfl) (.bool d1) (.slice d2 d3 d4) (.bool d5) (.slice d6 d7 d8)) (by decide) (by decide))
                    have HB3 := hid (set4_below (o := 0) F2 F1.size (.bool d1) (.slice d2 d3 d4) (.bool d5) (.slice d6 d7 d8))
                    have HY1 := hid F1.size
                    clear zr zb i0 i1 i2 i3 fr n1 n2 F1 F2 FA bb bb2
                    simp only [Nat.zero_add] at HTD HB3
                    exact TAIL15.out v1 d1 d2 d3 d4 d5 d6 d7 d8 _ _ HBD HTD HB3 HY1
                · go_simp
                  have FA : Below X2.heap.size X2 (X2.drew.alloc (Obj.cells #[.bool false, .slice none 0 0, .bool false, .slice none 0 0] 35)) := HK2.out.alloc HK2.out.size (Obj.cells #[.bool false, .slice none 0 0, .bool false, .slice none 0 0] 35)
                  have zb : (X2.drew.alloc (Obj.cells #[.bool false, .slice none 0 0, .bool false, .slice none 0 0] 35)).heap[X2.heap.size]? = some (Obj.cells #[.bool false, .slice none 0 0, .bool false, .slice none 0 0] 35) := box_new X2.drew (Obj.cells #[.bool false, .slice none 0 0, .bool false, .slice none 0 0] 35)
                  refine hKc.out _ _ (HKy.out _ FA) (fun hHeld => ?_)
                  clear hKc Kc
                  (try simp only [List.getElem_toArray, List.getElem_cons_zero, List.getElem_cons_succ, Act.put, List.setIfInBounds_toArray, List.set_cons_zero, List.set_cons_succ])
                  refine wpAnyH_ready (rs := [3]) (by kernel_rfl) (by simp) ?_
                  refine AllReadyH.cons (o := _) rfl (fun Kc hKc => ?_) AllReadyH.nil
                  go_simp
                  (go_at_call 8; refine (t_of _ bprice HPR.out.1 HPR.out.2).mono ?_; rintro e Y1 ⟨v1, rfl, n1, bb⟩; have F1 : Below X2.heap.size X2 Y1 := FA.trans (bb.mono FA.size); replace n1 := n1.mono (show 3 ≤ 100 by omega))
                  dsimp only
                  refine hKc.out _ _ (HKy.out _ F1) (fun hHeld => ?_)
                  clear hKc Kc
                  (try simp only [List.getElem_toArray, List.getElem_cons_zero, List.getElem_cons_succ, Act.put, List.setIfInBounds_toArray, List.set_cons_zero, List.set_cons_succ])
                  refine wpAnyH_ready (rs := [4]) (by kernel_rfl) (by simp) ?_
                  refine AllReadyH.cons (o := _) rfl (fun Kc hKc => ?_) AllReadyH.nil
                  go_simp
                  (have gk := F1; go_at_call 66; refine (t_sub _ _ _ q (bprice : Rat) 100 (by omega) (HTV.out.below F1) n1 (by omega)).mono ?_; rintro e Y2 ⟨v2, rfl, n2, bb2⟩; have F2 := F1.trans (bb2.mono F1.size); obtain ⟨d1, d2, d3, d4, d5, d6, d7, d8, rfl⟩ := n2.form)
                  dsimp only
                  refine hKc.out _ _ (HKy.out _ F2) (fun hHeld => ?_)
                  clear hKc Kc
                  (try simp only [List.getElem_toArray, List.getElem_cons_zero, List.getElem_cons_succ, Act.put, List.setIfInBounds_toArray, List.set_cons_zero, List.set_cons_succ])
                  have zr := box_below bb2 (box_below bb zb (lt_of_block zb)) (lt_of_block (box_below bb zb (lt_of_block zb)))
                  obtain ⟨i0, i1, i2, i3⟩ := four_cell zr
                  have fr := free_four zr
                  refine wpAnyH_ready (rs := [6]) (by kernel_rfl) (by simp) ?_
                  refine AllReadyH.cons (o := _) rfl (fun Kc hKc => ?_) AllReadyH.nil
                  go_simp
                  refine hKc.out _ _ (HKy.out _ (set4_below (o := 0) F2 (Nat.le_refl _) (.bool d1) (.slice d2 d3 d4) (.bool d5) (.slice d6 d7 d8))) (fun hHeld => ?_)
                  clear hKc Kc
                  (try simp only [List.getElem_toArray, List.getElem_cons_zero, List.getElem_cons_succ, Act.put, List.setIfInBounds_toArray, List.set_cons_zero, List.set_cons_succ])
                  refine wpAnyH_done (by kernel_rfl) ?_ _
                  refine NoPanic.normal ?_
                  have HBD := hid (set4g zr (.bool d1) (.slice d2 d3 d4) (.bool d5) (.slice d6 d7 d8))
                  have HTD := hid (TIs.kty n2 (set4_kty (o := 0) (t1 := 35) (t2 := 35) zr (Or.inl rfl) (.bool d1) (.slice d2 d3 d4) (.bool d5) (.slice d6 d7 d8)) (by decide) (by decide))
                  have HB3 := hid (set4_below (o := 0) F2 (Nat.le_refl _) (.bool d1) (.slice d2 d3 d4) (.bool d5) (.slice d6 d7 d8))
                  clear zr zb i0 i1 i2 i3 fr n1 n2 F1 F2 FA bb bb2
                  simp only [Nat.zero_add] at HTD HB3
                  exact TAIL15.out v1 d1 d2 d3 d4 d5 d6 d7 d8 _ _ HBD HTD HB3 (hid (Nat.le_refl X2.heap.size))

              case tail15 =>
                refine ⟨?_⟩
                intro v1 d1 d2 d3 d4 d5 d6 d7 d8 X3 g2 HBD HTD HB3 HG2
                cases bbuy
                · have HTE : Hid (TIs X3 (.agg #[.bool d1, .slice d2 d3 d4, .bool d5, .slice d6 d7 d8]) (gainR false bprice q) 215) := hid (by have := HTD.out.mono (show 2 * (100 + 3) + 6 ≤ 215 by omega); simpa [gainR] using this)
                  have z3 := ikc HB3.out z3
                  have HBE := HBD
                  have HB4 := HB3
                  go_wp2_with fail
                  generalize X3 = V at *
                  have HBV := hid (HBX.out.trans ((HB2.out.trans ((HB4.out).mono HB2.out.size)).mono HBX.out.size))
                  have HVW := hid (HB2.out.trans ((HB4.out).mono HB2.out.size))
                  have HZN := hid (fun (Y : World) (kz : Below V.heap.size V Y) => show Y.heap[nb]? = some (Obj.cells #[.bool s1, .slice s2 s3 s4, .bool s5, .slice s6 s7 s8] 35) from box_below (HVW.out.trans (kz.mono HVW.out.size)) HZB.out (lt_of_block HZB.out))
                  have HTS := hid (HTZ.out.below HVW.out)
                  have y5 := ikc HVW.out z5
                  have yq := ikc HVW.out gq
                  have HNE : Hid (g2 ≠ nb) := hid (by have := HG2.out; have := HB2.out.size; have := lt_of_block HZB.out; omega)
                  have HK4 : Hid (Below V.heap.size V V.drew) := hid (Below.refl _ _).drew
                  have HKz := hid (fun (Y : World) (kz : Below V.heap.size V Y) => show Y.cell? ⟨g2, 0, none⟩ = some (.bool d1) ∧ Y.cell? ⟨g2, 1, none⟩ = some (.slice d2 d3 d4) ∧ Y.cell? ⟨g2, 2, none⟩ = some (.bool d5) ∧ Y.cell? ⟨g2, 3, none⟩ = some (.slice d6 d7 d8) ∧ Y.cell? ⟨w.heap.size, 5, none⟩ = some (.slice (some ⟨qb, qo, none⟩) Q.length bqc) ∧ Y.cell? ⟨qb, qo + k, none⟩ = some (.int .i64 qk) from by
                    obtain ⟨u0, u1, u2, u3⟩ := four_cell (box_below kz HBE.out (lt_of_block HBE.out))
                    exact ⟨u0, u1, u2, u3, ikc kz y5, ikc kz yq⟩)
                  have HKs := hid (fun (Y : World) (kz : Below V.heap.size V Y) => show ∀ (x0 x1 x2 x3 : Value), (fun (Y : World) => Y.cell? ⟨g2, 0, none⟩ = some (.bool d1) ∧ Y.cell? ⟨g2, 1, none⟩ = some (.slice d2 d3 d4) ∧ Y.cell? ⟨g2, 2, none⟩ = some (.bool d5) ∧ Y.cell? ⟨g2, 3, none⟩ = some (.slice d6 d7 d8) ∧ Y.cell? ⟨w.heap.size, 5, none⟩ = some (.slice (some ⟨qb, qo, none⟩) Q.length bqc) ∧ Y.cell? ⟨qb, qo + k, none⟩ = some (.int .i64 qk)) ((((Y.setCell ⟨nb, 0, none⟩ x0).setCell ⟨nb, 1, none⟩ x1).setCell ⟨nb, 2, none⟩ x2).setCell ⟨nb, 3, none⟩ x3) from fun x0 x1 x2 x3 => by
                    obtain ⟨u0, u1, u2, u3⟩ := four_cell ((set4_heap HNE.out x0 x1 x2 x3).trans (box_below kz HBE.out (lt_of_block HBE.out)))
                    exact ⟨u0, u1, u2, u3, set4_at5 HN0.out (ikc kz y5) x0 x1 x2 x3, set4_at5 HNQ.out (ikc kz yq) x0 x1 x2 x3⟩)
                  obtain ⟨j0, j1, j2, j3⟩ := four_cell (HZN.out _ HK4.out)
                  refine wp_region_noPanic ?_
                  refine wp_region_held_drew (S := fun Y => Y.cell? ⟨g2, 0, none⟩ = some (.bool d1) ∧ Y.cell? ⟨g2, 1, none⟩ = some (.slice d2 d3 d4) ∧ Y.cell? ⟨g2, 2, none⟩ = some (.bool d5) ∧ Y.cell? ⟨g2, 3, none⟩ = some (.slice d6 d7 d8) ∧ Y.cell? ⟨w.heap.size, 5, none⟩ = some (.slice (some ⟨qb, qo, none⟩) Q.length bqc) ∧ Y.cell? ⟨qb, qo + k, none⟩ = some (.int .i64 qk)) (by kernel_rfl) (HKz.out _ HK4.out) (fun hHeld => ?_)
                  refine wpAnyH_take (i := 1) (v := ?_) rfl (by kernel_rfl) (by kernel_rfl) (by kernel_rfl) (fun _ _ _ h => h) (Or.inl ⟨by rfl, ?_⟩) (by assumption) ?_
                  rotate_left
                  · intro w hSw
                    (try dsimp only at hSw)
                    go_simp
                    (try with_reducible rfl)
                  (try simp only [List.getElem_toArray, List.getElem_cons_zero, List.getElem_cons_succ, Act.put, List.setIfInBounds_toArray, List.set_cons_zero, List.set_cons_succ])
                  refine wpAnyH_take (i := 2) (v := ?_) rfl (by kernel_rfl) (by kernel_rfl) (by kernel_rfl) (fun _ _ _ h => h) (Or.inl ⟨by rfl, ?_⟩) (by assumption) ?_
                  rotate_left
                  · intro w hSw
                    (try dsimp only at hSw)
                    go_simp
                    (try with_reducible rfl)
                  (try simp only [List.getElem_toArray, List.getElem_cons_zero, List.getElem_cons_succ, Act.put, List.setIfInBounds_toArray, List.set_cons_zero, List.set_cons_succ])
                  refine wpAnyH_take (i := 3) (v := ?_) rfl (by kernel_rfl) (by kernel_rfl) (by kernel_rfl) (fun _ _ _ h => h) (Or.inl ⟨by rfl, ?_⟩) (by assumption) ?_
                  rotate_left
                  · intro w hSw
                    (try dsimp only at hSw)
                    go_simp
                    (try with_reducible rfl)
                  (try simp only [List.getElem_toArray, List.getElem_cons_zero, List.getElem_cons_succ, Act.put, List.setIfInBounds_toArray, List.set_cons_zero, List.set_cons_succ])
                  refine wpAnyH_take (i := 4) (v := ?_) rfl (by kernel_rfl) (by kernel_rfl) (by kernel_rfl) (fun _ _ _ h => h) (Or.inl ⟨by rfl, ?_⟩) (by assumption) ?_
                  rotate_left
                  · intro w hSw
                    (try dsimp only at hSw)
                    go_simp
                    (try with_reducible rfl)
                  (try simp only [List.getElem_toArray, List.getElem_cons_zero, List.getElem_cons_succ, Act.put, List.setIfInBounds_toArray, List.set_cons_zero, List.set_cons_succ])
                  refine wpAnyH_take (i := 5) (v := ?_) rfl (by kernel_rfl) (by kernel_rfl) (by kernel_rfl) (fun _ _ _ h => h) (Or.inl ⟨by rfl, ?_⟩) (by assumption) ?_
                  rotate_left
                  · intro w hSw
                    (try dsimp only at hSw)
                    go_simp
                    (try with_reducible rfl)
                  (try simp only [List.getElem_toArray, List.getElem_cons_zero, List.getElem_cons_succ, Act.put, List.setIfInBounds_toArray, List.set_cons_zero, List.set_cons_succ])
                  refine wpAnyH_take (i := 6) (v := ?_) rfl (by kernel_rfl) (by kernel_rfl) (by kernel_rfl) (fun _ _ _ h => h) (Or.inl ⟨by rfl, ?_⟩) (by assumption) ?_
                  rotate_left
                  · intro w hSw
                    (try dsimp only at hSw)
                    go_simp
                    (try with_reducible rfl)
                  (try simp only [List.getElem_toArray, List.getElem_cons_zero, List.getElem_cons_succ, Act.put, List.setIfInBounds_toArray, List.set_cons_zero, List.set_cons_succ])
                  refine wpAnyH_ready (rs := [0, 7]) (by kernel_rfl) (by simp) ?_
                  refine AllReadyH.cons (o := _) rfl (fun Kc hKc => ?_) (AllReadyH.cons (o := _) rfl (fun Kc hKc => ?_) (AllReadyH.nil))
                  · go_simp
                    refine hKc.out _ _ (HKz.out _ HK4.out) (fun hHeld => ?_)
                    clear hKc Kc
                    (try simp only [List.getElem_toArray, List.getElem_cons_zero, List.getElem_cons_succ, Act.put, List.setIfInBounds_toArray, List.set_cons_zero, List.set_cons_succ])
                    refine wpAnyH_ready (rs := [7]) (by kernel_rfl) (by simp) ?_
                    refine AllReadyH.cons (o := _) rfl (fun Kc hKc => ?_) AllReadyH.nil
                    go_simp
                    (go_at_call 8; refine (t_of _ qk hqk.1 hqk.2).mono ?_; rintro e Y1 ⟨v1, rfl, n1, bb⟩; have F1 : Below V.heap.size V Y1 := (by first | exact bb | exact ⟨bb.os, bb.tape, bb.output, bb.size, bb.block⟩); have n1 := n1.mono (show 3 ≤ 215 by omega); obtain ⟨j0, j1, j2, j3⟩ := four_cell (HZN.out _ F1))
                    dsimp only
                    refine hKc.out _ _ (HKz.out _ F1) (fun hHeld => ?_)
                    clear hKc Kc
                    (try simp only [List.getElem_toArray, List.getElem_cons_zero, List.getElem_cons_succ, Act.put, List.setIfInBounds_toArray, List.set_cons_zero, List.set_cons_succ])
                    refine wpAnyH_ready (rs := [8]) (by kernel_rfl) (by simp) ?_
                    refine AllReadyH.cons (o := _) rfl (fun Kc hKc => ?_) AllReadyH.nil
                    go_simp
                    (have gk := F1; go_at_call 9; refine (t_mul _ _ _ _ _ 215 (by omega) (HTE.out.below F1) n1).mono ?_; rintro e Y2 ⟨v2, rfl, n2, bb2⟩; have F2 := F1.trans (bb2.mono F1.size); have n2 := (n2.fit HLT.out).mono (show 700 / 9 + 1 ≤ 20000 by omega); obtain ⟨j4, j5, j6, j7⟩ := four_cell (HZN.out _ F2))
                    dsimp only
                    refine hKc.out _ _ (HKz.out _ F2) (fun hHeld => ?_)
                    clear hKc Kc
                    (try simp only [List.getElem_toArray, List.getElem_cons_zero, List.getElem_cons_succ, Act.put, List.setIfInBounds_toArray, List.set_cons_zero, List.set_cons_succ])
                    refine wpAnyH_ready (rs := [9]) (by kernel_rfl) (by simp) ?_
                    refine AllReadyH.cons (o := _) rfl (fun Kc hKc => ?_) AllReadyH.nil
                    go_simp
                    (have gk := F2; go_at_call 68; refine (t_add _ _ _ _ _ 20000 (by omega) (HTS.out.below F2) n2).mono ?_; rintro e Y3 ⟨v3, rfl, n3, bb3⟩; have F3 := F2.trans (bb3.mono F2.size); have n4 := HSU.out _ _ _ n3; obtain ⟨m1, m2, m3, m4, m5, m6, m7, m8, rfl⟩ := n4.form; have zr := HZN.out _ F3; obtain ⟨i0, i1, i2, i3⟩ := four_cell zr; have fr := free_four zr; have HS5 := hid (HKz.out _ (F3)))
                    dsimp only
                    refine hKc.out _ _ (HKz.out _ F3) (fun hHeld => ?_)
                    clear hKc Kc
                    (try simp only [List.getElem_toArray, List.getElem_cons_zero, List.getElem_cons_succ, Act.put, List.setIfInBounds_toArray, List.set_cons_zero, List.set_cons_succ])
                    refine wpAnyH_ready (rs := [10]) (by kernel_rfl) (by simp) ?_
                    refine AllReadyH.cons (o := _) rfl (fun Kc hKc => ?_) AllReadyH.nil
                    go_simp
                    refine hKc.out _ _ (HKs.out _ F3 _ _ _ _) (fun hHeld => ?_)
                    clear hKc Kc
                    (try simp only [List.getElem_toArray, List.getElem_cons_zero, List.getElem_cons_succ, Act.put, List.setIfInBounds_toArray, List.set_cons_zero, List.set_cons_succ])
                    refine wpAnyH_done (by kernel_rfl) ?_ _
                    refine NoPanic.normal ?_
                    have HZ5 := hid (set4g zr (.bool m1) (.slice m2 m3 m4) (.bool m5) (.slice m6 m7 m8))
                    have HT5 := hid (TIs.kty n4 (set4_kty (o := 0) (t1 := 35) (t2 := 35) zr (Or.inl rfl) (.bool m1) (.slice m2 m3 m4) (.bool m5) (.slice m6 m7 m8)) (by decide) (by decide))
                    have HB5 := hid (set4_below (o := 0) (HBV.out.trans (F3.mono HBV.out.size)) HNB.out (.bool m1) (.slice m2 m3 m4) (.bool m5) (.slice m6 m7 m8))
                    clear zr i0 i1 i2 i3 fr n1 n2 n3 n4 F1 F2 F3 bb bb2 bb3
                    simp only [Nat.zero_add] at HT5 HB5
                    go_wp2_with fail
                    go_roundw
                    case rel => exact ⟨k + 1, X ++ [q], m1, m2, m3, m4, m5, m6, m7, m8, by omega, by go_num, HNX, HZ5, HT5, HB5⟩
                    case measure => simp [intOf]; omega
                  · go_simp
                    (go_at_call 8; refine (t_of _ qk hqk.1 hqk.2).mono ?_; rintro e Y1 ⟨v1, rfl, n1, bb⟩; have F1 : Below V.heap.size V Y1 := (by first | exact bb | exact ⟨bb.os, bb.tape, bb.output, bb.size, bb.block⟩); have n1 := n1.mono (show 3 ≤ 215 by omega); obtain ⟨j0, j1, j2, j3⟩ := four_cell (HZN.out _ F1))
                    dsimp only
                    refine hKc.out _ _ (HKz.out _ F1) (fun hHeld => ?_)
                    clear hKc Kc
                    (try simp only [List.getElem_toArray, List.getElem_cons_zero, List.getElem_cons_succ, Act.put, List.setIfInBounds_toArray, List.set_cons_zero, List.set_cons_succ])
                    refine wpAnyH_ready (rs := [0, 8]) (by kernel_rfl) (by simp) ?_
                    refine AllReadyH.cons (o := _) rfl (fun Kc hKc => ?_) (AllReadyH.cons (o := _) rfl (fun Kc hKc => ?_) (AllReadyH.nil))
                    · go_simp
                      refine hKc.out _ _ (HKz.out _ F1) (fun hHeld => ?_)
                      clear hKc Kc
                      (try simp only [List.getElem_toArray, List.getElem_cons_zero, List.getElem_cons_succ, Act.put, List.setIfInBounds_toArray, List.set_cons_zero, List.set_cons_succ])
                      refine wpAnyH_ready (rs := [8]) (by kernel_rfl) (by simp) ?_
                      refine AllReadyH.cons (o := _) rfl (fun Kc hKc => ?_) AllReadyH.nil
                      go_simp
                      (have gk := F1; go_at_call 9; refine (t_mul _ _ _ _ _ 215 (by omega) (HTE.out.below F1) n1).mono ?_; rintro e Y2 ⟨v2, rfl, n2, bb2⟩; have F2 := F1.trans (bb2.mono F1.size); have n2 := (n2.fit HLT.out).mono (show 700 / 9 + 1 ≤ 20000 by omega); obtain ⟨j4, j5, j6, j7⟩ := four_cell (HZN.out _ F2))
                      dsimp only
                      refine hKc.out _ _ (HKz.out _ F2) (fun hHeld => ?_)
                      clear hKc Kc
                      (try simp only [List.getElem_toArray, List.getElem_cons_zero, List.getElem_cons_succ, Act.put, List.setIfInBounds_toArray, List.set_cons_zero, List.set_cons_succ])
                      refine wpAnyH_ready (rs := [9]) (by kernel_rfl) (by simp) ?_
                      refine AllReadyH.cons (o := _) rfl (fun Kc hKc => ?_) AllReadyH.nil
                      go_simp
                      (have gk := F2; go_at_call 68; refine (t_add _ _ _ _ _ 20000 (by omega) (HTS.out.below F2) n2).mono ?_; rintro e Y3 ⟨v3, rfl, n3, bb3⟩; have F3 := F2.trans (bb3.mono F2.size); have n4 := HSU.out _ _ _ n3; obtain ⟨m1, m2, m3, m4, m5, m6, m7, m8, rfl⟩ := n4.form; have zr := HZN.out _ F3; obtain ⟨i0, i1, i2, i3⟩ := four_cell zr; have fr := free_four zr; have HS5 := hid (HKz.out _ (F3)))
                      dsimp only
                      refine hKc.out _ _ (HKz.out _ F3) (fun hHeld => ?_)
                      clear hKc Kc
                      (try simp only [List.getElem_toArray, List.getElem_cons_zero, List.getElem_cons_succ, Act.put, List.setIfInBounds_toArray, List.set_cons_zero, List.set_cons_succ])
                      refine wpAnyH_ready (rs := [10]) (by kernel_rfl) (by simp) ?_
                      refine AllReadyH.cons (o := _) rfl (fun Kc hKc => ?_) AllReadyH.nil
                      go_simp
                      refine hKc.out _ _ (HKs.out _ F3 _ _ _ _) (fun hHeld => ?_)
                      clear hKc Kc
                      (try simp only [List.getElem_toArray, List.getElem_cons_zero, List.getElem_cons_succ, Act.put, List.setIfInBounds_toArray, List.set_cons_zero, List.set_cons_succ])
                      refine wpAnyH_done (by kernel_rfl) ?_ _
                      refine NoPanic.normal ?_
                      have HZ5 := hid (set4g zr (.bool m1) (.slice m2 m3 m4) (.bool m5) (.slice m6 m7 m8))
                      have HT5 := hid (TIs.kty n4 (set4_kty (o := 0) (t1 := 35) (t2 := 35) zr (Or.inl rfl) (.bool m1) (.slice m2 m3 m4) (.bool m5) (.slice m6 m7 m8)) (by decide) (by decide))
                      have HB5 := hid (set4_below (o := 0) (HBV.out.trans (F3.mono HBV.out.size)) HNB.out (.bool m1) (.slice m2 m3 m4) (.bool m5) (.slice m6 m7 m8))
                      clear zr i0 i1 i2 i3 fr n1 n2 n3 n4 F1 F2 F3 bb bb2 bb3
                      simp only [Nat.zero_add] at HT5 HB5
                      go_wp2_with fail
                      go_roundw
                      case rel => exact ⟨k + 1, X ++ [q], m1, m2, m3, m4, m5, m6, m7, m8, by omega, by go_num, HNX, HZ5, HT5, HB5⟩
                      case measure => simp [intOf]; omega
                    · go_simp
                      (have gk := F1; go_at_call 9; refine (t_mul _ _ _ _ _ 215 (by omega) (HTE.out.below F1) n1).mono ?_; rintro e Y2 ⟨v2, rfl, n2, bb2⟩; have F2 := F1.trans (bb2.mono F1.size); have n2 := (n2.fit HLT.out).mono (show 700 / 9 + 1 ≤ 20000 by omega); obtain ⟨j4, j5, j6, j7⟩ := four_cell (HZN.out _ F2))
                      dsimp only
                      refine hKc.out _ _ (HKz.out _ F2) (fun hHeld => ?_)
                      clear hKc Kc
                      (try simp only [List.getElem_toArray, List.getElem_cons_zero, List.getElem_cons_succ, Act.put, List.setIfInBounds_toArray, List.set_cons_zero, List.set_cons_succ])
                      refine wpAnyH_ready (rs := [0]) (by kernel_rfl) (by simp) ?_
                      refine AllReadyH.cons (o := _) rfl (fun Kc hKc => ?_) AllReadyH.nil
                      go_simp
                      refine hKc.out _ _ (HKz.out _ F2) (fun hHeld => ?_)
                      clear hKc Kc
                      (try simp only [List.getElem_toArray, List.getElem_cons_zero, List.getElem_cons_succ, Act.put, List.setIfInBounds_toArray, List.set_cons_zero, List.set_cons_succ])
                      refine wpAnyH_ready (rs := [9]) (by kernel_rfl) (by simp) ?_
                      refine AllReadyH.cons (o := _) rfl (fun Kc hKc => ?_) AllReadyH.nil
                      go_simp
                      (have gk := F2; go_at_call 68; refine (t_add _ _ _ _ _ 20000 (by omega) (HTS.out.below F2) n2).mono ?_; rintro e Y3 ⟨v3, rfl, n3, bb3⟩; have F3 := F2.trans (bb3.mono F2.size); have n4 := HSU.out _ _ _ n3; obtain ⟨m1, m2, m3, m4, m5, m6, m7, m8, rfl⟩ := n4.form; have zr := HZN.out _ F3; obtain ⟨i0, i1, i2, i3⟩ := four_cell zr; have fr := free_four zr; have HS5 := hid (HKz.out _ (F3)))
                      dsimp only
                      refine hKc.out _ _ (HKz.out _ F3) (fun hHeld => ?_)
                      clear hKc Kc
                      (try simp only [List.getElem_toArray, List.getElem_cons_zero, List.getElem_cons_succ, Act.put, List.setIfInBounds_toArray, List.set_cons_zero, List.set_cons_succ])
                      refine wpAnyH_ready (rs := [10]) (by kernel_rfl) (by simp) ?_
                      refine AllReadyH.cons (o := _) rfl (fun Kc hKc => ?_) AllReadyH.nil
                      go_simp
                      refine hKc.out _ _ (HKs.out _ F3 _ _ _ _) (fun hHeld => ?_)
                      clear hKc Kc
                      (try simp only [List.getElem_toArray, List.getElem_cons_zero, List.getElem_cons_succ, Act.put, List.setIfInBounds_toArray, List.set_cons_zero, List.set_cons_succ])
                      refine wpAnyH_done (by kernel_rfl) ?_ _
                      refine NoPanic.normal ?_
                      have HZ5 := hid (set4g zr (.bool m1) (.slice m2 m3 m4) (.bool m5) (.slice m6 m7 m8))
                      have HT5 := hid (TIs.kty n4 (set4_kty (o := 0) (t1 := 35) (t2 := 35) zr (Or.inl rfl) (.bool m1) (.slice m2 m3 m4) (.bool m5) (.slice m6 m7 m8)) (by decide) (by decide))
                      have HB5 := hid (set4_below (o := 0) (HBV.out.trans (F3.mono HBV.out.size)) HNB.out (.bool m1) (.slice m2 m3 m4) (.bool m5) (.slice m6 m7 m8))
                      clear zr i0 i1 i2 i3 fr n1 n2 n3 n4 F1 F2 F3 bb bb2 bb3
                      simp only [Nat.zero_add] at HT5 HB5
                      go_wp2_with fail
                      go_roundw
                      case rel => exact ⟨k + 1, X ++ [q], m1, m2, m3, m4, m5, m6, m7, m8, by omega, by go_num, HNX, HZ5, HT5, HB5⟩
                      case measure => simp [intOf]; omega

                · have z3 := ikc HB3.out z3
                  obtain ⟨i0, i1, i2, i3⟩ := four_cell HBD.out
                  go_wp2_with fail
                  refine (t_neg X3 _ _ 212 (by omega) (HTD.out.mono (show 2 * (100 + 3) + 6 ≤ 212 by omega))).mono ?_
                  rintro e Y4 ⟨v4, rfl, n4, b4⟩
                  obtain ⟨h1, h2, h3, h4, h5, h6, h7, h8, rfl⟩ := n4.form
                  have zr := box_below b4 HBD.out (lt_of_block HBD.out)
                  obtain ⟨i0, i1, i2, i3⟩ := four_cell zr
                  have fr := free_four zr
                  have HBE := hid (set4g zr (.bool h1) (.slice h2 h3 h4) (.bool h5) (.slice h6 h7 h8))
                  have HTE : Hid (TIs ((((Y4.setCell ⟨g2, 0, none⟩ (.bool h1)).setCell ⟨g2, 1, none⟩ (.slice h2 h3 h4)).setCell ⟨g2, 2, none⟩ (.bool h5)).setCell ⟨g2, 3, none⟩ (.slice h6 h7 h8)) (.agg #[.bool h1, .slice h2 h3 h4, .bool h5, .slice h6 h7 h8]) (gainR true bprice q) 215) := hid (by have := TIs.kty n4 (set4_kty (o := 0) (t1 := 35) (t2 := 35) zr (Or.inl rfl) (.bool h1) (.slice h2 h3 h4) (.bool h5) (.slice h6 h7 h8)) (by decide) (by decide); rw [show -(q - (bprice : Rat)) = gainR true bprice q by simp [gainR, Rat.neg_sub]] at this; exact this)
                  have HB4 := hid (set4_below (o := 0) (HB3.out.trans (b4.mono HB3.out.size)) HG2.out (.bool h1) (.slice h2 h3 h4) (.bool h5) (.slice h6 h7 h8))
                  simp only [Nat.zero_add] at HB4
                  clear n4 zr b4 HBD HTD HB3
                  go_wp2_with fail
                  generalize (((Y4.setCell ⟨g2, 0, none⟩ (.bool h1)).setCell ⟨g2, 1, none⟩ (.slice h2 h3 h4)).setCell ⟨g2, 2, none⟩ (.bool h5)).setCell ⟨g2, 3, none⟩ (.slice h6 h7 h8) = V at *
                  have HBV := hid (HBX.out.trans ((HB2.out.trans ((HB4.out).mono HB2.out.size)).mono HBX.out.size))
                  have HVW := hid (HB2.out.trans ((HB4.out).mono HB2.out.size))
                  have HZN := hid (fun (Y : World) (kz : Below V.heap.size V Y) => show Y.heap[nb]? = some (Obj.cells #[.bool s1, .slice s2 s3 s4, .bool s5, .slice s6 s7 s8] 35) from box_below (HVW.out.trans (kz.mono HVW.out.size)) HZB.out (lt_of_block HZB.out))
                  have HTS := hid (HTZ.out.below HVW.out)
                  have y5 := ikc HVW.out z5
                  have yq := ikc HVW.out gq
                  have HNE : Hid (g2 ≠ nb) := hid (by have := HG2.out; have := HB2.out.size; have := lt_of_block HZB.out; omega)
                  have HK4 : Hid (Below V.heap.size V V.drew) := hid (Below.refl _ _).drew
                  have HKz := hid (fun (Y : World) (kz : Below V.heap.size V Y) => show Y.cell? ⟨g2, 0, none⟩ = some (.bool h1) ∧ Y.cell? ⟨g2, 1, none⟩ = some (.slice h2 h3 h4) ∧ Y.cell? ⟨g2, 2, none⟩ = some (.bool h5) ∧ Y.cell? ⟨g2, 3, none⟩ = some (.slice h6 h7 h8) ∧ Y.cell? ⟨w.heap.size, 5, none⟩ = some (.slice (some ⟨qb, qo, none⟩) Q.length bqc) ∧ Y.cell? ⟨qb, qo + k, none⟩ = some (.int .i64 qk) from by
                    obtain ⟨u0, u1, u2, u3⟩ := four_cell (box_below kz HBE.out (lt_of_block HBE.out))
                    exact ⟨u0, u1, u2, u3, ikc kz y5, ikc kz yq⟩)
                  have HKs := hid (fun (Y : World) (kz : Below V.heap.size V Y) => show ∀ (x0 x1 x2 x3 : Value), (fun (Y : World) => Y.cell? ⟨g2, 0, none⟩ = some (.bool h1) ∧ Y.cell? ⟨g2, 1, none⟩ = some (.slice h2 h3 h4) ∧ Y.cell? ⟨g2, 2, none⟩ = some (.bool h5) ∧ Y.cell? ⟨g2, 3, none⟩ = some (.slice h6 h7 h8) ∧ Y.cell? ⟨w.heap.size, 5, none⟩ = some (.slice (some ⟨qb, qo, none⟩) Q.length bqc) ∧ Y.cell? ⟨qb, qo + k, none⟩ = some (.int .i64 qk)) ((((Y.setCell ⟨nb, 0, none⟩ x0).setCell ⟨nb, 1, none⟩ x1).setCell ⟨nb, 2, none⟩ x2).setCell ⟨nb, 3, none⟩ x3) from fun x0 x1 x2 x3 => by
                    obtain ⟨u0, u1, u2, u3⟩ := four_cell ((set4_heap HNE.out x0 x1 x2 x3).trans (box_below kz HBE.out (lt_of_block HBE.out)))
                    exact ⟨u0, u1, u2, u3, set4_at5 HN0.out (ikc kz y5) x0 x1 x2 x3, set4_at5 HNQ.out (ikc kz yq) x0 x1 x2 x3⟩)
                  obtain ⟨j0, j1, j2, j3⟩ := four_cell (HZN.out _ HK4.out)
                  refine wp_region_noPanic ?_
                  refine wp_region_held_drew (S := fun Y => Y.cell? ⟨g2, 0, none⟩ = some (.bool h1) ∧ Y.cell? ⟨g2, 1, none⟩ = some (.slice h2 h3 h4) ∧ Y.cell? ⟨g2, 2, none⟩ = some (.bool h5) ∧ Y.cell? ⟨g2, 3, none⟩ = some (.slice h6 h7 h8) ∧ Y.cell? ⟨w.heap.size, 5, none⟩ = some (.slice (some ⟨qb, qo, none⟩) Q.length bqc) ∧ Y.cell? ⟨qb, qo + k, none⟩ = some (.int .i64 qk)) (by kernel_rfl) (HKz.out _ HK4.out) (fun hHeld => ?_)
                  refine wpAnyH_take (i := 1) (v := ?_) rfl (by kernel_rfl) (by kernel_rfl) (by kernel_rfl) (fun _ _ _ h => h) (Or.inl ⟨by rfl, ?_⟩) (by assumption) ?_
                  rotate_left
                  · intro w hSw
                    (try dsimp only at hSw)
                    go_simp
                    (try with_reducible rfl)
                  (try simp only [List.getElem_toArray, List.getElem_cons_zero, List.getElem_cons_succ, Act.put, List.setIfInBounds_toArray, List.set_cons_zero, List.set_cons_succ])
                  refine wpAnyH_take (i := 2) (v := ?_) rfl (by kernel_rfl) (by kernel_rfl) (by kernel_rfl) (fun _ _ _ h => h) (Or.inl ⟨by rfl, ?_⟩) (by assumption) ?_
                  rotate_left
                  · intro w hSw
                    (try dsimp only at hSw)
                    go_simp
                    (try with_reducible rfl)
                  (try simp only [List.getElem_toArray, List.getElem_cons_zero, List.getElem_cons_succ, Act.put, List.setIfInBounds_toArray, List.set_cons_zero, List.set_cons_succ])
                  refine wpAnyH_take (i := 3) (v := ?_) rfl (by kernel_rfl) (by kernel_rfl) (by kernel_rfl) (fun _ _ _ h => h) (Or.inl ⟨by rfl, ?_⟩) (by assumption) ?_
                  rotate_left
                  · intro w hSw
                    (try dsimp only at hSw)
                    go_simp
                    (try with_reducible rfl)
                  (try simp only [List.getElem_toArray, List.getElem_cons_zero, List.getElem_cons_succ, Act.put, List.setIfInBounds_toArray, List.set_cons_zero, List.set_cons_succ])
                  refine wpAnyH_take (i := 4) (v := ?_) rfl (by kernel_rfl) (by kernel_rfl) (by kernel_rfl) (fun _ _ _ h => h) (Or.inl ⟨by rfl, ?_⟩) (by assumption) ?_
                  rotate_left
                  · intro w hSw
                    (try dsimp only at hSw)
                    go_simp
                    (try with_reducible rfl)
                  (try simp only [List.getElem_toArray, List.getElem_cons_zero, List.getElem_cons_succ, Act.put, List.setIfInBounds_toArray, List.set_cons_zero, List.set_cons_succ])
                  refine wpAnyH_take (i := 5) (v := ?_) rfl (by kernel_rfl) (by kernel_rfl) (by kernel_rfl) (fun _ _ _ h => h) (Or.inl ⟨by rfl, ?_⟩) (by assumption) ?_
                  rotate_left
                  · intro w hSw
                    (try dsimp only at hSw)
                    go_simp
                    (try with_reducible rfl)
                  (try simp only [List.getElem_toArray, List.getElem_cons_zero, List.getElem_cons_succ, Act.put, List.setIfInBounds_toArray, List.set_cons_zero, List.set_cons_succ])
                  refine wpAnyH_take (i := 6) (v := ?_) rfl (by kernel_rfl) (by kernel_rfl) (by kernel_rfl) (fun _ _ _ h => h) (Or.inl ⟨by rfl, ?_⟩) (by assumption) ?_
                  rotate_left
                  · intro w hSw
                    (try dsimp only at hSw)
                    go_simp
                    (try with_reducible rfl)
                  (try simp only [List.getElem_toArray, List.getElem_cons_zero, List.getElem_cons_succ, Act.put, List.setIfInBounds_toArray, List.set_cons_zero, List.set_cons_succ])
                  refine wpAnyH_ready (rs := [0, 7]) (by kernel_rfl) (by simp) ?_
                  refine AllReadyH.cons (o := _) rfl (fun Kc hKc => ?_) (AllReadyH.cons (o := _) rfl (fun Kc hKc => ?_) (AllReadyH.nil))
                  · go_simp
                    refine hKc.out _ _ (HKz.out _ HK4.out) (fun hHeld => ?_)
                    clear hKc Kc
                    (try simp only [List.getElem_toArray, List.getElem_cons_zero, List.getElem_cons_succ, Act.put, List.setIfInBounds_toArray, List.set_cons_zero, List.set_cons_succ])
                    refine wpAnyH_ready (rs := [7]) (by kernel_rfl) (by simp) ?_
                    refine AllReadyH.cons (o := _) rfl (fun Kc hKc => ?_) AllReadyH.nil
                    go_simp
                    (go_at_call 8; refine (t_of _ qk hqk.1 hqk.2).mono ?_; rintro e Y1 ⟨v1, rfl, n1, bb⟩; have F1 : Below V.heap.size V Y1 := (by first | exact bb | exact ⟨bb.os, bb.tape, bb.output, bb.size, bb.block⟩); have n1 := n1.mono (show 3 ≤ 215 by omega); obtain ⟨j0, j1, j2, j3⟩ := four_cell (HZN.out _ F1))
                    dsimp only
                    refine hKc.out _ _ (HKz.out _ F1) (fun hHeld => ?_)
                    clear hKc Kc
                    (try simp only [List.getElem_toArray, List.getElem_cons_zero, List.getElem_cons_succ, Act.put, List.setIfInBounds_toArray, List.set_cons_zero, List.set_cons_succ])
                    refine wpAnyH_ready (rs := [8]) (by kernel_rfl) (by simp) ?_
                    refine AllReadyH.cons (o := _) rfl (fun Kc hKc => ?_) AllReadyH.nil
                    go_simp
                    (have gk := F1; go_at_call 9; refine (t_mul _ _ _ _ _ 215 (by omega) (HTE.out.below F1) n1).mono ?_; rintro e Y2 ⟨v2, rfl, n2, bb2⟩; have F2 := F1.trans (bb2.mono F1.size); have n2 := (n2.fit HLT.out).mono (show 700 / 9 + 1 ≤ 20000 by omega); obtain ⟨j4, j5, j6, j7⟩ := four_cell (HZN.out _ F2))
                    dsimp only
                    refine hKc.out _ _ (HKz.out _ F2) (fun hHeld => ?_)
                    clear hKc Kc
                    (try simp only [List.getElem_toArray, List.getElem_cons_zero, List.getElem_cons_succ, Act.put, List.setIfInBounds_toArray, List.set_cons_zero, List.set_cons_succ])
                    refine wpAnyH_ready (rs := [9]) (by kernel_rfl) (by simp) ?_
                    refine AllReadyH.cons (o := _) rfl (fun Kc hKc => ?_) AllReadyH.nil
                    go_simp
                    (have gk := F2; go_at_call 68; refine (t_add _ _ _ _ _ 20000 (by omega) (HTS.out.below F2) n2).mono ?_; rintro e Y3 ⟨v3, rfl, n3, bb3⟩; have F3 := F2.trans (bb3.mono F2.size); have n4 := HSU.out _ _ _ n3; obtain ⟨m1, m2, m3, m4, m5, m6, m7, m8, rfl⟩ := n4.form; have zr := HZN.out _ F3; obtain ⟨i0, i1, i2, i3⟩ := four_cell zr; have fr := free_four zr; have HS5 := hid (HKz.out _ (F3)))
                    dsimp only
                    refine hKc.out _ _ (HKz.out _ F3) (fun hHeld => ?_)
                    clear hKc Kc
                    (try simp only [List.getElem_toArray, List.getElem_cons_zero, List.getElem_cons_succ, Act.put, List.setIfInBounds_toArray, List.set_cons_zero, List.set_cons_succ])
                    refine wpAnyH_ready (rs := [10]) (by kernel_rfl) (by simp) ?_
                    refine AllReadyH.cons (o := _) rfl (fun Kc hKc => ?_) AllReadyH.nil
                    go_simp
                    refine hKc.out _ _ (HKs.out _ F3 _ _ _ _) (fun hHeld => ?_)
                    clear hKc Kc
                    (try simp only [List.getElem_toArray, List.getElem_cons_zero, List.getElem_cons_succ, Act.put, List.setIfInBounds_toArray, List.set_cons_zero, List.set_cons_succ])
                    refine wpAnyH_done (by kernel_rfl) ?_ _
                    refine NoPanic.normal ?_
                    have HZ5 := hid (set4g zr (.bool m1) (.slice m2 m3 m4) (.bool m5) (.slice m6 m7 m8))
                    have HT5 := hid (TIs.kty n4 (set4_kty (o := 0) (t1 := 35) (t2 := 35) zr (Or.inl rfl) (.bool m1) (.slice m2 m3 m4) (.bool m5) (.slice m6 m7 m8)) (by decide) (by decide))
                    have HB5 := hid (set4_below (o := 0) (HBV.out.trans (F3.mono HBV.out.size)) HNB.out (.bool m1) (.slice m2 m3 m4) (.bool m5) (.slice m6 m7 m8))
                    clear zr i0 i1 i2 i3 fr n1 n2 n3 n4 F1 F2 F3 bb bb2 bb3
                    simp only [Nat.zero_add] at HT5 HB5
                    go_wp2_with fail
                    go_roundw
                    case rel => exact ⟨k + 1, X ++ [q], m1, m2, m3, m4, m5, m6, m7, m8, by omega, by go_num, HNX, HZ5, HT5, HB5⟩
                    case measure => simp [intOf]; omega
                  · go_simp
                    (go_at_call 8; refine (t_of _ qk hqk.1 hqk.2).mono ?_; rintro e Y1 ⟨v1, rfl, n1, bb⟩; have F1 : Below V.heap.size V Y1 := (by first | exact bb | exact ⟨bb.os, bb.tape, bb.output, bb.size, bb.block⟩); have n1 := n1.mono (show 3 ≤ 215 by omega); obtain ⟨j0, j1, j2, j3⟩ := four_cell (HZN.out _ F1))
                    dsimp only
                    refine hKc.out _ _ (HKz.out _ F1) (fun hHeld => ?_)
                    clear hKc Kc
                    (try simp only [List.getElem_toArray, List.getElem_cons_zero, List.getElem_cons_succ, Act.put, List.setIfInBounds_toArray, List.set_cons_zero, List.set_cons_succ])
                    refine wpAnyH_ready (rs := [0, 8]) (by kernel_rfl) (by simp) ?_
                    refine AllReadyH.cons (o := _) rfl (fun Kc hKc => ?_) (AllReadyH.cons (o := _) rfl (fun Kc hKc => ?_) (AllReadyH.nil))
                    · go_simp
                      refine hKc.out _ _ (HKz.out _ F1) (fun hHeld => ?_)
                      clear hKc Kc
                      (try simp only [List.getElem_toArray, List.getElem_cons_zero, List.getElem_cons_succ, Act.put, List.setIfInBounds_toArray, List.set_cons_zero, List.set_cons_succ])
                      refine wpAnyH_ready (rs := [8]) (by kernel_rfl) (by simp) ?_
                      refine AllReadyH.cons (o := _) rfl (fun Kc hKc => ?_) AllReadyH.nil
                      go_simp
                      (have gk := F1; go_at_call 9; refine (t_mul _ _ _ _ _ 215 (by omega) (HTE.out.below F1) n1).mono ?_; rintro e Y2 ⟨v2, rfl, n2, bb2⟩; have F2 := F1.trans (bb2.mono F1.size); have n2 := (n2.fit HLT.out).mono (show 700 / 9 + 1 ≤ 20000 by omega); obtain ⟨j4, j5, j6, j7⟩ := four_cell (HZN.out _ F2))
                      dsimp only
                      refine hKc.out _ _ (HKz.out _ F2) (fun hHeld => ?_)
                      clear hKc Kc
                      (try simp only [List.getElem_toArray, List.getElem_cons_zero, List.getElem_cons_succ, Act.put, List.setIfInBounds_toArray, List.set_cons_zero, List.set_cons_succ])
                      refine wpAnyH_ready (rs := [9]) (by kernel_rfl) (by simp) ?_
                      refine AllReadyH.cons (o := _) rfl (fun Kc hKc => ?_) AllReadyH.nil
                      go_simp
                      (have gk := F2; go_at_call 68; refine (t_add _ _ _ _ _ 20000 (by omega) (HTS.out.below F2) n2).mono ?_; rintro e Y3 ⟨v3, rfl, n3, bb3⟩; have F3 := F2.trans (bb3.mono F2.size); have n4 := HSU.out _ _ _ n3; obtain ⟨m1, m2, m3, m4, m5, m6, m7, m8, rfl⟩ := n4.form; have zr := HZN.out _ F3; obtain ⟨i0, i1, i2, i3⟩ := four_cell zr; have fr := free_four zr; have HS5 := hid (HKz.out _ (F3)))
                      dsimp only
                      refine hKc.out _ _ (HKz.out _ F3) (fun hHeld => ?_)
                      clear hKc Kc
                      (try simp only [List.getElem_toArray, List.getElem_cons_zero, List.getElem_cons_succ, Act.put, List.setIfInBounds_toArray, List.set_cons_zero, List.set_cons_succ])
                      refine wpAnyH_ready (rs := [10]) (by kernel_rfl) (by simp) ?_
                      refine AllReadyH.cons (o := _) rfl (fun Kc hKc => ?_) AllReadyH.nil
                      go_simp
                      refine hKc.out _ _ (HKs.out _ F3 _ _ _ _) (fun hHeld => ?_)
                      clear hKc Kc
                      (try simp only [List.getElem_toArray, List.getElem_cons_zero, List.getElem_cons_succ, Act.put, List.setIfInBounds_toArray, List.set_cons_zero, List.set_cons_succ])
                      refine wpAnyH_done (by kernel_rfl) ?_ _
                      refine NoPanic.normal ?_
                      have HZ5 := hid (set4g zr (.bool m1) (.slice m2 m3 m4) (.bool m5) (.slice m6 m7 m8))
                      have HT5 := hid (TIs.kty n4 (set4_kty (o := 0) (t1 := 35) (t2 := 35) zr (Or.inl rfl) (.bool m1) (.slice m2 m3 m4) (.bool m5) (.slice m6 m7 m8)) (by decide) (by decide))
                      have HB5 := hid (set4_below (o := 0) (HBV.out.trans (F3.mono HBV.out.size)) HNB.out (.bool m1) (.slice m2 m3 m4) (.bool m5) (.slice m6 m7 m8))
                      clear zr i0 i1 i2 i3 fr n1 n2 n3 n4 F1 F2 F3 bb bb2 bb3
                      simp only [Nat.zero_add] at HT5 HB5
                      go_wp2_with fail
                      go_roundw
                      case rel => exact ⟨k + 1, X ++ [q], m1, m2, m3, m4, m5, m6, m7, m8, by omega, by go_num, HNX, HZ5, HT5, HB5⟩
                      case measure => simp [intOf]; omega
                    · go_simp
                      (have gk := F1; go_at_call 9; refine (t_mul _ _ _ _ _ 215 (by omega) (HTE.out.below F1) n1).mono ?_; rintro e Y2 ⟨v2, rfl, n2, bb2⟩; have F2 := F1.trans (bb2.mono F1.size); have n2 := (n2.fit HLT.out).mono (show 700 / 9 + 1 ≤ 20000 by omega); obtain ⟨j4, j5, j6, j7⟩ := four_cell (HZN.out _ F2))
                      dsimp only
                      refine hKc.out _ _ (HKz.out _ F2) (fun hHeld => ?_)
                      clear hKc Kc
                      (try simp only [List.getElem_toArray, List.getElem_cons_zero, List.getElem_cons_succ, Act.put, List.setIfInBounds_toArray, List.set_cons_zero, List.set_cons_succ])
                      refine wpAnyH_ready (rs := [0]) (by kernel_rfl) (by simp) ?_
                      refine AllReadyH.cons (o := _) rfl (fun Kc hKc => ?_) AllReadyH.nil
                      go_simp
                      refine hKc.out _ _ (HKz.out _ F2) (fun hHeld => ?_)
                      clear hKc Kc
                      (try simp only [List.getElem_toArray, List.getElem_cons_zero, List.getElem_cons_succ, Act.put, List.setIfInBounds_toArray, List.set_cons_zero, List.set_cons_succ])
                      refine wpAnyH_ready (rs := [9]) (by kernel_rfl) (by simp) ?_
                      refine AllReadyH.cons (o := _) rfl (fun Kc hKc => ?_) AllReadyH.nil
                      go_simp
                      (have gk := F2; go_at_call 68; refine (t_add _ _ _ _ _ 20000 (by omega) (HTS.out.below F2) n2).mono ?_; rintro e Y3 ⟨v3, rfl, n3, bb3⟩; have F3 := F2.trans (bb3.mono F2.size); have n4 := HSU.out _ _ _ n3; obtain ⟨m1, m2, m3, m4, m5, m6, m7, m8, rfl⟩ := n4.form; have zr := HZN.out _ F3; obtain ⟨i0, i1, i2, i3⟩ := four_cell zr; have fr := free_four zr; have HS5 := hid (HKz.out _ (F3)))
                      dsimp only
                      refine hKc.out _ _ (HKz.out _ F3) (fun hHeld => ?_)
                      clear hKc Kc
                      (try simp only [List.getElem_toArray, List.getElem_cons_zero, List.getElem_cons_succ, Act.put, List.setIfInBounds_toArray, List.set_cons_zero, List.set_cons_succ])
                      refine wpAnyH_ready (rs := [10]) (by kernel_rfl) (by simp) ?_
                      refine AllReadyH.cons (o := _) rfl (fun Kc hKc => ?_) AllReadyH.nil
                      go_simp
                      refine hKc.out _ _ (HKs.out _ F3 _ _ _ _) (fun hHeld => ?_)
                      clear hKc Kc
                      (try simp only [List.getElem_toArray, List.getElem_cons_zero, List.getElem_cons_succ, Act.put, List.setIfInBounds_toArray, List.set_cons_zero, List.set_cons_succ])
                      refine wpAnyH_done (by kernel_rfl) ?_ _
                      refine NoPanic.normal ?_
                      have HZ5 := hid (set4g zr (.bool m1) (.slice m2 m3 m4) (.bool m5) (.slice m6 m7 m8))
                      have HT5 := hid (TIs.kty n4 (set4_kty (o := 0) (t1 := 35) (t2 := 35) zr (Or.inl rfl) (.bool m1) (.slice m2 m3 m4) (.bool m5) (.slice m6 m7 m8)) (by decide) (by decide))
                      have HB5 := hid (set4_below (o := 0) (HBV.out.trans (F3.mono HBV.out.size)) HNB.out (.bool m1) (.slice m2 m3 m4) (.bool m5) (.slice m6 m7 m8))
                      clear zr i0 i1 i2 i3 fr n1 n2 n3 n4 F1 F2 F3 bb bb2 bb3
                      simp only [Nat.zero_add] at HT5 HB5
                      go_wp2_with fail
                      go_roundw
                      case rel => exact ⟨k + 1, X ++ [q], m1, m2, m3, m4, m5, m6, m7, m8, by omega, by go_num, HNX, HZ5, HT5, HB5⟩
                      case measure => simp [intOf]; omega


            · subst hen
              have HS := hid (HNO.out hnc)
              have HBF := hid (HWB.out.trans (HB2.out.mono HWB.out.size))
              clear HPU HNO HCL HPA HKF HKx HPRE HSM
              go_wp2_with fail
              go_ret2
              exact ⟨⟨_, _, rfl, HS.out⟩, HBF.out⟩

        · obtain rfl : k = P.length := by omega
          have HNX : Hid (Nums (col P bzone) X) := hid (by have := HN.out; rwa [show P.length = (col P bzone).length by rw [col_len], List.take_length] at this)
          have HTF : Hid (TIs wr (.agg #[.bool s1, .slice s2 s3 s4, .bool s5, .slice s6 s7 s8]) (smR (gns bbuy bprice X Q)) 20000) := hid (by have := HTZ.out; rwa [← HQP.out, List.take_length] at this)
          obtain ⟨u0, u1, u2, u3⟩ := four_cell HZB.out
          have HBF := hid BWX
          clear HTZ HN BWX BIX HXL HCE
          go_wp2_with fail
          refine (t_text wr _ _ 20000 (by omega) HTF.out).mono ?_
          rintro e Y4 ⟨⟨s, rfl, hs⟩, b4⟩
          have HS : Hid (SurS bbuy bprice bzone Q P s 0) := hid (Or.inr (Or.inr ⟨HSH.out, X, HNX.out, hs, rfl⟩))
          have HB4 := hid (HBF.out.trans (b4.mono HBF.out.size))
          clear hs b4
          go_wp2_with fail
          go_ret2
          exact ⟨⟨_, _, rfl, HS.out⟩, HB4.out⟩
end Go.Proofs.YtbmdoncdgopoaaaGreatDoor
